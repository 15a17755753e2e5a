/- What is latched stays till it is reset behind its cause; what isn't goes with its cause. No conditions. -/
import Derived.Test.YthffllafppdgeaaRows
import Derived.Test.YthffllafppdgeaaArgs
import Derived.Test.YthffllafppdgeaaLifeK
import Derived.ProofKit
import Derived.OpenShut
import Derived.Deep.DeepCutAuto
import Derived.Deep.CutBlock
import Derived.Deep.RegionWith
namespace Go.Proofs.Ythffllafppdgeaa.lifeLatches
open Go.ChangeShapes Go.WideShapes Go.ChangeAt Go.RowKit
open Go.ChangeMaps (open_string shut_string)
set_option linter.unusedVariables false

set_option maxHeartbeats 8000000 in
set_option maxRecDepth 100000 in
theorem walk (w : World) (a : Int) (wa : (Lit.int .u16 a).wf = true) (b : Int) (wb : (Lit.int .u16 b).wf = true) (ack : Bool) :
    Calls Try.prog 5 #[.int .u16 a, .int .u16 b, .bool ack] w fun e w' => e = .returned (.bool true) ∧ Below w.heap.size w w' := by
  obtain ⟨a0, a1⟩ := bounds_u16 wa
  obtain ⟨b0, b1⟩ := bounds_u16 wb
  clear wa wb
  have HE : Hid (∀ w, Calls Try.prog 9 #[.agg #[.bool false, .bool false, .bool false, .int .i64 0, .int .i64 0], .int .i64 a, .bool true, .bool true] w fun e w' => e = .returned (.agg #[.bool true, .bool true, .bool false, .int .i64 a, .int .i64 0]) ∧ Keeps No w w') := hid (fun w => levent_any false false false 0 0 a true true w)
  have HE2 : Hid (∀ w, Calls Try.prog 9 #[.agg #[.bool false, .bool false, .bool false, .int .i64 0, .int .i64 0], .int .i64 a, .bool true, .bool false] w fun e w' => e = .returned (.agg #[.bool true, .bool true, .bool false, .int .i64 a, .int .i64 0]) ∧ Keeps No w w') := hid (fun w => levent_any false false false 0 0 a true false w)
  have HA : Hid (∀ w, Calls Try.prog 11 #[.agg #[.bool true, .bool true, .bool false, .int .i64 a, .int .i64 0]] w fun e w' => e = .returned (.agg #[.bool true, .bool true, .bool true, .int .i64 a, .int .i64 0]) ∧ Keeps No w w') := hid (fun w => lack_any true true false a 0 w)
  go_enter Try.func5, Try.ntmps5
  go_wp2_with fail
  refine (resets_true _).mono ?_
  rintro e w1 ⟨rfl, k⟩
  have K1 := hid k
  clear k
  go_wp2_with fail
  refine (HE.out _).mono ?_
  rintro e w2 ⟨rfl, k⟩
  have K2 := hid (K1.out.trans k)
  clear k
  go_wp2_with fail
  refine (HE2.out _).mono ?_
  rintro e w3 ⟨rfl, k⟩
  obtain ⟨xb, hxb⟩ : ∃ b, w2.heap.size = b := ⟨_, rfl⟩
  have hB := (Bk.new hxb [.bool true, .bool true, .bool false, .int .i64 a, .int .i64 0] 25).kept k
  have K3 := hid ((K2.out.alloc _).trans k)
  rw [hxb]
  have HGB := hid (show w.heap.size ≤ xb by have := K2.out.size; omega)
  clear k
  go_upto_if 21 with fail
  obtain ⟨yb, hyb⟩ : ∃ b, w3.heap.size = b := ⟨_, rfl⟩
  obtain ⟨W, hW⟩ : ∃ W, w3.alloc (.cells #[.bool true, .bool true, .bool false, .int .i64 a, .int .i64 0] 25) = W := ⟨_, rfl⟩
  have HB : Hid (Bk W xb 25 [.bool true, .bool true, .bool false, .int .i64 a, .int .i64 0]) := hid (by rw [← hW]; exact hB.alloc _)
  have HC : Hid (Bk W yb 25 [.bool true, .bool true, .bool false, .int .i64 a, .int .i64 0]) := hid (by rw [← hW]; exact Bk.new hyb _ _)
  have HK : Hid (Keeps No w W) := hid (by rw [← hW]; exact K3.out.alloc _)
  have hlt : xb < yb := by have := hB.lt; omega
  rw [hyb, hW]
  clear hW hB hxb hyb K3
  have hab : ¬ xb = yb := by omega
  have hab' : ¬ yb = xb := by omega
  go_cut [] from 21 to 25 (fun wx => Hid (Bk wx xb 25 [.bool true, .bool true, .bool ack, .int .i64 a, .int .i64 0]) ∧ Hid (Bk wx yb 25 [.bool true, .bool true, .bool ack, .int .i64 a, .int .i64 0]) ∧ Hid (Keeps No w wx))
  case first =>
    cases ack
    · go_wp2_with fail
      go_meet
      exact ⟨HB, HC, HK⟩
    · go_upto_region 6 with fail
      have cA0 := HB.out.cell 0 rfl
      have cA1 := HB.out.cell 1 rfl
      have cA2 := HB.out.cell 2 rfl
      have cA3 := HB.out.cell 3 rfl
      have cA4 := HB.out.cell 4 rfl
      have cB0 := HC.out.cell 0 rfl
      have cB1 := HC.out.cell 1 rfl
      have cB2 := HC.out.cell 2 rfl
      have cB3 := HC.out.cell 3 rfl
      have cB4 := HC.out.cell 4 rfl
      have bA := HB.out
      have bB := HC.out
      go_cut [] from 22 to 25 (fun wx => Hid (Bk wx xb 25 [.bool true, .bool true, .bool true, .int .i64 a, .int .i64 0]) ∧ Hid (Bk wx yb 25 [.bool true, .bool true, .bool true, .int .i64 a, .int .i64 0]) ∧ Hid (Keeps (fun i => i = xb ∨ i = yb) W wx))
      case first =>
        first | go_region_with (first | (go_at_call 11; (with_reducible refine (HA.out _).mono ?_); rintro e w9 ⟨rfl, k⟩; (have bX : Bk w9 xb 25 [.bool true, .bool true, .bool false, .int .i64 a, .int .i64 0] := Bk.kept (by (repeat' (first | with_reducible assumption | with_reducible refine Bk.drew ?_ | with_reducible refine Bk.other5 hab ?_ | with_reducible refine Bk.put5 (u0 := .bool true) (u1 := .bool true) (u2 := .bool false) (u3 := .int .i64 a) (u4 := .int .i64 0) ?_))) k); (first | (have bY : Bk w9 yb 25 [.bool true, .bool true, .bool false, .int .i64 a, .int .i64 0] := Bk.kept (by first | ((repeat' (first | with_reducible assumption | with_reducible refine Bk.drew ?_ | with_reducible refine Bk.other5 hab' ?_ | with_reducible refine Bk.put5 (u0 := .bool true) (u1 := .bool true) (u2 := .bool false) (u3 := .int .i64 a) (u4 := .int .i64 0) ?_)); done) | fail) k) | (have bY : Bk w9 yb 25 [.bool true, .bool true, .bool true, .int .i64 a, .int .i64 0] := Bk.kept (by first | ((repeat' (first | with_reducible assumption | with_reducible refine Bk.drew ?_ | with_reducible refine Bk.other5 hab' ?_ | with_reducible refine Bk.put5 (u0 := .bool true) (u1 := .bool true) (u2 := .bool false) (u3 := .int .i64 a) (u4 := .int .i64 0) ?_)); done) | fail) k)); (have kk : Keeps (fun i => i = xb ∨ i = yb) W w9 := Keeps.trans (by repeat' (first | with_reducible exact Keeps.refl _ _ | with_reducible assumption | with_reducible refine Keeps.drewN ?_ _ | with_reducible refine Keeps.drew ?_ | with_reducible refine Keeps.setCell ?_ ?_ _ | exact Or.inr (Or.inl rfl) | exact Or.inr (Or.inr rfl))) k.no); have cX0 := bX.cell 0 rfl; have fX0 := bX.free 0; have cX1 := bX.cell 1 rfl; have fX1 := bX.free 1; have cX2 := bX.cell 2 rfl; have fX2 := bX.free 2; have cX3 := bX.cell 3 rfl; have fX3 := bX.free 3; have cX4 := bX.cell 4 rfl; have fX4 := bX.free 4; have cY0 := bY.cell 0 rfl; have fY0 := bY.free 0; have cY1 := bY.cell 1 rfl; have fY1 := bY.free 1; have cY2 := bY.cell 2 rfl; have fY2 := bY.free 2; have cY3 := bY.cell 3 rfl; have fY3 := bY.free 3; have cY4 := bY.cell 4 rfl; have fY4 := bY.free 4; clear k) | (go_at_call 11; (with_reducible refine (HA.out _).mono ?_); rintro e w9 ⟨rfl, k⟩; (have bX : Bk w9 yb 25 [.bool true, .bool true, .bool false, .int .i64 a, .int .i64 0] := Bk.kept (by (repeat' (first | with_reducible assumption | with_reducible refine Bk.drew ?_ | with_reducible refine Bk.other5 hab' ?_ | with_reducible refine Bk.put5 (u0 := .bool true) (u1 := .bool true) (u2 := .bool false) (u3 := .int .i64 a) (u4 := .int .i64 0) ?_))) k); (first | (have bY : Bk w9 xb 25 [.bool true, .bool true, .bool false, .int .i64 a, .int .i64 0] := Bk.kept (by first | ((repeat' (first | with_reducible assumption | with_reducible refine Bk.drew ?_ | with_reducible refine Bk.other5 hab ?_ | with_reducible refine Bk.put5 (u0 := .bool true) (u1 := .bool true) (u2 := .bool false) (u3 := .int .i64 a) (u4 := .int .i64 0) ?_)); done) | fail) k) | (have bY : Bk w9 xb 25 [.bool true, .bool true, .bool true, .int .i64 a, .int .i64 0] := Bk.kept (by first | ((repeat' (first | with_reducible assumption | with_reducible refine Bk.drew ?_ | with_reducible refine Bk.other5 hab ?_ | with_reducible refine Bk.put5 (u0 := .bool true) (u1 := .bool true) (u2 := .bool false) (u3 := .int .i64 a) (u4 := .int .i64 0) ?_)); done) | fail) k)); (have kk : Keeps (fun i => i = xb ∨ i = yb) W w9 := Keeps.trans (by repeat' (first | with_reducible exact Keeps.refl _ _ | with_reducible assumption | with_reducible refine Keeps.drewN ?_ _ | with_reducible refine Keeps.drew ?_ | with_reducible refine Keeps.setCell ?_ ?_ _ | exact Or.inr (Or.inl rfl) | exact Or.inr (Or.inr rfl))) k.no); have cX0 := bX.cell 0 rfl; have fX0 := bX.free 0; have cX1 := bX.cell 1 rfl; have fX1 := bX.free 1; have cX2 := bX.cell 2 rfl; have fX2 := bX.free 2; have cX3 := bX.cell 3 rfl; have fX3 := bX.free 3; have cX4 := bX.cell 4 rfl; have fX4 := bX.free 4; have cY0 := bY.cell 0 rfl; have fY0 := bY.free 0; have cY1 := bY.cell 1 rfl; have fY1 := bY.free 1; have cY2 := bY.cell 2 rfl; have fY2 := bY.free 2; have cY3 := bY.cell 3 rfl; have fY3 := bY.free 3; have cY4 := bY.cell 4 rfl; have fY4 := bY.free 4; clear k)) | fail
        all_goals
          go_wp2_with fail
          go_meet
          refine ⟨hid ?_, hid ?_, hid ?_⟩
          · (repeat' (first | with_reducible assumption | with_reducible refine Bk.drew ?_ | with_reducible refine Bk.other5 hab ?_ | with_reducible refine Bk.put5 (u0 := .bool true) (u1 := .bool true) (u2 := .bool false) (u3 := .int .i64 a) (u4 := .int .i64 0) ?_))
          · (repeat' (first | with_reducible assumption | with_reducible refine Bk.drew ?_ | with_reducible refine Bk.other5 hab' ?_ | with_reducible refine Bk.put5 (u0 := .bool true) (u1 := .bool true) (u2 := .bool false) (u3 := .int .i64 a) (u4 := .int .i64 0) ?_))
          · repeat' (first | with_reducible exact Keeps.refl _ _ | with_reducible assumption | with_reducible refine Keeps.drewN ?_ _ | with_reducible refine Keeps.drew ?_ | with_reducible refine Keeps.setCell ?_ ?_ _ | exact Or.inr (Or.inl rfl) | exact Or.inr (Or.inr rfl))
      case rest =>
      obtain ⟨HA9, HB9, HK9⟩ := hcut
      go_wp2_with fail
      go_meet
      exact ⟨HA9, HB9, hid (HK.out.trans' HK9.out (fun _ _ h => h) (fun i hi e => by have := HGB.out; rcases e with e | e <;> omega))⟩
  case rest =>
  clear HB HC HK
  obtain ⟨HB, HC, HK⟩ := hcut
  obtain ⟨W2, rfl⟩ : ∃ y, y = wc := ⟨_, rfl⟩
  obtain ⟨t, ht⟩ : ∃ t : Int, a + b = t := ⟨_, rfl⟩
  have HT := hid ht
  have HX : Hid (∀ w, Calls Try.prog 9 #[.agg #[.bool true, .bool true, .bool ack, .int .i64 a, .int .i64 0], .int .i64 t, .bool false, .bool true] w fun e w' => e = .returned (.agg #[.bool false, .bool true, .bool ack, .int .i64 a, .int .i64 0]) ∧ Keeps No w w') := hid (fun w => levent_any true true ack a 0 t false true w)
  have HY : Hid (∀ w, Calls Try.prog 9 #[.agg #[.bool true, .bool true, .bool ack, .int .i64 a, .int .i64 0], .int .i64 t, .bool false, .bool false] w fun e w' => e = .returned (.agg #[.bool false, .bool false, .bool false, .int .i64 0, .int .i64 0]) ∧ Keeps No w w') := hid (fun w => levent_any true true ack a 0 t false false w)
  have HR : Hid (∀ w, Calls Try.prog 13 #[.agg #[.bool true, .bool true, .bool ack, .int .i64 a, .int .i64 0]] w fun e w' => e = .returned (.agg #[.bool true, .bool true, .bool ack, .int .i64 a, .int .i64 0]) ∧ Keeps No w w') := hid (fun w => lreset_any true true ack a 0 w)
  have HR2 : Hid (∀ w, Calls Try.prog 13 #[.agg #[.bool false, .bool true, .bool ack, .int .i64 a, .int .i64 0]] w fun e w' => e = .returned (.agg #[.bool false, .bool false, .bool false, .int .i64 0, .int .i64 0]) ∧ Keeps No w w') := hid (fun w => lreset_any false true ack a 0 w)
  have x0 := HB.out.cell 0 rfl
  have x1 := HB.out.cell 1 rfl
  have x2 := HB.out.cell 2 rfl
  have x3 := HB.out.cell 3 rfl
  have x4 := HB.out.cell 4 rfl
  go_upto_region 8 with fail
  clear ht
  go_wp2_with fail
  refine (HR.out _).mono ?_
  rintro e w5 ⟨rfl, k⟩
  obtain ⟨eb, heb⟩ : ∃ b, w5.heap.size = b := ⟨_, rfl⟩
  have hlt2 : yb < eb := by have h1 := HC.out.lt; have h2 := k.size; omega
  have hB := HB.out.kept k
  have hC := HC.out.kept k
  have hK := HK.out.trans k
  clear x0 x1 x2 x3 x4 k
  go_upto_region 9 with fail
  obtain ⟨W3, hW⟩ : ∃ W, w5.alloc (.cells #[.bool true, .bool true, .bool ack, .int .i64 a, .int .i64 0] 25) = W := ⟨_, rfl⟩
  have HB3 : Hid (Bk W3 xb 25 [.bool true, .bool true, .bool ack, .int .i64 a, .int .i64 0]) := hid (by rw [← hW]; exact hB.alloc _)
  have HC3 : Hid (Bk W3 yb 25 [.bool true, .bool true, .bool ack, .int .i64 a, .int .i64 0]) := hid (by rw [← hW]; exact hC.alloc _)
  have HE3 : Hid (Bk W3 eb 25 [.bool true, .bool true, .bool ack, .int .i64 a, .int .i64 0]) := hid (by rw [← hW]; exact Bk.new heb _ _)
  have HK3 : Hid (Keeps No w W3) := hid (by rw [← hW]; exact hK.alloc _)
  try rw [heb]
  rw [hW]
  clear hW hB hC hK heb HB HC HK
  have cA0 := HB3.out.cell 0 rfl
  have cA1 := HB3.out.cell 1 rfl
  have cA2 := HB3.out.cell 2 rfl
  have cA3 := HB3.out.cell 3 rfl
  have cA4 := HB3.out.cell 4 rfl
  have cB0 := HC3.out.cell 0 rfl
  have cB1 := HC3.out.cell 1 rfl
  have cB2 := HC3.out.cell 2 rfl
  have cB3 := HC3.out.cell 3 rfl
  have cB4 := HC3.out.cell 4 rfl
  have bA := HB3.out
  have bB := HC3.out
  go_cut [] from 33 to 38 (fun wx => Hid (Bk wx xb 25 [.bool false, .bool true, .bool ack, .int .i64 a, .int .i64 0]) ∧ Hid (Bk wx yb 25 [.bool false, .bool false, .bool false, .int .i64 0, .int .i64 0]) ∧ Hid (Keeps (fun i => i = xb ∨ i = yb) W3 wx))
  case first =>
    first | go_region_with (first | (go_at_call 9; (with_reducible refine (HX.out _).mono ?_); rintro e w9 ⟨rfl, k⟩; (have bX : Bk w9 xb 25 [.bool true, .bool true, .bool ack, .int .i64 a, .int .i64 0] := Bk.kept (by (repeat' (first | with_reducible assumption | with_reducible refine Bk.drew ?_ | with_reducible refine Bk.other5 hab ?_ | with_reducible refine Bk.put5 (u0 := .bool true) (u1 := .bool true) (u2 := .bool ack) (u3 := .int .i64 a) (u4 := .int .i64 0) ?_))) k); (first | (have bY : Bk w9 yb 25 [.bool true, .bool true, .bool ack, .int .i64 a, .int .i64 0] := Bk.kept (by first | ((repeat' (first | with_reducible assumption | with_reducible refine Bk.drew ?_ | with_reducible refine Bk.other5 hab' ?_ | with_reducible refine Bk.put5 (u0 := .bool true) (u1 := .bool true) (u2 := .bool ack) (u3 := .int .i64 a) (u4 := .int .i64 0) ?_)); done) | fail) k) | (have bY : Bk w9 yb 25 [.bool false, .bool false, .bool false, .int .i64 0, .int .i64 0] := Bk.kept (by first | ((repeat' (first | with_reducible assumption | with_reducible refine Bk.drew ?_ | with_reducible refine Bk.other5 hab' ?_ | with_reducible refine Bk.put5 (u0 := .bool true) (u1 := .bool true) (u2 := .bool ack) (u3 := .int .i64 a) (u4 := .int .i64 0) ?_)); done) | fail) k)); (have kk : Keeps (fun i => i = xb ∨ i = yb) W3 w9 := Keeps.trans (by repeat' (first | with_reducible exact Keeps.refl _ _ | with_reducible assumption | with_reducible refine Keeps.drewN ?_ _ | with_reducible refine Keeps.drew ?_ | with_reducible refine Keeps.setCell ?_ ?_ _ | exact Or.inr (Or.inl rfl) | exact Or.inr (Or.inr rfl))) k.no); have cX0 := bX.cell 0 rfl; have fX0 := bX.free 0; have cX1 := bX.cell 1 rfl; have fX1 := bX.free 1; have cX2 := bX.cell 2 rfl; have fX2 := bX.free 2; have cX3 := bX.cell 3 rfl; have fX3 := bX.free 3; have cX4 := bX.cell 4 rfl; have fX4 := bX.free 4; have cY0 := bY.cell 0 rfl; have fY0 := bY.free 0; have cY1 := bY.cell 1 rfl; have fY1 := bY.free 1; have cY2 := bY.cell 2 rfl; have fY2 := bY.free 2; have cY3 := bY.cell 3 rfl; have fY3 := bY.free 3; have cY4 := bY.cell 4 rfl; have fY4 := bY.free 4; clear k) | (go_at_call 9; (with_reducible refine (HY.out _).mono ?_); rintro e w9 ⟨rfl, k⟩; (have bX : Bk w9 yb 25 [.bool true, .bool true, .bool ack, .int .i64 a, .int .i64 0] := Bk.kept (by (repeat' (first | with_reducible assumption | with_reducible refine Bk.drew ?_ | with_reducible refine Bk.other5 hab' ?_ | with_reducible refine Bk.put5 (u0 := .bool true) (u1 := .bool true) (u2 := .bool ack) (u3 := .int .i64 a) (u4 := .int .i64 0) ?_))) k); (first | (have bY : Bk w9 xb 25 [.bool true, .bool true, .bool ack, .int .i64 a, .int .i64 0] := Bk.kept (by first | ((repeat' (first | with_reducible assumption | with_reducible refine Bk.drew ?_ | with_reducible refine Bk.other5 hab ?_ | with_reducible refine Bk.put5 (u0 := .bool true) (u1 := .bool true) (u2 := .bool ack) (u3 := .int .i64 a) (u4 := .int .i64 0) ?_)); done) | fail) k) | (have bY : Bk w9 xb 25 [.bool false, .bool true, .bool ack, .int .i64 a, .int .i64 0] := Bk.kept (by first | ((repeat' (first | with_reducible assumption | with_reducible refine Bk.drew ?_ | with_reducible refine Bk.other5 hab ?_ | with_reducible refine Bk.put5 (u0 := .bool true) (u1 := .bool true) (u2 := .bool ack) (u3 := .int .i64 a) (u4 := .int .i64 0) ?_)); done) | fail) k)); (have kk : Keeps (fun i => i = xb ∨ i = yb) W3 w9 := Keeps.trans (by repeat' (first | with_reducible exact Keeps.refl _ _ | with_reducible assumption | with_reducible refine Keeps.drewN ?_ _ | with_reducible refine Keeps.drew ?_ | with_reducible refine Keeps.setCell ?_ ?_ _ | exact Or.inr (Or.inl rfl) | exact Or.inr (Or.inr rfl))) k.no); have cX0 := bX.cell 0 rfl; have fX0 := bX.free 0; have cX1 := bX.cell 1 rfl; have fX1 := bX.free 1; have cX2 := bX.cell 2 rfl; have fX2 := bX.free 2; have cX3 := bX.cell 3 rfl; have fX3 := bX.free 3; have cX4 := bX.cell 4 rfl; have fX4 := bX.free 4; have cY0 := bY.cell 0 rfl; have fY0 := bY.free 0; have cY1 := bY.cell 1 rfl; have fY1 := bY.free 1; have cY2 := bY.cell 2 rfl; have fY2 := bY.free 2; have cY3 := bY.cell 3 rfl; have fY3 := bY.free 3; have cY4 := bY.cell 4 rfl; have fY4 := bY.free 4; clear k)) | fail
    all_goals
      go_wp2_with fail
      go_meet
      refine ⟨hid ?_, hid ?_, hid ?_⟩
      · (repeat' (first | with_reducible assumption | with_reducible refine Bk.drew ?_ | with_reducible refine Bk.other5 hab ?_ | with_reducible refine Bk.put5 (u0 := .bool true) (u1 := .bool true) (u2 := .bool ack) (u3 := .int .i64 a) (u4 := .int .i64 0) ?_))
      · (repeat' (first | with_reducible assumption | with_reducible refine Bk.drew ?_ | with_reducible refine Bk.other5 hab' ?_ | with_reducible refine Bk.put5 (u0 := .bool true) (u1 := .bool true) (u2 := .bool ack) (u3 := .int .i64 a) (u4 := .int .i64 0) ?_))
      · repeat' (first | with_reducible exact Keeps.refl _ _ | with_reducible assumption | with_reducible refine Keeps.drewN ?_ _ | with_reducible refine Keeps.drew ?_ | with_reducible refine Keeps.setCell ?_ ?_ _ | exact Or.inr (Or.inl rfl) | exact Or.inr (Or.inr rfl))
  case rest =>
  obtain ⟨HA9, HB9, HK9⟩ := hcut
  obtain ⟨W4, rfl⟩ : ∃ y, y = wc := ⟨_, rfl⟩
  have HE9 := hid (HE3.out.keep HK9.out (fun e => by rcases e with e | e <;> omega))
  have HK4 : Hid (Keeps No w W4) := hid (HK3.out.trans' HK9.out (fun _ _ h => h) (fun i hi e => by have := HGB.out; rcases e with e | e <;> omega))
  have x0 := HA9.out.cell 0 rfl
  have y0 := HB9.out.cell 0 rfl
  have e0 := HE9.out.cell 0 rfl
  have x1 := HA9.out.cell 1 rfl
  have y1 := HB9.out.cell 1 rfl
  have e1 := HE9.out.cell 1 rfl
  have x2 := HA9.out.cell 2 rfl
  have y2 := HB9.out.cell 2 rfl
  have e2 := HE9.out.cell 2 rfl
  have x3 := HA9.out.cell 3 rfl
  have y3 := HB9.out.cell 3 rfl
  have e3 := HE9.out.cell 3 rfl
  have x4 := HA9.out.cell 4 rfl
  have y4 := HB9.out.cell 4 rfl
  have e4 := HE9.out.cell 4 rfl
  have q1 : (ack == ack) = true := by simp
  go_wp2_with fail
  refine (HR2.out _).mono ?_
  rintro e w7 ⟨rfl, k⟩
  have K7 := hid (HK4.out.trans k)
  clear k
  have hfd : ∀ w : World, (Instr.field 25 (.agg #[.bool false, .bool false, .bool false, .int .i64 0, .int .i64 0]) 1).run Try.prog w = .ok (.bool false) w := fun _ => by kernel_rfl
  go_wp2_with fail
  go_ret
  exact ⟨rfl, K7.out.toBelow⟩

theorem own : ownKnob Try.prog.godebug = none := by kernel_rfl
theorem laidOut : laidOutB Try.prog = true := by kernel_rfl
set_option maxRecDepth 100000 in
theorem lifted (os : Os) (started : os.Started) (H : Type) (enc : TypeId × Value → H) :
    ReturnsInHanded {} Try.checked os 5 .any (Rows.lifeLatchesSpec.pre6 enc Try.prog Try.f5 Rows.lifeLatchesRow.domain false) (Rows.lifeLatchesSpec.post enc Try.prog Try.f5 false true false false) := by
  refine returnsInHanded_of_change (C := Try.checked) own started (by kernel_rfl) Try.func5
    (ChangeSpec.witness6 (enc := enc) (C := Try.checked) false ⟨#[], #[.int .u16 0, .int .u16 0, .bool false], []⟩ 8 (by kernel_rfl) (by kernel_rfl) (by kernel_rfl) (by kernel_rfl)) ?_
  intro W base args ds gs before hval0 hW hcnd _
  have hval : ∀ (j : Nat) t v, Try.f5.params[j]? = some t → args[j]? = some v → Value.okWide Try.prog W .any base t v := hval0
  have hW' := hW
  obtain ⟨p, q, hA0, hV, rfl, hfz, hnd⟩ := hW
  have hA : DataW.TrodAll enc Try.prog W 0 (fun _ => true) true Try.f5.params.toList args.toList ds p := hA0
  rw [Try.params5] at hA hval
  obtain ⟨v0, vs0, d0, ds0, p0, q0, hargs, rfl, rfl, h0, r0⟩ := trodAll_cons hA
  obtain ⟨v1, vs1, d1, ds1, p1, q1, rfl, rfl, rfl, h1, r1⟩ := trodAll_cons r0
  obtain ⟨v2, vs2, d2, ds2, p2, q2, rfl, rfl, rfl, h2, r2⟩ := trodAll_cons r1
  obtain ⟨rfl, rfl, rfl⟩ := trodAll_nil r2
  obtain rfl : args = #[v0, v1, v2] := by cases args; simp_all
  obtain ⟨rfl, rfl⟩ := trodVars_none hV
  have k0 := h0
  have lt0 : ∀ x ∈ p0, x.block < W.heap.size := by obtain ⟨m, hm⟩ := k0; exact DataW.trod_lt m _ _ _ hm
  have k1 := h1
  have lt1 : ∀ x ∈ p1, x.block < W.heap.size := by obtain ⟨m, hm⟩ := k1; exact DataW.trod_lt m _ _ _ hm
  have k2 := h2
  have lt2 : ∀ x ∈ p2, x.block < W.heap.size := by obtain ⟨m, hm⟩ := k2; exact DataW.trod_lt m _ _ _ hm
  obtain ⟨a0, rfl, rfl, rfl, w0⟩ := open_int Try.underlying36 (hval 0 36 v0 rfl rfl) h0
  obtain ⟨a1, rfl, rfl, rfl, w1⟩ := open_int Try.underlying36 (hval 1 36 v1 rfl rfl) h1
  obtain ⟨a2, rfl, rfl, rfl⟩ := open_bool Try.underlying4 (hval 2 4 v2 rfl rfl) h2
  clear hA0 hval0
  refine (walk W a0 w0 a1 w1 a2).mono fun e W' ⟨he, bel⟩ => ?_
  subst he
  exact ⟨_, rfl, _, _, _, [], _, [], hW', trodAll_mk1 (shut_bool Try.underlying4 _), (trodAll_cons_mk (Below.trod laidOut (by kernel_rfl) (of_decide_eq_true (by kernel_rfl)) k0 bel lt0) (trodAll_cons_mk (Below.trod laidOut (by kernel_rfl) (of_decide_eq_true (by kernel_rfl)) k1 bel lt1) (trodAll_cons_mk (Below.trod laidOut (by kernel_rfl) (of_decide_eq_true (by kernel_rfl)) k2 bel lt2) trodAll_mk0))), rfl, bel.frame _, fun h => by cases h⟩

theorem over : Rows.lifeLatchesRow.holds Try.pinned (OpenSpec.ofChange Rows.lifeLatchesSpec) :=
  OpenClaim.holds_of_wide 5 Try.f5 rfl rfl rfl rfl rfl rfl rfl ⟨rfl, rfl, rfl, rfl, rfl⟩ rfl rfl rfl rfl rfl (by kernel_rfl) Try.func5 (by kernel_rfl)
    (of_decide_eq_true (by kernel_rfl)) (by unfold Func.isWrapper; first | (rw [if_pos (by decide +kernel)]; kernel_rfl) | (rw [if_neg (by decide +kernel)]; exact ⟨rfl, rfl⟩))
    (fun os started H enc _ => lifted os started H enc)

theorem proved : Rows.LifeLatchesSaid := over
#print axioms proved
end Go.Proofs.Ythffllafppdgeaa.lifeLatches
