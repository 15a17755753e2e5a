/- Whatever happens to it: what becomes of a condition. No conditions. -/
import Derived.Test.YthffllafppdgeaaRows
import Derived.Test.YthffllafppdgeaaArgs
import Derived.Test.YthffllafppdgeaaLifeK
import Derived.ProofKit
import Derived.OpenShut
import Derived.Deep.DeepCutAuto
import Derived.Deep.CutBlock
import Derived.Deep.RegionWith
import Derived.Deep.RegionWith
import Derived.Test.YthffllafppdgeaaCellP
namespace Go.Proofs.Ythffllafppdgeaa.lifePlays
open Go.ChangeShapes Go.WideShapes Go.ChangeAt Go.RowKit
open Go.ChangeMaps (open_string shut_string)
set_option linter.unusedVariables false

theorem life_eta (x : LifeD) : ∃ o l a s t, x = ⟨o, l, a, s, t⟩ := by obtain ⟨o, l, a, s, t⟩ := x; exact ⟨o, l, a, s, t, rfl⟩

structure ActE where
  do_ : Int
  behind : Int
def encActE (x : ActE) : List Value := [.int .u8 x.do_, .int .u8 x.behind]
theorem encActE_len (x : ActE) : (encActE x).length = 2 := rfl
def goodActE (x : ActE) : Prop := (Lit.int .u8 x.do_).wf = true ∧ (Lit.int .u8 x.behind).wf = true

set_option maxRecDepth 100000 in
theorem decAct15 {H : Type} {enc : TypeId × Value → H} {W : World} {n : Nat} {cs : List Value} {x} (h : DataW.trod enc Try.prog W 0 (fun _ => true) true n 28 cs = some x) : ∃ y : ActE, cs = encActE y ∧ goodActE y := by
  obtain ⟨xs, m, _, _, hl, hlen, hf⟩ := DataW.trod_struct Try.underlying28 h
  rw [show Try.prog.cellsOf 28 = 2 by kernel_rfl] at hl
  match cs, hl, xs, hlen with
  | [c0, c1], _, [y0, y1], _ =>
    have h0 : DataW.trod enc Try.prog W 0 (fun _ => true) true m 5 (([c0, c1].drop 0).take (Try.prog.cellsOf 5)) = some y0 := hf 0 _ rfl
    have h1 : DataW.trod enc Try.prog W 0 (fun _ => true) true m 5 (([c0, c1].drop 1).take (Try.prog.cellsOf 5)) = some y1 := hf 1 _ rfl
    rw [show Try.prog.cellsOf 5 = 1 by kernel_rfl] at h0 h1
    obtain ⟨a0, e0, _, w0⟩ := DataW.trod_int Try.underlying5 h0
    obtain ⟨a1, e1, _, w1⟩ := DataW.trod_int Try.underlying5 h1
    simp at e0 e1
    exact ⟨⟨a0, a1⟩, by simp [e0, e1, encActE], w0, w1⟩

/-- What is on or acknowledged is lit. -/
def LInv (l : LifeD) : Prop := (l.on = true → l.lit = true) ∧ (l.ack = true → l.lit = true)
theorem inv_event {l : LifeD} (h : LInv l) (now : Int) (c k : Bool) : LInv (eventD l now c k) := by
  obtain ⟨a, b, d, s, t⟩ := l
  obtain ⟨h1, h2⟩ := h
  dsimp only at h1 h2
  cases c <;> cases k <;> cases a <;> simp_all [eventD, LInv]
theorem inv_ack {l : LifeD} (h : LInv l) : LInv (ackD l) := by
  obtain ⟨a, b, d, s, t⟩ := l
  obtain ⟨h1, h2⟩ := h
  dsimp only at h1 h2
  cases b <;> simp_all [ackD, LInv]
theorem inv_reset {l : LifeD} (h : LInv l) : LInv (resetD l) := by
  obtain ⟨a, b, d, s, t⟩ := l
  obtain ⟨h1, h2⟩ := h
  dsimp only at h1 h2
  cases b <;> cases a <;> simp_all [resetD, LInv]

set_option maxHeartbeats 8000000 in
set_option maxRecDepth 100000 in
theorem walk (w : World) (s0 : Option Addr) (cap : Nat) (q : List ActE) (hs : Sl w 2 (.slice s0 q.length cap) q.length (q.flatMap encActE)) (hq : ∀ x ∈ q, goodActE x) (latch : Bool) :
    Calls Try.prog 3 #[.slice s0 q.length cap, .bool latch] w fun e w' => e = .returned (.bool true) ∧ Below w.heap.size w w' := by
  obtain ⟨N, hN⟩ : ∃ N, q.length = N := ⟨_, rfl⟩
  rw [hN] at hs ⊢
  have HS := hid hs
  have HQ := hid hq
  have HN := hid hN
  clear hs hq hN
  by_cases hbig : 100 < N
  · have hd : decide ((N : Int) > 100) = true := decide_eq_true (by omega)
    go_enter Try.func3, Try.ntmps3
    go_wp2_with fail
    refine (resets_true _).mono ?_
    rintro e w1 ⟨rfl, k1⟩
    have K1 := hid k1
    clear k1
    go_wp2_with fail
    refine (resets_true _).mono ?_
    rintro e w2 ⟨rfl, k2⟩
    have K2 := hid (K1.out.trans k2)
    clear k2
    go_wp2_with fail
    go_ret
    exact ⟨rfl, K2.out.toBelow⟩
  have hd : decide ((N : Int) > 100) = false := decide_eq_false (by omega)
  go_enter Try.func3, Try.ntmps3
  go_wp2_with fail
  refine (resets_true _).mono ?_
  rintro e w1 ⟨rfl, k1⟩
  have K1 := hid k1
  clear k1 hd
  go_upto_region 5 with fail
  obtain ⟨lb, hlb⟩ : ∃ b, w1.heap.size = b := ⟨_, rfl⟩
  obtain ⟨mb, hmb⟩ : ∃ b, lb + 1 = b := ⟨_, rfl⟩
  obtain ⟨W, hW⟩ : ∃ W, (w1.alloc (.cells #[.bool false, .bool false, .bool false, .int .i64 0, .int .i64 0] 25)).alloc (.cells #[.bool false, .bool false, .bool false, .int .i64 0, .int .i64 0] 26) = W := ⟨_, rfl⟩
  have HB : Hid (Bk W lb 25 [.bool false, .bool false, .bool false, .int .i64 0, .int .i64 0]) := hid (by rw [← hW]; exact (Bk.new hlb _ _).alloc _)
  have HC : Hid (Bk W mb 26 [.bool false, .bool false, .bool false, .int .i64 0, .int .i64 0]) := hid (by rw [← hW, ← hmb]; exact Bk.new (by simp [hlb]) _ _)
  have HK : Hid (Keeps No w W) := hid (by rw [← hW]; exact (K1.out.alloc _).alloc _)
  have HGB := hid (show w.heap.size ≤ lb ∧ lb + 1 = mb from ⟨by have := K1.out.size; omega, hmb⟩)
  rw [hlb, hmb, hW]
  have hab : ¬ lb = mb := by omega
  have hab' : ¬ mb = lb := by omega
  clear hW hlb hmb K1
  go_wp2_with fail
  go_loopw [7, 8] (fun v7 v8 wr => ∃ (i : Nat) (now : Int) (on lit ack : Bool) (s st : Int), i ≤ N ∧ 1 ≤ now ∧ now ≤ 1 + 5 * i ∧ v8 = .int .i64 i ∧ v7 = .int .i64 now ∧ Hid (LInv ⟨on, lit, ack, s, st⟩) ∧ Hid (Bk wr lb 25 [.bool on, .bool lit, .bool ack, .int .i64 s, .int .i64 st]) ∧ Hid (Bk wr mb 26 [.bool on, .bool lit, .bool ack, .int .i64 s, .int .i64 st]) ∧ Hid (Keeps No w wr)) (fun _ v8 _ => N - (intOf v8).toNat)
  case atStart => exact ⟨0, 1, false, false, false, 0, 0, Nat.zero_le _, by omega, by omega, rfl, rfl, hid ⟨by simp, by simp⟩, HB, HC, HK⟩
  case round =>
    clear HB HC HK
    obtain ⟨i, now, on, lit, ack, s, st, hi, hn0, hn1, rfl, rfl, HI, HB, HC, HK⟩ := hrel
    by_cases hlt : i < N
    · have hil : i < q.length := by rw [HN.out]; exact hlt
      obtain ⟨⟨dd, bh⟩, hx⟩ : ∃ x, q[i] = x := ⟨_, rfl⟩
      have hgd := HQ.out _ (List.getElem_mem hil)
      rw [hx] at hgd
      obtain ⟨hd0, hd1⟩ := bounds_u8 (show (Lit.int .u8 dd).wf = true from hgd.1)
      obtain ⟨hb0, hb1⟩ := bounds_u8 (show (Lit.int .u8 bh).wf = true from hgd.2)
      obtain ⟨g, off, rfl, _, hc⟩ := Sl.itemC (enc := encActE) (size := 2) (fun _ => rfl) (by decide) HS.out hil hx
      have c0 := HK.out.cell (fun h => h) (hc 0 _ rfl)
      have c1 := HK.out.cell (fun h => h) (hc 1 _ rfl)
      simp only [Nat.add_zero] at c0
      obtain ⟨nw, hnw⟩ : ∃ nw : Int, now + bh % 5 = nw := ⟨_, rfl⟩
      have hnw0 : 1 ≤ nw := by omega
      have hnw1 : nw ≤ 1 + 5 * (i + 1) := by omega
      have hd4 : dd % 4 = 0 ∨ dd % 4 = 1 ∨ dd % 4 = 2 ∨ dd % 4 = 3 := by omega
      have HD4 := hid hd4
      clear hc hx hil hgd hd4
      go_upto_block 2 with fail
      clear c0 c1 hnw
      go_cut [] from 38 to 67 (fun wx => ∃ on lit ack s st, Hid (LInv ⟨on, lit, ack, s, st⟩) ∧ Hid (Bk wx lb 25 [.bool on, .bool lit, .bool ack, .int .i64 s, .int .i64 st]) ∧ Hid (Bk wx mb 26 [.bool on, .bool lit, .bool ack, .int .i64 s, .int .i64 st]) ∧ Hid (Keeps No w wx))
      case first =>
        rcases HD4.out with hd | hd | hd | hd
        · have e0 : ((dd % 4) == 0) = true := by rw [hd]; rfl
          have e1 : ((dd % 4) == 1) = false := by rw [hd]; rfl
          have e2 : ((dd % 4) == 2) = false := by rw [hd]; rfl
          clear hd HD4
          obtain ⟨o1, l1, a1, s1, t1, h1⟩ := life_eta (eventD ⟨on, lit, ack, s, st⟩ nw true latch)
          have HE : Hid (∀ w, Calls Try.prog 9 #[.agg #[.bool on, .bool lit, .bool ack, .int .i64 s, .int .i64 st], .int .i64 nw, .bool true, .bool latch] w fun e w' => e = .returned (.agg #[.bool o1, .bool l1, .bool a1, .int .i64 s1, .int .i64 t1]) ∧ Keeps No w w') := hid (fun w => by have h := levent_any on lit ack s st nw true latch w; rw [h1] at h; exact h)
          have HM : Hid (∀ w, Calls Try.prog 10 #[.agg #[.bool on, .bool lit, .bool ack, .int .i64 s, .int .i64 st], .int .i64 nw, .bool true, .bool latch] w fun e w' => e = .returned (.agg #[.bool o1, .bool l1, .bool a1, .int .i64 s1, .int .i64 t1]) ∧ Keeps No w w') := hid (fun w => by have h := mevent_any on lit ack s st nw true latch w; rw [h1] at h; exact h)
          have HINV := hid (by have h := inv_event HI.out nw true latch; rw [h1] at h; exact h)
          clear h1
          go_upto_region 13 with fail
          have cA0 := HB.out.cell 0 rfl
          have cA1 := HB.out.cell 1 rfl
          have cA2 := HB.out.cell 2 rfl
          have cA3 := HB.out.cell 3 rfl
          have cA4 := HB.out.cell 4 rfl
          have cB0 := HC.out.cell 0 rfl
          have cB1 := HC.out.cell 1 rfl
          have cB2 := HC.out.cell 2 rfl
          have cB3 := HC.out.cell 3 rfl
          have cB4 := HC.out.cell 4 rfl
          have bA := HB.out
          have bB := HC.out
          first | go_region_with (first | (go_at_call 9; (with_reducible refine (HE.out _).mono ?_); rintro e w9 ⟨rfl, k⟩; (have bX : Bk w9 lb 25 [.bool on, .bool lit, .bool ack, .int .i64 s, .int .i64 st] := Bk.kept (by (repeat' (first | with_reducible assumption | with_reducible refine Bk.drew ?_ | with_reducible refine Bk.other5 hab ?_ | with_reducible refine Bk.put5 (u0 := .bool on) (u1 := .bool lit) (u2 := .bool ack) (u3 := .int .i64 s) (u4 := .int .i64 st) ?_))) k); (first | (have bY : Bk w9 mb 26 [.bool on, .bool lit, .bool ack, .int .i64 s, .int .i64 st] := Bk.kept (by first | ((repeat' (first | with_reducible assumption | with_reducible refine Bk.drew ?_ | with_reducible refine Bk.other5 hab' ?_ | with_reducible refine Bk.put5 (u0 := .bool on) (u1 := .bool lit) (u2 := .bool ack) (u3 := .int .i64 s) (u4 := .int .i64 st) ?_)); done) | fail) k) | (have bY : Bk w9 mb 26 [.bool o1, .bool l1, .bool a1, .int .i64 s1, .int .i64 t1] := Bk.kept (by first | ((repeat' (first | with_reducible assumption | with_reducible refine Bk.drew ?_ | with_reducible refine Bk.other5 hab' ?_ | with_reducible refine Bk.put5 (u0 := .bool on) (u1 := .bool lit) (u2 := .bool ack) (u3 := .int .i64 s) (u4 := .int .i64 st) ?_)); done) | fail) k)); (have kk : Keeps (fun i => i = lb ∨ i = mb) wr w9 := Keeps.trans (by repeat' (first | with_reducible exact Keeps.refl _ _ | with_reducible assumption | with_reducible refine Keeps.drewN ?_ _ | with_reducible refine Keeps.drew ?_ | with_reducible refine Keeps.setCell ?_ ?_ _ | exact Or.inr (Or.inl rfl) | exact Or.inr (Or.inr rfl))) k.no); have cX0 := bX.cell 0 rfl; have fX0 := bX.free 0; have cX1 := bX.cell 1 rfl; have fX1 := bX.free 1; have cX2 := bX.cell 2 rfl; have fX2 := bX.free 2; have cX3 := bX.cell 3 rfl; have fX3 := bX.free 3; have cX4 := bX.cell 4 rfl; have fX4 := bX.free 4; have cY0 := bY.cell 0 rfl; have fY0 := bY.free 0; have cY1 := bY.cell 1 rfl; have fY1 := bY.free 1; have cY2 := bY.cell 2 rfl; have fY2 := bY.free 2; have cY3 := bY.cell 3 rfl; have fY3 := bY.free 3; have cY4 := bY.cell 4 rfl; have fY4 := bY.free 4; clear k) | (go_at_call 10; (with_reducible refine (HM.out _).mono ?_); rintro e w9 ⟨rfl, k⟩; (have bX : Bk w9 mb 26 [.bool on, .bool lit, .bool ack, .int .i64 s, .int .i64 st] := Bk.kept (by (repeat' (first | with_reducible assumption | with_reducible refine Bk.drew ?_ | with_reducible refine Bk.other5 hab' ?_ | with_reducible refine Bk.put5 (u0 := .bool on) (u1 := .bool lit) (u2 := .bool ack) (u3 := .int .i64 s) (u4 := .int .i64 st) ?_))) k); (first | (have bY : Bk w9 lb 25 [.bool on, .bool lit, .bool ack, .int .i64 s, .int .i64 st] := Bk.kept (by first | ((repeat' (first | with_reducible assumption | with_reducible refine Bk.drew ?_ | with_reducible refine Bk.other5 hab ?_ | with_reducible refine Bk.put5 (u0 := .bool on) (u1 := .bool lit) (u2 := .bool ack) (u3 := .int .i64 s) (u4 := .int .i64 st) ?_)); done) | fail) k) | (have bY : Bk w9 lb 25 [.bool o1, .bool l1, .bool a1, .int .i64 s1, .int .i64 t1] := Bk.kept (by first | ((repeat' (first | with_reducible assumption | with_reducible refine Bk.drew ?_ | with_reducible refine Bk.other5 hab ?_ | with_reducible refine Bk.put5 (u0 := .bool on) (u1 := .bool lit) (u2 := .bool ack) (u3 := .int .i64 s) (u4 := .int .i64 st) ?_)); done) | fail) k)); (have kk : Keeps (fun i => i = lb ∨ i = mb) wr w9 := Keeps.trans (by repeat' (first | with_reducible exact Keeps.refl _ _ | with_reducible assumption | with_reducible refine Keeps.drewN ?_ _ | with_reducible refine Keeps.drew ?_ | with_reducible refine Keeps.setCell ?_ ?_ _ | exact Or.inr (Or.inl rfl) | exact Or.inr (Or.inr rfl))) k.no); have cX0 := bX.cell 0 rfl; have fX0 := bX.free 0; have cX1 := bX.cell 1 rfl; have fX1 := bX.free 1; have cX2 := bX.cell 2 rfl; have fX2 := bX.free 2; have cX3 := bX.cell 3 rfl; have fX3 := bX.free 3; have cX4 := bX.cell 4 rfl; have fX4 := bX.free 4; have cY0 := bY.cell 0 rfl; have fY0 := bY.free 0; have cY1 := bY.cell 1 rfl; have fY1 := bY.free 1; have cY2 := bY.cell 2 rfl; have fY2 := bY.free 2; have cY3 := bY.cell 3 rfl; have fY3 := bY.free 3; have cY4 := bY.cell 4 rfl; have fY4 := bY.free 4; clear k)) | fail
          all_goals
            go_wp2_with fail
            go_meet
            refine ⟨o1, l1, a1, s1, t1, HINV, hid ?_, hid ?_, hid ?_⟩
            · (repeat' (first | with_reducible assumption | with_reducible refine Bk.drew ?_ | with_reducible refine Bk.other5 hab ?_ | with_reducible refine Bk.put5 (u0 := .bool on) (u1 := .bool lit) (u2 := .bool ack) (u3 := .int .i64 s) (u4 := .int .i64 st) ?_))
            · (repeat' (first | with_reducible assumption | with_reducible refine Bk.drew ?_ | with_reducible refine Bk.other5 hab' ?_ | with_reducible refine Bk.put5 (u0 := .bool on) (u1 := .bool lit) (u2 := .bool ack) (u3 := .int .i64 s) (u4 := .int .i64 st) ?_))
            · exact HK.out.trans' (show Keeps (fun i => i = lb ∨ i = mb) wr _ from by repeat' (first | with_reducible exact Keeps.refl _ _ | with_reducible assumption | with_reducible refine Keeps.drewN ?_ _ | with_reducible refine Keeps.drew ?_ | with_reducible refine Keeps.setCell ?_ ?_ _ | exact Or.inr (Or.inl rfl) | exact Or.inr (Or.inr rfl))) (fun _ _ h => h) (fun i hi e => by have := HGB.out; rcases e with e | e <;> omega)
        · have e0 : ((dd % 4) == 0) = false := by rw [hd]; rfl
          have e1 : ((dd % 4) == 1) = true := by rw [hd]; rfl
          have e2 : ((dd % 4) == 2) = false := by rw [hd]; rfl
          clear hd HD4
          obtain ⟨o1, l1, a1, s1, t1, h1⟩ := life_eta (eventD ⟨on, lit, ack, s, st⟩ nw false latch)
          have HE : Hid (∀ w, Calls Try.prog 9 #[.agg #[.bool on, .bool lit, .bool ack, .int .i64 s, .int .i64 st], .int .i64 nw, .bool false, .bool latch] w fun e w' => e = .returned (.agg #[.bool o1, .bool l1, .bool a1, .int .i64 s1, .int .i64 t1]) ∧ Keeps No w w') := hid (fun w => by have h := levent_any on lit ack s st nw false latch w; rw [h1] at h; exact h)
          have HM : Hid (∀ w, Calls Try.prog 10 #[.agg #[.bool on, .bool lit, .bool ack, .int .i64 s, .int .i64 st], .int .i64 nw, .bool false, .bool latch] w fun e w' => e = .returned (.agg #[.bool o1, .bool l1, .bool a1, .int .i64 s1, .int .i64 t1]) ∧ Keeps No w w') := hid (fun w => by have h := mevent_any on lit ack s st nw false latch w; rw [h1] at h; exact h)
          have HINV := hid (by have h := inv_event HI.out nw false latch; rw [h1] at h; exact h)
          clear h1
          go_upto_region 15 with fail
          have cA0 := HB.out.cell 0 rfl
          have cA1 := HB.out.cell 1 rfl
          have cA2 := HB.out.cell 2 rfl
          have cA3 := HB.out.cell 3 rfl
          have cA4 := HB.out.cell 4 rfl
          have cB0 := HC.out.cell 0 rfl
          have cB1 := HC.out.cell 1 rfl
          have cB2 := HC.out.cell 2 rfl
          have cB3 := HC.out.cell 3 rfl
          have cB4 := HC.out.cell 4 rfl
          have bA := HB.out
          have bB := HC.out
          first | go_region_with (first | (go_at_call 9; (with_reducible refine (HE.out _).mono ?_); rintro e w9 ⟨rfl, k⟩; (have bX : Bk w9 lb 25 [.bool on, .bool lit, .bool ack, .int .i64 s, .int .i64 st] := Bk.kept (by (repeat' (first | with_reducible assumption | with_reducible refine Bk.drew ?_ | with_reducible refine Bk.other5 hab ?_ | with_reducible refine Bk.put5 (u0 := .bool on) (u1 := .bool lit) (u2 := .bool ack) (u3 := .int .i64 s) (u4 := .int .i64 st) ?_))) k); (first | (have bY : Bk w9 mb 26 [.bool on, .bool lit, .bool ack, .int .i64 s, .int .i64 st] := Bk.kept (by first | ((repeat' (first | with_reducible assumption | with_reducible refine Bk.drew ?_ | with_reducible refine Bk.other5 hab' ?_ | with_reducible refine Bk.put5 (u0 := .bool on) (u1 := .bool lit) (u2 := .bool ack) (u3 := .int .i64 s) (u4 := .int .i64 st) ?_)); done) | fail) k) | (have bY : Bk w9 mb 26 [.bool o1, .bool l1, .bool a1, .int .i64 s1, .int .i64 t1] := Bk.kept (by first | ((repeat' (first | with_reducible assumption | with_reducible refine Bk.drew ?_ | with_reducible refine Bk.other5 hab' ?_ | with_reducible refine Bk.put5 (u0 := .bool on) (u1 := .bool lit) (u2 := .bool ack) (u3 := .int .i64 s) (u4 := .int .i64 st) ?_)); done) | fail) k)); (have kk : Keeps (fun i => i = lb ∨ i = mb) wr w9 := Keeps.trans (by repeat' (first | with_reducible exact Keeps.refl _ _ | with_reducible assumption | with_reducible refine Keeps.drewN ?_ _ | with_reducible refine Keeps.drew ?_ | with_reducible refine Keeps.setCell ?_ ?_ _ | exact Or.inr (Or.inl rfl) | exact Or.inr (Or.inr rfl))) k.no); have cX0 := bX.cell 0 rfl; have fX0 := bX.free 0; have cX1 := bX.cell 1 rfl; have fX1 := bX.free 1; have cX2 := bX.cell 2 rfl; have fX2 := bX.free 2; have cX3 := bX.cell 3 rfl; have fX3 := bX.free 3; have cX4 := bX.cell 4 rfl; have fX4 := bX.free 4; have cY0 := bY.cell 0 rfl; have fY0 := bY.free 0; have cY1 := bY.cell 1 rfl; have fY1 := bY.free 1; have cY2 := bY.cell 2 rfl; have fY2 := bY.free 2; have cY3 := bY.cell 3 rfl; have fY3 := bY.free 3; have cY4 := bY.cell 4 rfl; have fY4 := bY.free 4; clear k) | (go_at_call 10; (with_reducible refine (HM.out _).mono ?_); rintro e w9 ⟨rfl, k⟩; (have bX : Bk w9 mb 26 [.bool on, .bool lit, .bool ack, .int .i64 s, .int .i64 st] := Bk.kept (by (repeat' (first | with_reducible assumption | with_reducible refine Bk.drew ?_ | with_reducible refine Bk.other5 hab' ?_ | with_reducible refine Bk.put5 (u0 := .bool on) (u1 := .bool lit) (u2 := .bool ack) (u3 := .int .i64 s) (u4 := .int .i64 st) ?_))) k); (first | (have bY : Bk w9 lb 25 [.bool on, .bool lit, .bool ack, .int .i64 s, .int .i64 st] := Bk.kept (by first | ((repeat' (first | with_reducible assumption | with_reducible refine Bk.drew ?_ | with_reducible refine Bk.other5 hab ?_ | with_reducible refine Bk.put5 (u0 := .bool on) (u1 := .bool lit) (u2 := .bool ack) (u3 := .int .i64 s) (u4 := .int .i64 st) ?_)); done) | fail) k) | (have bY : Bk w9 lb 25 [.bool o1, .bool l1, .bool a1, .int .i64 s1, .int .i64 t1] := Bk.kept (by first | ((repeat' (first | with_reducible assumption | with_reducible refine Bk.drew ?_ | with_reducible refine Bk.other5 hab ?_ | with_reducible refine Bk.put5 (u0 := .bool on) (u1 := .bool lit) (u2 := .bool ack) (u3 := .int .i64 s) (u4 := .int .i64 st) ?_)); done) | fail) k)); (have kk : Keeps (fun i => i = lb ∨ i = mb) wr w9 := Keeps.trans (by repeat' (first | with_reducible exact Keeps.refl _ _ | with_reducible assumption | with_reducible refine Keeps.drewN ?_ _ | with_reducible refine Keeps.drew ?_ | with_reducible refine Keeps.setCell ?_ ?_ _ | exact Or.inr (Or.inl rfl) | exact Or.inr (Or.inr rfl))) k.no); have cX0 := bX.cell 0 rfl; have fX0 := bX.free 0; have cX1 := bX.cell 1 rfl; have fX1 := bX.free 1; have cX2 := bX.cell 2 rfl; have fX2 := bX.free 2; have cX3 := bX.cell 3 rfl; have fX3 := bX.free 3; have cX4 := bX.cell 4 rfl; have fX4 := bX.free 4; have cY0 := bY.cell 0 rfl; have fY0 := bY.free 0; have cY1 := bY.cell 1 rfl; have fY1 := bY.free 1; have cY2 := bY.cell 2 rfl; have fY2 := bY.free 2; have cY3 := bY.cell 3 rfl; have fY3 := bY.free 3; have cY4 := bY.cell 4 rfl; have fY4 := bY.free 4; clear k)) | fail
          all_goals
            go_wp2_with fail
            go_meet
            refine ⟨o1, l1, a1, s1, t1, HINV, hid ?_, hid ?_, hid ?_⟩
            · (repeat' (first | with_reducible assumption | with_reducible refine Bk.drew ?_ | with_reducible refine Bk.other5 hab ?_ | with_reducible refine Bk.put5 (u0 := .bool on) (u1 := .bool lit) (u2 := .bool ack) (u3 := .int .i64 s) (u4 := .int .i64 st) ?_))
            · (repeat' (first | with_reducible assumption | with_reducible refine Bk.drew ?_ | with_reducible refine Bk.other5 hab' ?_ | with_reducible refine Bk.put5 (u0 := .bool on) (u1 := .bool lit) (u2 := .bool ack) (u3 := .int .i64 s) (u4 := .int .i64 st) ?_))
            · exact HK.out.trans' (show Keeps (fun i => i = lb ∨ i = mb) wr _ from by repeat' (first | with_reducible exact Keeps.refl _ _ | with_reducible assumption | with_reducible refine Keeps.drewN ?_ _ | with_reducible refine Keeps.drew ?_ | with_reducible refine Keeps.setCell ?_ ?_ _ | exact Or.inr (Or.inl rfl) | exact Or.inr (Or.inr rfl))) (fun _ _ h => h) (fun i hi e => by have := HGB.out; rcases e with e | e <;> omega)
        · have e0 : ((dd % 4) == 0) = false := by rw [hd]; rfl
          have e1 : ((dd % 4) == 1) = false := by rw [hd]; rfl
          have e2 : ((dd % 4) == 2) = true := by rw [hd]; rfl
          clear hd HD4
          obtain ⟨o1, l1, a1, s1, t1, h1⟩ := life_eta (ackD ⟨on, lit, ack, s, st⟩)
          have HE : Hid (∀ w, Calls Try.prog 11 #[.agg #[.bool on, .bool lit, .bool ack, .int .i64 s, .int .i64 st]] w fun e w' => e = .returned (.agg #[.bool o1, .bool l1, .bool a1, .int .i64 s1, .int .i64 t1]) ∧ Keeps No w w') := hid (fun w => by have h := lack_any on lit ack s st w; rw [h1] at h; exact h)
          have HM : Hid (∀ w, Calls Try.prog 12 #[.agg #[.bool on, .bool lit, .bool ack, .int .i64 s, .int .i64 st]] w fun e w' => e = .returned (.agg #[.bool o1, .bool l1, .bool a1, .int .i64 s1, .int .i64 t1]) ∧ Keeps No w w') := hid (fun w => by have h := mack_any on lit ack s st w; rw [h1] at h; exact h)
          have HINV := hid (by have h := inv_ack HI.out; rw [h1] at h; exact h)
          clear h1
          go_upto_region 17 with fail
          have cA0 := HB.out.cell 0 rfl
          have cA1 := HB.out.cell 1 rfl
          have cA2 := HB.out.cell 2 rfl
          have cA3 := HB.out.cell 3 rfl
          have cA4 := HB.out.cell 4 rfl
          have cB0 := HC.out.cell 0 rfl
          have cB1 := HC.out.cell 1 rfl
          have cB2 := HC.out.cell 2 rfl
          have cB3 := HC.out.cell 3 rfl
          have cB4 := HC.out.cell 4 rfl
          have bA := HB.out
          have bB := HC.out
          first | go_region_with (first | (go_at_call 11; (with_reducible refine (HE.out _).mono ?_); rintro e w9 ⟨rfl, k⟩; (have bX : Bk w9 lb 25 [.bool on, .bool lit, .bool ack, .int .i64 s, .int .i64 st] := Bk.kept (by (repeat' (first | with_reducible assumption | with_reducible refine Bk.drew ?_ | with_reducible refine Bk.other5 hab ?_ | with_reducible refine Bk.put5 (u0 := .bool on) (u1 := .bool lit) (u2 := .bool ack) (u3 := .int .i64 s) (u4 := .int .i64 st) ?_))) k); (first | (have bY : Bk w9 mb 26 [.bool on, .bool lit, .bool ack, .int .i64 s, .int .i64 st] := Bk.kept (by first | ((repeat' (first | with_reducible assumption | with_reducible refine Bk.drew ?_ | with_reducible refine Bk.other5 hab' ?_ | with_reducible refine Bk.put5 (u0 := .bool on) (u1 := .bool lit) (u2 := .bool ack) (u3 := .int .i64 s) (u4 := .int .i64 st) ?_)); done) | fail) k) | (have bY : Bk w9 mb 26 [.bool o1, .bool l1, .bool a1, .int .i64 s1, .int .i64 t1] := Bk.kept (by first | ((repeat' (first | with_reducible assumption | with_reducible refine Bk.drew ?_ | with_reducible refine Bk.other5 hab' ?_ | with_reducible refine Bk.put5 (u0 := .bool on) (u1 := .bool lit) (u2 := .bool ack) (u3 := .int .i64 s) (u4 := .int .i64 st) ?_)); done) | fail) k)); (have kk : Keeps (fun i => i = lb ∨ i = mb) wr w9 := Keeps.trans (by repeat' (first | with_reducible exact Keeps.refl _ _ | with_reducible assumption | with_reducible refine Keeps.drewN ?_ _ | with_reducible refine Keeps.drew ?_ | with_reducible refine Keeps.setCell ?_ ?_ _ | exact Or.inr (Or.inl rfl) | exact Or.inr (Or.inr rfl))) k.no); have cX0 := bX.cell 0 rfl; have fX0 := bX.free 0; have cX1 := bX.cell 1 rfl; have fX1 := bX.free 1; have cX2 := bX.cell 2 rfl; have fX2 := bX.free 2; have cX3 := bX.cell 3 rfl; have fX3 := bX.free 3; have cX4 := bX.cell 4 rfl; have fX4 := bX.free 4; have cY0 := bY.cell 0 rfl; have fY0 := bY.free 0; have cY1 := bY.cell 1 rfl; have fY1 := bY.free 1; have cY2 := bY.cell 2 rfl; have fY2 := bY.free 2; have cY3 := bY.cell 3 rfl; have fY3 := bY.free 3; have cY4 := bY.cell 4 rfl; have fY4 := bY.free 4; clear k) | (go_at_call 12; (with_reducible refine (HM.out _).mono ?_); rintro e w9 ⟨rfl, k⟩; (have bX : Bk w9 mb 26 [.bool on, .bool lit, .bool ack, .int .i64 s, .int .i64 st] := Bk.kept (by (repeat' (first | with_reducible assumption | with_reducible refine Bk.drew ?_ | with_reducible refine Bk.other5 hab' ?_ | with_reducible refine Bk.put5 (u0 := .bool on) (u1 := .bool lit) (u2 := .bool ack) (u3 := .int .i64 s) (u4 := .int .i64 st) ?_))) k); (first | (have bY : Bk w9 lb 25 [.bool on, .bool lit, .bool ack, .int .i64 s, .int .i64 st] := Bk.kept (by first | ((repeat' (first | with_reducible assumption | with_reducible refine Bk.drew ?_ | with_reducible refine Bk.other5 hab ?_ | with_reducible refine Bk.put5 (u0 := .bool on) (u1 := .bool lit) (u2 := .bool ack) (u3 := .int .i64 s) (u4 := .int .i64 st) ?_)); done) | fail) k) | (have bY : Bk w9 lb 25 [.bool o1, .bool l1, .bool a1, .int .i64 s1, .int .i64 t1] := Bk.kept (by first | ((repeat' (first | with_reducible assumption | with_reducible refine Bk.drew ?_ | with_reducible refine Bk.other5 hab ?_ | with_reducible refine Bk.put5 (u0 := .bool on) (u1 := .bool lit) (u2 := .bool ack) (u3 := .int .i64 s) (u4 := .int .i64 st) ?_)); done) | fail) k)); (have kk : Keeps (fun i => i = lb ∨ i = mb) wr w9 := Keeps.trans (by repeat' (first | with_reducible exact Keeps.refl _ _ | with_reducible assumption | with_reducible refine Keeps.drewN ?_ _ | with_reducible refine Keeps.drew ?_ | with_reducible refine Keeps.setCell ?_ ?_ _ | exact Or.inr (Or.inl rfl) | exact Or.inr (Or.inr rfl))) k.no); have cX0 := bX.cell 0 rfl; have fX0 := bX.free 0; have cX1 := bX.cell 1 rfl; have fX1 := bX.free 1; have cX2 := bX.cell 2 rfl; have fX2 := bX.free 2; have cX3 := bX.cell 3 rfl; have fX3 := bX.free 3; have cX4 := bX.cell 4 rfl; have fX4 := bX.free 4; have cY0 := bY.cell 0 rfl; have fY0 := bY.free 0; have cY1 := bY.cell 1 rfl; have fY1 := bY.free 1; have cY2 := bY.cell 2 rfl; have fY2 := bY.free 2; have cY3 := bY.cell 3 rfl; have fY3 := bY.free 3; have cY4 := bY.cell 4 rfl; have fY4 := bY.free 4; clear k)) | fail
          all_goals
            go_wp2_with fail
            go_meet
            refine ⟨o1, l1, a1, s1, t1, HINV, hid ?_, hid ?_, hid ?_⟩
            · (repeat' (first | with_reducible assumption | with_reducible refine Bk.drew ?_ | with_reducible refine Bk.other5 hab ?_ | with_reducible refine Bk.put5 (u0 := .bool on) (u1 := .bool lit) (u2 := .bool ack) (u3 := .int .i64 s) (u4 := .int .i64 st) ?_))
            · (repeat' (first | with_reducible assumption | with_reducible refine Bk.drew ?_ | with_reducible refine Bk.other5 hab' ?_ | with_reducible refine Bk.put5 (u0 := .bool on) (u1 := .bool lit) (u2 := .bool ack) (u3 := .int .i64 s) (u4 := .int .i64 st) ?_))
            · exact HK.out.trans' (show Keeps (fun i => i = lb ∨ i = mb) wr _ from by repeat' (first | with_reducible exact Keeps.refl _ _ | with_reducible assumption | with_reducible refine Keeps.drewN ?_ _ | with_reducible refine Keeps.drew ?_ | with_reducible refine Keeps.setCell ?_ ?_ _ | exact Or.inr (Or.inl rfl) | exact Or.inr (Or.inr rfl))) (fun _ _ h => h) (fun i hi e => by have := HGB.out; rcases e with e | e <;> omega)
        · have e0 : ((dd % 4) == 0) = false := by rw [hd]; rfl
          have e1 : ((dd % 4) == 1) = false := by rw [hd]; rfl
          have e2 : ((dd % 4) == 2) = false := by rw [hd]; rfl
          clear hd HD4
          obtain ⟨o1, l1, a1, s1, t1, h1⟩ := life_eta (resetD ⟨on, lit, ack, s, st⟩)
          have HE : Hid (∀ w, Calls Try.prog 13 #[.agg #[.bool on, .bool lit, .bool ack, .int .i64 s, .int .i64 st]] w fun e w' => e = .returned (.agg #[.bool o1, .bool l1, .bool a1, .int .i64 s1, .int .i64 t1]) ∧ Keeps No w w') := hid (fun w => by have h := lreset_any on lit ack s st w; rw [h1] at h; exact h)
          have HM : Hid (∀ w, Calls Try.prog 14 #[.agg #[.bool on, .bool lit, .bool ack, .int .i64 s, .int .i64 st]] w fun e w' => e = .returned (.agg #[.bool o1, .bool l1, .bool a1, .int .i64 s1, .int .i64 t1]) ∧ Keeps No w w') := hid (fun w => by have h := mreset_any on lit ack s st w; rw [h1] at h; exact h)
          have HINV := hid (by have h := inv_reset HI.out; rw [h1] at h; exact h)
          clear h1
          go_upto_region 11 with fail
          have cA0 := HB.out.cell 0 rfl
          have cA1 := HB.out.cell 1 rfl
          have cA2 := HB.out.cell 2 rfl
          have cA3 := HB.out.cell 3 rfl
          have cA4 := HB.out.cell 4 rfl
          have cB0 := HC.out.cell 0 rfl
          have cB1 := HC.out.cell 1 rfl
          have cB2 := HC.out.cell 2 rfl
          have cB3 := HC.out.cell 3 rfl
          have cB4 := HC.out.cell 4 rfl
          have bA := HB.out
          have bB := HC.out
          first | go_region_with (first | (go_at_call 13; (with_reducible refine (HE.out _).mono ?_); rintro e w9 ⟨rfl, k⟩; (have bX : Bk w9 lb 25 [.bool on, .bool lit, .bool ack, .int .i64 s, .int .i64 st] := Bk.kept (by (repeat' (first | with_reducible assumption | with_reducible refine Bk.drew ?_ | with_reducible refine Bk.other5 hab ?_ | with_reducible refine Bk.put5 (u0 := .bool on) (u1 := .bool lit) (u2 := .bool ack) (u3 := .int .i64 s) (u4 := .int .i64 st) ?_))) k); (first | (have bY : Bk w9 mb 26 [.bool on, .bool lit, .bool ack, .int .i64 s, .int .i64 st] := Bk.kept (by first | ((repeat' (first | with_reducible assumption | with_reducible refine Bk.drew ?_ | with_reducible refine Bk.other5 hab' ?_ | with_reducible refine Bk.put5 (u0 := .bool on) (u1 := .bool lit) (u2 := .bool ack) (u3 := .int .i64 s) (u4 := .int .i64 st) ?_)); done) | fail) k) | (have bY : Bk w9 mb 26 [.bool o1, .bool l1, .bool a1, .int .i64 s1, .int .i64 t1] := Bk.kept (by first | ((repeat' (first | with_reducible assumption | with_reducible refine Bk.drew ?_ | with_reducible refine Bk.other5 hab' ?_ | with_reducible refine Bk.put5 (u0 := .bool on) (u1 := .bool lit) (u2 := .bool ack) (u3 := .int .i64 s) (u4 := .int .i64 st) ?_)); done) | fail) k)); (have kk : Keeps (fun i => i = lb ∨ i = mb) wr w9 := Keeps.trans (by repeat' (first | with_reducible exact Keeps.refl _ _ | with_reducible assumption | with_reducible refine Keeps.drewN ?_ _ | with_reducible refine Keeps.drew ?_ | with_reducible refine Keeps.setCell ?_ ?_ _ | exact Or.inr (Or.inl rfl) | exact Or.inr (Or.inr rfl))) k.no); have cX0 := bX.cell 0 rfl; have fX0 := bX.free 0; have cX1 := bX.cell 1 rfl; have fX1 := bX.free 1; have cX2 := bX.cell 2 rfl; have fX2 := bX.free 2; have cX3 := bX.cell 3 rfl; have fX3 := bX.free 3; have cX4 := bX.cell 4 rfl; have fX4 := bX.free 4; have cY0 := bY.cell 0 rfl; have fY0 := bY.free 0; have cY1 := bY.cell 1 rfl; have fY1 := bY.free 1; have cY2 := bY.cell 2 rfl; have fY2 := bY.free 2; have cY3 := bY.cell 3 rfl; have fY3 := bY.free 3; have cY4 := bY.cell 4 rfl; have fY4 := bY.free 4; clear k) | (go_at_call 14; (with_reducible refine (HM.out _).mono ?_); rintro e w9 ⟨rfl, k⟩; (have bX : Bk w9 mb 26 [.bool on, .bool lit, .bool ack, .int .i64 s, .int .i64 st] := Bk.kept (by (repeat' (first | with_reducible assumption | with_reducible refine Bk.drew ?_ | with_reducible refine Bk.other5 hab' ?_ | with_reducible refine Bk.put5 (u0 := .bool on) (u1 := .bool lit) (u2 := .bool ack) (u3 := .int .i64 s) (u4 := .int .i64 st) ?_))) k); (first | (have bY : Bk w9 lb 25 [.bool on, .bool lit, .bool ack, .int .i64 s, .int .i64 st] := Bk.kept (by first | ((repeat' (first | with_reducible assumption | with_reducible refine Bk.drew ?_ | with_reducible refine Bk.other5 hab ?_ | with_reducible refine Bk.put5 (u0 := .bool on) (u1 := .bool lit) (u2 := .bool ack) (u3 := .int .i64 s) (u4 := .int .i64 st) ?_)); done) | fail) k) | (have bY : Bk w9 lb 25 [.bool o1, .bool l1, .bool a1, .int .i64 s1, .int .i64 t1] := Bk.kept (by first | ((repeat' (first | with_reducible assumption | with_reducible refine Bk.drew ?_ | with_reducible refine Bk.other5 hab ?_ | with_reducible refine Bk.put5 (u0 := .bool on) (u1 := .bool lit) (u2 := .bool ack) (u3 := .int .i64 s) (u4 := .int .i64 st) ?_)); done) | fail) k)); (have kk : Keeps (fun i => i = lb ∨ i = mb) wr w9 := Keeps.trans (by repeat' (first | with_reducible exact Keeps.refl _ _ | with_reducible assumption | with_reducible refine Keeps.drewN ?_ _ | with_reducible refine Keeps.drew ?_ | with_reducible refine Keeps.setCell ?_ ?_ _ | exact Or.inr (Or.inl rfl) | exact Or.inr (Or.inr rfl))) k.no); have cX0 := bX.cell 0 rfl; have fX0 := bX.free 0; have cX1 := bX.cell 1 rfl; have fX1 := bX.free 1; have cX2 := bX.cell 2 rfl; have fX2 := bX.free 2; have cX3 := bX.cell 3 rfl; have fX3 := bX.free 3; have cX4 := bX.cell 4 rfl; have fX4 := bX.free 4; have cY0 := bY.cell 0 rfl; have fY0 := bY.free 0; have cY1 := bY.cell 1 rfl; have fY1 := bY.free 1; have cY2 := bY.cell 2 rfl; have fY2 := bY.free 2; have cY3 := bY.cell 3 rfl; have fY3 := bY.free 3; have cY4 := bY.cell 4 rfl; have fY4 := bY.free 4; clear k)) | fail
          all_goals
            go_wp2_with fail
            go_meet
            refine ⟨o1, l1, a1, s1, t1, HINV, hid ?_, hid ?_, hid ?_⟩
            · (repeat' (first | with_reducible assumption | with_reducible refine Bk.drew ?_ | with_reducible refine Bk.other5 hab ?_ | with_reducible refine Bk.put5 (u0 := .bool on) (u1 := .bool lit) (u2 := .bool ack) (u3 := .int .i64 s) (u4 := .int .i64 st) ?_))
            · (repeat' (first | with_reducible assumption | with_reducible refine Bk.drew ?_ | with_reducible refine Bk.other5 hab' ?_ | with_reducible refine Bk.put5 (u0 := .bool on) (u1 := .bool lit) (u2 := .bool ack) (u3 := .int .i64 s) (u4 := .int .i64 st) ?_))
            · exact HK.out.trans' (show Keeps (fun i => i = lb ∨ i = mb) wr _ from by repeat' (first | with_reducible exact Keeps.refl _ _ | with_reducible assumption | with_reducible refine Keeps.drewN ?_ _ | with_reducible refine Keeps.drew ?_ | with_reducible refine Keeps.setCell ?_ ?_ _ | exact Or.inr (Or.inl rfl) | exact Or.inr (Or.inr rfl))) (fun _ _ h => h) (fun i hi e => by have := HGB.out; rcases e with e | e <;> omega)
      case rest =>
      clear HI HB HC HK
      obtain ⟨on, lit, ack, s, st, HI, HB, HC, HK⟩ := hcut
      obtain ⟨w5, rfl⟩ : ∃ y, y = wc := ⟨_, rfl⟩
      have x0 := HB.out.cell 0 rfl
      have y0 := HC.out.cell 0 rfl
      have x1 := HB.out.cell 1 rfl
      have y1 := HC.out.cell 1 rfl
      have x2 := HB.out.cell 2 rfl
      have y2 := HC.out.cell 2 rfl
      have x3 := HB.out.cell 3 rfl
      have y3 := HC.out.cell 3 rfl
      have x4 := HB.out.cell 4 rfl
      have y4 := HC.out.cell 4 rfl
      go_wp2_with fail
      refine (same15_any on lit ack s st _).mono ?_
      rintro e w6 ⟨rfl, k⟩
      have hb := HB.out.kept k
      have hc := HC.out.kept k
      have HB6 := hid hb
      have HC6 := hid hc
      have HK6 := hid (HK.out.trans k)
      clear x0 y0 x1 y1 x2 y2 x3 y3 x4 y4
      have x0 := hb.cell 0 rfl
      have x1 := hb.cell 1 rfl
      have x2 := hb.cell 2 rfl
      have hinv := HI.out
      clear k hb hc HB HC HK
      cases lit
      · have e1 : on = false := by cases on; rfl; exact absurd (hinv.1 rfl) (by simp)
        have e2 : ack = false := by cases ack; rfl; exact absurd (hinv.2 rfl) (by simp)
        subst e1
        subst e2
        clear hinv
        go_wp2_with fail
        go_roundw
        case rel => exact ⟨i + 1, nw, false, false, false, s, st, by omega, by omega, by omega, by go_num, rfl, HI, HB6, HC6, HK6⟩
        case measure => simp [intOf]; omega
      · clear hinv
        cases on <;> cases ack
        all_goals
          go_wp2_with fail
          go_roundw
          case rel => exact ⟨i + 1, nw, _, true, _, s, st, by omega, by omega, by omega, by go_num, rfl, HI, HB6, HC6, HK6⟩
          case measure => simp [intOf]; omega
    · obtain rfl : i = N := by omega
      go_wp2_with fail
      go_ret
      exact ⟨rfl, HK.out.toBelow⟩

theorem own : ownKnob Try.prog.godebug = none := by kernel_rfl
theorem laidOut : laidOutB Try.prog = true := by kernel_rfl
set_option maxRecDepth 100000 in
theorem lifted (os : Os) (started : os.Started) (H : Type) (enc : TypeId × Value → H) :
    ReturnsInHanded {} Try.checked os 3 .any (Rows.lifePlaysSpec.pre6 enc Try.prog Try.f3 Rows.lifePlaysRow.domain false) (Rows.lifePlaysSpec.post enc Try.prog Try.f3 false true false false) := by
  refine returnsInHanded_of_change (C := Try.checked) own started (by kernel_rfl) Try.func3
    (ChangeSpec.witness6 (enc := enc) (C := Try.checked) false ⟨#[], #[.slice none 0 0, .bool false], []⟩ 8 (by kernel_rfl) (by kernel_rfl) (by kernel_rfl) (by kernel_rfl)) ?_
  intro W base args ds gs before hval0 hW hcnd _
  have hval : ∀ (j : Nat) t v, Try.f3.params[j]? = some t → args[j]? = some v → Value.okWide Try.prog W .any base t v := hval0
  have hW' := hW
  obtain ⟨p, q, hA0, hV, rfl, hfz, hnd⟩ := hW
  have hA : DataW.TrodAll enc Try.prog W 0 (fun _ => true) true Try.f3.params.toList args.toList ds p := hA0
  rw [Try.params3] at hA hval
  obtain ⟨v0, vs0, d0, ds0, p0, q0, hargs, rfl, rfl, h0, r0⟩ := trodAll_cons hA
  obtain ⟨v1, vs1, d1, ds1, p1, q1, rfl, rfl, rfl, h1, r1⟩ := trodAll_cons r0
  obtain ⟨rfl, rfl, rfl⟩ := trodAll_nil r1
  obtain rfl : args = #[v0, v1] := by cases args; simp_all
  obtain ⟨rfl, rfl⟩ := trodVars_none hV
  have k0 := h0
  have lt0 : ∀ x ∈ p0, x.block < W.heap.size := by obtain ⟨m, hm⟩ := k0; exact DataW.trod_lt m _ _ _ hm
  have k1 := h1
  have lt1 : ∀ x ∈ p1, x.block < W.heap.size := by obtain ⟨m, hm⟩ := k1; exact DataW.trod_lt m _ _ _ hm
  obtain ⟨s0, len0, cap0, rfl⟩ := okWide_slice Try.underlying22 (hval 0 22 v0 rfl rfl)
  obtain ⟨l0, rfl, w0, b0⟩ := argSlice (encE := encActE) (good := goodActE) (size := 2) (fun _ => rfl) (by decide) Try.underlying22 (by kernel_rfl) (fun n cs x hx => decAct15 hx) h0
  obtain ⟨a1, rfl, rfl, rfl⟩ := open_bool Try.underlying4 (hval 1 4 v1 rfl rfl) h1
  clear hA0 hval0
  refine (walk W s0 cap0 l0 w0 b0 a1).mono fun e W' ⟨he, bel⟩ => ?_
  subst he
  exact ⟨_, rfl, _, _, _, [], _, [], hW', trodAll_mk1 (shut_bool Try.underlying4 _), (trodAll_cons_mk (Below.trod laidOut (by kernel_rfl) (of_decide_eq_true (by kernel_rfl)) k0 bel lt0) (trodAll_cons_mk (Below.trod laidOut (by kernel_rfl) (of_decide_eq_true (by kernel_rfl)) k1 bel lt1) trodAll_mk0)), rfl, bel.frame _, fun h => by cases h⟩

theorem over : Rows.lifePlaysRow.holds Try.pinned (OpenSpec.ofChange Rows.lifePlaysSpec) :=
  OpenClaim.holds_of_wide 3 Try.f3 rfl rfl rfl rfl rfl rfl rfl ⟨rfl, rfl, rfl, rfl, rfl⟩ rfl rfl rfl rfl rfl (by kernel_rfl) Try.func3 (by kernel_rfl)
    (of_decide_eq_true (by kernel_rfl)) (by unfold Func.isWrapper; first | (rw [if_pos (by decide +kernel)]; kernel_rfl) | (rw [if_neg (by decide +kernel)]; exact ⟨rfl, rfl⟩))
    (fun os started H enc _ => lifted os started H enc)

theorem proved : Rows.LifePlaysSaid := over
#print axioms proved
end Go.Proofs.Ythffllafppdgeaa.lifePlays
