/-
  Decode, whole.
-/
import Derived.Test.YtlenhccdkhgfgaaDoorErr4
import Derived.Stop.IfaceNil
import Derived.Deep.DeepCutAuto
import Derived.Deep.CutBlock
namespace Go.Proofs.YtlenhccdkhgfgaaDoor
open Go.RowKit
set_option linter.unusedVariables false

set_option maxHeartbeats 1000000 in
set_option maxRecDepth 100000 in
theorem Decode_err {w : World} {a0 : Option Addr} {n0 c0 : Nat} {n c : Int} (hg : ErrV w) (hc : c = 2 ∨ c = 3 ∨ c = 4)
    (hd : Calls Tryd.prog 25 #[.slice a0 n0 c0] (w.alloc (.cells zeroCfg.toArray 33)) fun e w' => ∃ (sa ra ta : Option Addr) (sn sc rn rc tn tc : Nat) (i0 i1 i2 i3 i4 i5 : Int) (i6 : Bool) (i7 : Int) (mb : Nat), e = .returned (.tuple #[.agg #[.slice sa sn sc, .slice ra rn rc, .slice ta tn tc, .int .i64 i0, .int .i64 i1, .int .i64 i2, .int .i64 i3, .int .i64 i4, .int .i64 i5, .bool i6, .int .i64 i7], .iface 109 (.pointer (some ⟨mb, 0, none⟩))]) ∧ Met w' mb n c ∧ Keeps No (w.alloc (.cells zeroCfg.toArray 33)) w') :
    Calls Tryd.prog 13 #[.slice a0 n0 c0] w fun e w' => e = .returned (.tuple #[zeroV, .int .i64 n, .int .i64 c]) ∧ Keeps No w w' := by
  have HD := hid hd
  have HB : Hid (BlkL (w.alloc (.cells zeroCfg.toArray 33)) w.heap.size 33 zeroCfg) := hid (heap_alloc_new w _)
  have KB : Hid (Keeps No w (w.alloc (.cells zeroCfg.toArray 33))) := hid ((Keeps.refl _ _).alloc _)
  have HG := hid hg
  have HC := hid hc
  clear hd hg hc
  unfold zeroCfg at HD
  go_enter Tryd.func13, Tryd.ntmps13
  go_wp2_with fail
  refine HD.out.mono ?_
  rintro e w1 ⟨sa, ra, ta, sn, sc, rn, rc, tn, tc, i0, i1, i2, i3, i4, i5, i6, i7, mb, rfl, hm, k1⟩
  have HM := hid hm
  have KB1 := hid (KB.out.trans k1)
  have HB1 := hid (HB.out.keep k1 (fun h => h))
  have hb1 := HB1.out.lt
  clear hm k1 HD HB KB
  go_wp2_with fail
  with_reducible refine (where_met (n := n) (c := c) ?g1 ?m1).mono ?_
  case g1 => exact (HG.out.keep KB1.out).keep (by repeat' (first | with_reducible exact Keeps.refl _ _ | with_reducible refine Keeps.alloc ?_ _ | with_reducible refine Keeps.setCell ?_ ?_ _ | exact Or.inl (Nat.le_refl _)))
  case m1 => exact HM.out.keep (by repeat' (first | with_reducible exact Keeps.refl _ _ | with_reducible refine Keeps.alloc ?_ _ | with_reducible refine Keeps.setCell ?_ ?_ _ | exact Or.inl (Nat.le_refl _)))
  rintro e w2 ⟨rfl, k2⟩
  have k12 : Keeps No w1 w2 := Keeps.trans (by repeat' (first | with_reducible exact Keeps.refl _ _ | with_reducible refine Keeps.alloc ?_ _ | with_reducible refine Keeps.setCell ?_ ?_ _ | exact Or.inl (Nat.le_refl _))) k2
  have hm2 := HM.out.keep k12
  have hb2 := HB1.out.keep k12 (fun h => h)
  have KB2 := hid (KB1.out.trans k12)
  obtain ⟨x0, x1, x2, x3, x4, x5, x6, x7, x8, x9, x10⟩ := cells11 hb2
  obtain ⟨f0, f1, f2, f3, f4, f5, f6, f7, f8, f9, f10⟩ := frees11 hb2
  have HM2 := hid hm2
  clear k2 k12 hm2 hb2 HM KB1 HB1
  go_wp2_with fail
  with_reducible refine (which_met (n := n) (c := c) ?m2 HC.out).mono ?_
  case m2 => exact HM2.out
  rintro e w' ⟨rfl, rfl⟩
  go_wp2_with fail
  refine bodyPost_ret (v := .tuple #[.agg #[.slice none 0 0, .slice none 0 0, .slice none 0 0, .int .i64 0, .int .i64 0, .int .i64 0, .int .i64 0, .int .i64 0, .int .i64 0, .bool false, .int .i64 0], .int .i64 n, .int .i64 c]) (by simp [results, Tryd.results13, go_sem, x0, x1, x2, x3, x4, x5, x6, x7, x8, x9, x10]) rfl ?_
  refine ⟨rfl, ?_⟩
  have hk := KB2.out
  repeat' (first | with_reducible exact hk | with_reducible refine Keeps.setCell ?_ ?_ _ | exact Or.inl (Nat.le_refl _))

set_option maxHeartbeats 1000000 in
set_option maxRecDepth 100000 in
theorem Decode_ok {w : World} {a0 : Option Addr} {n0 c0 : Nat} {P : PCfg}
    (hd : Calls Tryd.prog 25 #[.slice a0 n0 c0] (w.alloc (.cells zeroCfg.toArray 33)) fun e w' => ∃ (C : Cfg) (sa ra ta : Option Addr) (sc rc tc : Nat), e = .returned (.tuple #[C.val (.slice sa C.sigs.length sc) (.slice ra C.ruls.length rc) (.slice ta C.tab.length tc), .nilIface]) ∧ CfgR w' C (.slice sa C.sigs.length sc) (.slice ra C.ruls.length rc) (.slice ta C.tab.length tc) ∧ C.pure = P ∧ Keeps No (w.alloc (.cells zeroCfg.toArray 33)) w' ∧ CfgN (w.heap.size + 1) C (.slice sa C.sigs.length sc) (.slice ra C.ruls.length rc) (.slice ta C.tab.length tc)) :
    Calls Tryd.prog 13 #[.slice a0 n0 c0] w fun e w' => ∃ (C : Cfg) (sv rv tv : Value), e = .returned (.tuple #[C.val sv rv tv, .int .i64 0, .int .i64 0]) ∧ CfgR w' C sv rv tv ∧ C.pure = P ∧ Keeps No w w' := by
  have HD := hid hd
  have HB : Hid (BlkL (w.alloc (.cells zeroCfg.toArray 33)) w.heap.size 33 zeroCfg) := hid (heap_alloc_new w _)
  have KB : Hid (Keeps No w (w.alloc (.cells zeroCfg.toArray 33))) := hid ((Keeps.refl _ _).alloc _)
  clear hd
  unfold zeroCfg Cfg.val Cfg.cells at HD
  go_enter Tryd.func13, Tryd.ntmps13
  go_wp2_with fail
  refine HD.out.mono ?_
  rintro e w1 ⟨C, sa, ra, ta, sc, rc, tc, rfl, hR, hP, k1, hN⟩
  have HR := hid hR
  have HP := hid hP
  have HN := hid hN
  have KB1 := hid (KB.out.trans k1)
  have HB1 := hid (HB.out.keep k1 (fun h => h))
  have hb1 := HB1.out.lt
  obtain ⟨W5, hW5⟩ : ∃ W5, w1.alloc (.cells #[.slice sa C.sigs.length sc, .slice ra C.ruls.length rc, .slice ta C.tab.length tc, .int .i64 C.b0, .int .i64 C.b1, .int .i64 C.b2, .int .i64 C.drain, .int .i64 C.pause, .int .i64 C.off, .bool C.brk, .int .i64 C.log] 33) = W5 := ⟨_, rfl⟩
  have k5 : Keeps No w1 W5 := by rw [← hW5]; exact (Keeps.refl _ _).alloc _
  have b5 : BlkL W5 w1.heap.size 33 [.slice sa C.sigs.length sc, .slice ra C.ruls.length rc, .slice ta C.tab.length tc, .int .i64 C.b0, .int .i64 C.b1, .int .i64 C.b2, .int .i64 C.drain, .int .i64 C.pause, .int .i64 C.off, .bool C.brk, .int .i64 C.log] := by rw [← hW5]; exact heap_alloc_new w1 _
  have hb5 := HB1.out.keep k5 (fun h => h)
  have HW5 := hid hW5
  have K5 := hid k5
  obtain ⟨x0, x1, x2, x3, x4, x5, x6, x7, x8, x9, x10⟩ := cells11 hb5
  obtain ⟨f0, f1, f2, f3, f4, f5, f6, f7, f8, f9, f10⟩ := frees11 hb5
  obtain ⟨y0, y1, y2, y3, y4, y5, y6, y7, y8, y9, y10⟩ := cells11 b5
  clear hR hP hN k1 HD HB KB hW5 k5 b5 hb5
  go_upto_region 4 with fail
  rw [HW5.out]
  have KW5 := hid (KB1.out.trans K5.out)
  go_wp2_with fail
  refine bodyPost_ret (v := .tuple #[.agg #[.slice sa C.sigs.length sc, .slice ra C.ruls.length rc, .slice ta C.tab.length tc, .int .i64 C.b0, .int .i64 C.b1, .int .i64 C.b2, .int .i64 C.drain, .int .i64 C.pause, .int .i64 C.off, .bool C.brk, .int .i64 C.log], .int .i64 0, .int .i64 0]) (by simp [results, Tryd.results13, go_sem, x0, x1, x2, x3, x4, x5, x6, x7, x8, x9, x10]) rfl ?_
  refine ⟨C, _, _, _, rfl, ?_, HP.out, ?_⟩
  · refine HR.out.keepN (S := fun k => k = w.heap.size) HN.out ?_ (fun b e => by omega)
    have hk : Keeps (fun k => k = w.heap.size) w1 W5 := K5.out.no
    repeat' (first | with_reducible exact hk | with_reducible refine Keeps.at ?_)
  · have hk := KW5.out
    repeat' (first | with_reducible exact hk | with_reducible refine Keeps.setCell ?_ ?_ _ | exact Or.inl (Nat.le_refl _))

end Go.Proofs.YtlenhccdkhgfgaaDoor
