/-
  The document's Same of configurations, of the same: the walk.
-/
import Derived.Test.YtlenhccdkhgfgaaDoorSame6
import Derived.Test.YtlenhccdkhgfgaaDoorMake
import Derived.Deep.DeepCutAuto
import Derived.Deep.CutBlock
namespace Go.Proofs.YtlenhccdkhgfgaaDoor
open Go.RowKit
set_option linter.unusedVariables false

theorem map_fst_get {α β : Type} {l l' : List (α × β)} (h : l.map (·.1) = l'.map (·.1)) {i : Nat} (h1 : i < l.length) (h2 : i < l'.length) : l[i].1 = l'[i].1 := by
  have := congrArg (fun x => x[i]?) h
  simp [h1, h2] at this
  exact this

set_option maxHeartbeats 2000000 in
set_option maxRecDepth 100000 in
theorem csame_true {w : World} {A B : Cfg} {s r t s' r' t' : Value} (R1 : CfgR w A s r t) (R2 : CfgR w B s' r' t') (hp : A.pure = B.pure) :
    Calls Tryd.prog 16 #[A.val s r t, B.val s' r' t'] w fun e w' => e = .returned (.bool true) ∧ Keeps No w w' := by
  obtain ⟨sg, ru, tb, b0, b1, b2, dr, pa, of_, br, lo⟩ := A
  obtain ⟨sg', ru', tb', b0', b1', b2', dr', pa', of_', br', lo'⟩ := B
  simp only [Cfg.pure, PCfg.mk.injEq] at hp
  obtain ⟨rfl, hr, ht, rfl, rfl, rfl, rfl, rfl, rfl, rfl, rfl⟩ := hp
  obtain ⟨x1, c1, rfl⟩ := R1.sig.any
  obtain ⟨x2, c2, rfl⟩ := R1.rul.any
  obtain ⟨x3, c3, rfl⟩ := R1.tab.any
  obtain ⟨y1, d1, rfl⟩ := R2.sig.any
  obtain ⟨y2, d2, rfl⟩ := R2.rul.any
  obtain ⟨y3, d3, rfl⟩ := R2.tab.any
  have hlr : ru'.length = ru.length := by simpa using (congrArg List.length hr).symm
  have hlt : tb'.length = tb.length := by simpa using (congrArg List.length ht).symm
  dsimp only at *
  have m1 := R1.sig.2.1
  have m2 := R1.rul.2.1
  have m3 := R1.tab.2.1
  dsimp only at m1 m2 m3
  unfold maxLen at m1 m2 m3
  obtain ⟨W1, hW1⟩ : ∃ W1, w.alloc (.cells #[.slice x1 sg.length c1, .slice x2 ru.length c2, .slice x3 tb.length c3, .int .i64 b0, .int .i64 b1, .int .i64 b2, .int .i64 dr, .int .i64 pa, .int .i64 of_, .bool br, .int .i64 lo] 33) = W1 := ⟨_, rfl⟩
  obtain ⟨W2, hW2⟩ : ∃ W2, W1.alloc (.cells #[.slice y1 sg.length d1, .slice y2 ru.length d2, .slice y3 tb.length d3, .int .i64 b0, .int .i64 b1, .int .i64 b2, .int .i64 dr, .int .i64 pa, .int .i64 of_, .bool br, .int .i64 lo] 33) = W2 := ⟨_, rfl⟩
  have z1 : W1.heap.size = w.heap.size + 1 := by rw [← hW1]; simp
  have k1 : Keeps No w W1 := by rw [← hW1]; exact (Keeps.refl _ _).alloc _
  have k2 : Keeps No W1 W2 := by rw [← hW2]; exact (Keeps.refl _ _).alloc _
  have ba : BlkL W2 w.heap.size 33 [.slice x1 sg.length c1, .slice x2 ru.length c2, .slice x3 tb.length c3, .int .i64 b0, .int .i64 b1, .int .i64 b2, .int .i64 dr, .int .i64 pa, .int .i64 of_, .bool br, .int .i64 lo] := BlkL.keep (by rw [← hW1]; exact heap_alloc_new w _) k2 (fun h => h)
  have bb : BlkL W2 (w.heap.size + 1) 33 [.slice y1 sg.length d1, .slice y2 ru.length d2, .slice y3 tb.length d3, .int .i64 b0, .int .i64 b1, .int .i64 b2, .int .i64 dr, .int .i64 pa, .int .i64 of_, .bool br, .int .i64 lo] := by rw [← hW2]; exact heap_alloc_at z1 _
  have KW := hid (k1.trans k2)
  have HW1 := hid hW1
  have HW2 := hid hW2
  have S1 := hid R1.sig
  have S2 := hid R2.sig
  have U1 := hid R1.rul
  have U2 := hid R2.rul
  have T1 := hid R1.tab
  have T2 := hid R2.tab
  have G1 := hid R1.stg
  have G2 := hid R2.stg
  have L1 := hid R1.slot
  have L2 := hid R2.slot
  dsimp only at S1 S2 U1 U2 T1 T2 G1 G2 L1 L2
  rw [hlr] at U2
  rw [hlt] at T2
  have HR := hid hr
  have HT := hid ht
  have HLR := hid hlr
  have HLT := hid hlt
  have hn1 := sig_neq_same
  have hn3 := arr_neq_same
  have gd1 := sig_guard
  have gd3 := arr_guard
  unfold Cfg.val Cfg.cells
  dsimp only
  rw [hlr, hlt]
  clear R1 R2 hW1 hW2 z1 k1 k2 hr ht hlr hlt
  go_enter Tryd.func16, Tryd.ntmps16
  go_upto_region 1 with fail
  rw [HW1.out, HW2.out]
  have ca := ba.cell (o := 0) rfl
  have HA := hid ba
  have HB := hid bb
  obtain ⟨a0, a1, a2, a3, a4, a5, a6, a7, a8, a9, a10⟩ : W2.cell? ⟨w.heap.size, 0, none⟩ = _ ∧ W2.cell? ⟨w.heap.size, 1, none⟩ = _ ∧ W2.cell? ⟨w.heap.size, 2, none⟩ = _ ∧ W2.cell? ⟨w.heap.size, 3, none⟩ = _ ∧ W2.cell? ⟨w.heap.size, 4, none⟩ = _ ∧ W2.cell? ⟨w.heap.size, 5, none⟩ = _ ∧ W2.cell? ⟨w.heap.size, 6, none⟩ = _ ∧ W2.cell? ⟨w.heap.size, 7, none⟩ = _ ∧ W2.cell? ⟨w.heap.size, 8, none⟩ = _ ∧ W2.cell? ⟨w.heap.size, 9, none⟩ = _ ∧ W2.cell? ⟨w.heap.size, 10, none⟩ = _ := ⟨ba.cell rfl, ba.cell rfl, ba.cell rfl, ba.cell rfl, ba.cell rfl, ba.cell rfl, ba.cell rfl, ba.cell rfl, ba.cell rfl, ba.cell rfl, ba.cell rfl⟩
  obtain ⟨e0, e1, e2, e3, e4, e5, e6, e7, e8, e9, e10⟩ : W2.cell? ⟨w.heap.size + 1, 0, none⟩ = _ ∧ W2.cell? ⟨w.heap.size + 1, 1, none⟩ = _ ∧ W2.cell? ⟨w.heap.size + 1, 2, none⟩ = _ ∧ W2.cell? ⟨w.heap.size + 1, 3, none⟩ = _ ∧ W2.cell? ⟨w.heap.size + 1, 4, none⟩ = _ ∧ W2.cell? ⟨w.heap.size + 1, 5, none⟩ = _ ∧ W2.cell? ⟨w.heap.size + 1, 6, none⟩ = _ ∧ W2.cell? ⟨w.heap.size + 1, 7, none⟩ = _ ∧ W2.cell? ⟨w.heap.size + 1, 8, none⟩ = _ ∧ W2.cell? ⟨w.heap.size + 1, 9, none⟩ = _ ∧ W2.cell? ⟨w.heap.size + 1, 10, none⟩ = _ := ⟨bb.cell rfl, bb.cell rfl, bb.cell rfl, bb.cell rfl, bb.cell rfl, bb.cell rfl, bb.cell rfl, bb.cell rfl, bb.cell rfl, bb.cell rfl, bb.cell rfl⟩
  clear ba bb ca HW1 HW2
  go_wp2_with fail
  clear a1 a2 a3 a4 a5 a6 a7 a8 a9 a10 e1 e2 e3 e4 e5 e6 e7 e8 e9 e10
  go_loopw [5] (fun v5 wr => ∃ k : Nat, k ≤ sg.length ∧ v5 = .int .i64 k ∧ Hid (Keeps No W2 wr)) (fun v5 _ => sg.length - (intOf v5).toNat)
  case atStart => exact ⟨0, Nat.zero_le _, rfl, hid (Keeps.refl _ _)⟩
  case round =>
    obtain ⟨k, hk, rfl, HK⟩ := hrel
    clear a0 e0
    have a0 := (HA.out.keep HK.out (fun h => h)).cell (o := 0) rfl
    have e0 := (HB.out.keep HK.out (fun h => h)).cell (o := 0) rfl
    by_cases hlt : k < sg.length
    · obtain ⟨⟨n1, n2⟩, hx⟩ : ∃ y, sg[k] = y := ⟨_, rfl⟩
      obtain ⟨ga, gao, rfl, hlp, p0⟩ := Sl.cellAt S1.out (j := k * 2 + 0) (by rw [getElem?_flatMap_enc (size := 2) (enc := encSig) (fun _ => rfl) _ k 0 (by omega) (by omega), hx]; rfl)
      obtain ⟨gx, ox, he, _, p1⟩ := Sl.cellAt S1.out (j := k * 2 + 1) (by rw [getElem?_flatMap_enc (size := 2) (enc := encSig) (fun _ => rfl) _ k 1 (by omega) (by omega), hx]; rfl)
      simp only [Option.some.injEq, Addr.mk.injEq, and_true] at he
      obtain ⟨rfl, rfl⟩ := he
      obtain ⟨gb, gbo, rfl, hlq, q0⟩ := Sl.cellAt S2.out (j := k * 2 + 0) (by rw [getElem?_flatMap_enc (size := 2) (enc := encSig) (fun _ => rfl) _ k 0 (by omega) (by omega), hx]; rfl)
      obtain ⟨gx, ox, he, _, q1⟩ := Sl.cellAt S2.out (j := k * 2 + 1) (by rw [getElem?_flatMap_enc (size := 2) (enc := encSig) (fun _ => rfl) _ k 1 (by omega) (by omega), hx]; rfl)
      simp only [Option.some.injEq, Addr.mk.injEq, and_true] at he
      obtain ⟨rfl, rfl⟩ := he
      have HKW := hid (KW.out.trans HK.out)
      simp only [Nat.add_zero] at p0
      replace p0 := HKW.out.cell (fun h => h) p0
      rw [← Nat.add_assoc] at p1
      replace p1 := HKW.out.cell (fun h => h) p1
      simp only [Nat.add_zero] at q0
      replace q0 := HKW.out.cell (fun h => h) q0
      rw [← Nat.add_assoc] at q1
      replace q1 := HKW.out.cell (fun h => h) q1
      clear hx
      go_wp2_with fail
      go_quiet (fail)
      go_wp2_with fail
      go_roundw
      case rel => exact ⟨k + 1, by omega, by go_num, hid (HK.out.drewN _)⟩
      case measure => simp [intOf]; omega
    · obtain rfl : k = sg.length := by omega
      go_wp2_with fail
      have K1 := HK
      clear HK a0 e0 hn1 gd1
      obtain ⟨w3, rfl⟩ : ∃ x, x = wr := ⟨_, rfl⟩
      go_loopw [6] (fun v6 wr => ∃ k : Nat, k ≤ ru.length ∧ v6 = .int .i64 k ∧ Hid (Keeps No W2 wr)) (fun v6 _ => ru.length - (intOf v6).toNat)
      case atStart => exact ⟨0, Nat.zero_le _, rfl, K1⟩
      case round =>
        obtain ⟨k, hk, rfl, HK⟩ := hrel
        have a1 := (HA.out.keep HK.out (fun h => h)).cell (o := 1) rfl
        have e1 := (HB.out.keep HK.out (fun h => h)).cell (o := 1) rfl
        by_cases hlt : k < ru.length
        · have hlt2 : k < ru'.length := by rw [HLR.out]; exact hlt
          obtain ⟨⟨r1, v1⟩, hx⟩ : ∃ y, ru[k] = y := ⟨_, rfl⟩
          obtain ⟨⟨r2, v2⟩, hy⟩ : ∃ y, ru'[k] = y := ⟨_, rfl⟩
          have hrr : r1 = r2 := by have := map_fst_get HR.out hlt hlt2; rw [hx, hy] at this; exact this
          subst hrr
          have HKW := hid (KW.out.trans HK.out)
          have hs1 := (G1.out _ (List.getElem_mem hlt)).keep HKW.out (fun _ _ h => h)
          have hs2 := (G2.out _ (List.getElem_mem hlt2)).keep HKW.out (fun _ _ h => h)
          rw [hx] at hs1
          rw [hy] at hs2
          dsimp only at hs1 hs2
          obtain ⟨m1a, m1c, rfl⟩ := hs1.any
          obtain ⟨m2a, m2c, rfl⟩ := hs2.any
          have hst := hs1.2.1
          unfold maxLen at hst
          have HS1 := hid hs1
          have HS2 := hid hs2
          obtain ⟨ga, gao, rfl, hlp, p0⟩ := Sl.cellAt U1.out (j := k * 9 + 0) (by rw [getElem?_flatMap_enc (size := 9) (enc := encRul) (fun _ => rfl) _ k 0 (by omega) (by omega), hx]; rfl)
          obtain ⟨gx, ox, he, _, p1⟩ := Sl.cellAt U1.out (j := k * 9 + 1) (by rw [getElem?_flatMap_enc (size := 9) (enc := encRul) (fun _ => rfl) _ k 1 (by omega) (by omega), hx]; rfl)
          simp only [Option.some.injEq, Addr.mk.injEq, and_true] at he
          obtain ⟨rfl, rfl⟩ := he
          obtain ⟨gx, ox, he, _, p2⟩ := Sl.cellAt U1.out (j := k * 9 + 2) (by rw [getElem?_flatMap_enc (size := 9) (enc := encRul) (fun _ => rfl) _ k 2 (by omega) (by omega), hx]; rfl)
          simp only [Option.some.injEq, Addr.mk.injEq, and_true] at he
          obtain ⟨rfl, rfl⟩ := he
          obtain ⟨gx, ox, he, _, p3⟩ := Sl.cellAt U1.out (j := k * 9 + 3) (by rw [getElem?_flatMap_enc (size := 9) (enc := encRul) (fun _ => rfl) _ k 3 (by omega) (by omega), hx]; rfl)
          simp only [Option.some.injEq, Addr.mk.injEq, and_true] at he
          obtain ⟨rfl, rfl⟩ := he
          obtain ⟨gx, ox, he, _, p4⟩ := Sl.cellAt U1.out (j := k * 9 + 4) (by rw [getElem?_flatMap_enc (size := 9) (enc := encRul) (fun _ => rfl) _ k 4 (by omega) (by omega), hx]; rfl)
          simp only [Option.some.injEq, Addr.mk.injEq, and_true] at he
          obtain ⟨rfl, rfl⟩ := he
          obtain ⟨gx, ox, he, _, p5⟩ := Sl.cellAt U1.out (j := k * 9 + 5) (by rw [getElem?_flatMap_enc (size := 9) (enc := encRul) (fun _ => rfl) _ k 5 (by omega) (by omega), hx]; rfl)
          simp only [Option.some.injEq, Addr.mk.injEq, and_true] at he
          obtain ⟨rfl, rfl⟩ := he
          obtain ⟨gx, ox, he, _, p6⟩ := Sl.cellAt U1.out (j := k * 9 + 6) (by rw [getElem?_flatMap_enc (size := 9) (enc := encRul) (fun _ => rfl) _ k 6 (by omega) (by omega), hx]; rfl)
          simp only [Option.some.injEq, Addr.mk.injEq, and_true] at he
          obtain ⟨rfl, rfl⟩ := he
          obtain ⟨gx, ox, he, _, p7⟩ := Sl.cellAt U1.out (j := k * 9 + 7) (by rw [getElem?_flatMap_enc (size := 9) (enc := encRul) (fun _ => rfl) _ k 7 (by omega) (by omega), hx]; rfl)
          simp only [Option.some.injEq, Addr.mk.injEq, and_true] at he
          obtain ⟨rfl, rfl⟩ := he
          obtain ⟨gx, ox, he, _, p8⟩ := Sl.cellAt U1.out (j := k * 9 + 8) (by rw [getElem?_flatMap_enc (size := 9) (enc := encRul) (fun _ => rfl) _ k 8 (by omega) (by omega), hx]; rfl)
          simp only [Option.some.injEq, Addr.mk.injEq, and_true] at he
          obtain ⟨rfl, rfl⟩ := he
          obtain ⟨gb, gbo, rfl, hlq, q0⟩ := Sl.cellAt U2.out (j := k * 9 + 0) (by rw [getElem?_flatMap_enc (size := 9) (enc := encRul) (fun _ => rfl) _ k 0 (by omega) (by omega), hy]; rfl)
          obtain ⟨gx, ox, he, _, q1⟩ := Sl.cellAt U2.out (j := k * 9 + 1) (by rw [getElem?_flatMap_enc (size := 9) (enc := encRul) (fun _ => rfl) _ k 1 (by omega) (by omega), hy]; rfl)
          simp only [Option.some.injEq, Addr.mk.injEq, and_true] at he
          obtain ⟨rfl, rfl⟩ := he
          obtain ⟨gx, ox, he, _, q2⟩ := Sl.cellAt U2.out (j := k * 9 + 2) (by rw [getElem?_flatMap_enc (size := 9) (enc := encRul) (fun _ => rfl) _ k 2 (by omega) (by omega), hy]; rfl)
          simp only [Option.some.injEq, Addr.mk.injEq, and_true] at he
          obtain ⟨rfl, rfl⟩ := he
          obtain ⟨gx, ox, he, _, q3⟩ := Sl.cellAt U2.out (j := k * 9 + 3) (by rw [getElem?_flatMap_enc (size := 9) (enc := encRul) (fun _ => rfl) _ k 3 (by omega) (by omega), hy]; rfl)
          simp only [Option.some.injEq, Addr.mk.injEq, and_true] at he
          obtain ⟨rfl, rfl⟩ := he
          obtain ⟨gx, ox, he, _, q4⟩ := Sl.cellAt U2.out (j := k * 9 + 4) (by rw [getElem?_flatMap_enc (size := 9) (enc := encRul) (fun _ => rfl) _ k 4 (by omega) (by omega), hy]; rfl)
          simp only [Option.some.injEq, Addr.mk.injEq, and_true] at he
          obtain ⟨rfl, rfl⟩ := he
          obtain ⟨gx, ox, he, _, q5⟩ := Sl.cellAt U2.out (j := k * 9 + 5) (by rw [getElem?_flatMap_enc (size := 9) (enc := encRul) (fun _ => rfl) _ k 5 (by omega) (by omega), hy]; rfl)
          simp only [Option.some.injEq, Addr.mk.injEq, and_true] at he
          obtain ⟨rfl, rfl⟩ := he
          obtain ⟨gx, ox, he, _, q6⟩ := Sl.cellAt U2.out (j := k * 9 + 6) (by rw [getElem?_flatMap_enc (size := 9) (enc := encRul) (fun _ => rfl) _ k 6 (by omega) (by omega), hy]; rfl)
          simp only [Option.some.injEq, Addr.mk.injEq, and_true] at he
          obtain ⟨rfl, rfl⟩ := he
          obtain ⟨gx, ox, he, _, q7⟩ := Sl.cellAt U2.out (j := k * 9 + 7) (by rw [getElem?_flatMap_enc (size := 9) (enc := encRul) (fun _ => rfl) _ k 7 (by omega) (by omega), hy]; rfl)
          simp only [Option.some.injEq, Addr.mk.injEq, and_true] at he
          obtain ⟨rfl, rfl⟩ := he
          obtain ⟨gx, ox, he, _, q8⟩ := Sl.cellAt U2.out (j := k * 9 + 8) (by rw [getElem?_flatMap_enc (size := 9) (enc := encRul) (fun _ => rfl) _ k 8 (by omega) (by omega), hy]; rfl)
          simp only [Option.some.injEq, Addr.mk.injEq, and_true] at he
          obtain ⟨rfl, rfl⟩ := he
          simp only [Nat.add_zero] at p0
          replace p0 := HKW.out.cell (fun h => h) p0
          rw [← Nat.add_assoc] at p1
          replace p1 := HKW.out.cell (fun h => h) p1
          rw [← Nat.add_assoc] at p2
          replace p2 := HKW.out.cell (fun h => h) p2
          rw [← Nat.add_assoc] at p3
          replace p3 := HKW.out.cell (fun h => h) p3
          rw [← Nat.add_assoc] at p4
          replace p4 := HKW.out.cell (fun h => h) p4
          rw [← Nat.add_assoc] at p5
          replace p5 := HKW.out.cell (fun h => h) p5
          rw [← Nat.add_assoc] at p6
          replace p6 := HKW.out.cell (fun h => h) p6
          rw [← Nat.add_assoc] at p7
          replace p7 := HKW.out.cell (fun h => h) p7
          rw [← Nat.add_assoc] at p8
          replace p8 := HKW.out.cell (fun h => h) p8
          simp only [Nat.add_zero] at q0
          replace q0 := HKW.out.cell (fun h => h) q0
          rw [← Nat.add_assoc] at q1
          replace q1 := HKW.out.cell (fun h => h) q1
          rw [← Nat.add_assoc] at q2
          replace q2 := HKW.out.cell (fun h => h) q2
          rw [← Nat.add_assoc] at q3
          replace q3 := HKW.out.cell (fun h => h) q3
          rw [← Nat.add_assoc] at q4
          replace q4 := HKW.out.cell (fun h => h) q4
          rw [← Nat.add_assoc] at q5
          replace q5 := HKW.out.cell (fun h => h) q5
          rw [← Nat.add_assoc] at q6
          replace q6 := HKW.out.cell (fun h => h) q6
          rw [← Nat.add_assoc] at q7
          replace q7 := HKW.out.cell (fun h => h) q7
          rw [← Nat.add_assoc] at q8
          replace q8 := HKW.out.cell (fun h => h) q8
          have hz1 : w.heap.size < wr.heap.size := World.block_lt_of_cell? wr _ a1
          have hz2 : w.heap.size + 1 < wr.heap.size := World.block_lt_of_cell? wr _ e1
          have hz3 : ga < wr.heap.size := World.block_lt_of_cell? wr _ p0
          have hz4 : gb < wr.heap.size := World.block_lt_of_cell? wr _ q0
          clear hx hy hs1 hs2
          go_upto_region 11 with fail
          go_cut [7, 8] (fun v7 v8 wx => ∃ xb yb, v7 = .pointer (some ⟨xb, 0, none⟩) ∧ v8 = .pointer (some ⟨yb, 0, none⟩) ∧ Hid (BlkL wx xb 49 (encRul (r1, .slice m1a r1.stages.length m1c))) ∧ Hid (BlkL wx yb 49 (encRul (r1, .slice m2a r1.stages.length m2c))) ∧ Hid (Keeps No wr wx))
          case first =>
            go_region
            all_goals
              go_wp2_with fail
              go_meet
              first
                | exact ⟨_, _, rfl, rfl, hid (heapA _ (heap_alloc_new wr _)), hid (heap_alloc_at (by simp) _), hid ((((Keeps.refl No wr).alloc _).alloc _).drew)⟩
                | exact ⟨_, _, rfl, rfl, hid (heap_alloc_at (by simp) _), hid (heapA _ (heap_alloc_new wr _)), hid ((((Keeps.refl No wr).alloc _).alloc _).drew)⟩
          case rest =>
            obtain ⟨xb, yb, rfl, rfl, X1, Y1, KX⟩ := hcut
            clear p0 p1 p2 p3 p4 p5 p6 p7 p8 q0 q1 q2 q3 q4 q5 q6 q7 q8
            obtain ⟨p0, p1, p2, p3, p4, p5, p6, p7, p8⟩ := cells9 X1.out
            obtain ⟨q0, q1, q2, q3, q4, q5, q6, q7, q8⟩ := cells9 Y1.out
            have hn2 := stg_neq_same
            have gd2 := stg_guard
            go_wp2_with fail
            clear p0 p1 p2 p3 p4 p5 p6 p7 q0 q1 q2 q3 q4 q5 q6 q7
            go_loopw [9] (fun v9 wz => ∃ j : Nat, j ≤ r1.stages.length ∧ v9 = .int .i64 j ∧ Hid (Keeps No wc wz)) (fun v9 _ => r1.stages.length - (intOf v9).toNat)
            case atStart => exact ⟨0, Nat.zero_le _, rfl, hid (Keeps.refl _ _)⟩
            case round =>
              obtain ⟨j, hj, rfl, HJ⟩ := hrel
              clear p8 q8
              have p8 := (X1.out.keep HJ.out (fun h => h)).cell (o := 8) rfl
              have q8 := (Y1.out.keep HJ.out (fun h => h)).cell (o := 8) rfl
              have HKJ := hid (KX.out.trans HJ.out)
              by_cases hjl : j < r1.stages.length
              · obtain ⟨⟨n1, n2⟩, hx⟩ : ∃ y, r1.stages[j] = y := ⟨_, rfl⟩
                obtain ⟨gc, gco, rfl, hlc, s0⟩ := Sl.cellAt HS1.out (j := j * 2 + 0) (by rw [getElem?_flatMap_enc (size := 2) (enc := encStg) (fun _ => rfl) _ j 0 (by omega) hjl, hx]; rfl)
                obtain ⟨gx, ox, he, _, s1⟩ := Sl.cellAt HS1.out (j := j * 2 + 1) (by rw [getElem?_flatMap_enc (size := 2) (enc := encStg) (fun _ => rfl) _ j 1 (by omega) hjl, hx]; rfl)
                simp only [Option.some.injEq, Addr.mk.injEq, and_true] at he
                obtain ⟨rfl, rfl⟩ := he
                obtain ⟨gd, gdo, rfl, hld, u0⟩ := Sl.cellAt HS2.out (j := j * 2 + 0) (by rw [getElem?_flatMap_enc (size := 2) (enc := encStg) (fun _ => rfl) _ j 0 (by omega) hjl, hx]; rfl)
                obtain ⟨gx, ox, he, _, u1⟩ := Sl.cellAt HS2.out (j := j * 2 + 1) (by rw [getElem?_flatMap_enc (size := 2) (enc := encStg) (fun _ => rfl) _ j 1 (by omega) hjl, hx]; rfl)
                simp only [Option.some.injEq, Addr.mk.injEq, and_true] at he
                obtain ⟨rfl, rfl⟩ := he
                simp only [Nat.add_zero] at s0 u0
                rw [← Nat.add_assoc] at s1 u1
                dsimp only at s0 s1 u0 u1 p8 q8
                replace s0 := HKJ.out.cell (fun h => h) s0
                replace s1 := HKJ.out.cell (fun h => h) s1
                replace u0 := HKJ.out.cell (fun h => h) u0
                replace u1 := HKJ.out.cell (fun h => h) u1
                clear hx
                go_wp2_with fail
                go_quiet (fail)
                go_wp2_with fail
                go_roundw
                case rel => exact ⟨j + 1, by omega, by go_num, hid (HJ.out.drewN _)⟩
                case measure => simp [intOf]; omega
              · obtain rfl : j = r1.stages.length := by omega
                go_wp2_with fail
                go_roundw
                case rel => exact ⟨k + 1, by omega, by go_num, hid (HK.out.trans HKJ.out)⟩
                case measure => simp [intOf]; omega
        · obtain rfl : k = ru.length := by omega
          go_wp2_with fail
          have K2 := HK
          clear HK a1 e1 K1
          obtain ⟨w4, rfl⟩ : ∃ x, x = wr := ⟨_, rfl⟩
          go_loopw [10] (fun v10 wr => ∃ k : Nat, k ≤ tb.length ∧ v10 = .int .i64 k ∧ Hid (Keeps No W2 wr)) (fun v10 _ => tb.length - (intOf v10).toNat)
          case atStart => exact ⟨0, Nat.zero_le _, rfl, K2⟩
          case round =>
            obtain ⟨k, hk, rfl, HK⟩ := hrel
            have a2 := (HA.out.keep HK.out (fun h => h)).cell (o := 2) rfl
            have e2 := (HB.out.keep HK.out (fun h => h)).cell (o := 2) rfl
            by_cases hlt : k < tb.length
            · have hlt2 : k < tb'.length := by rw [HLT.out]; exact hlt
              obtain ⟨⟨l1, v1⟩, hx⟩ : ∃ y, tb[k] = y := ⟨_, rfl⟩
              obtain ⟨⟨l2, v2⟩, hy⟩ : ∃ y, tb'[k] = y := ⟨_, rfl⟩
              have hll : l1 = l2 := by have := map_fst_get HT.out hlt hlt2; rw [hx, hy] at this; exact this
              subst hll
              have HKW := hid (KW.out.trans HK.out)
              have hs1 := L1.out _ (List.getElem_mem hlt)
              have hs2 := L2.out _ (List.getElem_mem hlt2)
              rw [hx] at hs1
              rw [hy] at hs2
              dsimp only at hs1 hs2
              have hs1 := Sl.keep hs1 (HKW.out.trans (drew_keeps _)) (fun _ _ h => h)
              have hs2 := Sl.keep hs2 (HKW.out.trans (drew_keeps _)) (fun _ _ h => h)
              obtain ⟨m1a, m1c, rfl⟩ := Sl.any hs1
              obtain ⟨m2a, m2c, rfl⟩ := Sl.any hs2
              have HS1 := hid hs1
              have HS2 := hid hs2
              obtain ⟨ga, gao, rfl, hlp, p0⟩ := Sl.cellAt T1.out (j := k) (u := .slice m1a l1.length m1c) (by rw [List.getElem?_map, List.getElem?_eq_getElem hlt, hx]; rfl)
              obtain ⟨gb, gbo, rfl, hlq, q0⟩ := Sl.cellAt T2.out (j := k) (u := .slice m2a l1.length m2c) (by rw [List.getElem?_map, List.getElem?_eq_getElem hlt2, hy]; rfl)
              replace p0 := HKW.out.cell (fun h => h) p0
              replace q0 := HKW.out.cell (fun h => h) q0
              clear hx hy hs1 hs2
              go_wp2_with fail
              go_still_tail 10, (by kernel_rfl)
              go_wp2_with fail
              refine (msame_true HS1.out HS2.out).mono ?_
              rintro e w9 ⟨rfl, k9⟩
              have K9 := hid (HK.out.trans ((drew_keeps _).trans k9))
              clear k9
              go_wp2_with fail
              go_roundw
              case rel => exact ⟨k + 1, by omega, by go_num, K9⟩
              case measure => simp [intOf]; omega
            · obtain rfl : k = tb.length := by omega
              go_wp2_with fail
              go_ret
              exact ⟨rfl, KW.out.trans HK.out⟩

end Go.Proofs.YtlenhccdkhgfgaaDoor
