/-
  Read: the document's, of any bytes.
-/
import Derived.Test.YtaakmlgkfbpdoaaSmp5
namespace Go.Proofs.Ytaakmlgkfbpdoaa
open Go.RowKit
set_option linter.unusedVariables false

theorem imp2 {p q : Prop} (h : p) (k : p → q) : q := k h

set_option maxHeartbeats 4000000 in
set_option maxRecDepth 100000 in
theorem rr_len {w : World} {pv sv : Value} {p : List Int} {L : List Sig} (hp : SlB w pv p) (hl : p.length ≤ 100000) (h7 : p.length ≠ 7) (hs : Sl w 2 sv L.length (L.flatMap encSig)) (hL : L.length ≤ 1000) :
    Calls Try.prog 18 #[pv, sv] w fun e w' => e = .returned (⟨0, 0, 0, false, 2⟩ : RdA).val ∧ Keeps No w w' := by
  obtain ⟨pa, pc, rfl⟩ := hp.any
  obtain ⟨sa, sc, rfl⟩ := hs.any
  obtain ⟨W1, hW1⟩ : ∃ W1, w.alloc (.cells #[.int .i64 0, .int .u8 0, .int .i64 0, .bool false] 47) = W1 := ⟨_, rfl⟩
  have k1 : Keeps No w W1 := by rw [← hW1]; exact (Keeps.refl _ _).alloc _
  have hz1 : W1.heap.size = w.heap.size + 1 := by rw [← hW1]; simp
  have hbx : BlkL W1 w.heap.size 47 [.int .i64 0, .int .u8 0, .int .i64 0, .bool false] := by rw [← hW1]; exact heap_alloc_new w _
  have HB := hid hbx
  have HWE := hid hW1
  have K1 := hid k1
  have HZ := hid hz1
  have HP := hid (hp.keep k1 (fun _ _ h => h))
  have HS := hid (hs.keep k1 (fun _ _ h => h))
  have d1 : ((p.length : Int) != 7) = true := by simp; omega
  obtain ⟨n, hn⟩ : ∃ n, p.length = n := ⟨_, rfl⟩
  rw [hn] at d1 ⊢
  clear hW1 k1 hz1 hbx hp hs hn h7 hl hL
  have y0 := HB.out.cell (o := 0) rfl
  have y1 := HB.out.cell (o := 1) rfl
  have y2 := HB.out.cell (o := 2) rfl
  have y3 := HB.out.cell (o := 3) rfl
  have q0 := HB.out.free 0
  have q1 := HB.out.free 1
  have q2 := HB.out.free 2
  have q3 := HB.out.free 3
  go_enter Try.func18, Try.ntmps18
  go_upto_region 1 with fail
  rw [HWE.out]
  have hbF := (((HB.out.put 0 (.int .i64 0) rfl).put 1 (.int .u8 0) rfl).put 2 (.int .i64 0) rfl).put 3 (.bool false) rfl
  have r0 := hbF.cell (o := 0) rfl
  have r1 := hbF.cell (o := 1) rfl
  have r2 := hbF.cell (o := 2) rfl
  have r3 := hbF.cell (o := 3) rfl
  have kF := (((K1.out.setCell (p := ⟨w.heap.size, 0, none⟩) (Or.inl (Nat.le_refl _)) (.int .i64 0)).setCell (p := ⟨w.heap.size, 1, none⟩) (Or.inl (Nat.le_refl _)) (.int .u8 0)).setCell (p := ⟨w.heap.size, 2, none⟩) (Or.inl (Nat.le_refl _)) (.int .i64 0)).setCell (p := ⟨w.heap.size, 3, none⟩) (Or.inl (Nat.le_refl _)) (.bool false)
  have KF := hid kF
  clear hbF kF
  go_wp2_with fail
  refine bodyPost_ret (v := .tuple #[.agg #[.int .i64 0, .int .u8 0, .int .i64 0, .bool false], .int .i64 2]) (by simp [results, Try.results18, go_sem, r0, r1, r2, r3]) rfl ?_
  exact ⟨by simp [RdA.val], KF.out⟩

set_option maxHeartbeats 4000000 in
set_option maxRecDepth 100000 in
theorem rr_seven {w : World} {pv sv : Value} {x1 x2 c d e g h : Int} {L : List Sig} (hp : SlB w pv [x1, x2, c, d, e, g, h]) (hb : Bytes [x1, x2, c, d, e, g, h]) (hs : Sl w 2 sv L.length (L.flatMap encSig)) (hL : L.length ≤ 1000) :
    Calls Try.prog 18 #[pv, sv] w fun r w' => r = .returned (rdSmp [x1, x2, c, d, e, g, h] L).val ∧ Keeps No w w' := by
  obtain ⟨pa, pc, rfl⟩ := hp.any
  obtain ⟨sa, sc, rfl⟩ := hs.any
  obtain ⟨W1, hW1⟩ : ∃ W1, w.alloc (.cells #[.int .i64 0, .int .u8 0, .int .i64 0, .bool false] 47) = W1 := ⟨_, rfl⟩
  have k1 : Keeps No w W1 := by rw [← hW1]; exact (Keeps.refl _ _).alloc _
  have hz1 : W1.heap.size = w.heap.size + 1 := by rw [← hW1]; simp
  have hbx : BlkL W1 w.heap.size 47 [.int .i64 0, .int .u8 0, .int .i64 0, .bool false] := by rw [← hW1]; exact heap_alloc_new w _
  have HB := hid hbx
  have HWE := hid hW1
  have K1 := hid k1
  have HZ := hid hz1
  have HP := hid (hp.keep k1 (fun _ _ h => h))
  have HS := hid (hs.keep k1 (fun _ _ h => h))
  obtain ⟨ga, off, rfl, hga, p0⟩ := SlB.cellAt HP.out (k := 0) (by simp)
  obtain ⟨ga1, off1, he1, _, p1⟩ := SlB.cellAt HP.out (k := 1) (by simp)
  obtain ⟨ga2, off2, he2, _, p2⟩ := SlB.cellAt HP.out (k := 2) (by simp)
  simp only [Option.some.injEq, Addr.mk.injEq, and_true] at he1 he2
  obtain ⟨rfl, rfl⟩ := he1
  obtain ⟨rfl, rfl⟩ := he2
  simp at p0 p1 p2
  have hx := hb x1 (by simp)
  obtain ⟨k, hk⟩ : ∃ k : Nat, x1 = k := ⟨x1.toNat, by omega⟩
  subst hk
  have hx5 : (k : Int) ≤ 255 := hx.2
  have HBY := hid hb
  clear hW1 k1 hz1 hbx hp hs hb hx
  by_cases hc1 : 1 < c
  · have d1 : decide (c > 1) = true := decide_eq_true hc1
    rw [show rdSmp [(k : Int), x2, c, d, e, g, h] L = ⟨0, 0, 0, false, 2⟩ by simp only [rdSmp, if_pos hc1]]
    clear hc1
    have y0 := HB.out.cell (o := 0) rfl
    have y1 := HB.out.cell (o := 1) rfl
    have y2 := HB.out.cell (o := 2) rfl
    have y3 := HB.out.cell (o := 3) rfl
    have q0 := HB.out.free 0
    have q1 := HB.out.free 1
    have q2 := HB.out.free 2
    have q3 := HB.out.free 3
    go_enter Try.func18, Try.ntmps18
    go_upto_region 1 with fail
    rw [HWE.out]
    have hbF := (((HB.out.put 0 (.int .i64 0) rfl).put 1 (.int .u8 0) rfl).put 2 (.int .i64 0) rfl).put 3 (.bool false) rfl
    have r0 := hbF.cell (o := 0) rfl
    have r1 := hbF.cell (o := 1) rfl
    have r2 := hbF.cell (o := 2) rfl
    have r3 := hbF.cell (o := 3) rfl
    have kF := (((K1.out.setCell (p := ⟨w.heap.size, 0, none⟩) (Or.inl (Nat.le_refl _)) (.int .i64 0)).setCell (p := ⟨w.heap.size, 1, none⟩) (Or.inl (Nat.le_refl _)) (.int .u8 0)).setCell (p := ⟨w.heap.size, 2, none⟩) (Or.inl (Nat.le_refl _)) (.int .i64 0)).setCell (p := ⟨w.heap.size, 3, none⟩) (Or.inl (Nat.le_refl _)) (.bool false)
    have KF := hid kF
    clear hbF kF
    go_wp2_with fail
    refine bodyPost_ret (v := .tuple #[.agg #[.int .i64 0, .int .u8 0, .int .i64 0, .bool false], .int .i64 2]) (by simp [results, Try.results18, go_sem, r0, r1, r2, r3]) rfl ?_
    exact ⟨by simp [RdA.val], KF.out⟩
  have d1 : decide (c > 1) = false := decide_eq_false hc1
  by_cases hkl : k < L.length
  · rw [show rdSmp [(k : Int), x2, c, d, e, g, h] L = ⟨k, x2, int32Of d e g h, (c == 1) || (decide (int32Of d e g h < L[k].mn) || decide (L[k].mx < int32Of d e g h)), 0⟩ by simp only [rdSmp, if_neg hc1, Int.toNat_natCast, dif_pos hkl]]
    have d2 : decide ((k : Int) ≥ L.length) = false := decide_eq_false (by omega)
    obtain ⟨⟨mn, mx⟩, hsg⟩ : ∃ s : Sig, L[k] = s := ⟨_, rfl⟩
    rw [hsg]
    simp only
    obtain ⟨W2, hW2⟩ : ∃ W2, W1.alloc (.cells #[.slice (some ⟨ga, off, none⟩) 7 pc, .int .i64 3, .int .i64 0] 91) = W2 := ⟨_, rfl⟩
    have hk2 : Keeps No W1 W2 := by rw [← hW2]; exact (Keeps.refl _ _).alloc _
    have hin : In W2 W1.heap.size (fun k => k = W1.heap.size ∨ k < W1.heap.size) [(k : Int), x2, c, d, e, g, h] ⟨[d, e, g, h], 3, 0⟩ := by
      refine ⟨.slice (some ⟨ga, off, none⟩) 7 pc, by rw [← hW2]; exact heap_alloc_new W1 _, HP.out.keep hk2 (fun _ _ h => h), fun h0 e => ?_, Or.inl rfl, fun h0 k hk => Or.inr (HP.out.lt h0 k hk), by simp, HBY.out, by simp, by simp⟩
      have := HP.out.lt h0 _ e; omega
    have HIN := hid hin
    have hb2 := HB.out.keep hk2 (fun h => h)
    have HB2 := hid hb2
    obtain ⟨g1, off1, rfl, hg1, c0⟩ := Sl.cellAt HS.out (j := k * 2 + 0) (u := .int .i64 mn) (by rw [getElem?_flatMap_enc (size := 2) (fun _ => rfl) L k 0 (by omega) hkl, hsg]; rfl)
    obtain ⟨g2, off2, he, hg2, c1⟩ := Sl.cellAt HS.out (j := k * 2 + 1) (u := .int .i64 mx) (by rw [getElem?_flatMap_enc (size := 2) (fun _ => rfl) L k 1 (by omega) hkl, hsg]; rfl)
    simp only [Option.some.injEq, Addr.mk.injEq, and_true] at he
    obtain ⟨rfl, rfl⟩ := he
    simp only [Nat.add_zero] at c0
    rw [← Nat.add_assoc] at c1
    have HW2 := hid hW2
    have K2 := hid hk2
    have HC0 := hid (hk2.cell (fun h => h) c0)
    have HC1 := hid (hk2.cell (fun h => h) c1)
    have hb2ne : W2.heap.size ≠ W1.heap.size := by rw [← hW2]; simp
    have hz2 : W2.heap.size = W1.heap.size + 1 := by rw [← hW2]; simp
    have hga2 : ga ≠ W2.heap.size := by omega
    have HZ2 := hid hz2
    clear hz2
    have hgne : ga ≠ W1.heap.size := by omega
    have hlb := HB.out.lt
    have m0 := hk2.cell (fun h => h) p0
    have m1 := hk2.cell (fun h => h) p1
    have m2 := hk2.cell (fun h => h) p2
    have hg1' : g1 ≠ W1.heap.size := by omega
    obtain ⟨x3, hx3⟩ : ∃ b, (c == 1) = b := ⟨_, rfl⟩
    rw [hx3]
    obtain ⟨v, hv⟩ : ∃ v, int32Of d e g h = v := ⟨_, rfl⟩
    rw [hv]
    obtain ⟨lo, D1⟩ : ∃ b, decide (v < mn) = b := ⟨_, rfl⟩
    obtain ⟨hi, D2⟩ : ∃ b, decide (mx < v) = b := ⟨_, rfl⟩
    have D3 : decide (v > mx) = hi := D2
    rw [D1, D2]
    clear D2
    have HV : Hid (((⟨[d, e, g, h], 3, 0⟩ : RS).int).1 = v) := hid (by rw [← hv]; rfl)
    clear hsg hW2 hk2 hin hb2 hv c0 c1
    go_enter Try.func18, Try.ntmps18
    go_upto_region 1 with fail
    rw [HWE.out]
    go_upto_region 6 with fail
    rw [HW2.out]
    clear p0 p1 p2
    go_region_held3 (fun w' => w'.cell? ⟨ga, off, none⟩ = some (.int .u8 k) ∧ w'.cell? ⟨ga, off + 1, none⟩ = some (.int .u8 x2) ∧ w'.cell? ⟨ga, off + 2, none⟩ = some (.int .u8 c)) (first | with_reducible exact ⟨m0, m1, m2⟩ | (go_keep; done) | exact ⟨((((Keeps.refl (fun i => i = W2.heap.size) w3).at).at).at).at.cell (fun e => hga2 e) m0, ((((Keeps.refl (fun i => i = W2.heap.size) w3).at).at).at).at.cell (fun e => hga2 e) m1, ((((Keeps.refl (fun i => i = W2.heap.size) w3).at).at).at).at.cell (fun e => hga2 e) m2⟩) ((go_at_call 40; (with_reducible refine (iint_any (HIN.out.keep (S := No) (by repeat' (first | with_reducible exact Keeps.refl _ _ | with_reducible assumption | with_reducible refine Keeps.drewN ?_ _ | with_reducible refine Keeps.drew ?_ | with_reducible refine Keeps.alloc ?_ _)) (fun _ _ h => h))).mono ?_); rw [HV.out]; rintro r w3 ⟨rfl, hin3, hk⟩; have HK3 : Hid (Keeps (fun i => i = W1.heap.size) W2 w3) := hid (Keeps.trans' (S := No) (by repeat' (first | with_reducible exact Keeps.refl _ _ | with_reducible assumption | with_reducible refine Keeps.drewN ?_ _ | with_reducible refine Keeps.drew ?_ | with_reducible refine Keeps.alloc ?_ _)) hk (fun _ _ h => h.elim) (fun _ _ h => h)); have m0 := HK3.out.cell (fun e => hgne e) m0; have m1 := HK3.out.cell (fun e => hgne e) m1; have m2 := HK3.out.cell (fun e => hgne e) m2; first | (refine imp2 (p := Keeps (fun i => i = W1.heap.size) (W2.alloc (.cells #[.int .i64 0, .int .u8 0, .int .i64 0, .bool false] 47)) w3) ?_ ?_; (focus (refine Keeps.trans' (S := No) ?_ hk (fun _ _ h => h.elim) (fun _ _ h => h); repeat' (first | with_reducible exact Keeps.refl _ _ | with_reducible assumption | with_reducible refine Keeps.drewN ?_ _ | with_reducible refine Keeps.drew ?_ | with_reducible refine Keeps.alloc ?_ _))); intro kz; have hnb := (show BlkL (W2.alloc (.cells #[.int .i64 0, .int .u8 0, .int .i64 0, .bool false] 47)) W2.heap.size 47 [.int .i64 0, .int .u8 0, .int .i64 0, .bool false] from heap_alloc_new W2 _).keep kz (fun e => hb2ne e); have n0 := hnb.cell (o := 0) rfl; have n1 := hnb.cell (o := 1) rfl; have n2 := hnb.cell (o := 2) rfl; have n3 := hnb.cell (o := 3) rfl; have e0 := hnb.free 0; have e1 := hnb.free 1; have e2 := hnb.free 2; have e3 := hnb.free 3; have HNB := hid hnb; clear hnb hk) | (clear hk)))
    · have hwk : IntKind.i64.wrap (k : Int) = k := by rw [IntKind.wrap_i64]; omega
      have hk03 := (K1.out.trans K2.out).trans' HK3.out (T := No) (fun _ _ h => h) (fun i hi e => by have := HZ.out; omega)
      have hb3 := HB2.out.keep HK3.out (fun e => by have := HZ.out; omega)
      have hc03 := HK3.out.cell (fun e => hg1' e) HC0.out
      have hc13 := HK3.out.cell (fun e => hg1' e) HC1.out
      obtain ⟨WX, hwx⟩ : ∃ WX, w3.alloc (.cells #[.int .i64 (IntKind.i64.wrap k), .int .u8 x2, .int .i64 v, .bool x3] 47) = WX := ⟨_, rfl⟩
      rw [hwx]
      rw [hwk] at hwx ⊢
      have hkx : Keeps No w3 WX := by rw [← hwx]; exact (Keeps.refl _ _).alloc _
      have HKW := hid (hk03.trans hkx)
      have HBW := hid (hb3.keep hkx (fun h => h))
      have HXC0 := hid (hkx.cell (fun h => h) hc03)
      have HXC1 := hid (hkx.cell (fun h => h) hc13)
      have HSW : Hid (BlkL WX w3.heap.size 47 [.int .i64 k, .int .u8 x2, .int .i64 v, .bool x3]) := hid (by rw [← hwx]; exact heap_alloc_new w3 _)
      clear hkx hk03 hb3 hc03 hc13 hwk
      have HBNE : Hid (w.heap.size ≠ w3.heap.size) := hid (by have := HZ.out; have := HZ2.out; have := HK3.out.size; omega)
      have HBGE : Hid (w.heap.size ≤ w3.heap.size) := hid (by have := HZ.out; have := HZ2.out; have := HK3.out.size; omega)
      clear hwx
      have a0 := HXC0.out
      have a1 := HXC1.out
      have z0 := HSW.out.cell (o := 0) rfl
      have z2 := HSW.out.cell (o := 2) rfl
      clear m0 m1 m2 hgne hga2 hb2ne hg1'
      cases lo
      · cases hi
        · go_upto_region 7 with fail
          go_quiet (fail)
          obtain ⟨WY, hWY⟩ : ∃ WY, WX.drewN nq = WY := ⟨_, rfl⟩
          have hky : Keeps No WX WY := by rw [← hWY]; exact (Keeps.refl _ _).drewN _
          have HBX := hid (HBW.out.keep hky (fun h => h))
          have HSX := hid (HSW.out.keep hky (fun h => h))
          have HKX := hid (HKW.out.trans hky)
          rw [hWY]
          clear hWY hky HBW HSW HKW z0 z2 a0 a1
          have y0 := HBX.out.cell (o := 0) rfl
          have y1 := HBX.out.cell (o := 1) rfl
          have y2 := HBX.out.cell (o := 2) rfl
          have y3 := HBX.out.cell (o := 3) rfl
          have q0 := HBX.out.free 0
          have q1 := HBX.out.free 1
          have q2 := HBX.out.free 2
          have q3 := HBX.out.free 3
          have z0 := HSX.out.cell (o := 0) rfl
          have z1 := HSX.out.cell (o := 1) rfl
          have z2 := HSX.out.cell (o := 2) rfl
          have z3 := HSX.out.cell (o := 3) rfl
          have u3 := HSX.out.free 3
          have hbF := (((HBX.out.put 0 (.int .i64 k) rfl).put 1 (.int .u8 x2) rfl).put 2 (.int .i64 v) rfl).put 3 (.bool x3) rfl
          have r0 := hbF.cell (o := 0) rfl
          have r1 := hbF.cell (o := 1) rfl
          have r2 := hbF.cell (o := 2) rfl
          have r3 := hbF.cell (o := 3) rfl
          have kF := (((HKX.out.setCell (p := ⟨w.heap.size, 0, none⟩) (Or.inl (Nat.le_refl _)) (.int .i64 k)).setCell (p := ⟨w.heap.size, 1, none⟩) (Or.inl (Nat.le_refl _)) (.int .u8 x2)).setCell (p := ⟨w.heap.size, 2, none⟩) (Or.inl (Nat.le_refl _)) (.int .i64 v)).setCell (p := ⟨w.heap.size, 3, none⟩) (Or.inl (Nat.le_refl _)) (.bool x3)
          have KF := hid kF
          clear hbF kF
          go_wp2_with fail
          refine bodyPost_ret (v := .tuple #[.agg #[.int .i64 k, .int .u8 x2, .int .i64 v, .bool x3], .int .i64 0]) (by simp [results, Try.results18, go_sem, r0, r1, r2, r3]) rfl ?_
          exact ⟨by simp [RdA.val], KF.out⟩
        · go_upto_region 7 with fail
          go_quiet (fail)
          obtain ⟨WY, hWY⟩ : ∃ WY, WX.drewN nq = WY := ⟨_, rfl⟩
          have hky : Keeps No WX WY := by rw [← hWY]; exact (Keeps.refl _ _).drewN _
          have HBX := hid (HBW.out.keep hky (fun h => h))
          have HSX := hid (HSW.out.keep hky (fun h => h))
          have HKX := hid (HKW.out.trans hky)
          rw [hWY]
          clear hWY hky HBW HSW HKW z0 z2 a0 a1
          have z3 := HSX.out.cell (o := 3) rfl
          have u3 := HSX.out.free 3
          go_upto_region 9 with fail
          obtain ⟨WZ, hWZ⟩ : ∃ WZ, WY.setCell ⟨w3.heap.size, 3, none⟩ (.bool true) = WZ := ⟨_, rfl⟩
          have hkz : Keeps (fun i => i = w3.heap.size) WY WZ := by rw [← hWZ]; exact (Keeps.refl _ _).at
          have hsz : BlkL WZ (w3.heap.size) 47 [.int .i64 k, .int .u8 x2, .int .i64 v, .bool true] := by rw [← hWZ]; exact HSX.out.put 3 _ rfl
          have hbz := HBX.out.keep hkz (fun e => HBNE.out e)
          have hkz2 := HKX.out.trans' hkz (T := No) (fun _ _ h => h) (fun i hi e => by have := HBGE.out; omega)
          rw [hWZ]
          clear z3 u3 hWZ hkz HBX HSX HKX
          have HBX := hid hbz
          have HSX := hid hsz
          have HKX := hid hkz2
          clear hbz hsz hkz2
          have y0 := HBX.out.cell (o := 0) rfl
          have y1 := HBX.out.cell (o := 1) rfl
          have y2 := HBX.out.cell (o := 2) rfl
          have y3 := HBX.out.cell (o := 3) rfl
          have q0 := HBX.out.free 0
          have q1 := HBX.out.free 1
          have q2 := HBX.out.free 2
          have q3 := HBX.out.free 3
          have z0 := HSX.out.cell (o := 0) rfl
          have z1 := HSX.out.cell (o := 1) rfl
          have z2 := HSX.out.cell (o := 2) rfl
          have z3 := HSX.out.cell (o := 3) rfl
          have u3 := HSX.out.free 3
          have hbF := (((HBX.out.put 0 (.int .i64 k) rfl).put 1 (.int .u8 x2) rfl).put 2 (.int .i64 v) rfl).put 3 (.bool true) rfl
          have r0 := hbF.cell (o := 0) rfl
          have r1 := hbF.cell (o := 1) rfl
          have r2 := hbF.cell (o := 2) rfl
          have r3 := hbF.cell (o := 3) rfl
          have kF := (((HKX.out.setCell (p := ⟨w.heap.size, 0, none⟩) (Or.inl (Nat.le_refl _)) (.int .i64 k)).setCell (p := ⟨w.heap.size, 1, none⟩) (Or.inl (Nat.le_refl _)) (.int .u8 x2)).setCell (p := ⟨w.heap.size, 2, none⟩) (Or.inl (Nat.le_refl _)) (.int .i64 v)).setCell (p := ⟨w.heap.size, 3, none⟩) (Or.inl (Nat.le_refl _)) (.bool true)
          have KF := hid kF
          clear hbF kF
          go_wp2_with fail
          refine bodyPost_ret (v := .tuple #[.agg #[.int .i64 k, .int .u8 x2, .int .i64 v, .bool true], .int .i64 0]) (by simp [results, Try.results18, go_sem, r0, r1, r2, r3]) rfl ?_
          exact ⟨by simp [RdA.val], KF.out⟩
      · go_upto_region 7 with fail
        go_quiet (fail)
        obtain ⟨WY, hWY⟩ : ∃ WY, WX.drewN nq = WY := ⟨_, rfl⟩
        have hky : Keeps No WX WY := by rw [← hWY]; exact (Keeps.refl _ _).drewN _
        have HBX := hid (HBW.out.keep hky (fun h => h))
        have HSX := hid (HSW.out.keep hky (fun h => h))
        have HKX := hid (HKW.out.trans hky)
        rw [hWY]
        clear hWY hky HBW HSW HKW z0 z2 a0 a1
        have z3 := HSX.out.cell (o := 3) rfl
        have u3 := HSX.out.free 3
        go_upto_region 9 with fail
        obtain ⟨WZ, hWZ⟩ : ∃ WZ, WY.setCell ⟨w3.heap.size, 3, none⟩ (.bool true) = WZ := ⟨_, rfl⟩
        have hkz : Keeps (fun i => i = w3.heap.size) WY WZ := by rw [← hWZ]; exact (Keeps.refl _ _).at
        have hsz : BlkL WZ (w3.heap.size) 47 [.int .i64 k, .int .u8 x2, .int .i64 v, .bool true] := by rw [← hWZ]; exact HSX.out.put 3 _ rfl
        have hbz := HBX.out.keep hkz (fun e => HBNE.out e)
        have hkz2 := HKX.out.trans' hkz (T := No) (fun _ _ h => h) (fun i hi e => by have := HBGE.out; omega)
        rw [hWZ]
        clear z3 u3 hWZ hkz HBX HSX HKX
        have HBX := hid hbz
        have HSX := hid hsz
        have HKX := hid hkz2
        clear hbz hsz hkz2
        have y0 := HBX.out.cell (o := 0) rfl
        have y1 := HBX.out.cell (o := 1) rfl
        have y2 := HBX.out.cell (o := 2) rfl
        have y3 := HBX.out.cell (o := 3) rfl
        have q0 := HBX.out.free 0
        have q1 := HBX.out.free 1
        have q2 := HBX.out.free 2
        have q3 := HBX.out.free 3
        have z0 := HSX.out.cell (o := 0) rfl
        have z1 := HSX.out.cell (o := 1) rfl
        have z2 := HSX.out.cell (o := 2) rfl
        have z3 := HSX.out.cell (o := 3) rfl
        have u3 := HSX.out.free 3
        have hbF := (((HBX.out.put 0 (.int .i64 k) rfl).put 1 (.int .u8 x2) rfl).put 2 (.int .i64 v) rfl).put 3 (.bool true) rfl
        have r0 := hbF.cell (o := 0) rfl
        have r1 := hbF.cell (o := 1) rfl
        have r2 := hbF.cell (o := 2) rfl
        have r3 := hbF.cell (o := 3) rfl
        have kF := (((HKX.out.setCell (p := ⟨w.heap.size, 0, none⟩) (Or.inl (Nat.le_refl _)) (.int .i64 k)).setCell (p := ⟨w.heap.size, 1, none⟩) (Or.inl (Nat.le_refl _)) (.int .u8 x2)).setCell (p := ⟨w.heap.size, 2, none⟩) (Or.inl (Nat.le_refl _)) (.int .i64 v)).setCell (p := ⟨w.heap.size, 3, none⟩) (Or.inl (Nat.le_refl _)) (.bool true)
        have KF := hid kF
        clear hbF kF
        go_wp2_with fail
        refine bodyPost_ret (v := .tuple #[.agg #[.int .i64 k, .int .u8 x2, .int .i64 v, .bool true], .int .i64 0]) (by simp [results, Try.results18, go_sem, r0, r1, r2, r3]) rfl ?_
        exact ⟨by simp [RdA.val], KF.out⟩
    · have hwk : IntKind.i64.wrap (k : Int) = k := by rw [IntKind.wrap_i64]; omega
      have hk03 := (K1.out.trans K2.out).trans' HK3.out (T := No) (fun _ _ h => h) (fun i hi e => by have := HZ.out; omega)
      have hb3 := HB2.out.keep HK3.out (fun e => by have := HZ.out; omega)
      have hc03 := HK3.out.cell (fun e => hg1' e) HC0.out
      have hc13 := HK3.out.cell (fun e => hg1' e) HC1.out
      obtain ⟨WX, hwx⟩ : ∃ WX, (((w3.setCell ⟨W2.heap.size, 0, none⟩ (.int .i64 (IntKind.i64.wrap k))).setCell ⟨W2.heap.size, 1, none⟩ (.int .u8 x2)).setCell ⟨W2.heap.size, 2, none⟩ (.int .i64 v)).setCell ⟨W2.heap.size, 3, none⟩ (.bool x3) = WX := ⟨_, rfl⟩
      rw [hwx]
      rw [hwk] at hwx ⊢
      have hkx : Keeps (fun i => i = W2.heap.size) w3 WX := by rw [← hwx]; exact (Keeps.refl _ _).at.at.at.at
      have HKW := hid (hk03.trans' hkx (T := No) (fun _ _ h => h) (fun i hi e => by have := HZ.out; have := HZ2.out; omega))
      have HBW := hid (hb3.keep hkx (fun e => by have := HZ.out; have := HZ2.out; omega))
      have HXC0 := hid (hkx.cell (fun e => by have := HZ2.out; change g1 = _ at e; omega) hc03)
      have HXC1 := hid (hkx.cell (fun e => by have := HZ2.out; change g1 = _ at e; omega) hc13)
      have HSW : Hid (BlkL WX W2.heap.size 47 [.int .i64 k, .int .u8 x2, .int .i64 v, .bool x3]) := hid (by rw [← hwx]; exact (((HNB.out.put 0 _ rfl).put 1 _ rfl).put 2 _ rfl).put 3 _ rfl)
      clear hkx hk03 hb3 hc03 hc13 hwk n0 n1 n2 n3 e0 e1 e2 e3 HNB
      have HBNE : Hid (w.heap.size ≠ W2.heap.size) := hid (by have := HZ.out; have := HZ2.out; have := HK3.out.size; omega)
      have HBGE : Hid (w.heap.size ≤ W2.heap.size) := hid (by have := HZ.out; have := HZ2.out; have := HK3.out.size; omega)
      clear hwx
      have a0 := HXC0.out
      have a1 := HXC1.out
      have z0 := HSW.out.cell (o := 0) rfl
      have z2 := HSW.out.cell (o := 2) rfl
      clear m0 m1 m2 hgne hga2 hb2ne hg1'
      cases lo
      · cases hi
        · go_upto_region 7 with fail
          go_quiet (fail)
          obtain ⟨WY, hWY⟩ : ∃ WY, WX.drewN nq = WY := ⟨_, rfl⟩
          have hky : Keeps No WX WY := by rw [← hWY]; exact (Keeps.refl _ _).drewN _
          have HBX := hid (HBW.out.keep hky (fun h => h))
          have HSX := hid (HSW.out.keep hky (fun h => h))
          have HKX := hid (HKW.out.trans hky)
          rw [hWY]
          clear hWY hky HBW HSW HKW z0 z2 a0 a1
          have y0 := HBX.out.cell (o := 0) rfl
          have y1 := HBX.out.cell (o := 1) rfl
          have y2 := HBX.out.cell (o := 2) rfl
          have y3 := HBX.out.cell (o := 3) rfl
          have q0 := HBX.out.free 0
          have q1 := HBX.out.free 1
          have q2 := HBX.out.free 2
          have q3 := HBX.out.free 3
          have z0 := HSX.out.cell (o := 0) rfl
          have z1 := HSX.out.cell (o := 1) rfl
          have z2 := HSX.out.cell (o := 2) rfl
          have z3 := HSX.out.cell (o := 3) rfl
          have u3 := HSX.out.free 3
          have hbF := (((HBX.out.put 0 (.int .i64 k) rfl).put 1 (.int .u8 x2) rfl).put 2 (.int .i64 v) rfl).put 3 (.bool x3) rfl
          have r0 := hbF.cell (o := 0) rfl
          have r1 := hbF.cell (o := 1) rfl
          have r2 := hbF.cell (o := 2) rfl
          have r3 := hbF.cell (o := 3) rfl
          have kF := (((HKX.out.setCell (p := ⟨w.heap.size, 0, none⟩) (Or.inl (Nat.le_refl _)) (.int .i64 k)).setCell (p := ⟨w.heap.size, 1, none⟩) (Or.inl (Nat.le_refl _)) (.int .u8 x2)).setCell (p := ⟨w.heap.size, 2, none⟩) (Or.inl (Nat.le_refl _)) (.int .i64 v)).setCell (p := ⟨w.heap.size, 3, none⟩) (Or.inl (Nat.le_refl _)) (.bool x3)
          have KF := hid kF
          clear hbF kF
          go_wp2_with fail
          refine bodyPost_ret (v := .tuple #[.agg #[.int .i64 k, .int .u8 x2, .int .i64 v, .bool x3], .int .i64 0]) (by simp [results, Try.results18, go_sem, r0, r1, r2, r3]) rfl ?_
          exact ⟨by simp [RdA.val], KF.out⟩
        · go_upto_region 7 with fail
          go_quiet (fail)
          obtain ⟨WY, hWY⟩ : ∃ WY, WX.drewN nq = WY := ⟨_, rfl⟩
          have hky : Keeps No WX WY := by rw [← hWY]; exact (Keeps.refl _ _).drewN _
          have HBX := hid (HBW.out.keep hky (fun h => h))
          have HSX := hid (HSW.out.keep hky (fun h => h))
          have HKX := hid (HKW.out.trans hky)
          rw [hWY]
          clear hWY hky HBW HSW HKW z0 z2 a0 a1
          have z3 := HSX.out.cell (o := 3) rfl
          have u3 := HSX.out.free 3
          go_upto_region 9 with fail
          obtain ⟨WZ, hWZ⟩ : ∃ WZ, WY.setCell ⟨W2.heap.size, 3, none⟩ (.bool true) = WZ := ⟨_, rfl⟩
          have hkz : Keeps (fun i => i = W2.heap.size) WY WZ := by rw [← hWZ]; exact (Keeps.refl _ _).at
          have hsz : BlkL WZ (W2.heap.size) 47 [.int .i64 k, .int .u8 x2, .int .i64 v, .bool true] := by rw [← hWZ]; exact HSX.out.put 3 _ rfl
          have hbz := HBX.out.keep hkz (fun e => HBNE.out e)
          have hkz2 := HKX.out.trans' hkz (T := No) (fun _ _ h => h) (fun i hi e => by have := HBGE.out; omega)
          rw [hWZ]
          clear z3 u3 hWZ hkz HBX HSX HKX
          have HBX := hid hbz
          have HSX := hid hsz
          have HKX := hid hkz2
          clear hbz hsz hkz2
          have y0 := HBX.out.cell (o := 0) rfl
          have y1 := HBX.out.cell (o := 1) rfl
          have y2 := HBX.out.cell (o := 2) rfl
          have y3 := HBX.out.cell (o := 3) rfl
          have q0 := HBX.out.free 0
          have q1 := HBX.out.free 1
          have q2 := HBX.out.free 2
          have q3 := HBX.out.free 3
          have z0 := HSX.out.cell (o := 0) rfl
          have z1 := HSX.out.cell (o := 1) rfl
          have z2 := HSX.out.cell (o := 2) rfl
          have z3 := HSX.out.cell (o := 3) rfl
          have u3 := HSX.out.free 3
          have hbF := (((HBX.out.put 0 (.int .i64 k) rfl).put 1 (.int .u8 x2) rfl).put 2 (.int .i64 v) rfl).put 3 (.bool true) rfl
          have r0 := hbF.cell (o := 0) rfl
          have r1 := hbF.cell (o := 1) rfl
          have r2 := hbF.cell (o := 2) rfl
          have r3 := hbF.cell (o := 3) rfl
          have kF := (((HKX.out.setCell (p := ⟨w.heap.size, 0, none⟩) (Or.inl (Nat.le_refl _)) (.int .i64 k)).setCell (p := ⟨w.heap.size, 1, none⟩) (Or.inl (Nat.le_refl _)) (.int .u8 x2)).setCell (p := ⟨w.heap.size, 2, none⟩) (Or.inl (Nat.le_refl _)) (.int .i64 v)).setCell (p := ⟨w.heap.size, 3, none⟩) (Or.inl (Nat.le_refl _)) (.bool true)
          have KF := hid kF
          clear hbF kF
          go_wp2_with fail
          refine bodyPost_ret (v := .tuple #[.agg #[.int .i64 k, .int .u8 x2, .int .i64 v, .bool true], .int .i64 0]) (by simp [results, Try.results18, go_sem, r0, r1, r2, r3]) rfl ?_
          exact ⟨by simp [RdA.val], KF.out⟩
      · go_upto_region 7 with fail
        go_quiet (fail)
        obtain ⟨WY, hWY⟩ : ∃ WY, WX.drewN nq = WY := ⟨_, rfl⟩
        have hky : Keeps No WX WY := by rw [← hWY]; exact (Keeps.refl _ _).drewN _
        have HBX := hid (HBW.out.keep hky (fun h => h))
        have HSX := hid (HSW.out.keep hky (fun h => h))
        have HKX := hid (HKW.out.trans hky)
        rw [hWY]
        clear hWY hky HBW HSW HKW z0 z2 a0 a1
        have z3 := HSX.out.cell (o := 3) rfl
        have u3 := HSX.out.free 3
        go_upto_region 9 with fail
        obtain ⟨WZ, hWZ⟩ : ∃ WZ, WY.setCell ⟨W2.heap.size, 3, none⟩ (.bool true) = WZ := ⟨_, rfl⟩
        have hkz : Keeps (fun i => i = W2.heap.size) WY WZ := by rw [← hWZ]; exact (Keeps.refl _ _).at
        have hsz : BlkL WZ (W2.heap.size) 47 [.int .i64 k, .int .u8 x2, .int .i64 v, .bool true] := by rw [← hWZ]; exact HSX.out.put 3 _ rfl
        have hbz := HBX.out.keep hkz (fun e => HBNE.out e)
        have hkz2 := HKX.out.trans' hkz (T := No) (fun _ _ h => h) (fun i hi e => by have := HBGE.out; omega)
        rw [hWZ]
        clear z3 u3 hWZ hkz HBX HSX HKX
        have HBX := hid hbz
        have HSX := hid hsz
        have HKX := hid hkz2
        clear hbz hsz hkz2
        have y0 := HBX.out.cell (o := 0) rfl
        have y1 := HBX.out.cell (o := 1) rfl
        have y2 := HBX.out.cell (o := 2) rfl
        have y3 := HBX.out.cell (o := 3) rfl
        have q0 := HBX.out.free 0
        have q1 := HBX.out.free 1
        have q2 := HBX.out.free 2
        have q3 := HBX.out.free 3
        have z0 := HSX.out.cell (o := 0) rfl
        have z1 := HSX.out.cell (o := 1) rfl
        have z2 := HSX.out.cell (o := 2) rfl
        have z3 := HSX.out.cell (o := 3) rfl
        have u3 := HSX.out.free 3
        have hbF := (((HBX.out.put 0 (.int .i64 k) rfl).put 1 (.int .u8 x2) rfl).put 2 (.int .i64 v) rfl).put 3 (.bool true) rfl
        have r0 := hbF.cell (o := 0) rfl
        have r1 := hbF.cell (o := 1) rfl
        have r2 := hbF.cell (o := 2) rfl
        have r3 := hbF.cell (o := 3) rfl
        have kF := (((HKX.out.setCell (p := ⟨w.heap.size, 0, none⟩) (Or.inl (Nat.le_refl _)) (.int .i64 k)).setCell (p := ⟨w.heap.size, 1, none⟩) (Or.inl (Nat.le_refl _)) (.int .u8 x2)).setCell (p := ⟨w.heap.size, 2, none⟩) (Or.inl (Nat.le_refl _)) (.int .i64 v)).setCell (p := ⟨w.heap.size, 3, none⟩) (Or.inl (Nat.le_refl _)) (.bool true)
        have KF := hid kF
        clear hbF kF
        go_wp2_with fail
        refine bodyPost_ret (v := .tuple #[.agg #[.int .i64 k, .int .u8 x2, .int .i64 v, .bool true], .int .i64 0]) (by simp [results, Try.results18, go_sem, r0, r1, r2, r3]) rfl ?_
        exact ⟨by simp [RdA.val], KF.out⟩
  · rw [show rdSmp [(k : Int), x2, c, d, e, g, h] L = ⟨0, 0, 0, false, 7⟩ by simp only [rdSmp, if_neg hc1, Int.toNat_natCast, dif_neg hkl]]
    have d2 : decide ((k : Int) ≥ L.length) = true := decide_eq_true (by omega)
    clear hc1
    have y0 := HB.out.cell (o := 0) rfl
    have y1 := HB.out.cell (o := 1) rfl
    have y2 := HB.out.cell (o := 2) rfl
    have y3 := HB.out.cell (o := 3) rfl
    have q0 := HB.out.free 0
    have q1 := HB.out.free 1
    have q2 := HB.out.free 2
    have q3 := HB.out.free 3
    go_enter Try.func18, Try.ntmps18
    go_upto_region 1 with fail
    rw [HWE.out]
    have hbF := (((HB.out.put 0 (.int .i64 0) rfl).put 1 (.int .u8 0) rfl).put 2 (.int .i64 0) rfl).put 3 (.bool false) rfl
    have r0 := hbF.cell (o := 0) rfl
    have r1 := hbF.cell (o := 1) rfl
    have r2 := hbF.cell (o := 2) rfl
    have r3 := hbF.cell (o := 3) rfl
    have kF := (((K1.out.setCell (p := ⟨w.heap.size, 0, none⟩) (Or.inl (Nat.le_refl _)) (.int .i64 0)).setCell (p := ⟨w.heap.size, 1, none⟩) (Or.inl (Nat.le_refl _)) (.int .u8 0)).setCell (p := ⟨w.heap.size, 2, none⟩) (Or.inl (Nat.le_refl _)) (.int .i64 0)).setCell (p := ⟨w.heap.size, 3, none⟩) (Or.inl (Nat.le_refl _)) (.bool false)
    have KF := hid kF
    clear hbF kF
    go_wp2_with fail
    refine bodyPost_ret (v := .tuple #[.agg #[.int .i64 0, .int .u8 0, .int .i64 0, .bool false], .int .i64 7]) (by simp [results, Try.results18, go_sem, r0, r1, r2, r3]) rfl ?_
    exact ⟨by simp [RdA.val], KF.out⟩

end Go.Proofs.Ytaakmlgkfbpdoaa
