/-
  The document's bounds: how late.
-/
import Derived.Test.YtdibdjllcdnhaaaTblN
import Derived.Test.YtdibdjllcdnhaaaMake
import Derived.Test.YtdibdjllcdnhaaaCellP
namespace Go.Proofs.Ytdibdjllcdnhaaa
open Go.RowKit
set_option linter.unusedVariables false

set_option maxHeartbeats 8000000 in
set_option maxRecDepth 100000 in
theorem mlate_any {w : World} {C : Cfg} {sg ru tb : Option Addr} {sgc ruc tbc : Nat} (h : CfgR w C (.slice sg C.sigs.length sgc) (.slice ru C.ruls.length ruc) (.slice tb C.tab.length tbc)) (hm : Made C) (hsh : ∀ l ∈ C.tab, l.1.length ≤ 100000) (r : Int) :
    Calls Try.prog 10 #[.agg #[.slice sg C.sigs.length sgc, .slice ru C.ruls.length ruc, .slice tb C.tab.length tbc, .int .i64 C.b0, .int .i64 C.b1, .int .i64 C.b2, .int .i64 C.drain, .int .i64 C.pause, .int .i64 C.off, .bool C.brk, .int .i64 C.log], .int .i64 r] w fun e w' => e = .returned (.int .i64 (lateD C r)) ∧ Keeps No w w' := by
  obtain ⟨RN, hRN⟩ : ∃ q, C.ruls.length = q := ⟨_, rfl⟩
  obtain ⟨N, hN⟩ : ∃ q, C.tab.length = q := ⟨_, rfl⟩
  have hr8 : 1 ≤ RN ∧ RN ≤ 8 := by rw [← hRN]; exact hm.few
  have hn6 : 1 ≤ N ∧ N ≤ 6 := by rw [← hN]; exact hm.slots
  obtain ⟨r1, r8⟩ := hr8
  obtain ⟨n1, n6⟩ := hn6
  have HRN := hid hRN
  have HNN := hid hN
  have HC := hid h
  have HM := hid hm
  have HSH := hid hsh
  rw [hRN, hN] at HC ⊢
  clear h hm hRN hN hsh
  obtain ⟨W1, hW1⟩ : ∃ W1, w.alloc (.cells #[.slice sg C.sigs.length sgc, .slice ru RN ruc, .slice tb N tbc, .int .i64 C.b0, .int .i64 C.b1, .int .i64 C.b2, .int .i64 C.drain, .int .i64 C.pause, .int .i64 C.off, .bool C.brk, .int .i64 C.log] 33) = W1 := ⟨_, rfl⟩
  have k1 : Keeps No w W1 := by rw [← hW1]; exact (Keeps.refl _ _).alloc _
  have HBK : Hid (Bk W1 w.heap.size 33 [.slice sg C.sigs.length sgc, .slice ru RN ruc, .slice tb N tbc, .int .i64 C.b0, .int .i64 C.b1, .int .i64 C.b2, .int .i64 C.drain, .int .i64 C.pause, .int .i64 C.off, .bool C.brk, .int .i64 C.log]) := hid (by rw [← hW1]; exact Bk.new rfl _ _)
  have K1 := hid k1
  have HW1 := hid hW1
  have HT := hid (HC.out.tabR.calm k1)
  have HRU := hid (HC.out.rul.keep k1 (fun _ _ h => h))
  clear k1 hW1
  obtain ⟨wb, hwb⟩ : ∃ q, w.heap.size = q := ⟨_, rfl⟩
  rw [hwb] at HBK
  have HWB := hid hwb
  clear hwb
  have x0_0 := HBK.out.cell 0 rfl
  have x0_1 := HBK.out.cell 1 rfl
  have x0_2 := HBK.out.cell 2 rfl
  have x0_3 := HBK.out.cell 3 rfl
  have x0_4 := HBK.out.cell 4 rfl
  have x0_5 := HBK.out.cell 5 rfl
  have x0_6 := HBK.out.cell 6 rfl
  have x0_7 := HBK.out.cell 7 rfl
  have x0_8 := HBK.out.cell 8 rfl
  have x0_9 := HBK.out.cell 9 rfl
  have x0_10 := HBK.out.cell 10 rfl
  by_cases hin : 0 ≤ r ∧ r < RN
  · obtain ⟨i0, i1⟩ := hin
    obtain ⟨k, hk⟩ : ∃ k : Nat, r = (k : Int) := ⟨r.toNat, by omega⟩
    subst hk
    have hkR : k < RN := by omega
    have hkl : k < C.ruls.length := by rw [HRN.out]; exact hkR
    obtain ⟨g, hg⟩ : ∃ q : Nat, gapD (C.tab.map (·.1)) (k : Int) = q := ⟨_, rfl⟩
    have hg12 : g ≤ 12 := by
      rw [← hg]; unfold gapD; rw [List.length_map, HNN.out]
      rcases gapF_le (h := hasD (C.tab.map (·.1)) (k : Int)) (2 * N) with h | ⟨p, q, h1, h2, h3, _, _, _, h4⟩ <;> omega
    obtain ⟨wt, hwt⟩ : ∃ q : Int, waitD RN N = q := ⟨_, rfl⟩
    have hw0 : 0 ≤ wt ∧ wt ≤ 54 := by
      rw [← hwt]; unfold waitD
      refine ⟨Int.mul_nonneg (by omega) (by omega), ?_⟩
      have := Int.mul_le_mul (show (RN : Int) + 1 ≤ 9 by omega) (show (N : Int) ≤ 6 by omega) (by omega) (by omega)
      omega
    obtain ⟨x, hx⟩ : ∃ x, C.ruls[k] = x := ⟨_, rfl⟩
    obtain ⟨dl, hdl⟩ : ∃ q, x.1.delay = q := ⟨_, rfl⟩
    have hok := HM.out.ruls x (by rw [← hx]; exact List.getElem_mem hkl)
    have hd0 : 0 ≤ dl ∧ dl ≤ 1000 := by rw [← hdl]; have := hok.num.delay; omega
    obtain ⟨rg, rof, hra, hrg, hc⟩ := Sl.itemC (enc := encRul) (size := 9) (fun _ => rfl) (by decide) (by have h1 := HRU.out; rw [HRN.out] at h1; exact h1) hkl hx
    subst hra
    have y4 := hc 4 (.int .i64 dl) (by rw [← hdl]; rfl)
    have HY := hid y4
    have HG := hid (fun (w' : World) (kw : Keeps No W1 w') => mgap_any (sa := sg) (sn := C.sigs.length) (sc := sgc) (ra := some ⟨rg, rof, none⟩) (rn := RN) (rc := ruc) (tc := tbc) (HT.out.calm kw) HNN.out ⟨n1, by omega⟩ HSH.out (k : Int) C.b0 C.b1 C.b2 C.drain C.pause C.off C.log C.brk)
    have HWT := hid (fun (w' : World) => mwait_any (sa := sg) (sn := C.sigs.length) (sc := sgc) (ra := some ⟨rg, rof, none⟩) (rn := RN) (rc := ruc) (ta := tb) (N := N) (tc := tbc) w' (by omega) (by omega) C.b0 C.b1 C.b2 C.drain C.pause C.off C.log C.brk)
    rw [hg] at HG
    rw [hwt] at HWT
    have HRES : Hid (lateD C (k : Int) = IntKind.i64.wrap (IntKind.i64.wrap (IntKind.i64.wrap (dl + g) + g) + wt)) := hid (by
      have e1 : isRule C (k : Int) = true := decide_eq_true ⟨by omega, by rw [HRN.out]; omega⟩
      unfold lateD
      rw [if_pos e1, hg, HRN.out, HNN.out, hwt]
      have e2 : delayD C (k : Int) = dl := by unfold delayD; rw [Int.toNat_natCast, List.getD_eq_getElem?_getD, List.getElem?_map, List.getElem?_eq_getElem hkl, hx]; exact hdl
      rw [e2]
      simp only [IntKind.wrap_i64]
      omega)
    rw [HRES.out]
    have d1 : decide ((k : Int) < 0) = false := decide_eq_false (by omega)
    have d2 : decide ((k : Int) ≥ (RN : Int)) = false := decide_eq_false (by omega)
    have d3 : decide (RN ≤ k) = false := decide_eq_false (by omega)
    clear hg hwt hx hdl hok hc y4 hkl
    go_enter Try.func10, Try.ntmps10
    go_upto_region 1 with fail
    rw [HW1.out, HWB.out]
    clear HW1 HWB
    go_upto_region 3 with fail
    have yy := HY.out
    first | go_region_held3 (fun w' => w'.cell? ⟨wb, 0, none⟩ = some (.slice sg C.sigs.length sgc) ∧ w'.cell? ⟨wb, 1, none⟩ = some (.slice (some ⟨rg, rof, none⟩) RN ruc) ∧ w'.cell? ⟨wb, 2, none⟩ = some (.slice tb N tbc) ∧ w'.cell? ⟨wb, 3, none⟩ = some (.int .i64 C.b0) ∧ w'.cell? ⟨wb, 4, none⟩ = some (.int .i64 C.b1) ∧ w'.cell? ⟨wb, 5, none⟩ = some (.int .i64 C.b2) ∧ w'.cell? ⟨wb, 6, none⟩ = some (.int .i64 C.drain) ∧ w'.cell? ⟨wb, 7, none⟩ = some (.int .i64 C.pause) ∧ w'.cell? ⟨wb, 8, none⟩ = some (.int .i64 C.off) ∧ w'.cell? ⟨wb, 9, none⟩ = some (.bool C.brk) ∧ w'.cell? ⟨wb, 10, none⟩ = some (.int .i64 C.log) ∧ w'.cell? ⟨rg, rof + k * 9 + 4, none⟩ = some (.int .i64 dl)) (first | with_reducible exact ⟨x0_0, x0_1, x0_2, x0_3, x0_4, x0_5, x0_6, x0_7, x0_8, x0_9, x0_10, yy⟩ | with_reducible exact ⟨cellDr x0_0, cellDr x0_1, cellDr x0_2, cellDr x0_3, cellDr x0_4, cellDr x0_5, cellDr x0_6, cellDr x0_7, cellDr x0_8, cellDr x0_9, cellDr x0_10, cellDr yy⟩ | with_reducible exact ⟨cellA _ x0_0, cellA _ x0_1, cellA _ x0_2, cellA _ x0_3, cellA _ x0_4, cellA _ x0_5, cellA _ x0_6, cellA _ x0_7, cellA _ x0_8, cellA _ x0_9, cellA _ x0_10, cellA _ yy⟩ | with_reducible exact ⟨cellDr (cellA _ x0_0), cellDr (cellA _ x0_1), cellDr (cellA _ x0_2), cellDr (cellA _ x0_3), cellDr (cellA _ x0_4), cellDr (cellA _ x0_5), cellDr (cellA _ x0_6), cellDr (cellA _ x0_7), cellDr (cellA _ x0_8), cellDr (cellA _ x0_9), cellDr (cellA _ x0_10), cellDr (cellA _ yy)⟩ | (go_keep; done)) (first | (go_at_call 8; (with_reducible refine (HG.out _ (by repeat' (first | with_reducible exact Keeps.refl _ _ | with_reducible assumption | with_reducible refine Keeps.drewN ?_ _ | with_reducible refine Keeps.drew ?_ | with_reducible refine Keeps.alloc ?_ _))).mono ?_); rintro e w9 ⟨rfl, k⟩; have kk : Keeps No W1 w9 := Keeps.trans (by repeat' (first | with_reducible exact Keeps.refl _ _ | with_reducible assumption | with_reducible refine Keeps.drewN ?_ _ | with_reducible refine Keeps.drew ?_ | with_reducible refine Keeps.alloc ?_ _)) k; have g0 := HBK.out.kept kk; have x0_0 := g0.cell 0 rfl; have x0_1 := g0.cell 1 rfl; have x0_2 := g0.cell 2 rfl; have x0_3 := g0.cell 3 rfl; have x0_4 := g0.cell 4 rfl; have x0_5 := g0.cell 5 rfl; have x0_6 := g0.cell 6 rfl; have x0_7 := g0.cell 7 rfl; have x0_8 := g0.cell 8 rfl; have x0_9 := g0.cell 9 rfl; have x0_10 := g0.cell 10 rfl; have yy := kk.cell (fun h => h) HY.out; clear k g0) | (go_at_call 14; (with_reducible refine (HWT.out _).mono ?_); rintro e w9 ⟨rfl, k⟩; have kk : Keeps No W1 w9 := Keeps.trans (by repeat' (first | with_reducible exact Keeps.refl _ _ | with_reducible assumption | with_reducible refine Keeps.drewN ?_ _ | with_reducible refine Keeps.drew ?_ | with_reducible refine Keeps.alloc ?_ _)) k; have g0 := HBK.out.kept kk; have x0_0 := g0.cell 0 rfl; have x0_1 := g0.cell 1 rfl; have x0_2 := g0.cell 2 rfl; have x0_3 := g0.cell 3 rfl; have x0_4 := g0.cell 4 rfl; have x0_5 := g0.cell 5 rfl; have x0_6 := g0.cell 6 rfl; have x0_7 := g0.cell 7 rfl; have x0_8 := g0.cell 8 rfl; have x0_9 := g0.cell 9 rfl; have x0_10 := g0.cell 10 rfl; have yy := kk.cell (fun h => h) HY.out; clear k g0)) | fail
    all_goals
      go_wp2_with fail
      go_ret
      exact ⟨rfl, K1.out.trans kk⟩
  · have HRES : Hid (lateD C r = 0) := hid (by
      have e1 : isRule C r = false := decide_eq_false (by rw [HRN.out]; exact hin)
      unfold lateD
      rw [if_neg (by rw [e1]; decide)])
    rw [HRES.out]
    by_cases hn : r < 0
    · have d1 : decide (r < 0) = true := decide_eq_true hn
      go_enter Try.func10, Try.ntmps10
      go_upto_region 1 with fail
      rw [HW1.out, HWB.out]
      clear HW1 HWB
      go_wp2_with fail
      go_ret
      exact ⟨rfl, K1.out⟩
    · have d1 : decide (r < 0) = false := decide_eq_false hn
      have d2 : decide (r ≥ (RN : Int)) = true := decide_eq_true (by omega)
      have d3 : decide ((RN : Int) ≤ r) = true := decide_eq_true (by omega)
      go_enter Try.func10, Try.ntmps10
      go_upto_region 1 with fail
      rw [HW1.out, HWB.out]
      clear HW1 HWB
      go_wp2_with fail
      go_ret
      exact ⟨rfl, K1.out⟩

set_option maxHeartbeats 8000000 in
set_option maxRecDepth 100000 in
theorem mgone_any {w : World} {C : Cfg} {sg ru tb : Option Addr} {sgc ruc tbc : Nat} (h : CfgR w C (.slice sg C.sigs.length sgc) (.slice ru C.ruls.length ruc) (.slice tb C.tab.length tbc)) (hm : Made C) (hsh : ∀ l ∈ C.tab, l.1.length ≤ 100000) (r : Int) :
    Calls Try.prog 12 #[.agg #[.slice sg C.sigs.length sgc, .slice ru C.ruls.length ruc, .slice tb C.tab.length tbc, .int .i64 C.b0, .int .i64 C.b1, .int .i64 C.b2, .int .i64 C.drain, .int .i64 C.pause, .int .i64 C.off, .bool C.brk, .int .i64 C.log], .int .i64 r] w fun e w' => e = .returned (.int .i64 (goneD C r)) ∧ Keeps No w w' := by
  obtain ⟨RN, hRN⟩ : ∃ q, C.ruls.length = q := ⟨_, rfl⟩
  obtain ⟨N, hN⟩ : ∃ q, C.tab.length = q := ⟨_, rfl⟩
  have hr8 : 1 ≤ RN ∧ RN ≤ 8 := by rw [← hRN]; exact hm.few
  have hn6 : 1 ≤ N ∧ N ≤ 6 := by rw [← hN]; exact hm.slots
  obtain ⟨r1, r8⟩ := hr8
  obtain ⟨n1, n6⟩ := hn6
  have HRN := hid hRN
  have HNN := hid hN
  have HC := hid h
  have HM := hid hm
  have HSH := hid hsh
  rw [hRN, hN] at HC ⊢
  clear h hm hRN hN hsh
  obtain ⟨W1, hW1⟩ : ∃ W1, w.alloc (.cells #[.slice sg C.sigs.length sgc, .slice ru RN ruc, .slice tb N tbc, .int .i64 C.b0, .int .i64 C.b1, .int .i64 C.b2, .int .i64 C.drain, .int .i64 C.pause, .int .i64 C.off, .bool C.brk, .int .i64 C.log] 33) = W1 := ⟨_, rfl⟩
  have k1 : Keeps No w W1 := by rw [← hW1]; exact (Keeps.refl _ _).alloc _
  have HBK : Hid (Bk W1 w.heap.size 33 [.slice sg C.sigs.length sgc, .slice ru RN ruc, .slice tb N tbc, .int .i64 C.b0, .int .i64 C.b1, .int .i64 C.b2, .int .i64 C.drain, .int .i64 C.pause, .int .i64 C.off, .bool C.brk, .int .i64 C.log]) := hid (by rw [← hW1]; exact Bk.new rfl _ _)
  have K1 := hid k1
  have HW1 := hid hW1
  have HT := hid (HC.out.tabR.calm k1)
  have HRU := hid (HC.out.rul.keep k1 (fun _ _ h => h))
  clear k1 hW1
  obtain ⟨wb, hwb⟩ : ∃ q, w.heap.size = q := ⟨_, rfl⟩
  rw [hwb] at HBK
  have HWB := hid hwb
  clear hwb
  have x0_0 := HBK.out.cell 0 rfl
  have x0_1 := HBK.out.cell 1 rfl
  have x0_2 := HBK.out.cell 2 rfl
  have x0_3 := HBK.out.cell 3 rfl
  have x0_4 := HBK.out.cell 4 rfl
  have x0_5 := HBK.out.cell 5 rfl
  have x0_6 := HBK.out.cell 6 rfl
  have x0_7 := HBK.out.cell 7 rfl
  have x0_8 := HBK.out.cell 8 rfl
  have x0_9 := HBK.out.cell 9 rfl
  have x0_10 := HBK.out.cell 10 rfl
  by_cases hin : 0 ≤ r ∧ r < RN
  · obtain ⟨i0, i1⟩ := hin
    obtain ⟨k, hk⟩ : ∃ k : Nat, r = (k : Int) := ⟨r.toNat, by omega⟩
    subst hk
    have hkR : k < RN := by omega
    have hkl : k < C.ruls.length := by rw [HRN.out]; exact hkR
    obtain ⟨g, hg⟩ : ∃ q : Nat, gapD (C.tab.map (·.1)) (k : Int) = q := ⟨_, rfl⟩
    have hg12 : g ≤ 12 := by
      rw [← hg]; unfold gapD; rw [List.length_map, HNN.out]
      rcases gapF_le (h := hasD (C.tab.map (·.1)) (k : Int)) (2 * N) with h | ⟨p, q, h1, h2, h3, _, _, _, h4⟩ <;> omega
    obtain ⟨wt, hwt⟩ : ∃ q : Int, waitD RN N = q := ⟨_, rfl⟩
    have hw0 : 0 ≤ wt ∧ wt ≤ 54 := by
      rw [← hwt]; unfold waitD
      refine ⟨Int.mul_nonneg (by omega) (by omega), ?_⟩
      have := Int.mul_le_mul (show (RN : Int) + 1 ≤ 9 by omega) (show (N : Int) ≤ 6 by omega) (by omega) (by omega)
      omega
    obtain ⟨x, hx⟩ : ∃ x, C.ruls[k] = x := ⟨_, rfl⟩
    obtain ⟨dl, hdl⟩ : ∃ q, x.1.delay = q := ⟨_, rfl⟩
    have hok := HM.out.ruls x (by rw [← hx]; exact List.getElem_mem hkl)
    have hd0 : 0 ≤ dl ∧ dl ≤ 1000 := by rw [← hdl]; have := hok.num.delay; omega
    obtain ⟨rg, rof, hra, hrg, hc⟩ := Sl.itemC (enc := encRul) (size := 9) (fun _ => rfl) (by decide) (by have h1 := HRU.out; rw [HRN.out] at h1; exact h1) hkl hx
    subst hra
    have y4 := hc 4 (.int .i64 dl) (by rw [← hdl]; rfl)
    have HY := hid y4
    have HG := hid (fun (w' : World) (kw : Keeps No W1 w') => mgap_any (sa := sg) (sn := C.sigs.length) (sc := sgc) (ra := some ⟨rg, rof, none⟩) (rn := RN) (rc := ruc) (tc := tbc) (HT.out.calm kw) HNN.out ⟨n1, by omega⟩ HSH.out (k : Int) C.b0 C.b1 C.b2 C.drain C.pause C.off C.log C.brk)
    have HWT := hid (fun (w' : World) => mwait_any (sa := sg) (sn := C.sigs.length) (sc := sgc) (ra := some ⟨rg, rof, none⟩) (rn := RN) (rc := ruc) (ta := tb) (N := N) (tc := tbc) w' (by omega) (by omega) C.b0 C.b1 C.b2 C.drain C.pause C.off C.log C.brk)
    rw [hg] at HG
    rw [hwt] at HWT
    have HRES : Hid (goneD C (k : Int) = IntKind.i64.wrap (g + wt)) := hid (by
      have e1 : isRule C (k : Int) = true := decide_eq_true ⟨by omega, by rw [HRN.out]; omega⟩
      unfold goneD
      rw [if_pos e1, hg, HRN.out, HNN.out, hwt]
      simp only [IntKind.wrap_i64]
      omega)
    rw [HRES.out]
    have d1 : decide ((k : Int) < 0) = false := decide_eq_false (by omega)
    have d2 : decide ((k : Int) ≥ (RN : Int)) = false := decide_eq_false (by omega)
    have d3 : decide (RN ≤ k) = false := decide_eq_false (by omega)
    clear hg hwt hx hdl hok hc y4 hkl
    go_enter Try.func12, Try.ntmps12
    go_upto_region 1 with fail
    rw [HW1.out, HWB.out]
    clear HW1 HWB
    go_upto_region 3 with fail
    have yy := HY.out
    first | go_region_held3 (fun w' => w'.cell? ⟨wb, 0, none⟩ = some (.slice sg C.sigs.length sgc) ∧ w'.cell? ⟨wb, 1, none⟩ = some (.slice (some ⟨rg, rof, none⟩) RN ruc) ∧ w'.cell? ⟨wb, 2, none⟩ = some (.slice tb N tbc) ∧ w'.cell? ⟨wb, 3, none⟩ = some (.int .i64 C.b0) ∧ w'.cell? ⟨wb, 4, none⟩ = some (.int .i64 C.b1) ∧ w'.cell? ⟨wb, 5, none⟩ = some (.int .i64 C.b2) ∧ w'.cell? ⟨wb, 6, none⟩ = some (.int .i64 C.drain) ∧ w'.cell? ⟨wb, 7, none⟩ = some (.int .i64 C.pause) ∧ w'.cell? ⟨wb, 8, none⟩ = some (.int .i64 C.off) ∧ w'.cell? ⟨wb, 9, none⟩ = some (.bool C.brk) ∧ w'.cell? ⟨wb, 10, none⟩ = some (.int .i64 C.log) ∧ w'.cell? ⟨rg, rof + k * 9 + 4, none⟩ = some (.int .i64 dl)) (first | with_reducible exact ⟨x0_0, x0_1, x0_2, x0_3, x0_4, x0_5, x0_6, x0_7, x0_8, x0_9, x0_10, yy⟩ | with_reducible exact ⟨cellDr x0_0, cellDr x0_1, cellDr x0_2, cellDr x0_3, cellDr x0_4, cellDr x0_5, cellDr x0_6, cellDr x0_7, cellDr x0_8, cellDr x0_9, cellDr x0_10, cellDr yy⟩ | with_reducible exact ⟨cellA _ x0_0, cellA _ x0_1, cellA _ x0_2, cellA _ x0_3, cellA _ x0_4, cellA _ x0_5, cellA _ x0_6, cellA _ x0_7, cellA _ x0_8, cellA _ x0_9, cellA _ x0_10, cellA _ yy⟩ | with_reducible exact ⟨cellDr (cellA _ x0_0), cellDr (cellA _ x0_1), cellDr (cellA _ x0_2), cellDr (cellA _ x0_3), cellDr (cellA _ x0_4), cellDr (cellA _ x0_5), cellDr (cellA _ x0_6), cellDr (cellA _ x0_7), cellDr (cellA _ x0_8), cellDr (cellA _ x0_9), cellDr (cellA _ x0_10), cellDr (cellA _ yy)⟩ | (go_keep; done)) (first | (go_at_call 8; (with_reducible refine (HG.out _ (by repeat' (first | with_reducible exact Keeps.refl _ _ | with_reducible assumption | with_reducible refine Keeps.drewN ?_ _ | with_reducible refine Keeps.drew ?_ | with_reducible refine Keeps.alloc ?_ _))).mono ?_); rintro e w9 ⟨rfl, k⟩; have kk : Keeps No W1 w9 := Keeps.trans (by repeat' (first | with_reducible exact Keeps.refl _ _ | with_reducible assumption | with_reducible refine Keeps.drewN ?_ _ | with_reducible refine Keeps.drew ?_ | with_reducible refine Keeps.alloc ?_ _)) k; have g0 := HBK.out.kept kk; have x0_0 := g0.cell 0 rfl; have x0_1 := g0.cell 1 rfl; have x0_2 := g0.cell 2 rfl; have x0_3 := g0.cell 3 rfl; have x0_4 := g0.cell 4 rfl; have x0_5 := g0.cell 5 rfl; have x0_6 := g0.cell 6 rfl; have x0_7 := g0.cell 7 rfl; have x0_8 := g0.cell 8 rfl; have x0_9 := g0.cell 9 rfl; have x0_10 := g0.cell 10 rfl; have yy := kk.cell (fun h => h) HY.out; clear k g0) | (go_at_call 14; (with_reducible refine (HWT.out _).mono ?_); rintro e w9 ⟨rfl, k⟩; have kk : Keeps No W1 w9 := Keeps.trans (by repeat' (first | with_reducible exact Keeps.refl _ _ | with_reducible assumption | with_reducible refine Keeps.drewN ?_ _ | with_reducible refine Keeps.drew ?_ | with_reducible refine Keeps.alloc ?_ _)) k; have g0 := HBK.out.kept kk; have x0_0 := g0.cell 0 rfl; have x0_1 := g0.cell 1 rfl; have x0_2 := g0.cell 2 rfl; have x0_3 := g0.cell 3 rfl; have x0_4 := g0.cell 4 rfl; have x0_5 := g0.cell 5 rfl; have x0_6 := g0.cell 6 rfl; have x0_7 := g0.cell 7 rfl; have x0_8 := g0.cell 8 rfl; have x0_9 := g0.cell 9 rfl; have x0_10 := g0.cell 10 rfl; have yy := kk.cell (fun h => h) HY.out; clear k g0)) | fail
    all_goals
      go_wp2_with fail
      go_ret
      exact ⟨rfl, K1.out.trans kk⟩
  · have HRES : Hid (goneD C r = 0) := hid (by
      have e1 : isRule C r = false := decide_eq_false (by rw [HRN.out]; exact hin)
      unfold goneD
      rw [if_neg (by rw [e1]; decide)])
    rw [HRES.out]
    by_cases hn : r < 0
    · have d1 : decide (r < 0) = true := decide_eq_true hn
      go_enter Try.func12, Try.ntmps12
      go_upto_region 1 with fail
      rw [HW1.out, HWB.out]
      clear HW1 HWB
      go_wp2_with fail
      go_ret
      exact ⟨rfl, K1.out⟩
    · have d1 : decide (r < 0) = false := decide_eq_false hn
      have d2 : decide (r ≥ (RN : Int)) = true := decide_eq_true (by omega)
      have d3 : decide ((RN : Int) ≤ r) = true := decide_eq_true (by omega)
      go_enter Try.func12, Try.ntmps12
      go_upto_region 1 with fail
      rw [HW1.out, HWB.out]
      clear HW1 HWB
      go_wp2_with fail
      go_ret
      exact ⟨rfl, K1.out⟩

end Go.Proofs.Ytdibdjllcdnhaaa
