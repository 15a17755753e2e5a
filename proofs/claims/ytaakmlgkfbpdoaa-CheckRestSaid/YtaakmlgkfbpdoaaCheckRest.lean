/- A configuration in which any other number is another one is judged as the document says. No conditions. -/
import Derived.Test.YtaakmlgkfbpdoaaArgsE
import Derived.Test.YtaakmlgkfbpdoaaRule
import Derived.Test.YtaakmlgkfbpdoaaRows
import Derived.Test.YtaakmlgkfbpdoaaChkL
import Derived.Test.YtaakmlgkfbpdoaaChkU
import Derived.ProofKit
import Derived.OpenShut
namespace Go.Proofs.Ytaakmlgkfbpdoaa.checkRest
open Go.ChangeShapes Go.WideShapes Go.ChangeAt Go.RowKit
open Go.ChangeMaps (open_string shut_string)
set_option linter.unusedVariables false

theorem take_flatMap {α : Type} {size : Nat} {enc : α → List Value} (he : ∀ x, (enc x).length = size) : ∀ (l : List α) (m : Nat), (l.flatMap enc).take (m * size) = (l.take m).flatMap enc
  | [], m => by simp
  | x :: r, 0 => by simp
  | x :: r, m + 1 => by
    simp only [List.flatMap_cons, List.take_succ_cons]
    rw [← take_flatMap he r m, List.take_append, he, List.take_of_length_le (by rw [he, Nat.succ_mul]; omega), show (m + 1) * size - size = m * size by rw [Nat.succ_mul]; omega]

set_option maxHeartbeats 16000000 in
set_option maxRecDepth 100000 in
theorem walk (w : World) (rules : List (LineD × Value)) (rv : Value) (slots : List Int) (sv : Value) (ba dr pa of_ : Int) (br : Bool) (lo : Int) (hd : DraftR w rules rv slots sv) (u1 : U8 ba) (u2 : U8 dr) (u3 : U8 pa) (u4 : U8 of_) (u5 : U8 lo) (a1 : Int) (wa1 : (Lit.int .u8 a1).wf = true) (a2 : Int) (wa2 : (Lit.int .i64 a2).wf = true) (a3 : Bool) :
    Calls Try.prog 4 #[.agg #[rv, sv, .int .u8 ba, .int .u8 dr, .int .u8 pa, .int .u8 of_, .bool br, .int .u8 lo], .int .u8 a1, .int .i64 a2, .bool a3] w fun e w' => e = .returned (.bool true) ∧ Below w.heap.size w w' := by
  obtain ⟨b0, b1⟩ := bounds_u8 wa1
  clear wa1 wa2
  obtain ⟨ra, rc, rfl⟩ := hd.rul.any
  obtain ⟨sa, sc, rfl⟩ := hd.slo.any
  obtain ⟨W1, hW1⟩ : ∃ W1, w.alloc (.cells #[.slice ra rules.length rc, .slice sa slots.length sc, .int .u8 ba, .int .u8 dr, .int .u8 pa, .int .u8 of_, .bool br, .int .u8 lo] 25) = W1 := ⟨_, rfl⟩
  have k1 : Keeps No w W1 := by rw [← hW1]; exact (Keeps.refl _ _).alloc _
  have hb : BlkL W1 w.heap.size 25 [.slice ra rules.length rc, .slice sa slots.length sc, .int .u8 ba, .int .u8 dr, .int .u8 pa, .int .u8 of_, .bool br, .int .u8 lo] := by rw [← hW1]; exact heap_alloc_new w _
  have H1 := hid (hd.calm k1)
  have HB := hid hb
  have HW1 := hid hW1
  have K1 := hid k1
  have U := hid (show U8 ba ∧ U8 dr ∧ U8 pa ∧ U8 of_ ∧ U8 lo from ⟨u1, u2, u3, u4, u5⟩)
  clear hd hW1 k1 hb u1 u2 u3 u4 u5
  go_enter Try.func4, Try.ntmps4
  go_upto_region 1 with fail
  rw [HW1.out]
  go_wp2_with fail
  refine (nothing_true _).mono ?_
  rintro e w2 ⟨rfl, k2⟩
  have hb := HB.out.keep k2 (fun h => h)
  have K2 := hid (K1.out.trans k2)
  have H2 := hid (H1.out.calm k2)
  have HB2 := hid hb
  have x0 := hb.cell (o := 0) rfl
  have x1 := hb.cell (o := 1) rfl
  have x2 := hb.cell (o := 2) rfl
  have x3 := hb.cell (o := 3) rfl
  have x4 := hb.cell (o := 4) rfl
  have x5 := hb.cell (o := 5) rfl
  have x6 := hb.cell (o := 6) rfl
  have x7 := hb.cell (o := 7) rfl
  clear hb k2
  go_wp2_with fail
  refine (short_any H2.out ba dr pa of_ br lo).mono ?_
  rintro e w3 ⟨bs, rfl, k3⟩
  clear x0 x1 x2 x3 x4 x5 x6 x7
  have K3 := hid (K2.out.trans k3)
  have H3 := hid (H2.out.calm k3)
  have hb := HB2.out.keep k3 (fun h => h)
  clear k3
  cases bs
  · clear hb
    go_wp2_with fail
    refine (nothing_true _).mono ?_
    rintro e w4 ⟨rfl, k4⟩
    have K4 := hid (K3.out.trans k4)
    clear k4
    go_wp2_with fail
    go_ret
    exact ⟨rfl, K4.out.toBelow⟩
  have x0 := hb.cell (o := 0) rfl
  have x1 := hb.cell (o := 1) rfl
  have x2 := hb.cell (o := 2) rfl
  have x3 := hb.cell (o := 3) rfl
  have x4 := hb.cell (o := 4) rfl
  have x5 := hb.cell (o := 5) rfl
  have x6 := hb.cell (o := 6) rfl
  have x7 := hb.cell (o := 7) rfl
  clear hb
  go_wp2_with fail
  refine (make_any2 H3.out ba dr pa of_ br lo U.out.1 U.out.2.1 U.out.2.2.1 U.out.2.2.2.1 U.out.2.2.2.2).mono ?_
  rintro e w4 ⟨C, csv, crv, ctv, rfl, hc, hm, k4, hown⟩
  clear x0 x1 x2 x3 x4 x5 x6 x7
  obtain ⟨sg, sgc, ru, ruc, tb, tbc, rfl, rfl, rfl⟩ := hc.shape
  unfold Cfg.val Cfg.cells
  have HF := hid hm.few'
  have hw3 := K3.out.size
  have K4 := hid (K3.out.trans k4)
  have HCC := hid hc
  have HOWN := hid hown
  obtain ⟨W5, hW5⟩ : ∃ W5, w4.alloc (.cells #[.slice sg C.sigs.length sgc, .slice ru C.ruls.length ruc, .slice tb C.tab.length tbc, .int .i64 C.b0, .int .i64 C.b1, .int .i64 C.b2, .int .i64 C.drain, .int .i64 C.pause, .int .i64 C.off, .bool C.brk, .int .i64 C.log] 33) = W5 := ⟨_, rfl⟩
  have k5 : Keeps No w4 W5 := by rw [← hW5]; exact (Keeps.refl _ _).alloc _
  have hb5 : BlkL W5 w4.heap.size 33 [.slice sg C.sigs.length sgc, .slice ru C.ruls.length ruc, .slice tb C.tab.length tbc, .int .i64 C.b0, .int .i64 C.b1, .int .i64 C.b2, .int .i64 C.drain, .int .i64 C.pause, .int .i64 C.off, .bool C.brk, .int .i64 C.log] := by rw [← hW5]; exact heap_alloc_new w4 _
  have HW5 := hid hW5
  have HC5 := hid hb5
  have K45 := hid k5
  clear hc hm k4 hown hW5 k5 hb5 H1 H2 H3 HB HB2 K1 K2 K3 HW1 U
  go_upto_region 4 with fail
  rw [HW5.out]
  go_upto_if 20 with fail
  go_cut [2] from 20 to 22 (fun v2 wx => ∃ m : Int, v2 = .int .i64 m ∧ Hid (W5 = wx))
  case first =>
    cases a3
    · go_wp2_with fail
      go_meet
      exact ⟨_, rfl, hid rfl⟩
    · go_wp2_with fail
      go_meet
      exact ⟨_, rfl, hid rfl⟩
  case rest =>
  obtain ⟨m, rfl, HW⟩ := hcut
  have hw := HW.out
  subst hw
  clear HW
  rcases (show a1 % 8 = 0 ∨ a1 % 8 = 1 ∨ a1 % 8 = 2 ∨ a1 % 8 = 3 ∨ a1 % 8 = 4 ∨ a1 % 8 = 5 ∨ a1 % 8 = 6 ∨ a1 % 8 = 7 by omega) with h8 | h8 | h8 | h8 | h8 | h8 | h8 | h8
  · have h8 : a1 % 8 = 0 := h8
    obtain ⟨dv, hdv⟩ : ∃ x, a1 / 8 = x := ⟨_, rfl⟩
    have hdv2 : a1.tdiv 8 = dv := by rw [← hdv]; exact Int.tdiv_eq_ediv_of_nonneg b0
    have hq0 : 0 ≤ dv ∧ dv ≤ 31 := by omega
    obtain ⟨hq0, hq1⟩ := hq0
    rcases (show dv % 3 = 0 ∨ dv % 3 = 1 ∨ dv % 3 = 2 by omega) with h3 | h3 | h3
    · have h3 : dv % 3 = 0 := h3
      have h3t : dv.tmod 3 = 0 := by rw [Int.tmod_eq_emod_of_nonneg hq0]; exact h3
      obtain ⟨WF, hWF⟩ : ∃ WF, W5.setCell ⟨w4.heap.size, 3, none⟩ (.int .i64 m) = WF := ⟨_, rfl⟩
      have hbf : BlkL WF w4.heap.size 33 [.slice sg C.sigs.length sgc, .slice ru C.ruls.length ruc, .slice tb C.tab.length tbc, .int .i64 m, .int .i64 C.b1, .int .i64 C.b2, .int .i64 C.drain, .int .i64 C.pause, .int .i64 C.off, .bool C.brk, .int .i64 C.log] := by rw [← hWF]; exact HC5.out.put 3 _ rfl
      have kf : Keeps No w4 WF := by rw [← hWF]; exact K45.out.setCell (p := ⟨w4.heap.size, 3, none⟩) (Or.inl (Nat.le_refl _)) _
      have hcf : CfgR WF (⟨C.sigs, C.ruls, C.tab, m, C.b1, C.b2, C.drain, C.pause, C.off, C.brk, C.log⟩) (.slice sg C.sigs.length sgc) (.slice ru C.ruls.length ruc) (.slice tb C.tab.length tbc) := ⟨(HCC.out.calm kf).sig, (HCC.out.calm kf).rul, (HCC.out.calm kf).tab, (HCC.out.calm kf).stg, (HCC.out.calm kf).slot⟩
      have HS : Hid (Calls Try.prog 13 #[.agg #[.slice sg C.sigs.length sgc, .slice ru C.ruls.length ruc, .slice tb C.tab.length tbc, .int .i64 m, .int .i64 C.b1, .int .i64 C.b2, .int .i64 C.drain, .int .i64 C.pause, .int .i64 C.off, .bool C.brk, .int .i64 C.log]] WF fun e w' => e = .returned (.bool true) ∧ Keeps No WF w') := hid (csame_true (C := ⟨C.sigs, C.ruls, C.tab, m, C.b1, C.b2, C.drain, C.pause, C.off, C.brk, C.log⟩) hcf HF.out.1 HF.out.2.1 HF.out.2.2.1 HF.out.2.2.2)
      have KF := hid (K4.out.trans kf)
      have HBF := hid hbf
      have HWF := hid hWF
      have x0 := HC5.out.cell (o := 3) rfl
      have f0 := HC5.out.free 3
      clear hWF hbf kf hcf
      go_upto_region 24 with fail
      rw [HWF.out]
      clear x0 f0
      have x0 := HBF.out.cell (o := 0) rfl
      have x1 := HBF.out.cell (o := 1) rfl
      have x2 := HBF.out.cell (o := 2) rfl
      have x3 := HBF.out.cell (o := 3) rfl
      have x4 := HBF.out.cell (o := 4) rfl
      have x5 := HBF.out.cell (o := 5) rfl
      have x6 := HBF.out.cell (o := 6) rfl
      have x7 := HBF.out.cell (o := 7) rfl
      have x8 := HBF.out.cell (o := 8) rfl
      have x9 := HBF.out.cell (o := 9) rfl
      have x10 := HBF.out.cell (o := 10) rfl
      go_wp2_with fail
      refine HS.out.mono ?_
      rintro e w6 ⟨rfl, k6⟩
      have K6 := hid (KF.out.trans k6)
      clear k6
      go_wp2_with fail
      go_ret
      exact ⟨rfl, K6.out.toBelow⟩
    · have h3 : dv % 3 = 1 := h3
      have h3t : dv.tmod 3 = 1 := by rw [Int.tmod_eq_emod_of_nonneg hq0]; exact h3
      obtain ⟨WF, hWF⟩ : ∃ WF, W5.setCell ⟨w4.heap.size, 4, none⟩ (.int .i64 m) = WF := ⟨_, rfl⟩
      have hbf : BlkL WF w4.heap.size 33 [.slice sg C.sigs.length sgc, .slice ru C.ruls.length ruc, .slice tb C.tab.length tbc, .int .i64 C.b0, .int .i64 m, .int .i64 C.b2, .int .i64 C.drain, .int .i64 C.pause, .int .i64 C.off, .bool C.brk, .int .i64 C.log] := by rw [← hWF]; exact HC5.out.put 4 _ rfl
      have kf : Keeps No w4 WF := by rw [← hWF]; exact K45.out.setCell (p := ⟨w4.heap.size, 4, none⟩) (Or.inl (Nat.le_refl _)) _
      have hcf : CfgR WF (⟨C.sigs, C.ruls, C.tab, C.b0, m, C.b2, C.drain, C.pause, C.off, C.brk, C.log⟩) (.slice sg C.sigs.length sgc) (.slice ru C.ruls.length ruc) (.slice tb C.tab.length tbc) := ⟨(HCC.out.calm kf).sig, (HCC.out.calm kf).rul, (HCC.out.calm kf).tab, (HCC.out.calm kf).stg, (HCC.out.calm kf).slot⟩
      have HS : Hid (Calls Try.prog 13 #[.agg #[.slice sg C.sigs.length sgc, .slice ru C.ruls.length ruc, .slice tb C.tab.length tbc, .int .i64 C.b0, .int .i64 m, .int .i64 C.b2, .int .i64 C.drain, .int .i64 C.pause, .int .i64 C.off, .bool C.brk, .int .i64 C.log]] WF fun e w' => e = .returned (.bool true) ∧ Keeps No WF w') := hid (csame_true (C := ⟨C.sigs, C.ruls, C.tab, C.b0, m, C.b2, C.drain, C.pause, C.off, C.brk, C.log⟩) hcf HF.out.1 HF.out.2.1 HF.out.2.2.1 HF.out.2.2.2)
      have KF := hid (K4.out.trans kf)
      have HBF := hid hbf
      have HWF := hid hWF
      have x0 := HC5.out.cell (o := 4) rfl
      have f0 := HC5.out.free 4
      clear hWF hbf kf hcf
      go_upto_region 24 with fail
      rw [HWF.out]
      clear x0 f0
      have x0 := HBF.out.cell (o := 0) rfl
      have x1 := HBF.out.cell (o := 1) rfl
      have x2 := HBF.out.cell (o := 2) rfl
      have x3 := HBF.out.cell (o := 3) rfl
      have x4 := HBF.out.cell (o := 4) rfl
      have x5 := HBF.out.cell (o := 5) rfl
      have x6 := HBF.out.cell (o := 6) rfl
      have x7 := HBF.out.cell (o := 7) rfl
      have x8 := HBF.out.cell (o := 8) rfl
      have x9 := HBF.out.cell (o := 9) rfl
      have x10 := HBF.out.cell (o := 10) rfl
      go_wp2_with fail
      refine HS.out.mono ?_
      rintro e w6 ⟨rfl, k6⟩
      have K6 := hid (KF.out.trans k6)
      clear k6
      go_wp2_with fail
      go_ret
      exact ⟨rfl, K6.out.toBelow⟩
    · have h3 : dv % 3 = 2 := h3
      have h3t : dv.tmod 3 = 2 := by rw [Int.tmod_eq_emod_of_nonneg hq0]; exact h3
      obtain ⟨WF, hWF⟩ : ∃ WF, W5.setCell ⟨w4.heap.size, 5, none⟩ (.int .i64 m) = WF := ⟨_, rfl⟩
      have hbf : BlkL WF w4.heap.size 33 [.slice sg C.sigs.length sgc, .slice ru C.ruls.length ruc, .slice tb C.tab.length tbc, .int .i64 C.b0, .int .i64 C.b1, .int .i64 m, .int .i64 C.drain, .int .i64 C.pause, .int .i64 C.off, .bool C.brk, .int .i64 C.log] := by rw [← hWF]; exact HC5.out.put 5 _ rfl
      have kf : Keeps No w4 WF := by rw [← hWF]; exact K45.out.setCell (p := ⟨w4.heap.size, 5, none⟩) (Or.inl (Nat.le_refl _)) _
      have hcf : CfgR WF (⟨C.sigs, C.ruls, C.tab, C.b0, C.b1, m, C.drain, C.pause, C.off, C.brk, C.log⟩) (.slice sg C.sigs.length sgc) (.slice ru C.ruls.length ruc) (.slice tb C.tab.length tbc) := ⟨(HCC.out.calm kf).sig, (HCC.out.calm kf).rul, (HCC.out.calm kf).tab, (HCC.out.calm kf).stg, (HCC.out.calm kf).slot⟩
      have HS : Hid (Calls Try.prog 13 #[.agg #[.slice sg C.sigs.length sgc, .slice ru C.ruls.length ruc, .slice tb C.tab.length tbc, .int .i64 C.b0, .int .i64 C.b1, .int .i64 m, .int .i64 C.drain, .int .i64 C.pause, .int .i64 C.off, .bool C.brk, .int .i64 C.log]] WF fun e w' => e = .returned (.bool true) ∧ Keeps No WF w') := hid (csame_true (C := ⟨C.sigs, C.ruls, C.tab, C.b0, C.b1, m, C.drain, C.pause, C.off, C.brk, C.log⟩) hcf HF.out.1 HF.out.2.1 HF.out.2.2.1 HF.out.2.2.2)
      have KF := hid (K4.out.trans kf)
      have HBF := hid hbf
      have HWF := hid hWF
      have x0 := HC5.out.cell (o := 5) rfl
      have f0 := HC5.out.free 5
      clear hWF hbf kf hcf
      go_upto_region 24 with fail
      rw [HWF.out]
      clear x0 f0
      have x0 := HBF.out.cell (o := 0) rfl
      have x1 := HBF.out.cell (o := 1) rfl
      have x2 := HBF.out.cell (o := 2) rfl
      have x3 := HBF.out.cell (o := 3) rfl
      have x4 := HBF.out.cell (o := 4) rfl
      have x5 := HBF.out.cell (o := 5) rfl
      have x6 := HBF.out.cell (o := 6) rfl
      have x7 := HBF.out.cell (o := 7) rfl
      have x8 := HBF.out.cell (o := 8) rfl
      have x9 := HBF.out.cell (o := 9) rfl
      have x10 := HBF.out.cell (o := 10) rfl
      go_wp2_with fail
      refine HS.out.mono ?_
      rintro e w6 ⟨rfl, k6⟩
      have K6 := hid (KF.out.trans k6)
      clear k6
      go_wp2_with fail
      go_ret
      exact ⟨rfl, K6.out.toBelow⟩
  · have h8 : a1 % 8 = 1 := h8
    by_cases hb1 : m > 1099511627776
    · have d1 : decide (m > 1099511627776) = true := decide_eq_true hb1
      go_wp2_with fail
      go_ret
      exact ⟨rfl, (K4.out.trans K45.out).toBelow⟩
    have d1 : decide (m > 1099511627776) = false := decide_eq_false hb1
    by_cases hb2 : m < -1099511627776
    · have d2 : decide (m < -1099511627776) = true := decide_eq_true hb2
      go_wp2_with fail
      go_ret
      exact ⟨rfl, (K4.out.trans K45.out).toBelow⟩
    have d2 : decide (m < -1099511627776) = false := decide_eq_false hb2
    clear hb1 hb2
    obtain ⟨WF, hWF⟩ : ∃ WF, W5.setCell ⟨w4.heap.size, 6, none⟩ (.int .i64 m) = WF := ⟨_, rfl⟩
    have hbf : BlkL WF w4.heap.size 33 [.slice sg C.sigs.length sgc, .slice ru C.ruls.length ruc, .slice tb C.tab.length tbc, .int .i64 C.b0, .int .i64 C.b1, .int .i64 C.b2, .int .i64 m, .int .i64 C.pause, .int .i64 C.off, .bool C.brk, .int .i64 C.log] := by rw [← hWF]; exact HC5.out.put 6 _ rfl
    have kf : Keeps No w4 WF := by rw [← hWF]; exact K45.out.setCell (p := ⟨w4.heap.size, 6, none⟩) (Or.inl (Nat.le_refl _)) _
    have hcf : CfgR WF (⟨C.sigs, C.ruls, C.tab, C.b0, C.b1, C.b2, m, C.pause, C.off, C.brk, C.log⟩) (.slice sg C.sigs.length sgc) (.slice ru C.ruls.length ruc) (.slice tb C.tab.length tbc) := ⟨(HCC.out.calm kf).sig, (HCC.out.calm kf).rul, (HCC.out.calm kf).tab, (HCC.out.calm kf).stg, (HCC.out.calm kf).slot⟩
    have HS : Hid (Calls Try.prog 13 #[.agg #[.slice sg C.sigs.length sgc, .slice ru C.ruls.length ruc, .slice tb C.tab.length tbc, .int .i64 C.b0, .int .i64 C.b1, .int .i64 C.b2, .int .i64 m, .int .i64 C.pause, .int .i64 C.off, .bool C.brk, .int .i64 C.log]] WF fun e w' => e = .returned (.bool true) ∧ Keeps No WF w') := hid (csame_true (C := ⟨C.sigs, C.ruls, C.tab, C.b0, C.b1, C.b2, m, C.pause, C.off, C.brk, C.log⟩) hcf HF.out.1 HF.out.2.1 HF.out.2.2.1 HF.out.2.2.2)
    have KF := hid (K4.out.trans kf)
    have HBF := hid hbf
    have HWF := hid hWF
    have x0 := HC5.out.cell (o := 6) rfl
    have f0 := HC5.out.free 6
    clear hWF hbf kf hcf
    go_upto_region 24 with fail
    rw [HWF.out]
    clear x0 f0
    have x0 := HBF.out.cell (o := 0) rfl
    have x1 := HBF.out.cell (o := 1) rfl
    have x2 := HBF.out.cell (o := 2) rfl
    have x3 := HBF.out.cell (o := 3) rfl
    have x4 := HBF.out.cell (o := 4) rfl
    have x5 := HBF.out.cell (o := 5) rfl
    have x6 := HBF.out.cell (o := 6) rfl
    have x7 := HBF.out.cell (o := 7) rfl
    have x8 := HBF.out.cell (o := 8) rfl
    have x9 := HBF.out.cell (o := 9) rfl
    have x10 := HBF.out.cell (o := 10) rfl
    go_wp2_with fail
    refine HS.out.mono ?_
    rintro e w6 ⟨rfl, k6⟩
    have K6 := hid (KF.out.trans k6)
    clear k6
    go_wp2_with fail
    go_ret
    exact ⟨rfl, K6.out.toBelow⟩
  · have h8 : a1 % 8 = 2 := h8
    obtain ⟨WF, hWF⟩ : ∃ WF, W5.setCell ⟨w4.heap.size, 7, none⟩ (.int .i64 m) = WF := ⟨_, rfl⟩
    have hbf : BlkL WF w4.heap.size 33 [.slice sg C.sigs.length sgc, .slice ru C.ruls.length ruc, .slice tb C.tab.length tbc, .int .i64 C.b0, .int .i64 C.b1, .int .i64 C.b2, .int .i64 C.drain, .int .i64 m, .int .i64 C.off, .bool C.brk, .int .i64 C.log] := by rw [← hWF]; exact HC5.out.put 7 _ rfl
    have kf : Keeps No w4 WF := by rw [← hWF]; exact K45.out.setCell (p := ⟨w4.heap.size, 7, none⟩) (Or.inl (Nat.le_refl _)) _
    have hcf : CfgR WF (⟨C.sigs, C.ruls, C.tab, C.b0, C.b1, C.b2, C.drain, m, C.off, C.brk, C.log⟩) (.slice sg C.sigs.length sgc) (.slice ru C.ruls.length ruc) (.slice tb C.tab.length tbc) := ⟨(HCC.out.calm kf).sig, (HCC.out.calm kf).rul, (HCC.out.calm kf).tab, (HCC.out.calm kf).stg, (HCC.out.calm kf).slot⟩
    have HS : Hid (Calls Try.prog 13 #[.agg #[.slice sg C.sigs.length sgc, .slice ru C.ruls.length ruc, .slice tb C.tab.length tbc, .int .i64 C.b0, .int .i64 C.b1, .int .i64 C.b2, .int .i64 C.drain, .int .i64 m, .int .i64 C.off, .bool C.brk, .int .i64 C.log]] WF fun e w' => e = .returned (.bool true) ∧ Keeps No WF w') := hid (csame_true (C := ⟨C.sigs, C.ruls, C.tab, C.b0, C.b1, C.b2, C.drain, m, C.off, C.brk, C.log⟩) hcf HF.out.1 HF.out.2.1 HF.out.2.2.1 HF.out.2.2.2)
    have KF := hid (K4.out.trans kf)
    have HBF := hid hbf
    have HWF := hid hWF
    have x0 := HC5.out.cell (o := 7) rfl
    have f0 := HC5.out.free 7
    clear hWF hbf kf hcf
    go_upto_region 24 with fail
    rw [HWF.out]
    clear x0 f0
    have x0 := HBF.out.cell (o := 0) rfl
    have x1 := HBF.out.cell (o := 1) rfl
    have x2 := HBF.out.cell (o := 2) rfl
    have x3 := HBF.out.cell (o := 3) rfl
    have x4 := HBF.out.cell (o := 4) rfl
    have x5 := HBF.out.cell (o := 5) rfl
    have x6 := HBF.out.cell (o := 6) rfl
    have x7 := HBF.out.cell (o := 7) rfl
    have x8 := HBF.out.cell (o := 8) rfl
    have x9 := HBF.out.cell (o := 9) rfl
    have x10 := HBF.out.cell (o := 10) rfl
    go_wp2_with fail
    refine HS.out.mono ?_
    rintro e w6 ⟨rfl, k6⟩
    have K6 := hid (KF.out.trans k6)
    clear k6
    go_wp2_with fail
    go_ret
    exact ⟨rfl, K6.out.toBelow⟩
  · have h8 : a1 % 8 = 3 := h8
    obtain ⟨WF, hWF⟩ : ∃ WF, W5.setCell ⟨w4.heap.size, 8, none⟩ (.int .i64 m) = WF := ⟨_, rfl⟩
    have hbf : BlkL WF w4.heap.size 33 [.slice sg C.sigs.length sgc, .slice ru C.ruls.length ruc, .slice tb C.tab.length tbc, .int .i64 C.b0, .int .i64 C.b1, .int .i64 C.b2, .int .i64 C.drain, .int .i64 C.pause, .int .i64 m, .bool C.brk, .int .i64 C.log] := by rw [← hWF]; exact HC5.out.put 8 _ rfl
    have kf : Keeps No w4 WF := by rw [← hWF]; exact K45.out.setCell (p := ⟨w4.heap.size, 8, none⟩) (Or.inl (Nat.le_refl _)) _
    have hcf : CfgR WF (⟨C.sigs, C.ruls, C.tab, C.b0, C.b1, C.b2, C.drain, C.pause, m, C.brk, C.log⟩) (.slice sg C.sigs.length sgc) (.slice ru C.ruls.length ruc) (.slice tb C.tab.length tbc) := ⟨(HCC.out.calm kf).sig, (HCC.out.calm kf).rul, (HCC.out.calm kf).tab, (HCC.out.calm kf).stg, (HCC.out.calm kf).slot⟩
    have HS : Hid (Calls Try.prog 13 #[.agg #[.slice sg C.sigs.length sgc, .slice ru C.ruls.length ruc, .slice tb C.tab.length tbc, .int .i64 C.b0, .int .i64 C.b1, .int .i64 C.b2, .int .i64 C.drain, .int .i64 C.pause, .int .i64 m, .bool C.brk, .int .i64 C.log]] WF fun e w' => e = .returned (.bool true) ∧ Keeps No WF w') := hid (csame_true (C := ⟨C.sigs, C.ruls, C.tab, C.b0, C.b1, C.b2, C.drain, C.pause, m, C.brk, C.log⟩) hcf HF.out.1 HF.out.2.1 HF.out.2.2.1 HF.out.2.2.2)
    have KF := hid (K4.out.trans kf)
    have HBF := hid hbf
    have HWF := hid hWF
    have x0 := HC5.out.cell (o := 8) rfl
    have f0 := HC5.out.free 8
    clear hWF hbf kf hcf
    go_upto_region 24 with fail
    rw [HWF.out]
    clear x0 f0
    have x0 := HBF.out.cell (o := 0) rfl
    have x1 := HBF.out.cell (o := 1) rfl
    have x2 := HBF.out.cell (o := 2) rfl
    have x3 := HBF.out.cell (o := 3) rfl
    have x4 := HBF.out.cell (o := 4) rfl
    have x5 := HBF.out.cell (o := 5) rfl
    have x6 := HBF.out.cell (o := 6) rfl
    have x7 := HBF.out.cell (o := 7) rfl
    have x8 := HBF.out.cell (o := 8) rfl
    have x9 := HBF.out.cell (o := 9) rfl
    have x10 := HBF.out.cell (o := 10) rfl
    go_wp2_with fail
    refine HS.out.mono ?_
    rintro e w6 ⟨rfl, k6⟩
    have K6 := hid (KF.out.trans k6)
    clear k6
    go_wp2_with fail
    go_ret
    exact ⟨rfl, K6.out.toBelow⟩
  · have h8 : a1 % 8 = 4 := h8
    obtain ⟨WF, hWF⟩ : ∃ WF, W5.setCell ⟨w4.heap.size, 10, none⟩ (.int .i64 m) = WF := ⟨_, rfl⟩
    have hbf : BlkL WF w4.heap.size 33 [.slice sg C.sigs.length sgc, .slice ru C.ruls.length ruc, .slice tb C.tab.length tbc, .int .i64 C.b0, .int .i64 C.b1, .int .i64 C.b2, .int .i64 C.drain, .int .i64 C.pause, .int .i64 C.off, .bool C.brk, .int .i64 m] := by rw [← hWF]; exact HC5.out.put 10 _ rfl
    have kf : Keeps No w4 WF := by rw [← hWF]; exact K45.out.setCell (p := ⟨w4.heap.size, 10, none⟩) (Or.inl (Nat.le_refl _)) _
    have hcf : CfgR WF (⟨C.sigs, C.ruls, C.tab, C.b0, C.b1, C.b2, C.drain, C.pause, C.off, C.brk, m⟩) (.slice sg C.sigs.length sgc) (.slice ru C.ruls.length ruc) (.slice tb C.tab.length tbc) := ⟨(HCC.out.calm kf).sig, (HCC.out.calm kf).rul, (HCC.out.calm kf).tab, (HCC.out.calm kf).stg, (HCC.out.calm kf).slot⟩
    have HS : Hid (Calls Try.prog 13 #[.agg #[.slice sg C.sigs.length sgc, .slice ru C.ruls.length ruc, .slice tb C.tab.length tbc, .int .i64 C.b0, .int .i64 C.b1, .int .i64 C.b2, .int .i64 C.drain, .int .i64 C.pause, .int .i64 C.off, .bool C.brk, .int .i64 m]] WF fun e w' => e = .returned (.bool true) ∧ Keeps No WF w') := hid (csame_true (C := ⟨C.sigs, C.ruls, C.tab, C.b0, C.b1, C.b2, C.drain, C.pause, C.off, C.brk, m⟩) hcf HF.out.1 HF.out.2.1 HF.out.2.2.1 HF.out.2.2.2)
    have KF := hid (K4.out.trans kf)
    have HBF := hid hbf
    have HWF := hid hWF
    have x0 := HC5.out.cell (o := 10) rfl
    have f0 := HC5.out.free 10
    clear hWF hbf kf hcf
    go_upto_region 24 with fail
    rw [HWF.out]
    clear x0 f0
    have x0 := HBF.out.cell (o := 0) rfl
    have x1 := HBF.out.cell (o := 1) rfl
    have x2 := HBF.out.cell (o := 2) rfl
    have x3 := HBF.out.cell (o := 3) rfl
    have x4 := HBF.out.cell (o := 4) rfl
    have x5 := HBF.out.cell (o := 5) rfl
    have x6 := HBF.out.cell (o := 6) rfl
    have x7 := HBF.out.cell (o := 7) rfl
    have x8 := HBF.out.cell (o := 8) rfl
    have x9 := HBF.out.cell (o := 9) rfl
    have x10 := HBF.out.cell (o := 10) rfl
    go_wp2_with fail
    refine HS.out.mono ?_
    rintro e w6 ⟨rfl, k6⟩
    have K6 := hid (KF.out.trans k6)
    clear k6
    go_wp2_with fail
    go_ret
    exact ⟨rfl, K6.out.toBelow⟩
  · have h8 : a1 % 8 = 5 := h8
    obtain ⟨dv, hdv⟩ : ∃ x, a1 / 8 = x := ⟨_, rfl⟩
    have hdv2 : a1.tdiv 8 = dv := by rw [← hdv]; exact Int.tdiv_eq_ediv_of_nonneg b0
    have hq0 : 0 ≤ dv ∧ dv ≤ 31 := by omega
    obtain ⟨hq0, hq1⟩ := hq0
    have hsb := HOWN.out.sblk
    obtain ⟨bs, ebs, hsb, hbsn⟩ := hsb
    have hs3 : C.sigs.length = 3 := by simp only [Value.slice.injEq] at ebs; exact ebs.2.1
    have hbs : Value.slice sg C.sigs.length sgc = .slice (some ⟨bs, 0, none⟩) 3 3 := ebs
    have hsig : sg = some ⟨bs, 0, none⟩ ∧ sgc = 3 := by simp only [Value.slice.injEq] at ebs; exact ⟨ebs.1, ebs.2.2⟩
    obtain ⟨rfl, rfl⟩ := hsig
    have HS3 := hid hs3
    have hbs4 := hsb.lt
    have HSB := hid (hsb.keep K45.out (fun h => h))
    have HOW5 := hid (HOWN.out.calm K45.out)
    have HEB := hid ebs
    clear ebs hbs hsb hs3
    rcases (show dv % 3 = 0 ∨ dv % 3 = 1 ∨ dv % 3 = 2 by omega) with h3 | h3 | h3
    · have h3 : dv % 3 = 0 := h3
      have h3t : dv.tmod 3 = 0 := by rw [Int.tmod_eq_emod_of_nonneg hq0]; exact h3
      obtain ⟨xs, hxs⟩ : ∃ xs : Sig, ⟨m, (C.sigs[0]'(by have := HS3.out; omega)).mx⟩ = xs := ⟨_, rfl⟩
      have hset := MadeOwn.setSig (HCC.out.calm K45.out) HOW5.out HEB.out HS3.out (i := 0) (j := 0) (by have := HS3.out; omega) (by decide) (u := .int .i64 m) (x := xs) (by rw [← hxs]; rfl)
      obtain ⟨hcs, hks⟩ := hset
      obtain ⟨WF, hWF⟩ : ∃ WF, W5.setCell ⟨bs, 0, none⟩ (.int .i64 m) = WF := ⟨_, rfl⟩
      have hWF' : W5.setCell ⟨bs, 0 * 2 + 0, none⟩ (.int .i64 m) = WF := hWF
      rw [hWF'] at hcs hks
      have hbf := HC5.out.keep hks (fun e => by omega)
      have hw4 := K4.out.size
      have kf0 := K4.out.trans K45.out
      have hlen : (C.sigs.set 0 xs).length = 3 := by rw [List.length_set]; exact HS3.out
      have kf : Keeps No w WF := kf0.trans' hks (fun _ _ h => h) (fun i hi e => by omega)
      have hcs2 : CfgR WF (withSigs C (C.sigs.set 0 xs)) (.slice (some ⟨bs, 0, none⟩) (withSigs C (C.sigs.set 0 xs)).sigs.length 3) (.slice ru (withSigs C (C.sigs.set 0 xs)).ruls.length ruc) (.slice tb (withSigs C (C.sigs.set 0 xs)).tab.length tbc) := by
        have e1 : (withSigs C (C.sigs.set 0 xs)).sigs.length = C.sigs.length := by show (C.sigs.set 0 xs).length = _; rw [List.length_set]
        rw [e1]
        exact hcs
      have hsm := csame_true (C := withSigs C (C.sigs.set 0 xs)) hcs2 HF.out.1 HF.out.2.1 HF.out.2.2.1 (by show (C.sigs.set 0 xs).length ≤ 1000; omega)
      have HS : Hid (Calls Try.prog 13 #[.agg #[.slice (some ⟨bs, 0, none⟩) C.sigs.length 3, .slice ru C.ruls.length ruc, .slice tb C.tab.length tbc, .int .i64 C.b0, .int .i64 C.b1, .int .i64 C.b2, .int .i64 C.drain, .int .i64 C.pause, .int .i64 C.off, .bool C.brk, .int .i64 C.log]] WF fun e w' => e = .returned (.bool true) ∧ Keeps No WF w') := hid (by
        have e1 : (withSigs C (C.sigs.set 0 xs)).sigs.length = C.sigs.length := by show (C.sigs.set 0 xs).length = _; rw [List.length_set]
        rw [e1] at hsm
        exact hsm)
      have KF := hid kf
      have HBF := hid hbf
      have HWF := hid hWF
      have y0 := HC5.out.cell (o := 0) rfl
      rw [HS3.out] at y0
      have z0 := HSB.out.cell (o := 0) rfl
      have f0 := HSB.out.free 0
      clear hWF hWF' hbf kf hcs hcs2 hks hsm kf0 hlen hxs
      go_upto_region 24 with fail
      rw [HWF.out]
      clear y0 z0 f0
      have x0 := HBF.out.cell (o := 0) rfl
      have x1 := HBF.out.cell (o := 1) rfl
      have x2 := HBF.out.cell (o := 2) rfl
      have x3 := HBF.out.cell (o := 3) rfl
      have x4 := HBF.out.cell (o := 4) rfl
      have x5 := HBF.out.cell (o := 5) rfl
      have x6 := HBF.out.cell (o := 6) rfl
      have x7 := HBF.out.cell (o := 7) rfl
      have x8 := HBF.out.cell (o := 8) rfl
      have x9 := HBF.out.cell (o := 9) rfl
      have x10 := HBF.out.cell (o := 10) rfl
      go_wp2_with fail
      refine HS.out.mono ?_
      rintro e w6 ⟨rfl, k6⟩
      have K6 := hid (KF.out.trans k6)
      clear k6
      go_wp2_with fail
      go_ret
      exact ⟨rfl, K6.out.toBelow⟩
    · have h3 : dv % 3 = 1 := h3
      have h3t : dv.tmod 3 = 1 := by rw [Int.tmod_eq_emod_of_nonneg hq0]; exact h3
      obtain ⟨xs, hxs⟩ : ∃ xs : Sig, ⟨m, (C.sigs[1]'(by have := HS3.out; omega)).mx⟩ = xs := ⟨_, rfl⟩
      have hset := MadeOwn.setSig (HCC.out.calm K45.out) HOW5.out HEB.out HS3.out (i := 1) (j := 0) (by have := HS3.out; omega) (by decide) (u := .int .i64 m) (x := xs) (by rw [← hxs]; rfl)
      obtain ⟨hcs, hks⟩ := hset
      obtain ⟨WF, hWF⟩ : ∃ WF, W5.setCell ⟨bs, 2, none⟩ (.int .i64 m) = WF := ⟨_, rfl⟩
      have hWF' : W5.setCell ⟨bs, 1 * 2 + 0, none⟩ (.int .i64 m) = WF := hWF
      rw [hWF'] at hcs hks
      have hbf := HC5.out.keep hks (fun e => by omega)
      have hw4 := K4.out.size
      have kf0 := K4.out.trans K45.out
      have hlen : (C.sigs.set 1 xs).length = 3 := by rw [List.length_set]; exact HS3.out
      have kf : Keeps No w WF := kf0.trans' hks (fun _ _ h => h) (fun i hi e => by omega)
      have hcs2 : CfgR WF (withSigs C (C.sigs.set 1 xs)) (.slice (some ⟨bs, 0, none⟩) (withSigs C (C.sigs.set 1 xs)).sigs.length 3) (.slice ru (withSigs C (C.sigs.set 1 xs)).ruls.length ruc) (.slice tb (withSigs C (C.sigs.set 1 xs)).tab.length tbc) := by
        have e1 : (withSigs C (C.sigs.set 1 xs)).sigs.length = C.sigs.length := by show (C.sigs.set 1 xs).length = _; rw [List.length_set]
        rw [e1]
        exact hcs
      have hsm := csame_true (C := withSigs C (C.sigs.set 1 xs)) hcs2 HF.out.1 HF.out.2.1 HF.out.2.2.1 (by show (C.sigs.set 1 xs).length ≤ 1000; omega)
      have HS : Hid (Calls Try.prog 13 #[.agg #[.slice (some ⟨bs, 0, none⟩) C.sigs.length 3, .slice ru C.ruls.length ruc, .slice tb C.tab.length tbc, .int .i64 C.b0, .int .i64 C.b1, .int .i64 C.b2, .int .i64 C.drain, .int .i64 C.pause, .int .i64 C.off, .bool C.brk, .int .i64 C.log]] WF fun e w' => e = .returned (.bool true) ∧ Keeps No WF w') := hid (by
        have e1 : (withSigs C (C.sigs.set 1 xs)).sigs.length = C.sigs.length := by show (C.sigs.set 1 xs).length = _; rw [List.length_set]
        rw [e1] at hsm
        exact hsm)
      have KF := hid kf
      have HBF := hid hbf
      have HWF := hid hWF
      have y0 := HC5.out.cell (o := 0) rfl
      rw [HS3.out] at y0
      have z0 := HSB.out.cell (o := 2) rfl
      have f0 := HSB.out.free 2
      clear hWF hWF' hbf kf hcs hcs2 hks hsm kf0 hlen hxs
      go_upto_region 24 with fail
      rw [HWF.out]
      clear y0 z0 f0
      have x0 := HBF.out.cell (o := 0) rfl
      have x1 := HBF.out.cell (o := 1) rfl
      have x2 := HBF.out.cell (o := 2) rfl
      have x3 := HBF.out.cell (o := 3) rfl
      have x4 := HBF.out.cell (o := 4) rfl
      have x5 := HBF.out.cell (o := 5) rfl
      have x6 := HBF.out.cell (o := 6) rfl
      have x7 := HBF.out.cell (o := 7) rfl
      have x8 := HBF.out.cell (o := 8) rfl
      have x9 := HBF.out.cell (o := 9) rfl
      have x10 := HBF.out.cell (o := 10) rfl
      go_wp2_with fail
      refine HS.out.mono ?_
      rintro e w6 ⟨rfl, k6⟩
      have K6 := hid (KF.out.trans k6)
      clear k6
      go_wp2_with fail
      go_ret
      exact ⟨rfl, K6.out.toBelow⟩
    · have h3 : dv % 3 = 2 := h3
      have h3t : dv.tmod 3 = 2 := by rw [Int.tmod_eq_emod_of_nonneg hq0]; exact h3
      obtain ⟨xs, hxs⟩ : ∃ xs : Sig, ⟨m, (C.sigs[2]'(by have := HS3.out; omega)).mx⟩ = xs := ⟨_, rfl⟩
      have hset := MadeOwn.setSig (HCC.out.calm K45.out) HOW5.out HEB.out HS3.out (i := 2) (j := 0) (by have := HS3.out; omega) (by decide) (u := .int .i64 m) (x := xs) (by rw [← hxs]; rfl)
      obtain ⟨hcs, hks⟩ := hset
      obtain ⟨WF, hWF⟩ : ∃ WF, W5.setCell ⟨bs, 4, none⟩ (.int .i64 m) = WF := ⟨_, rfl⟩
      have hWF' : W5.setCell ⟨bs, 2 * 2 + 0, none⟩ (.int .i64 m) = WF := hWF
      rw [hWF'] at hcs hks
      have hbf := HC5.out.keep hks (fun e => by omega)
      have hw4 := K4.out.size
      have kf0 := K4.out.trans K45.out
      have hlen : (C.sigs.set 2 xs).length = 3 := by rw [List.length_set]; exact HS3.out
      have kf : Keeps No w WF := kf0.trans' hks (fun _ _ h => h) (fun i hi e => by omega)
      have hcs2 : CfgR WF (withSigs C (C.sigs.set 2 xs)) (.slice (some ⟨bs, 0, none⟩) (withSigs C (C.sigs.set 2 xs)).sigs.length 3) (.slice ru (withSigs C (C.sigs.set 2 xs)).ruls.length ruc) (.slice tb (withSigs C (C.sigs.set 2 xs)).tab.length tbc) := by
        have e1 : (withSigs C (C.sigs.set 2 xs)).sigs.length = C.sigs.length := by show (C.sigs.set 2 xs).length = _; rw [List.length_set]
        rw [e1]
        exact hcs
      have hsm := csame_true (C := withSigs C (C.sigs.set 2 xs)) hcs2 HF.out.1 HF.out.2.1 HF.out.2.2.1 (by show (C.sigs.set 2 xs).length ≤ 1000; omega)
      have HS : Hid (Calls Try.prog 13 #[.agg #[.slice (some ⟨bs, 0, none⟩) C.sigs.length 3, .slice ru C.ruls.length ruc, .slice tb C.tab.length tbc, .int .i64 C.b0, .int .i64 C.b1, .int .i64 C.b2, .int .i64 C.drain, .int .i64 C.pause, .int .i64 C.off, .bool C.brk, .int .i64 C.log]] WF fun e w' => e = .returned (.bool true) ∧ Keeps No WF w') := hid (by
        have e1 : (withSigs C (C.sigs.set 2 xs)).sigs.length = C.sigs.length := by show (C.sigs.set 2 xs).length = _; rw [List.length_set]
        rw [e1] at hsm
        exact hsm)
      have KF := hid kf
      have HBF := hid hbf
      have HWF := hid hWF
      have y0 := HC5.out.cell (o := 0) rfl
      rw [HS3.out] at y0
      have z0 := HSB.out.cell (o := 4) rfl
      have f0 := HSB.out.free 4
      clear hWF hWF' hbf kf hcs hcs2 hks hsm kf0 hlen hxs
      go_upto_region 24 with fail
      rw [HWF.out]
      clear y0 z0 f0
      have x0 := HBF.out.cell (o := 0) rfl
      have x1 := HBF.out.cell (o := 1) rfl
      have x2 := HBF.out.cell (o := 2) rfl
      have x3 := HBF.out.cell (o := 3) rfl
      have x4 := HBF.out.cell (o := 4) rfl
      have x5 := HBF.out.cell (o := 5) rfl
      have x6 := HBF.out.cell (o := 6) rfl
      have x7 := HBF.out.cell (o := 7) rfl
      have x8 := HBF.out.cell (o := 8) rfl
      have x9 := HBF.out.cell (o := 9) rfl
      have x10 := HBF.out.cell (o := 10) rfl
      go_wp2_with fail
      refine HS.out.mono ?_
      rintro e w6 ⟨rfl, k6⟩
      have K6 := hid (KF.out.trans k6)
      clear k6
      go_wp2_with fail
      go_ret
      exact ⟨rfl, K6.out.toBelow⟩
  · have h8 : a1 % 8 = 6 := h8
    obtain ⟨dv, hdv⟩ : ∃ x, a1 / 8 = x := ⟨_, rfl⟩
    have hdv2 : a1.tdiv 8 = dv := by rw [← hdv]; exact Int.tdiv_eq_ediv_of_nonneg b0
    have hq0 : 0 ≤ dv ∧ dv ≤ 31 := by omega
    obtain ⟨hq0, hq1⟩ := hq0
    have hsb := HOWN.out.sblk
    obtain ⟨bs, ebs, hsb, hbsn⟩ := hsb
    have hs3 : C.sigs.length = 3 := by simp only [Value.slice.injEq] at ebs; exact ebs.2.1
    have hbs : Value.slice sg C.sigs.length sgc = .slice (some ⟨bs, 0, none⟩) 3 3 := ebs
    have hsig : sg = some ⟨bs, 0, none⟩ ∧ sgc = 3 := by simp only [Value.slice.injEq] at ebs; exact ⟨ebs.1, ebs.2.2⟩
    obtain ⟨rfl, rfl⟩ := hsig
    have HS3 := hid hs3
    have hbs4 := hsb.lt
    have HSB := hid (hsb.keep K45.out (fun h => h))
    have HOW5 := hid (HOWN.out.calm K45.out)
    have HEB := hid ebs
    clear ebs hbs hsb hs3
    rcases (show dv % 3 = 0 ∨ dv % 3 = 1 ∨ dv % 3 = 2 by omega) with h3 | h3 | h3
    · have h3 : dv % 3 = 0 := h3
      have h3t : dv.tmod 3 = 0 := by rw [Int.tmod_eq_emod_of_nonneg hq0]; exact h3
      obtain ⟨xs, hxs⟩ : ∃ xs : Sig, ⟨(C.sigs[0]'(by have := HS3.out; omega)).mn, m⟩ = xs := ⟨_, rfl⟩
      have hset := MadeOwn.setSig (HCC.out.calm K45.out) HOW5.out HEB.out HS3.out (i := 0) (j := 1) (by have := HS3.out; omega) (by decide) (u := .int .i64 m) (x := xs) (by rw [← hxs]; rfl)
      obtain ⟨hcs, hks⟩ := hset
      obtain ⟨WF, hWF⟩ : ∃ WF, W5.setCell ⟨bs, 1, none⟩ (.int .i64 m) = WF := ⟨_, rfl⟩
      have hWF' : W5.setCell ⟨bs, 0 * 2 + 1, none⟩ (.int .i64 m) = WF := hWF
      rw [hWF'] at hcs hks
      have hbf := HC5.out.keep hks (fun e => by omega)
      have hw4 := K4.out.size
      have kf0 := K4.out.trans K45.out
      have hlen : (C.sigs.set 0 xs).length = 3 := by rw [List.length_set]; exact HS3.out
      have kf : Keeps No w WF := kf0.trans' hks (fun _ _ h => h) (fun i hi e => by omega)
      have hcs2 : CfgR WF (withSigs C (C.sigs.set 0 xs)) (.slice (some ⟨bs, 0, none⟩) (withSigs C (C.sigs.set 0 xs)).sigs.length 3) (.slice ru (withSigs C (C.sigs.set 0 xs)).ruls.length ruc) (.slice tb (withSigs C (C.sigs.set 0 xs)).tab.length tbc) := by
        have e1 : (withSigs C (C.sigs.set 0 xs)).sigs.length = C.sigs.length := by show (C.sigs.set 0 xs).length = _; rw [List.length_set]
        rw [e1]
        exact hcs
      have hsm := csame_true (C := withSigs C (C.sigs.set 0 xs)) hcs2 HF.out.1 HF.out.2.1 HF.out.2.2.1 (by show (C.sigs.set 0 xs).length ≤ 1000; omega)
      have HS : Hid (Calls Try.prog 13 #[.agg #[.slice (some ⟨bs, 0, none⟩) C.sigs.length 3, .slice ru C.ruls.length ruc, .slice tb C.tab.length tbc, .int .i64 C.b0, .int .i64 C.b1, .int .i64 C.b2, .int .i64 C.drain, .int .i64 C.pause, .int .i64 C.off, .bool C.brk, .int .i64 C.log]] WF fun e w' => e = .returned (.bool true) ∧ Keeps No WF w') := hid (by
        have e1 : (withSigs C (C.sigs.set 0 xs)).sigs.length = C.sigs.length := by show (C.sigs.set 0 xs).length = _; rw [List.length_set]
        rw [e1] at hsm
        exact hsm)
      have KF := hid kf
      have HBF := hid hbf
      have HWF := hid hWF
      have y0 := HC5.out.cell (o := 0) rfl
      rw [HS3.out] at y0
      have z0 := HSB.out.cell (o := 1) rfl
      have f0 := HSB.out.free 1
      clear hWF hWF' hbf kf hcs hcs2 hks hsm kf0 hlen hxs
      go_upto_region 24 with fail
      rw [HWF.out]
      clear y0 z0 f0
      have x0 := HBF.out.cell (o := 0) rfl
      have x1 := HBF.out.cell (o := 1) rfl
      have x2 := HBF.out.cell (o := 2) rfl
      have x3 := HBF.out.cell (o := 3) rfl
      have x4 := HBF.out.cell (o := 4) rfl
      have x5 := HBF.out.cell (o := 5) rfl
      have x6 := HBF.out.cell (o := 6) rfl
      have x7 := HBF.out.cell (o := 7) rfl
      have x8 := HBF.out.cell (o := 8) rfl
      have x9 := HBF.out.cell (o := 9) rfl
      have x10 := HBF.out.cell (o := 10) rfl
      go_wp2_with fail
      refine HS.out.mono ?_
      rintro e w6 ⟨rfl, k6⟩
      have K6 := hid (KF.out.trans k6)
      clear k6
      go_wp2_with fail
      go_ret
      exact ⟨rfl, K6.out.toBelow⟩
    · have h3 : dv % 3 = 1 := h3
      have h3t : dv.tmod 3 = 1 := by rw [Int.tmod_eq_emod_of_nonneg hq0]; exact h3
      obtain ⟨xs, hxs⟩ : ∃ xs : Sig, ⟨(C.sigs[1]'(by have := HS3.out; omega)).mn, m⟩ = xs := ⟨_, rfl⟩
      have hset := MadeOwn.setSig (HCC.out.calm K45.out) HOW5.out HEB.out HS3.out (i := 1) (j := 1) (by have := HS3.out; omega) (by decide) (u := .int .i64 m) (x := xs) (by rw [← hxs]; rfl)
      obtain ⟨hcs, hks⟩ := hset
      obtain ⟨WF, hWF⟩ : ∃ WF, W5.setCell ⟨bs, 3, none⟩ (.int .i64 m) = WF := ⟨_, rfl⟩
      have hWF' : W5.setCell ⟨bs, 1 * 2 + 1, none⟩ (.int .i64 m) = WF := hWF
      rw [hWF'] at hcs hks
      have hbf := HC5.out.keep hks (fun e => by omega)
      have hw4 := K4.out.size
      have kf0 := K4.out.trans K45.out
      have hlen : (C.sigs.set 1 xs).length = 3 := by rw [List.length_set]; exact HS3.out
      have kf : Keeps No w WF := kf0.trans' hks (fun _ _ h => h) (fun i hi e => by omega)
      have hcs2 : CfgR WF (withSigs C (C.sigs.set 1 xs)) (.slice (some ⟨bs, 0, none⟩) (withSigs C (C.sigs.set 1 xs)).sigs.length 3) (.slice ru (withSigs C (C.sigs.set 1 xs)).ruls.length ruc) (.slice tb (withSigs C (C.sigs.set 1 xs)).tab.length tbc) := by
        have e1 : (withSigs C (C.sigs.set 1 xs)).sigs.length = C.sigs.length := by show (C.sigs.set 1 xs).length = _; rw [List.length_set]
        rw [e1]
        exact hcs
      have hsm := csame_true (C := withSigs C (C.sigs.set 1 xs)) hcs2 HF.out.1 HF.out.2.1 HF.out.2.2.1 (by show (C.sigs.set 1 xs).length ≤ 1000; omega)
      have HS : Hid (Calls Try.prog 13 #[.agg #[.slice (some ⟨bs, 0, none⟩) C.sigs.length 3, .slice ru C.ruls.length ruc, .slice tb C.tab.length tbc, .int .i64 C.b0, .int .i64 C.b1, .int .i64 C.b2, .int .i64 C.drain, .int .i64 C.pause, .int .i64 C.off, .bool C.brk, .int .i64 C.log]] WF fun e w' => e = .returned (.bool true) ∧ Keeps No WF w') := hid (by
        have e1 : (withSigs C (C.sigs.set 1 xs)).sigs.length = C.sigs.length := by show (C.sigs.set 1 xs).length = _; rw [List.length_set]
        rw [e1] at hsm
        exact hsm)
      have KF := hid kf
      have HBF := hid hbf
      have HWF := hid hWF
      have y0 := HC5.out.cell (o := 0) rfl
      rw [HS3.out] at y0
      have z0 := HSB.out.cell (o := 3) rfl
      have f0 := HSB.out.free 3
      clear hWF hWF' hbf kf hcs hcs2 hks hsm kf0 hlen hxs
      go_upto_region 24 with fail
      rw [HWF.out]
      clear y0 z0 f0
      have x0 := HBF.out.cell (o := 0) rfl
      have x1 := HBF.out.cell (o := 1) rfl
      have x2 := HBF.out.cell (o := 2) rfl
      have x3 := HBF.out.cell (o := 3) rfl
      have x4 := HBF.out.cell (o := 4) rfl
      have x5 := HBF.out.cell (o := 5) rfl
      have x6 := HBF.out.cell (o := 6) rfl
      have x7 := HBF.out.cell (o := 7) rfl
      have x8 := HBF.out.cell (o := 8) rfl
      have x9 := HBF.out.cell (o := 9) rfl
      have x10 := HBF.out.cell (o := 10) rfl
      go_wp2_with fail
      refine HS.out.mono ?_
      rintro e w6 ⟨rfl, k6⟩
      have K6 := hid (KF.out.trans k6)
      clear k6
      go_wp2_with fail
      go_ret
      exact ⟨rfl, K6.out.toBelow⟩
    · have h3 : dv % 3 = 2 := h3
      have h3t : dv.tmod 3 = 2 := by rw [Int.tmod_eq_emod_of_nonneg hq0]; exact h3
      obtain ⟨xs, hxs⟩ : ∃ xs : Sig, ⟨(C.sigs[2]'(by have := HS3.out; omega)).mn, m⟩ = xs := ⟨_, rfl⟩
      have hset := MadeOwn.setSig (HCC.out.calm K45.out) HOW5.out HEB.out HS3.out (i := 2) (j := 1) (by have := HS3.out; omega) (by decide) (u := .int .i64 m) (x := xs) (by rw [← hxs]; rfl)
      obtain ⟨hcs, hks⟩ := hset
      obtain ⟨WF, hWF⟩ : ∃ WF, W5.setCell ⟨bs, 5, none⟩ (.int .i64 m) = WF := ⟨_, rfl⟩
      have hWF' : W5.setCell ⟨bs, 2 * 2 + 1, none⟩ (.int .i64 m) = WF := hWF
      rw [hWF'] at hcs hks
      have hbf := HC5.out.keep hks (fun e => by omega)
      have hw4 := K4.out.size
      have kf0 := K4.out.trans K45.out
      have hlen : (C.sigs.set 2 xs).length = 3 := by rw [List.length_set]; exact HS3.out
      have kf : Keeps No w WF := kf0.trans' hks (fun _ _ h => h) (fun i hi e => by omega)
      have hcs2 : CfgR WF (withSigs C (C.sigs.set 2 xs)) (.slice (some ⟨bs, 0, none⟩) (withSigs C (C.sigs.set 2 xs)).sigs.length 3) (.slice ru (withSigs C (C.sigs.set 2 xs)).ruls.length ruc) (.slice tb (withSigs C (C.sigs.set 2 xs)).tab.length tbc) := by
        have e1 : (withSigs C (C.sigs.set 2 xs)).sigs.length = C.sigs.length := by show (C.sigs.set 2 xs).length = _; rw [List.length_set]
        rw [e1]
        exact hcs
      have hsm := csame_true (C := withSigs C (C.sigs.set 2 xs)) hcs2 HF.out.1 HF.out.2.1 HF.out.2.2.1 (by show (C.sigs.set 2 xs).length ≤ 1000; omega)
      have HS : Hid (Calls Try.prog 13 #[.agg #[.slice (some ⟨bs, 0, none⟩) C.sigs.length 3, .slice ru C.ruls.length ruc, .slice tb C.tab.length tbc, .int .i64 C.b0, .int .i64 C.b1, .int .i64 C.b2, .int .i64 C.drain, .int .i64 C.pause, .int .i64 C.off, .bool C.brk, .int .i64 C.log]] WF fun e w' => e = .returned (.bool true) ∧ Keeps No WF w') := hid (by
        have e1 : (withSigs C (C.sigs.set 2 xs)).sigs.length = C.sigs.length := by show (C.sigs.set 2 xs).length = _; rw [List.length_set]
        rw [e1] at hsm
        exact hsm)
      have KF := hid kf
      have HBF := hid hbf
      have HWF := hid hWF
      have y0 := HC5.out.cell (o := 0) rfl
      rw [HS3.out] at y0
      have z0 := HSB.out.cell (o := 5) rfl
      have f0 := HSB.out.free 5
      clear hWF hWF' hbf kf hcs hcs2 hks hsm kf0 hlen hxs
      go_upto_region 24 with fail
      rw [HWF.out]
      clear y0 z0 f0
      have x0 := HBF.out.cell (o := 0) rfl
      have x1 := HBF.out.cell (o := 1) rfl
      have x2 := HBF.out.cell (o := 2) rfl
      have x3 := HBF.out.cell (o := 3) rfl
      have x4 := HBF.out.cell (o := 4) rfl
      have x5 := HBF.out.cell (o := 5) rfl
      have x6 := HBF.out.cell (o := 6) rfl
      have x7 := HBF.out.cell (o := 7) rfl
      have x8 := HBF.out.cell (o := 8) rfl
      have x9 := HBF.out.cell (o := 9) rfl
      have x10 := HBF.out.cell (o := 10) rfl
      go_wp2_with fail
      refine HS.out.mono ?_
      rintro e w6 ⟨rfl, k6⟩
      have K6 := hid (KF.out.trans k6)
      clear k6
      go_wp2_with fail
      go_ret
      exact ⟨rfl, K6.out.toBelow⟩
  · have h8 : a1 % 8 = 7 := h8
    obtain ⟨dv, hdv⟩ : ∃ x, a1 / 8 = x := ⟨_, rfl⟩
    have hdv2 : a1.tdiv 8 = dv := by rw [← hdv]; exact Int.tdiv_eq_ediv_of_nonneg b0
    have hq0 : 0 ≤ dv ∧ dv ≤ 31 := by omega
    obtain ⟨hq0, hq1⟩ := hq0
    have hsb := HOWN.out.sblk
    obtain ⟨bs, ebs, hsb, hbsn⟩ := hsb
    have hs3 : C.sigs.length = 3 := by simp only [Value.slice.injEq] at ebs; exact ebs.2.1
    have hsig : sg = some ⟨bs, 0, none⟩ ∧ sgc = 3 := by simp only [Value.slice.injEq] at ebs; exact ⟨ebs.1, ebs.2.2⟩
    obtain ⟨rfl, rfl⟩ := hsig
    have HS3 := hid hs3
    clear ebs hsb hs3
    rcases (show dv % 4 = 0 ∨ dv % 4 = 1 ∨ dv % 4 = 2 ∨ dv % 4 = 3 by omega) with h3 | h3 | h3 | h3
    · have h3 : dv % 4 = 0 := h3
      have h3t : dv.tmod 4 = 0 := by rw [Int.tmod_eq_emod_of_nonneg hq0]; exact h3
      obtain ⟨WF, hWF⟩ : ∃ WF, W5.setCell ⟨w4.heap.size, 0, none⟩ (.slice (some ⟨bs, 0, none⟩) 0 3) = WF := ⟨_, rfl⟩
      have hbf : BlkL WF w4.heap.size 33 [.slice (some ⟨bs, 0, none⟩) 0 3, .slice ru C.ruls.length ruc, .slice tb C.tab.length tbc, .int .i64 C.b0, .int .i64 C.b1, .int .i64 C.b2, .int .i64 C.drain, .int .i64 C.pause, .int .i64 C.off, .bool C.brk, .int .i64 C.log] := by rw [← hWF]; exact HC5.out.put 0 _ rfl
      have kf : Keeps No w4 WF := by rw [← hWF]; exact K45.out.setCell (p := ⟨w4.heap.size, 0, none⟩) (Or.inl (Nat.le_refl _)) _
      have htl : (C.sigs.take 0).length = 0 := by rw [List.length_take, HS3.out]; rfl
      have hcc := HCC.out.calm kf
      have hsig : Sl WF 2 (.slice (some ⟨bs, 0, none⟩) 0 3) (C.sigs.take 0).length ((C.sigs.take 0).flatMap encSig) := by
        have := Sl.front hcc.sig (m := 0) (by rw [HS3.out]; decide)
        rw [take_flatMap (size := 2) (fun _ => rfl)] at this
        rw [htl]
        exact this
      have hcf : CfgR WF (withSigs C (C.sigs.take 0)) (.slice (some ⟨bs, 0, none⟩) (withSigs C (C.sigs.take 0)).sigs.length 3) (.slice ru (withSigs C (C.sigs.take 0)).ruls.length ruc) (.slice tb (withSigs C (C.sigs.take 0)).tab.length tbc) := by
        have e1 : (withSigs C (C.sigs.take 0)).sigs.length = 0 := htl
        rw [e1]
        exact ⟨hsig, hcc.rul, hcc.tab, hcc.stg, hcc.slot⟩
      have hsm := csame_true (C := withSigs C (C.sigs.take 0)) hcf HF.out.1 HF.out.2.1 HF.out.2.2.1 (by show (C.sigs.take 0).length ≤ 1000; omega)
      have HS : Hid (Calls Try.prog 13 #[.agg #[.slice (some ⟨bs, 0, none⟩) 0 3, .slice ru C.ruls.length ruc, .slice tb C.tab.length tbc, .int .i64 C.b0, .int .i64 C.b1, .int .i64 C.b2, .int .i64 C.drain, .int .i64 C.pause, .int .i64 C.off, .bool C.brk, .int .i64 C.log]] WF fun e w' => e = .returned (.bool true) ∧ Keeps No WF w') := hid (by
        have e1 : (withSigs C (C.sigs.take 0)).sigs.length = 0 := htl
        rw [e1] at hsm
        exact hsm)
      have KF := hid (K4.out.trans kf)
      have HBF := hid hbf
      have HWF := hid hWF
      have x0 := HC5.out.cell (o := 0) rfl
      rw [HS3.out] at x0
      have f0 := HC5.out.free 0
      clear hWF hbf kf hcf hsm htl hcc hsig
      go_upto_region 24 with fail
      rw [HWF.out]
      clear x0 f0
      have x0 := HBF.out.cell (o := 0) rfl
      have x1 := HBF.out.cell (o := 1) rfl
      have x2 := HBF.out.cell (o := 2) rfl
      have x3 := HBF.out.cell (o := 3) rfl
      have x4 := HBF.out.cell (o := 4) rfl
      have x5 := HBF.out.cell (o := 5) rfl
      have x6 := HBF.out.cell (o := 6) rfl
      have x7 := HBF.out.cell (o := 7) rfl
      have x8 := HBF.out.cell (o := 8) rfl
      have x9 := HBF.out.cell (o := 9) rfl
      have x10 := HBF.out.cell (o := 10) rfl
      go_wp2_with fail
      refine HS.out.mono ?_
      rintro e w6 ⟨rfl, k6⟩
      have K6 := hid (KF.out.trans k6)
      clear k6
      go_wp2_with fail
      go_ret
      exact ⟨rfl, K6.out.toBelow⟩
    · have h3 : dv % 4 = 1 := h3
      have h3t : dv.tmod 4 = 1 := by rw [Int.tmod_eq_emod_of_nonneg hq0]; exact h3
      obtain ⟨WF, hWF⟩ : ∃ WF, W5.setCell ⟨w4.heap.size, 0, none⟩ (.slice (some ⟨bs, 0, none⟩) 1 3) = WF := ⟨_, rfl⟩
      have hbf : BlkL WF w4.heap.size 33 [.slice (some ⟨bs, 0, none⟩) 1 3, .slice ru C.ruls.length ruc, .slice tb C.tab.length tbc, .int .i64 C.b0, .int .i64 C.b1, .int .i64 C.b2, .int .i64 C.drain, .int .i64 C.pause, .int .i64 C.off, .bool C.brk, .int .i64 C.log] := by rw [← hWF]; exact HC5.out.put 0 _ rfl
      have kf : Keeps No w4 WF := by rw [← hWF]; exact K45.out.setCell (p := ⟨w4.heap.size, 0, none⟩) (Or.inl (Nat.le_refl _)) _
      have htl : (C.sigs.take 1).length = 1 := by rw [List.length_take, HS3.out]; rfl
      have hcc := HCC.out.calm kf
      have hsig : Sl WF 2 (.slice (some ⟨bs, 0, none⟩) 1 3) (C.sigs.take 1).length ((C.sigs.take 1).flatMap encSig) := by
        have := Sl.front hcc.sig (m := 1) (by rw [HS3.out]; decide)
        rw [take_flatMap (size := 2) (fun _ => rfl)] at this
        rw [htl]
        exact this
      have hcf : CfgR WF (withSigs C (C.sigs.take 1)) (.slice (some ⟨bs, 0, none⟩) (withSigs C (C.sigs.take 1)).sigs.length 3) (.slice ru (withSigs C (C.sigs.take 1)).ruls.length ruc) (.slice tb (withSigs C (C.sigs.take 1)).tab.length tbc) := by
        have e1 : (withSigs C (C.sigs.take 1)).sigs.length = 1 := htl
        rw [e1]
        exact ⟨hsig, hcc.rul, hcc.tab, hcc.stg, hcc.slot⟩
      have hsm := csame_true (C := withSigs C (C.sigs.take 1)) hcf HF.out.1 HF.out.2.1 HF.out.2.2.1 (by show (C.sigs.take 1).length ≤ 1000; omega)
      have HS : Hid (Calls Try.prog 13 #[.agg #[.slice (some ⟨bs, 0, none⟩) 1 3, .slice ru C.ruls.length ruc, .slice tb C.tab.length tbc, .int .i64 C.b0, .int .i64 C.b1, .int .i64 C.b2, .int .i64 C.drain, .int .i64 C.pause, .int .i64 C.off, .bool C.brk, .int .i64 C.log]] WF fun e w' => e = .returned (.bool true) ∧ Keeps No WF w') := hid (by
        have e1 : (withSigs C (C.sigs.take 1)).sigs.length = 1 := htl
        rw [e1] at hsm
        exact hsm)
      have KF := hid (K4.out.trans kf)
      have HBF := hid hbf
      have HWF := hid hWF
      have x0 := HC5.out.cell (o := 0) rfl
      rw [HS3.out] at x0
      have f0 := HC5.out.free 0
      clear hWF hbf kf hcf hsm htl hcc hsig
      go_upto_region 24 with fail
      rw [HWF.out]
      clear x0 f0
      have x0 := HBF.out.cell (o := 0) rfl
      have x1 := HBF.out.cell (o := 1) rfl
      have x2 := HBF.out.cell (o := 2) rfl
      have x3 := HBF.out.cell (o := 3) rfl
      have x4 := HBF.out.cell (o := 4) rfl
      have x5 := HBF.out.cell (o := 5) rfl
      have x6 := HBF.out.cell (o := 6) rfl
      have x7 := HBF.out.cell (o := 7) rfl
      have x8 := HBF.out.cell (o := 8) rfl
      have x9 := HBF.out.cell (o := 9) rfl
      have x10 := HBF.out.cell (o := 10) rfl
      go_wp2_with fail
      refine HS.out.mono ?_
      rintro e w6 ⟨rfl, k6⟩
      have K6 := hid (KF.out.trans k6)
      clear k6
      go_wp2_with fail
      go_ret
      exact ⟨rfl, K6.out.toBelow⟩
    · have h3 : dv % 4 = 2 := h3
      have h3t : dv.tmod 4 = 2 := by rw [Int.tmod_eq_emod_of_nonneg hq0]; exact h3
      obtain ⟨WF, hWF⟩ : ∃ WF, W5.setCell ⟨w4.heap.size, 0, none⟩ (.slice (some ⟨bs, 0, none⟩) 2 3) = WF := ⟨_, rfl⟩
      have hbf : BlkL WF w4.heap.size 33 [.slice (some ⟨bs, 0, none⟩) 2 3, .slice ru C.ruls.length ruc, .slice tb C.tab.length tbc, .int .i64 C.b0, .int .i64 C.b1, .int .i64 C.b2, .int .i64 C.drain, .int .i64 C.pause, .int .i64 C.off, .bool C.brk, .int .i64 C.log] := by rw [← hWF]; exact HC5.out.put 0 _ rfl
      have kf : Keeps No w4 WF := by rw [← hWF]; exact K45.out.setCell (p := ⟨w4.heap.size, 0, none⟩) (Or.inl (Nat.le_refl _)) _
      have htl : (C.sigs.take 2).length = 2 := by rw [List.length_take, HS3.out]; rfl
      have hcc := HCC.out.calm kf
      have hsig : Sl WF 2 (.slice (some ⟨bs, 0, none⟩) 2 3) (C.sigs.take 2).length ((C.sigs.take 2).flatMap encSig) := by
        have := Sl.front hcc.sig (m := 2) (by rw [HS3.out]; decide)
        rw [take_flatMap (size := 2) (fun _ => rfl)] at this
        rw [htl]
        exact this
      have hcf : CfgR WF (withSigs C (C.sigs.take 2)) (.slice (some ⟨bs, 0, none⟩) (withSigs C (C.sigs.take 2)).sigs.length 3) (.slice ru (withSigs C (C.sigs.take 2)).ruls.length ruc) (.slice tb (withSigs C (C.sigs.take 2)).tab.length tbc) := by
        have e1 : (withSigs C (C.sigs.take 2)).sigs.length = 2 := htl
        rw [e1]
        exact ⟨hsig, hcc.rul, hcc.tab, hcc.stg, hcc.slot⟩
      have hsm := csame_true (C := withSigs C (C.sigs.take 2)) hcf HF.out.1 HF.out.2.1 HF.out.2.2.1 (by show (C.sigs.take 2).length ≤ 1000; omega)
      have HS : Hid (Calls Try.prog 13 #[.agg #[.slice (some ⟨bs, 0, none⟩) 2 3, .slice ru C.ruls.length ruc, .slice tb C.tab.length tbc, .int .i64 C.b0, .int .i64 C.b1, .int .i64 C.b2, .int .i64 C.drain, .int .i64 C.pause, .int .i64 C.off, .bool C.brk, .int .i64 C.log]] WF fun e w' => e = .returned (.bool true) ∧ Keeps No WF w') := hid (by
        have e1 : (withSigs C (C.sigs.take 2)).sigs.length = 2 := htl
        rw [e1] at hsm
        exact hsm)
      have KF := hid (K4.out.trans kf)
      have HBF := hid hbf
      have HWF := hid hWF
      have x0 := HC5.out.cell (o := 0) rfl
      rw [HS3.out] at x0
      have f0 := HC5.out.free 0
      clear hWF hbf kf hcf hsm htl hcc hsig
      go_upto_region 24 with fail
      rw [HWF.out]
      clear x0 f0
      have x0 := HBF.out.cell (o := 0) rfl
      have x1 := HBF.out.cell (o := 1) rfl
      have x2 := HBF.out.cell (o := 2) rfl
      have x3 := HBF.out.cell (o := 3) rfl
      have x4 := HBF.out.cell (o := 4) rfl
      have x5 := HBF.out.cell (o := 5) rfl
      have x6 := HBF.out.cell (o := 6) rfl
      have x7 := HBF.out.cell (o := 7) rfl
      have x8 := HBF.out.cell (o := 8) rfl
      have x9 := HBF.out.cell (o := 9) rfl
      have x10 := HBF.out.cell (o := 10) rfl
      go_wp2_with fail
      refine HS.out.mono ?_
      rintro e w6 ⟨rfl, k6⟩
      have K6 := hid (KF.out.trans k6)
      clear k6
      go_wp2_with fail
      go_ret
      exact ⟨rfl, K6.out.toBelow⟩
    · have h3 : dv % 4 = 3 := h3
      have h3t : dv.tmod 4 = 3 := by rw [Int.tmod_eq_emod_of_nonneg hq0]; exact h3
      obtain ⟨WF, hWF⟩ : ∃ WF, W5.setCell ⟨w4.heap.size, 0, none⟩ (.slice (some ⟨bs, 0, none⟩) 3 3) = WF := ⟨_, rfl⟩
      have hbf : BlkL WF w4.heap.size 33 [.slice (some ⟨bs, 0, none⟩) 3 3, .slice ru C.ruls.length ruc, .slice tb C.tab.length tbc, .int .i64 C.b0, .int .i64 C.b1, .int .i64 C.b2, .int .i64 C.drain, .int .i64 C.pause, .int .i64 C.off, .bool C.brk, .int .i64 C.log] := by rw [← hWF]; exact HC5.out.put 0 _ rfl
      have kf : Keeps No w4 WF := by rw [← hWF]; exact K45.out.setCell (p := ⟨w4.heap.size, 0, none⟩) (Or.inl (Nat.le_refl _)) _
      have htl : (C.sigs.take 3).length = 3 := by rw [List.length_take, HS3.out]; rfl
      have hcc := HCC.out.calm kf
      have hsig : Sl WF 2 (.slice (some ⟨bs, 0, none⟩) 3 3) (C.sigs.take 3).length ((C.sigs.take 3).flatMap encSig) := by
        have := Sl.front hcc.sig (m := 3) (by rw [HS3.out]; decide)
        rw [take_flatMap (size := 2) (fun _ => rfl)] at this
        rw [htl]
        exact this
      have hcf : CfgR WF (withSigs C (C.sigs.take 3)) (.slice (some ⟨bs, 0, none⟩) (withSigs C (C.sigs.take 3)).sigs.length 3) (.slice ru (withSigs C (C.sigs.take 3)).ruls.length ruc) (.slice tb (withSigs C (C.sigs.take 3)).tab.length tbc) := by
        have e1 : (withSigs C (C.sigs.take 3)).sigs.length = 3 := htl
        rw [e1]
        exact ⟨hsig, hcc.rul, hcc.tab, hcc.stg, hcc.slot⟩
      have hsm := csame_true (C := withSigs C (C.sigs.take 3)) hcf HF.out.1 HF.out.2.1 HF.out.2.2.1 (by show (C.sigs.take 3).length ≤ 1000; omega)
      have HS : Hid (Calls Try.prog 13 #[.agg #[.slice (some ⟨bs, 0, none⟩) 3 3, .slice ru C.ruls.length ruc, .slice tb C.tab.length tbc, .int .i64 C.b0, .int .i64 C.b1, .int .i64 C.b2, .int .i64 C.drain, .int .i64 C.pause, .int .i64 C.off, .bool C.brk, .int .i64 C.log]] WF fun e w' => e = .returned (.bool true) ∧ Keeps No WF w') := hid (by
        have e1 : (withSigs C (C.sigs.take 3)).sigs.length = 3 := htl
        rw [e1] at hsm
        exact hsm)
      have KF := hid (K4.out.trans kf)
      have HBF := hid hbf
      have HWF := hid hWF
      have x0 := HC5.out.cell (o := 0) rfl
      rw [HS3.out] at x0
      have f0 := HC5.out.free 0
      clear hWF hbf kf hcf hsm htl hcc hsig
      go_upto_region 24 with fail
      rw [HWF.out]
      clear x0 f0
      have x0 := HBF.out.cell (o := 0) rfl
      have x1 := HBF.out.cell (o := 1) rfl
      have x2 := HBF.out.cell (o := 2) rfl
      have x3 := HBF.out.cell (o := 3) rfl
      have x4 := HBF.out.cell (o := 4) rfl
      have x5 := HBF.out.cell (o := 5) rfl
      have x6 := HBF.out.cell (o := 6) rfl
      have x7 := HBF.out.cell (o := 7) rfl
      have x8 := HBF.out.cell (o := 8) rfl
      have x9 := HBF.out.cell (o := 9) rfl
      have x10 := HBF.out.cell (o := 10) rfl
      go_wp2_with fail
      refine HS.out.mono ?_
      rintro e w6 ⟨rfl, k6⟩
      have K6 := hid (KF.out.trans k6)
      clear k6
      go_wp2_with fail
      go_ret
      exact ⟨rfl, K6.out.toBelow⟩

theorem own : ownKnob Try.prog.godebug = none := by kernel_rfl
theorem laidOut : laidOutB Try.prog = true := by kernel_rfl
set_option maxRecDepth 100000 in
theorem lifted (os : Os) (started : os.Started) (H : Type) (enc : TypeId × Value → H) :
    ReturnsInHanded {} Try.checked os 4 .any (Rows.checkRestSpec.pre6 enc Try.prog Try.f4 Rows.checkRestRow.domain false) (Rows.checkRestSpec.post enc Try.prog Try.f4 false true false false) := by
  refine returnsInHanded_of_change (C := Try.checked) own started (by kernel_rfl) Try.func4
    (ChangeSpec.witness6 (enc := enc) (C := Try.checked) false ⟨#[], #[.agg #[.slice none 0 0, .slice none 0 0, .int .u8 0, .int .u8 0, .int .u8 0, .int .u8 0, .bool false, .int .u8 0], .int .u8 0, .int .i64 0, .bool false], []⟩ 8 (by kernel_rfl) (by kernel_rfl) (by kernel_rfl) (by kernel_rfl)) ?_
  intro W base args ds gs before hval0 hW hcnd _
  have hval : ∀ (j : Nat) t v, Try.f4.params[j]? = some t → args[j]? = some v → Value.okWide Try.prog W .any base t v := hval0
  have hW' := hW
  obtain ⟨p, q, hA0, hV, rfl, hfz, hnd⟩ := hW
  have hA : DataW.TrodAll enc Try.prog W 0 (fun _ => true) true Try.f4.params.toList args.toList ds p := hA0
  rw [Try.params4] at hA hval
  obtain ⟨v0, vs0, d0, ds0, p0, q0, hargs, rfl, rfl, h0, r0⟩ := trodAll_cons hA
  obtain ⟨v1, vs1, d1, ds1, p1, q1, rfl, rfl, rfl, h1, r1⟩ := trodAll_cons r0
  obtain ⟨v2, vs2, d2, ds2, p2, q2, rfl, rfl, rfl, h2, r2⟩ := trodAll_cons r1
  obtain ⟨v3, vs3, d3, ds3, p3, q3, rfl, rfl, rfl, h3, r3⟩ := trodAll_cons r2
  obtain ⟨rfl, rfl, rfl⟩ := trodAll_nil r3
  obtain rfl : args = #[v0, v1, v2, v3] := by cases args; simp_all
  obtain ⟨rfl, rfl⟩ := trodVars_none hV
  have k0 := h0
  have lt0 : ∀ x ∈ p0, x.block < W.heap.size := by obtain ⟨m, hm⟩ := k0; exact DataW.trod_lt m _ _ _ hm
  have k1 := h1
  have lt1 : ∀ x ∈ p1, x.block < W.heap.size := by obtain ⟨m, hm⟩ := k1; exact DataW.trod_lt m _ _ _ hm
  have k2 := h2
  have lt2 : ∀ x ∈ p2, x.block < W.heap.size := by obtain ⟨m, hm⟩ := k2; exact DataW.trod_lt m _ _ _ hm
  have k3 := h3
  have lt3 : ∀ x ∈ p3, x.block < W.heap.size := by obtain ⟨m, hm⟩ := k3; exact DataW.trod_lt m _ _ _ hm
  obtain ⟨rules, rv, slots, sv, ba, dr, pa, of_, br, lo, rfl, hd, u1, u2, u3, u4, u5⟩ := argDraft (hval 0 25 v0 rfl rfl) h0
  obtain ⟨a1, rfl, rfl, rfl, w1⟩ := open_int Try.underlying5 (hval 1 5 v1 rfl rfl) h1
  obtain ⟨a2, rfl, rfl, rfl, w2⟩ := open_int Try.underlying3 (hval 2 3 v2 rfl rfl) h2
  obtain ⟨a3, rfl, rfl, rfl⟩ := open_bool Try.underlying4 (hval 3 4 v3 rfl rfl) h3
  clear hA0 hval0
  refine (walk W rules rv slots sv ba dr pa of_ br lo hd u1 u2 u3 u4 u5 a1 w1 a2 w2 a3).mono fun e W' ⟨he, bel⟩ => ?_
  subst he
  exact ⟨_, rfl, _, _, _, [], _, [], hW', trodAll_mk1 (shut_bool Try.underlying4 _), (trodAll_cons_mk (Below.trod laidOut (by kernel_rfl) (of_decide_eq_true (by kernel_rfl)) k0 bel lt0) (trodAll_cons_mk (Below.trod laidOut (by kernel_rfl) (of_decide_eq_true (by kernel_rfl)) k1 bel lt1) (trodAll_cons_mk (Below.trod laidOut (by kernel_rfl) (of_decide_eq_true (by kernel_rfl)) k2 bel lt2) (trodAll_cons_mk (Below.trod laidOut (by kernel_rfl) (of_decide_eq_true (by kernel_rfl)) k3 bel lt3) trodAll_mk0)))), rfl, bel.frame _, fun h => by cases h⟩

theorem over : Rows.checkRestRow.holds Try.pinned (OpenSpec.ofChange Rows.checkRestSpec) :=
  OpenClaim.holds_of_wide 4 Try.f4 rfl rfl rfl rfl rfl rfl rfl ⟨rfl, rfl, rfl, rfl, rfl⟩ rfl rfl rfl rfl rfl (by kernel_rfl) Try.func4 (by kernel_rfl)
    (of_decide_eq_true (by kernel_rfl)) (by unfold Func.isWrapper; first | (rw [if_pos (by decide +kernel)]; kernel_rfl) | (rw [if_neg (by decide +kernel)]; exact ⟨rfl, rfl⟩))
    (fun os started H enc _ => lifted os started H enc)

theorem proved : Rows.CheckRestSaid := over
#print axioms proved
end Go.Proofs.Ytaakmlgkfbpdoaa.checkRest
