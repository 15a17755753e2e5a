/- Of each rule the most ticks between two looks; how late conditions may be shown. No conditions. -/
import Derived.Test.YtdibdjllcdnhaaaRows
import Derived.Test.YtdibdjllcdnhaaaArgsE
import Derived.Test.YtdibdjllcdnhaaaMake2
import Derived.Test.YtdibdjllcdnhaaaTblK
import Derived.Test.YtdibdjllcdnhaaaTblM
import Derived.Test.YtdibdjllcdnhaaaShort14
import Derived.ProofKit
import Derived.OpenShut
import Derived.Deep.RegionHeld3
import Derived.Deep.DeepCutAuto
import Derived.Deep.CutBlock
import Derived.Test.YtdibdjllcdnhaaaTblO
namespace Go.Proofs.Ytdibdjllcdnhaaa.tableGaps
open Go.ChangeShapes Go.WideShapes Go.ChangeAt Go.RowKit
open Go.ChangeMaps (open_string shut_string)
set_option linter.unusedVariables false

theorem wait_pos {n L : Nat} (hL : 1 ≤ L) : 1 ≤ waitD n L := by
  unfold waitD
  have := Int.mul_le_mul (show (1 : Int) ≤ (n : Int) + 1 by omega) (show (1 : Int) ≤ (L : Int) by omega) (by omega) (by omega)
  omega
theorem late_pos {C : Cfg} (hm : Made C) (r : Int) : decide (lateD C r > 0) = isRule C r ∧ decide (goneD C r > 0) = isRule C r := by
  have hw := wait_pos (n := C.ruls.length) hm.slots.1
  unfold lateD goneD
  cases h : isRule C r with
  | false => simp
  | true =>
    have hr : 0 ≤ r ∧ r < C.ruls.length := of_decide_eq_true h
    have hd : 0 ≤ delayD C r := by
      unfold delayD
      have hl : r.toNat < C.ruls.length := by omega
      rw [List.getD_eq_getElem?_getD, List.getElem?_map, List.getElem?_eq_getElem hl]
      exact (hm.ruls _ (List.getElem_mem hl)).num.delay.1
    simp only [if_true]
    refine ⟨decide_eq_true (by omega), decide_eq_true (by omega)⟩

set_option maxHeartbeats 16000000 in
set_option maxRecDepth 100000 in
theorem walk (w : World) (rules : List (LineD × Value)) (rv : Value) (slots : List Int) (sv : Value) (ba dr pa of_ : Int) (br : Bool) (lo : Int) (hd : DraftR w rules rv slots sv) (u1 : U8 ba) (u2 : U8 dr) (u3 : U8 pa) (u4 : U8 of_) (u5 : U8 lo) (rule : Int) (wr0 : (Lit.int .i64 rule).wf = true) :
    Calls Try.prog 3 #[.agg #[rv, sv, .int .u8 ba, .int .u8 dr, .int .u8 pa, .int .u8 of_, .bool br, .int .u8 lo], .int .i64 rule] w fun e w' => e = .returned (.bool true) ∧ Below w.heap.size w w' := by
  clear wr0
  obtain ⟨ra, rc, rfl⟩ := hd.rul.any
  obtain ⟨sa, sc, rfl⟩ := hd.slo.any
  obtain ⟨W1, hW1⟩ : ∃ W1, w.alloc (.cells #[.slice ra rules.length rc, .slice sa slots.length sc, .int .u8 ba, .int .u8 dr, .int .u8 pa, .int .u8 of_, .bool br, .int .u8 lo] 25) = W1 := ⟨_, rfl⟩
  have k1 : Keeps No w W1 := by rw [← hW1]; exact (Keeps.refl _ _).alloc _
  have hb : BlkL W1 w.heap.size 25 [.slice ra rules.length rc, .slice sa slots.length sc, .int .u8 ba, .int .u8 dr, .int .u8 pa, .int .u8 of_, .bool br, .int .u8 lo] := by rw [← hW1]; exact heap_alloc_new w _
  have H1 := hid (hd.calm k1)
  have HB := hid hb
  have HW1 := hid hW1
  have K1 := hid k1
  have U := hid (show U8 ba ∧ U8 dr ∧ U8 pa ∧ U8 of_ ∧ U8 lo from ⟨u1, u2, u3, u4, u5⟩)
  clear hd hW1 k1 hb u1 u2 u3 u4 u5
  go_enter Try.func3, Try.ntmps3
  go_upto_region 1 with fail
  rw [HW1.out]
  go_wp2_with fail
  refine (gaps_true _).mono ?_
  rintro e w2 ⟨rfl, k2⟩
  have hb := HB.out.keep k2 (fun h => h)
  have K2 := hid (K1.out.trans k2)
  have H2 := hid (H1.out.calm k2)
  have HB2 := hid hb
  have x0 := hb.cell (o := 0) rfl
  have x1 := hb.cell (o := 1) rfl
  have x2 := hb.cell (o := 2) rfl
  have x3 := hb.cell (o := 3) rfl
  have x4 := hb.cell (o := 4) rfl
  have x5 := hb.cell (o := 5) rfl
  have x6 := hb.cell (o := 6) rfl
  have x7 := hb.cell (o := 7) rfl
  clear hb k2
  go_wp2_with fail
  refine (short14_any H2.out ba dr pa of_ br lo).mono ?_
  rintro e w3 ⟨bs, rfl, k3⟩
  clear x0 x1 x2 x3 x4 x5 x6 x7
  have K3 := hid (K2.out.trans k3)
  have H3 := hid (H2.out.calm k3)
  have hb := HB2.out.keep k3 (fun h => h)
  clear k3
  cases bs
  · clear hb
    go_wp2_with fail
    refine (gaps_true _).mono ?_
    rintro e w4 ⟨rfl, k4⟩
    have K4 := hid (K3.out.trans k4)
    clear k4
    go_wp2_with fail
    go_ret
    exact ⟨rfl, K4.out.toBelow⟩
  have x0 := hb.cell (o := 0) rfl
  have x1 := hb.cell (o := 1) rfl
  have x2 := hb.cell (o := 2) rfl
  have x3 := hb.cell (o := 3) rfl
  have x4 := hb.cell (o := 4) rfl
  have x5 := hb.cell (o := 5) rfl
  have x6 := hb.cell (o := 6) rfl
  have x7 := hb.cell (o := 7) rfl
  clear hb
  go_wp2_with fail
  refine (make_any H3.out ba dr pa of_ br lo U.out.1 U.out.2.1 U.out.2.2.1 U.out.2.2.2.1 U.out.2.2.2.2).mono ?_
  rintro e w4 ⟨C, csv, crv, ctv, rfl, hc, hm, k4⟩
  clear x0 x1 x2 x3 x4 x5 x6 x7
  obtain ⟨sg, sgc, ru, ruc, tb, tbc, rfl, rfl, rfl⟩ := hc.shape
  unfold Cfg.val Cfg.cells
  have K4 := hid (K3.out.trans k4)
  have HC4 := hid hc
  have HM := hid hm
  have HML : Hid (∀ l ∈ C.tab, l.1.length ≤ 100000) := hid (made_short hm)
  have hL := hm.slots
  clear hc hm k4 K1 K2 K3 H1 H2 H3 HB HB2 U HW1
  obtain ⟨cb, hcb⟩ : ∃ y, w4.heap.size = y := ⟨_, rfl⟩
  obtain ⟨W5, hW5⟩ : ∃ W5, w4.alloc (.cells #[.slice sg C.sigs.length sgc, .slice ru C.ruls.length ruc, .slice tb C.tab.length tbc, .int .i64 C.b0, .int .i64 C.b1, .int .i64 C.b2, .int .i64 C.drain, .int .i64 C.pause, .int .i64 C.off, .bool C.brk, .int .i64 C.log] 33) = W5 := ⟨_, rfl⟩
  have HC5 : Hid (CfgR W5 C (.slice sg C.sigs.length sgc) (.slice ru C.ruls.length ruc) (.slice tb C.tab.length tbc)) := hid (HC4.out.calm (by rw [← hW5]; exact (Keeps.refl _ _).alloc _))
  have HB5 : Hid (Bk W5 cb 33 [.slice sg C.sigs.length sgc, .slice ru C.ruls.length ruc, .slice tb C.tab.length tbc, .int .i64 C.b0, .int .i64 C.b1, .int .i64 C.b2, .int .i64 C.drain, .int .i64 C.pause, .int .i64 C.off, .bool C.brk, .int .i64 C.log]) := hid (by rw [← hW5]; exact Bk.new hcb _ _)
  have K5 : Hid (Keeps No w W5) := hid (by rw [← hW5]; exact K4.out.alloc _)
  have HW5 := hid hW5
  have HCB := hid hcb
  have HNC : Hid (w.heap.size ≤ cb) := hid (by rw [← hcb]; exact K4.out.size)
  clear hcb hW5 K4 HC4
  have HGT : Hid (∀ (w' : World), Keeps No W5 w' → ∀ r : Int, Calls Try.prog 7 #[.agg #[.slice sg C.sigs.length sgc, .slice ru C.ruls.length ruc, .slice tb C.tab.length tbc, .int .i64 C.b0, .int .i64 C.b1, .int .i64 C.b2, .int .i64 C.drain, .int .i64 C.pause, .int .i64 C.off, .bool C.brk, .int .i64 C.log], .int .i64 r] w' fun e w'' => e = .returned (.int .i64 (gapD (C.tab.map (·.1)) r)) ∧ Keeps No w' w'') := hid (fun w' kw r => by
    have h := tgap_any (sa := sg) (sn := C.sigs.length) (sc := sgc) (ra := ru) (rn := C.ruls.length) (rc := ruc) (tc := tbc) (HC5.out.tabR.calm kw) ⟨hL.1, by have := hL.2; omega⟩ HML.out (by have := HM.out.few; omega) r (fun hn l hl hr => hn ((HM.out.tab l hl).rul r hr)) C.b0 C.b1 C.b2 C.drain C.pause C.off C.log C.brk
    unfold cfgV at h
    exact h)
  have HGM : Hid (∀ (w' : World), Keeps No W5 w' → ∀ r : Int, Calls Try.prog 8 #[.agg #[.slice sg C.sigs.length sgc, .slice ru C.ruls.length ruc, .slice tb C.tab.length tbc, .int .i64 C.b0, .int .i64 C.b1, .int .i64 C.b2, .int .i64 C.drain, .int .i64 C.pause, .int .i64 C.off, .bool C.brk, .int .i64 C.log], .int .i64 r] w' fun e w'' => e = .returned (.int .i64 (gapD (C.tab.map (·.1)) r)) ∧ Keeps No w' w'') := hid (fun w' kw r => by
    exact mgap_any (sa := sg) (sn := C.sigs.length) (sc := sgc) (ra := ru) (rn := C.ruls.length) (rc := ruc) (tc := tbc) (HC5.out.tabR.calm kw) rfl ⟨hL.1, by have := hL.2; omega⟩ HML.out r C.b0 C.b1 C.b2 C.drain C.pause C.off C.log C.brk)
  have HLT : Hid (∀ (w' : World), Keeps No W5 w' → ∀ r : Int, Calls Try.prog 9 #[.agg #[.slice sg C.sigs.length sgc, .slice ru C.ruls.length ruc, .slice tb C.tab.length tbc, .int .i64 C.b0, .int .i64 C.b1, .int .i64 C.b2, .int .i64 C.drain, .int .i64 C.pause, .int .i64 C.off, .bool C.brk, .int .i64 C.log], .int .i64 r] w' fun e w'' => e = .returned (.int .i64 (lateD C r)) ∧ Keeps No w' w'') := hid (fun w' kw r => by
    exact tlate_any (HC5.out.calm kw) HM.out r)
  have HLM : Hid (∀ (w' : World), Keeps No W5 w' → ∀ r : Int, Calls Try.prog 10 #[.agg #[.slice sg C.sigs.length sgc, .slice ru C.ruls.length ruc, .slice tb C.tab.length tbc, .int .i64 C.b0, .int .i64 C.b1, .int .i64 C.b2, .int .i64 C.drain, .int .i64 C.pause, .int .i64 C.off, .bool C.brk, .int .i64 C.log], .int .i64 r] w' fun e w'' => e = .returned (.int .i64 (lateD C r)) ∧ Keeps No w' w'') := hid (fun w' kw r => by
    exact mlate_any (HC5.out.calm kw) HM.out HML.out r)
  have HOT : Hid (∀ (w' : World), Keeps No W5 w' → ∀ r : Int, Calls Try.prog 11 #[.agg #[.slice sg C.sigs.length sgc, .slice ru C.ruls.length ruc, .slice tb C.tab.length tbc, .int .i64 C.b0, .int .i64 C.b1, .int .i64 C.b2, .int .i64 C.drain, .int .i64 C.pause, .int .i64 C.off, .bool C.brk, .int .i64 C.log], .int .i64 r] w' fun e w'' => e = .returned (.int .i64 (goneD C r)) ∧ Keeps No w' w'') := hid (fun w' kw r => by
    exact tgone_any (HC5.out.calm kw) HM.out r)
  have HOM : Hid (∀ (w' : World), Keeps No W5 w' → ∀ r : Int, Calls Try.prog 12 #[.agg #[.slice sg C.sigs.length sgc, .slice ru C.ruls.length ruc, .slice tb C.tab.length tbc, .int .i64 C.b0, .int .i64 C.b1, .int .i64 C.b2, .int .i64 C.drain, .int .i64 C.pause, .int .i64 C.off, .bool C.brk, .int .i64 C.log], .int .i64 r] w' fun e w'' => e = .returned (.int .i64 (goneD C r)) ∧ Keeps No w' w'') := hid (fun w' kw r => by
    exact mgone_any (HC5.out.calm kw) HM.out HML.out r)
  have HWT : Hid (∀ (w' : World), Keeps No W5 w' → Calls Try.prog 13 #[.agg #[.slice sg C.sigs.length sgc, .slice ru C.ruls.length ruc, .slice tb C.tab.length tbc, .int .i64 C.b0, .int .i64 C.b1, .int .i64 C.b2, .int .i64 C.drain, .int .i64 C.pause, .int .i64 C.off, .bool C.brk, .int .i64 C.log]] w' fun e w'' => e = .returned (.int .i64 (waitD C.ruls.length C.tab.length)) ∧ Keeps No w' w'') := hid (fun w' kw => by
    have h := twait_any (sa := sg) (sn := C.sigs.length) (sc := sgc) (ra := ru) (rn := C.ruls.length) (rc := ruc) (ta := tb) (tc := tbc) w' C.tab.length (by have := HM.out.few; omega) (by have := hL.2; omega) C.b0 C.b1 C.b2 C.drain C.pause C.off C.log C.brk
    unfold cfgV at h
    exact h)
  have HWM : Hid (∀ (w' : World), Keeps No W5 w' → Calls Try.prog 14 #[.agg #[.slice sg C.sigs.length sgc, .slice ru C.ruls.length ruc, .slice tb C.tab.length tbc, .int .i64 C.b0, .int .i64 C.b1, .int .i64 C.b2, .int .i64 C.drain, .int .i64 C.pause, .int .i64 C.off, .bool C.brk, .int .i64 C.log]] w' fun e w'' => e = .returned (.int .i64 (waitD C.ruls.length C.tab.length)) ∧ Keeps No w' w'') := hid (fun w' kw => by
    exact mwait_any (sa := sg) (sn := C.sigs.length) (sc := sgc) (ra := ru) (rn := C.ruls.length) (rc := ruc) (ta := tb) (N := C.tab.length) (tc := tbc) w' (by have := HM.out.few; omega) (by have := hL.2; omega) C.b0 C.b1 C.b2 C.drain C.pause C.off C.log C.brk)
  go_upto_region 4 with fail
  try rw [HW5.out, HCB.out]
  clear HW5 HCB
  have hf8 := HM.out.few.2
  have HPOS := hid (late_pos HM.out rule)
  clear HC5 HML
  go_wp2_with fail
  go_loopw [6] (fun v6 wr => ∃ i : Int, -1 ≤ i ∧ i ≤ (C.ruls.length : Int) + 1 ∧ v6 = .int .i64 i ∧ Hid (Keeps No W5 wr)) (fun v6 _ => ((C.ruls.length : Int) + 1 - intOf v6).toNat)
  case atStart => exact ⟨-1, by omega, by omega, rfl, hid (Keeps.refl _ _)⟩
  case round =>
    obtain ⟨i, hi0, hi1, rfl, HK⟩ := hrel
    have HBR := hid (HB5.out.kept HK.out)
    have x0_0 := HBR.out.cell 0 rfl
    have x0_1 := HBR.out.cell 1 rfl
    have x0_2 := HBR.out.cell 2 rfl
    have x0_3 := HBR.out.cell 3 rfl
    have x0_4 := HBR.out.cell 4 rfl
    have x0_5 := HBR.out.cell 5 rfl
    have x0_6 := HBR.out.cell 6 rfl
    have x0_7 := HBR.out.cell 7 rfl
    have x0_8 := HBR.out.cell 8 rfl
    have x0_9 := HBR.out.cell 9 rfl
    have x0_10 := HBR.out.cell 10 rfl
    by_cases hlt : i ≤ (C.ruls.length : Int)
    · have hd : decide (i ≤ (C.ruls.length : Int)) = true := decide_eq_true hlt
      go_upto_region 7 with fail
      have HG1 := hid (fun w' kw => HGT.out w' kw i)
      have HG2 := hid (fun w' kw => HGM.out w' kw i)
      have HL1 := hid (fun w' kw => HLT.out w' kw i)
      have HL2 := hid (fun w' kw => HLM.out w' kw i)
      have HO1 := hid (fun w' kw => HOT.out w' kw i)
      have HO2 := hid (fun w' kw => HOM.out w' kw i)
      obtain ⟨gv, hgv⟩ : ∃ q : Int, ((gapD (C.tab.map (·.1)) i : Nat) : Int) = q := ⟨_, rfl⟩
      obtain ⟨lv, hlv⟩ : ∃ q : Int, lateD C i = q := ⟨_, rfl⟩
      obtain ⟨ov, hov⟩ : ∃ q : Int, goneD C i = q := ⟨_, rfl⟩
      rw [hgv] at HG1 HG2
      rw [hlv] at HL1 HL2
      rw [hov] at HO1 HO2
      have q1 : (gv != gv) = false := by simp
      have q2 : (lv != lv) = false := by simp
      have q3 : (ov != ov) = false := by simp
      clear hgv hlv hov
      first | go_region_held3 (fun w' => w'.cell? ⟨cb, 0, none⟩ = some (.slice sg C.sigs.length sgc) ∧ w'.cell? ⟨cb, 1, none⟩ = some (.slice ru C.ruls.length ruc) ∧ w'.cell? ⟨cb, 2, none⟩ = some (.slice tb C.tab.length tbc) ∧ w'.cell? ⟨cb, 3, none⟩ = some (.int .i64 C.b0) ∧ w'.cell? ⟨cb, 4, none⟩ = some (.int .i64 C.b1) ∧ w'.cell? ⟨cb, 5, none⟩ = some (.int .i64 C.b2) ∧ w'.cell? ⟨cb, 6, none⟩ = some (.int .i64 C.drain) ∧ w'.cell? ⟨cb, 7, none⟩ = some (.int .i64 C.pause) ∧ w'.cell? ⟨cb, 8, none⟩ = some (.int .i64 C.off) ∧ w'.cell? ⟨cb, 9, none⟩ = some (.bool C.brk) ∧ w'.cell? ⟨cb, 10, none⟩ = some (.int .i64 C.log)) (first | with_reducible exact ⟨x0_0, x0_1, x0_2, x0_3, x0_4, x0_5, x0_6, x0_7, x0_8, x0_9, x0_10⟩ | with_reducible exact ⟨cellDr x0_0, cellDr x0_1, cellDr x0_2, cellDr x0_3, cellDr x0_4, cellDr x0_5, cellDr x0_6, cellDr x0_7, cellDr x0_8, cellDr x0_9, cellDr x0_10⟩ | with_reducible exact ⟨cellA _ x0_0, cellA _ x0_1, cellA _ x0_2, cellA _ x0_3, cellA _ x0_4, cellA _ x0_5, cellA _ x0_6, cellA _ x0_7, cellA _ x0_8, cellA _ x0_9, cellA _ x0_10⟩ | with_reducible exact ⟨cellDr (cellA _ x0_0), cellDr (cellA _ x0_1), cellDr (cellA _ x0_2), cellDr (cellA _ x0_3), cellDr (cellA _ x0_4), cellDr (cellA _ x0_5), cellDr (cellA _ x0_6), cellDr (cellA _ x0_7), cellDr (cellA _ x0_8), cellDr (cellA _ x0_9), cellDr (cellA _ x0_10)⟩ | (go_keep; done)) (first | (go_at_call 7; (with_reducible refine (HG1.out _ (Keeps.trans HK.out (by repeat' (first | with_reducible exact Keeps.refl _ _ | with_reducible assumption | with_reducible refine Keeps.drewN ?_ _ | with_reducible refine Keeps.drew ?_ | with_reducible refine Keeps.alloc ?_ _)))).mono ?_); rintro e w9 ⟨rfl, k⟩; have kk : Keeps No wr w9 := Keeps.trans (by repeat' (first | with_reducible exact Keeps.refl _ _ | with_reducible assumption | with_reducible refine Keeps.drewN ?_ _ | with_reducible refine Keeps.drew ?_ | with_reducible refine Keeps.alloc ?_ _)) k; have g0 := HBR.out.kept kk; have x0_0 := g0.cell 0 rfl; have x0_1 := g0.cell 1 rfl; have x0_2 := g0.cell 2 rfl; have x0_3 := g0.cell 3 rfl; have x0_4 := g0.cell 4 rfl; have x0_5 := g0.cell 5 rfl; have x0_6 := g0.cell 6 rfl; have x0_7 := g0.cell 7 rfl; have x0_8 := g0.cell 8 rfl; have x0_9 := g0.cell 9 rfl; have x0_10 := g0.cell 10 rfl; clear k g0) | (go_at_call 8; (with_reducible refine (HG2.out _ (Keeps.trans HK.out (by repeat' (first | with_reducible exact Keeps.refl _ _ | with_reducible assumption | with_reducible refine Keeps.drewN ?_ _ | with_reducible refine Keeps.drew ?_ | with_reducible refine Keeps.alloc ?_ _)))).mono ?_); rintro e w9 ⟨rfl, k⟩; have kk : Keeps No wr w9 := Keeps.trans (by repeat' (first | with_reducible exact Keeps.refl _ _ | with_reducible assumption | with_reducible refine Keeps.drewN ?_ _ | with_reducible refine Keeps.drew ?_ | with_reducible refine Keeps.alloc ?_ _)) k; have g0 := HBR.out.kept kk; have x0_0 := g0.cell 0 rfl; have x0_1 := g0.cell 1 rfl; have x0_2 := g0.cell 2 rfl; have x0_3 := g0.cell 3 rfl; have x0_4 := g0.cell 4 rfl; have x0_5 := g0.cell 5 rfl; have x0_6 := g0.cell 6 rfl; have x0_7 := g0.cell 7 rfl; have x0_8 := g0.cell 8 rfl; have x0_9 := g0.cell 9 rfl; have x0_10 := g0.cell 10 rfl; clear k g0) | (go_at_call 9; (with_reducible refine (HL1.out _ (Keeps.trans HK.out (by repeat' (first | with_reducible exact Keeps.refl _ _ | with_reducible assumption | with_reducible refine Keeps.drewN ?_ _ | with_reducible refine Keeps.drew ?_ | with_reducible refine Keeps.alloc ?_ _)))).mono ?_); rintro e w9 ⟨rfl, k⟩; have kk : Keeps No wr w9 := Keeps.trans (by repeat' (first | with_reducible exact Keeps.refl _ _ | with_reducible assumption | with_reducible refine Keeps.drewN ?_ _ | with_reducible refine Keeps.drew ?_ | with_reducible refine Keeps.alloc ?_ _)) k; have g0 := HBR.out.kept kk; have x0_0 := g0.cell 0 rfl; have x0_1 := g0.cell 1 rfl; have x0_2 := g0.cell 2 rfl; have x0_3 := g0.cell 3 rfl; have x0_4 := g0.cell 4 rfl; have x0_5 := g0.cell 5 rfl; have x0_6 := g0.cell 6 rfl; have x0_7 := g0.cell 7 rfl; have x0_8 := g0.cell 8 rfl; have x0_9 := g0.cell 9 rfl; have x0_10 := g0.cell 10 rfl; clear k g0) | (go_at_call 10; (with_reducible refine (HL2.out _ (Keeps.trans HK.out (by repeat' (first | with_reducible exact Keeps.refl _ _ | with_reducible assumption | with_reducible refine Keeps.drewN ?_ _ | with_reducible refine Keeps.drew ?_ | with_reducible refine Keeps.alloc ?_ _)))).mono ?_); rintro e w9 ⟨rfl, k⟩; have kk : Keeps No wr w9 := Keeps.trans (by repeat' (first | with_reducible exact Keeps.refl _ _ | with_reducible assumption | with_reducible refine Keeps.drewN ?_ _ | with_reducible refine Keeps.drew ?_ | with_reducible refine Keeps.alloc ?_ _)) k; have g0 := HBR.out.kept kk; have x0_0 := g0.cell 0 rfl; have x0_1 := g0.cell 1 rfl; have x0_2 := g0.cell 2 rfl; have x0_3 := g0.cell 3 rfl; have x0_4 := g0.cell 4 rfl; have x0_5 := g0.cell 5 rfl; have x0_6 := g0.cell 6 rfl; have x0_7 := g0.cell 7 rfl; have x0_8 := g0.cell 8 rfl; have x0_9 := g0.cell 9 rfl; have x0_10 := g0.cell 10 rfl; clear k g0) | (go_at_call 11; (with_reducible refine (HO1.out _ (Keeps.trans HK.out (by repeat' (first | with_reducible exact Keeps.refl _ _ | with_reducible assumption | with_reducible refine Keeps.drewN ?_ _ | with_reducible refine Keeps.drew ?_ | with_reducible refine Keeps.alloc ?_ _)))).mono ?_); rintro e w9 ⟨rfl, k⟩; have kk : Keeps No wr w9 := Keeps.trans (by repeat' (first | with_reducible exact Keeps.refl _ _ | with_reducible assumption | with_reducible refine Keeps.drewN ?_ _ | with_reducible refine Keeps.drew ?_ | with_reducible refine Keeps.alloc ?_ _)) k; have g0 := HBR.out.kept kk; have x0_0 := g0.cell 0 rfl; have x0_1 := g0.cell 1 rfl; have x0_2 := g0.cell 2 rfl; have x0_3 := g0.cell 3 rfl; have x0_4 := g0.cell 4 rfl; have x0_5 := g0.cell 5 rfl; have x0_6 := g0.cell 6 rfl; have x0_7 := g0.cell 7 rfl; have x0_8 := g0.cell 8 rfl; have x0_9 := g0.cell 9 rfl; have x0_10 := g0.cell 10 rfl; clear k g0) | (go_at_call 12; (with_reducible refine (HO2.out _ (Keeps.trans HK.out (by repeat' (first | with_reducible exact Keeps.refl _ _ | with_reducible assumption | with_reducible refine Keeps.drewN ?_ _ | with_reducible refine Keeps.drew ?_ | with_reducible refine Keeps.alloc ?_ _)))).mono ?_); rintro e w9 ⟨rfl, k⟩; have kk : Keeps No wr w9 := Keeps.trans (by repeat' (first | with_reducible exact Keeps.refl _ _ | with_reducible assumption | with_reducible refine Keeps.drewN ?_ _ | with_reducible refine Keeps.drew ?_ | with_reducible refine Keeps.alloc ?_ _)) k; have g0 := HBR.out.kept kk; have x0_0 := g0.cell 0 rfl; have x0_1 := g0.cell 1 rfl; have x0_2 := g0.cell 2 rfl; have x0_3 := g0.cell 3 rfl; have x0_4 := g0.cell 4 rfl; have x0_5 := g0.cell 5 rfl; have x0_6 := g0.cell 6 rfl; have x0_7 := g0.cell 7 rfl; have x0_8 := g0.cell 8 rfl; have x0_9 := g0.cell 9 rfl; have x0_10 := g0.cell 10 rfl; clear k g0)) | fail
      all_goals
        go_wp2_with fail
        go_roundw
        case rel => exact ⟨i + 1, by omega, by omega, by go_num, hid (HK.out.trans kk)⟩
        case measure => simp [intOf]; omega
    · have hd : decide (i ≤ (C.ruls.length : Int)) = false := decide_eq_false hlt
      obtain ⟨wv, hwv⟩ : ∃ q : Int, waitD C.ruls.length C.tab.length = q := ⟨_, rfl⟩
      obtain ⟨lv, hlv⟩ : ∃ q : Int, lateD C rule = q := ⟨_, rfl⟩
      obtain ⟨ov, hov⟩ : ∃ q : Int, goneD C rule = q := ⟨_, rfl⟩
      have HL1 := hid (fun w' kw => HLT.out w' kw rule)
      have HO1 := hid (fun w' kw => HOT.out w' kw rule)
      have hp := HPOS.out
      rw [hwv] at HWT HWM
      rw [hlv] at HL1 hp
      rw [hov] at HO1 hp
      obtain ⟨hp1, hp2⟩ := hp
      have q1 : (wv == wv) = true := by simp
      clear hwv hlv hov
      by_cases hr0 : 0 ≤ rule
      · have d1 : decide (rule ≥ 0) = true := decide_eq_true hr0
        by_cases hr1 : rule < (C.ruls.length : Int)
        · have d2 : decide (rule < (C.ruls.length : Int)) = true := decide_eq_true hr1
          have e : isRule C rule = true := decide_eq_true ⟨hr0, hr1⟩
          rw [e] at hp1 hp2
          clear e
          go_upto_region 10 with fail
          first | go_region_held3 (fun w' => w'.cell? ⟨cb, 0, none⟩ = some (.slice sg C.sigs.length sgc) ∧ w'.cell? ⟨cb, 1, none⟩ = some (.slice ru C.ruls.length ruc) ∧ w'.cell? ⟨cb, 2, none⟩ = some (.slice tb C.tab.length tbc) ∧ w'.cell? ⟨cb, 3, none⟩ = some (.int .i64 C.b0) ∧ w'.cell? ⟨cb, 4, none⟩ = some (.int .i64 C.b1) ∧ w'.cell? ⟨cb, 5, none⟩ = some (.int .i64 C.b2) ∧ w'.cell? ⟨cb, 6, none⟩ = some (.int .i64 C.drain) ∧ w'.cell? ⟨cb, 7, none⟩ = some (.int .i64 C.pause) ∧ w'.cell? ⟨cb, 8, none⟩ = some (.int .i64 C.off) ∧ w'.cell? ⟨cb, 9, none⟩ = some (.bool C.brk) ∧ w'.cell? ⟨cb, 10, none⟩ = some (.int .i64 C.log)) (first | with_reducible exact ⟨x0_0, x0_1, x0_2, x0_3, x0_4, x0_5, x0_6, x0_7, x0_8, x0_9, x0_10⟩ | with_reducible exact ⟨cellDr x0_0, cellDr x0_1, cellDr x0_2, cellDr x0_3, cellDr x0_4, cellDr x0_5, cellDr x0_6, cellDr x0_7, cellDr x0_8, cellDr x0_9, cellDr x0_10⟩ | with_reducible exact ⟨cellA _ x0_0, cellA _ x0_1, cellA _ x0_2, cellA _ x0_3, cellA _ x0_4, cellA _ x0_5, cellA _ x0_6, cellA _ x0_7, cellA _ x0_8, cellA _ x0_9, cellA _ x0_10⟩ | with_reducible exact ⟨cellDr (cellA _ x0_0), cellDr (cellA _ x0_1), cellDr (cellA _ x0_2), cellDr (cellA _ x0_3), cellDr (cellA _ x0_4), cellDr (cellA _ x0_5), cellDr (cellA _ x0_6), cellDr (cellA _ x0_7), cellDr (cellA _ x0_8), cellDr (cellA _ x0_9), cellDr (cellA _ x0_10)⟩ | (go_keep; done)) (first | (go_at_call 13; (with_reducible refine (HWT.out _ (Keeps.trans HK.out (by repeat' (first | with_reducible exact Keeps.refl _ _ | with_reducible assumption | with_reducible refine Keeps.drewN ?_ _ | with_reducible refine Keeps.drew ?_ | with_reducible refine Keeps.alloc ?_ _)))).mono ?_); rintro e w9 ⟨rfl, k⟩; have kk : Keeps No wr w9 := Keeps.trans (by repeat' (first | with_reducible exact Keeps.refl _ _ | with_reducible assumption | with_reducible refine Keeps.drewN ?_ _ | with_reducible refine Keeps.drew ?_ | with_reducible refine Keeps.alloc ?_ _)) k; have g0 := HBR.out.kept kk; have x0_0 := g0.cell 0 rfl; have x0_1 := g0.cell 1 rfl; have x0_2 := g0.cell 2 rfl; have x0_3 := g0.cell 3 rfl; have x0_4 := g0.cell 4 rfl; have x0_5 := g0.cell 5 rfl; have x0_6 := g0.cell 6 rfl; have x0_7 := g0.cell 7 rfl; have x0_8 := g0.cell 8 rfl; have x0_9 := g0.cell 9 rfl; have x0_10 := g0.cell 10 rfl; clear k g0) | (go_at_call 14; (with_reducible refine (HWM.out _ (Keeps.trans HK.out (by repeat' (first | with_reducible exact Keeps.refl _ _ | with_reducible assumption | with_reducible refine Keeps.drewN ?_ _ | with_reducible refine Keeps.drew ?_ | with_reducible refine Keeps.alloc ?_ _)))).mono ?_); rintro e w9 ⟨rfl, k⟩; have kk : Keeps No wr w9 := Keeps.trans (by repeat' (first | with_reducible exact Keeps.refl _ _ | with_reducible assumption | with_reducible refine Keeps.drewN ?_ _ | with_reducible refine Keeps.drew ?_ | with_reducible refine Keeps.alloc ?_ _)) k; have g0 := HBR.out.kept kk; have x0_0 := g0.cell 0 rfl; have x0_1 := g0.cell 1 rfl; have x0_2 := g0.cell 2 rfl; have x0_3 := g0.cell 3 rfl; have x0_4 := g0.cell 4 rfl; have x0_5 := g0.cell 5 rfl; have x0_6 := g0.cell 6 rfl; have x0_7 := g0.cell 7 rfl; have x0_8 := g0.cell 8 rfl; have x0_9 := g0.cell 9 rfl; have x0_10 := g0.cell 10 rfl; clear k g0) | (go_at_call 9; (with_reducible refine (HL1.out _ (Keeps.trans HK.out (by repeat' (first | with_reducible exact Keeps.refl _ _ | with_reducible assumption | with_reducible refine Keeps.drewN ?_ _ | with_reducible refine Keeps.drew ?_ | with_reducible refine Keeps.alloc ?_ _)))).mono ?_); rintro e w9 ⟨rfl, k⟩; have kk : Keeps No wr w9 := Keeps.trans (by repeat' (first | with_reducible exact Keeps.refl _ _ | with_reducible assumption | with_reducible refine Keeps.drewN ?_ _ | with_reducible refine Keeps.drew ?_ | with_reducible refine Keeps.alloc ?_ _)) k; have g0 := HBR.out.kept kk; have x0_0 := g0.cell 0 rfl; have x0_1 := g0.cell 1 rfl; have x0_2 := g0.cell 2 rfl; have x0_3 := g0.cell 3 rfl; have x0_4 := g0.cell 4 rfl; have x0_5 := g0.cell 5 rfl; have x0_6 := g0.cell 6 rfl; have x0_7 := g0.cell 7 rfl; have x0_8 := g0.cell 8 rfl; have x0_9 := g0.cell 9 rfl; have x0_10 := g0.cell 10 rfl; clear k g0) | (go_at_call 11; (with_reducible refine (HO1.out _ (Keeps.trans HK.out (by repeat' (first | with_reducible exact Keeps.refl _ _ | with_reducible assumption | with_reducible refine Keeps.drewN ?_ _ | with_reducible refine Keeps.drew ?_ | with_reducible refine Keeps.alloc ?_ _)))).mono ?_); rintro e w9 ⟨rfl, k⟩; have kk : Keeps No wr w9 := Keeps.trans (by repeat' (first | with_reducible exact Keeps.refl _ _ | with_reducible assumption | with_reducible refine Keeps.drewN ?_ _ | with_reducible refine Keeps.drew ?_ | with_reducible refine Keeps.alloc ?_ _)) k; have g0 := HBR.out.kept kk; have x0_0 := g0.cell 0 rfl; have x0_1 := g0.cell 1 rfl; have x0_2 := g0.cell 2 rfl; have x0_3 := g0.cell 3 rfl; have x0_4 := g0.cell 4 rfl; have x0_5 := g0.cell 5 rfl; have x0_6 := g0.cell 6 rfl; have x0_7 := g0.cell 7 rfl; have x0_8 := g0.cell 8 rfl; have x0_9 := g0.cell 9 rfl; have x0_10 := g0.cell 10 rfl; clear k g0)) | fail
          all_goals
            go_wp2_with fail
            go_ret
            exact ⟨rfl, (K5.out.trans (HK.out.trans kk)).toBelow⟩
        · have d2 : decide (rule < (C.ruls.length : Int)) = false := decide_eq_false hr1
          have e : isRule C rule = false := decide_eq_false (fun h => hr1 h.2)
          rw [e] at hp1 hp2
          clear e
          go_upto_region 10 with fail
          first | go_region_held3 (fun w' => w'.cell? ⟨cb, 0, none⟩ = some (.slice sg C.sigs.length sgc) ∧ w'.cell? ⟨cb, 1, none⟩ = some (.slice ru C.ruls.length ruc) ∧ w'.cell? ⟨cb, 2, none⟩ = some (.slice tb C.tab.length tbc) ∧ w'.cell? ⟨cb, 3, none⟩ = some (.int .i64 C.b0) ∧ w'.cell? ⟨cb, 4, none⟩ = some (.int .i64 C.b1) ∧ w'.cell? ⟨cb, 5, none⟩ = some (.int .i64 C.b2) ∧ w'.cell? ⟨cb, 6, none⟩ = some (.int .i64 C.drain) ∧ w'.cell? ⟨cb, 7, none⟩ = some (.int .i64 C.pause) ∧ w'.cell? ⟨cb, 8, none⟩ = some (.int .i64 C.off) ∧ w'.cell? ⟨cb, 9, none⟩ = some (.bool C.brk) ∧ w'.cell? ⟨cb, 10, none⟩ = some (.int .i64 C.log)) (first | with_reducible exact ⟨x0_0, x0_1, x0_2, x0_3, x0_4, x0_5, x0_6, x0_7, x0_8, x0_9, x0_10⟩ | with_reducible exact ⟨cellDr x0_0, cellDr x0_1, cellDr x0_2, cellDr x0_3, cellDr x0_4, cellDr x0_5, cellDr x0_6, cellDr x0_7, cellDr x0_8, cellDr x0_9, cellDr x0_10⟩ | with_reducible exact ⟨cellA _ x0_0, cellA _ x0_1, cellA _ x0_2, cellA _ x0_3, cellA _ x0_4, cellA _ x0_5, cellA _ x0_6, cellA _ x0_7, cellA _ x0_8, cellA _ x0_9, cellA _ x0_10⟩ | with_reducible exact ⟨cellDr (cellA _ x0_0), cellDr (cellA _ x0_1), cellDr (cellA _ x0_2), cellDr (cellA _ x0_3), cellDr (cellA _ x0_4), cellDr (cellA _ x0_5), cellDr (cellA _ x0_6), cellDr (cellA _ x0_7), cellDr (cellA _ x0_8), cellDr (cellA _ x0_9), cellDr (cellA _ x0_10)⟩ | (go_keep; done)) (first | (go_at_call 13; (with_reducible refine (HWT.out _ (Keeps.trans HK.out (by repeat' (first | with_reducible exact Keeps.refl _ _ | with_reducible assumption | with_reducible refine Keeps.drewN ?_ _ | with_reducible refine Keeps.drew ?_ | with_reducible refine Keeps.alloc ?_ _)))).mono ?_); rintro e w9 ⟨rfl, k⟩; have kk : Keeps No wr w9 := Keeps.trans (by repeat' (first | with_reducible exact Keeps.refl _ _ | with_reducible assumption | with_reducible refine Keeps.drewN ?_ _ | with_reducible refine Keeps.drew ?_ | with_reducible refine Keeps.alloc ?_ _)) k; have g0 := HBR.out.kept kk; have x0_0 := g0.cell 0 rfl; have x0_1 := g0.cell 1 rfl; have x0_2 := g0.cell 2 rfl; have x0_3 := g0.cell 3 rfl; have x0_4 := g0.cell 4 rfl; have x0_5 := g0.cell 5 rfl; have x0_6 := g0.cell 6 rfl; have x0_7 := g0.cell 7 rfl; have x0_8 := g0.cell 8 rfl; have x0_9 := g0.cell 9 rfl; have x0_10 := g0.cell 10 rfl; clear k g0) | (go_at_call 14; (with_reducible refine (HWM.out _ (Keeps.trans HK.out (by repeat' (first | with_reducible exact Keeps.refl _ _ | with_reducible assumption | with_reducible refine Keeps.drewN ?_ _ | with_reducible refine Keeps.drew ?_ | with_reducible refine Keeps.alloc ?_ _)))).mono ?_); rintro e w9 ⟨rfl, k⟩; have kk : Keeps No wr w9 := Keeps.trans (by repeat' (first | with_reducible exact Keeps.refl _ _ | with_reducible assumption | with_reducible refine Keeps.drewN ?_ _ | with_reducible refine Keeps.drew ?_ | with_reducible refine Keeps.alloc ?_ _)) k; have g0 := HBR.out.kept kk; have x0_0 := g0.cell 0 rfl; have x0_1 := g0.cell 1 rfl; have x0_2 := g0.cell 2 rfl; have x0_3 := g0.cell 3 rfl; have x0_4 := g0.cell 4 rfl; have x0_5 := g0.cell 5 rfl; have x0_6 := g0.cell 6 rfl; have x0_7 := g0.cell 7 rfl; have x0_8 := g0.cell 8 rfl; have x0_9 := g0.cell 9 rfl; have x0_10 := g0.cell 10 rfl; clear k g0) | (go_at_call 9; (with_reducible refine (HL1.out _ (Keeps.trans HK.out (by repeat' (first | with_reducible exact Keeps.refl _ _ | with_reducible assumption | with_reducible refine Keeps.drewN ?_ _ | with_reducible refine Keeps.drew ?_ | with_reducible refine Keeps.alloc ?_ _)))).mono ?_); rintro e w9 ⟨rfl, k⟩; have kk : Keeps No wr w9 := Keeps.trans (by repeat' (first | with_reducible exact Keeps.refl _ _ | with_reducible assumption | with_reducible refine Keeps.drewN ?_ _ | with_reducible refine Keeps.drew ?_ | with_reducible refine Keeps.alloc ?_ _)) k; have g0 := HBR.out.kept kk; have x0_0 := g0.cell 0 rfl; have x0_1 := g0.cell 1 rfl; have x0_2 := g0.cell 2 rfl; have x0_3 := g0.cell 3 rfl; have x0_4 := g0.cell 4 rfl; have x0_5 := g0.cell 5 rfl; have x0_6 := g0.cell 6 rfl; have x0_7 := g0.cell 7 rfl; have x0_8 := g0.cell 8 rfl; have x0_9 := g0.cell 9 rfl; have x0_10 := g0.cell 10 rfl; clear k g0) | (go_at_call 11; (with_reducible refine (HO1.out _ (Keeps.trans HK.out (by repeat' (first | with_reducible exact Keeps.refl _ _ | with_reducible assumption | with_reducible refine Keeps.drewN ?_ _ | with_reducible refine Keeps.drew ?_ | with_reducible refine Keeps.alloc ?_ _)))).mono ?_); rintro e w9 ⟨rfl, k⟩; have kk : Keeps No wr w9 := Keeps.trans (by repeat' (first | with_reducible exact Keeps.refl _ _ | with_reducible assumption | with_reducible refine Keeps.drewN ?_ _ | with_reducible refine Keeps.drew ?_ | with_reducible refine Keeps.alloc ?_ _)) k; have g0 := HBR.out.kept kk; have x0_0 := g0.cell 0 rfl; have x0_1 := g0.cell 1 rfl; have x0_2 := g0.cell 2 rfl; have x0_3 := g0.cell 3 rfl; have x0_4 := g0.cell 4 rfl; have x0_5 := g0.cell 5 rfl; have x0_6 := g0.cell 6 rfl; have x0_7 := g0.cell 7 rfl; have x0_8 := g0.cell 8 rfl; have x0_9 := g0.cell 9 rfl; have x0_10 := g0.cell 10 rfl; clear k g0)) | fail
          all_goals
            go_wp2_with fail
            go_ret
            exact ⟨rfl, (K5.out.trans (HK.out.trans kk)).toBelow⟩
      · have d1 : decide (rule ≥ 0) = false := decide_eq_false hr0
        have e : isRule C rule = false := decide_eq_false (fun h => hr0 h.1)
        rw [e] at hp1 hp2
        clear e
        go_upto_region 10 with fail
        first | go_region_held3 (fun w' => w'.cell? ⟨cb, 0, none⟩ = some (.slice sg C.sigs.length sgc) ∧ w'.cell? ⟨cb, 1, none⟩ = some (.slice ru C.ruls.length ruc) ∧ w'.cell? ⟨cb, 2, none⟩ = some (.slice tb C.tab.length tbc) ∧ w'.cell? ⟨cb, 3, none⟩ = some (.int .i64 C.b0) ∧ w'.cell? ⟨cb, 4, none⟩ = some (.int .i64 C.b1) ∧ w'.cell? ⟨cb, 5, none⟩ = some (.int .i64 C.b2) ∧ w'.cell? ⟨cb, 6, none⟩ = some (.int .i64 C.drain) ∧ w'.cell? ⟨cb, 7, none⟩ = some (.int .i64 C.pause) ∧ w'.cell? ⟨cb, 8, none⟩ = some (.int .i64 C.off) ∧ w'.cell? ⟨cb, 9, none⟩ = some (.bool C.brk) ∧ w'.cell? ⟨cb, 10, none⟩ = some (.int .i64 C.log)) (first | with_reducible exact ⟨x0_0, x0_1, x0_2, x0_3, x0_4, x0_5, x0_6, x0_7, x0_8, x0_9, x0_10⟩ | with_reducible exact ⟨cellDr x0_0, cellDr x0_1, cellDr x0_2, cellDr x0_3, cellDr x0_4, cellDr x0_5, cellDr x0_6, cellDr x0_7, cellDr x0_8, cellDr x0_9, cellDr x0_10⟩ | with_reducible exact ⟨cellA _ x0_0, cellA _ x0_1, cellA _ x0_2, cellA _ x0_3, cellA _ x0_4, cellA _ x0_5, cellA _ x0_6, cellA _ x0_7, cellA _ x0_8, cellA _ x0_9, cellA _ x0_10⟩ | with_reducible exact ⟨cellDr (cellA _ x0_0), cellDr (cellA _ x0_1), cellDr (cellA _ x0_2), cellDr (cellA _ x0_3), cellDr (cellA _ x0_4), cellDr (cellA _ x0_5), cellDr (cellA _ x0_6), cellDr (cellA _ x0_7), cellDr (cellA _ x0_8), cellDr (cellA _ x0_9), cellDr (cellA _ x0_10)⟩ | (go_keep; done)) (first | (go_at_call 13; (with_reducible refine (HWT.out _ (Keeps.trans HK.out (by repeat' (first | with_reducible exact Keeps.refl _ _ | with_reducible assumption | with_reducible refine Keeps.drewN ?_ _ | with_reducible refine Keeps.drew ?_ | with_reducible refine Keeps.alloc ?_ _)))).mono ?_); rintro e w9 ⟨rfl, k⟩; have kk : Keeps No wr w9 := Keeps.trans (by repeat' (first | with_reducible exact Keeps.refl _ _ | with_reducible assumption | with_reducible refine Keeps.drewN ?_ _ | with_reducible refine Keeps.drew ?_ | with_reducible refine Keeps.alloc ?_ _)) k; have g0 := HBR.out.kept kk; have x0_0 := g0.cell 0 rfl; have x0_1 := g0.cell 1 rfl; have x0_2 := g0.cell 2 rfl; have x0_3 := g0.cell 3 rfl; have x0_4 := g0.cell 4 rfl; have x0_5 := g0.cell 5 rfl; have x0_6 := g0.cell 6 rfl; have x0_7 := g0.cell 7 rfl; have x0_8 := g0.cell 8 rfl; have x0_9 := g0.cell 9 rfl; have x0_10 := g0.cell 10 rfl; clear k g0) | (go_at_call 14; (with_reducible refine (HWM.out _ (Keeps.trans HK.out (by repeat' (first | with_reducible exact Keeps.refl _ _ | with_reducible assumption | with_reducible refine Keeps.drewN ?_ _ | with_reducible refine Keeps.drew ?_ | with_reducible refine Keeps.alloc ?_ _)))).mono ?_); rintro e w9 ⟨rfl, k⟩; have kk : Keeps No wr w9 := Keeps.trans (by repeat' (first | with_reducible exact Keeps.refl _ _ | with_reducible assumption | with_reducible refine Keeps.drewN ?_ _ | with_reducible refine Keeps.drew ?_ | with_reducible refine Keeps.alloc ?_ _)) k; have g0 := HBR.out.kept kk; have x0_0 := g0.cell 0 rfl; have x0_1 := g0.cell 1 rfl; have x0_2 := g0.cell 2 rfl; have x0_3 := g0.cell 3 rfl; have x0_4 := g0.cell 4 rfl; have x0_5 := g0.cell 5 rfl; have x0_6 := g0.cell 6 rfl; have x0_7 := g0.cell 7 rfl; have x0_8 := g0.cell 8 rfl; have x0_9 := g0.cell 9 rfl; have x0_10 := g0.cell 10 rfl; clear k g0) | (go_at_call 9; (with_reducible refine (HL1.out _ (Keeps.trans HK.out (by repeat' (first | with_reducible exact Keeps.refl _ _ | with_reducible assumption | with_reducible refine Keeps.drewN ?_ _ | with_reducible refine Keeps.drew ?_ | with_reducible refine Keeps.alloc ?_ _)))).mono ?_); rintro e w9 ⟨rfl, k⟩; have kk : Keeps No wr w9 := Keeps.trans (by repeat' (first | with_reducible exact Keeps.refl _ _ | with_reducible assumption | with_reducible refine Keeps.drewN ?_ _ | with_reducible refine Keeps.drew ?_ | with_reducible refine Keeps.alloc ?_ _)) k; have g0 := HBR.out.kept kk; have x0_0 := g0.cell 0 rfl; have x0_1 := g0.cell 1 rfl; have x0_2 := g0.cell 2 rfl; have x0_3 := g0.cell 3 rfl; have x0_4 := g0.cell 4 rfl; have x0_5 := g0.cell 5 rfl; have x0_6 := g0.cell 6 rfl; have x0_7 := g0.cell 7 rfl; have x0_8 := g0.cell 8 rfl; have x0_9 := g0.cell 9 rfl; have x0_10 := g0.cell 10 rfl; clear k g0) | (go_at_call 11; (with_reducible refine (HO1.out _ (Keeps.trans HK.out (by repeat' (first | with_reducible exact Keeps.refl _ _ | with_reducible assumption | with_reducible refine Keeps.drewN ?_ _ | with_reducible refine Keeps.drew ?_ | with_reducible refine Keeps.alloc ?_ _)))).mono ?_); rintro e w9 ⟨rfl, k⟩; have kk : Keeps No wr w9 := Keeps.trans (by repeat' (first | with_reducible exact Keeps.refl _ _ | with_reducible assumption | with_reducible refine Keeps.drewN ?_ _ | with_reducible refine Keeps.drew ?_ | with_reducible refine Keeps.alloc ?_ _)) k; have g0 := HBR.out.kept kk; have x0_0 := g0.cell 0 rfl; have x0_1 := g0.cell 1 rfl; have x0_2 := g0.cell 2 rfl; have x0_3 := g0.cell 3 rfl; have x0_4 := g0.cell 4 rfl; have x0_5 := g0.cell 5 rfl; have x0_6 := g0.cell 6 rfl; have x0_7 := g0.cell 7 rfl; have x0_8 := g0.cell 8 rfl; have x0_9 := g0.cell 9 rfl; have x0_10 := g0.cell 10 rfl; clear k g0)) | fail
        all_goals
          go_wp2_with fail
          go_ret
          exact ⟨rfl, (K5.out.trans (HK.out.trans kk)).toBelow⟩

theorem own : ownKnob Try.prog.godebug = none := by kernel_rfl
theorem laidOut : laidOutB Try.prog = true := by kernel_rfl
set_option maxRecDepth 100000 in
theorem lifted (os : Os) (started : os.Started) (H : Type) (enc : TypeId × Value → H) :
    ReturnsInHanded {} Try.checked os 3 .any (Rows.tableGapsSpec.pre6 enc Try.prog Try.f3 Rows.tableGapsRow.domain false) (Rows.tableGapsSpec.post enc Try.prog Try.f3 false true false false) := by
  refine returnsInHanded_of_change (C := Try.checked) own started (by kernel_rfl) Try.func3
    (ChangeSpec.witness6 (enc := enc) (C := Try.checked) false ⟨#[], #[.agg #[.slice none 0 0, .slice none 0 0, .int .u8 0, .int .u8 0, .int .u8 0, .int .u8 0, .bool false, .int .u8 0], .int .i64 0], []⟩ 8 (by kernel_rfl) (by kernel_rfl) (by kernel_rfl) (by kernel_rfl)) ?_
  intro W base args ds gs before hval0 hW hcnd _
  have hval : ∀ (j : Nat) t v, Try.f3.params[j]? = some t → args[j]? = some v → Value.okWide Try.prog W .any base t v := hval0
  have hW' := hW
  obtain ⟨p, q, hA0, hV, rfl, hfz, hnd⟩ := hW
  have hA : DataW.TrodAll enc Try.prog W 0 (fun _ => true) true Try.f3.params.toList args.toList ds p := hA0
  rw [Try.params3] at hA hval
  obtain ⟨v0, vs0, d0, ds0, p0, q0, hargs, rfl, rfl, h0, r0⟩ := trodAll_cons hA
  obtain ⟨v1, vs1, d1, ds1, p1, q1, rfl, rfl, rfl, h1, r1⟩ := trodAll_cons r0
  obtain ⟨rfl, rfl, rfl⟩ := trodAll_nil r1
  obtain rfl : args = #[v0, v1] := by cases args; simp_all
  obtain ⟨rfl, rfl⟩ := trodVars_none hV
  have k0 := h0
  have lt0 : ∀ x ∈ p0, x.block < W.heap.size := by obtain ⟨m, hm⟩ := k0; exact DataW.trod_lt m _ _ _ hm
  have k1 := h1
  have lt1 : ∀ x ∈ p1, x.block < W.heap.size := by obtain ⟨m, hm⟩ := k1; exact DataW.trod_lt m _ _ _ hm
  obtain ⟨rules, rv, slots, sv, ba, dr, pa, of_, br, lo, rfl, hd, u1, u2, u3, u4, u5⟩ := argDraft (hval 0 25 v0 rfl rfl) h0
  obtain ⟨a1, rfl, rfl, rfl, w1⟩ := open_int Try.underlying3 (hval 1 3 v1 rfl rfl) h1
  clear hA0 hval0
  refine (walk W rules rv slots sv ba dr pa of_ br lo hd u1 u2 u3 u4 u5 a1 w1).mono fun e W' ⟨he, bel⟩ => ?_
  subst he
  exact ⟨_, rfl, _, _, _, [], _, [], hW', trodAll_mk1 (shut_bool Try.underlying4 _), (trodAll_cons_mk (Below.trod laidOut (by kernel_rfl) (of_decide_eq_true (by kernel_rfl)) k0 bel lt0) (trodAll_cons_mk (Below.trod laidOut (by kernel_rfl) (of_decide_eq_true (by kernel_rfl)) k1 bel lt1) trodAll_mk0)), rfl, bel.frame _, fun h => by cases h⟩

theorem over : Rows.tableGapsRow.holds Try.pinned (OpenSpec.ofChange Rows.tableGapsSpec) :=
  OpenClaim.holds_of_wide 3 Try.f3 rfl rfl rfl rfl rfl rfl rfl ⟨rfl, rfl, rfl, rfl, rfl⟩ rfl rfl rfl rfl rfl (by kernel_rfl) Try.func3 (by kernel_rfl)
    (of_decide_eq_true (by kernel_rfl)) (by unfold Func.isWrapper; first | (rw [if_pos (by decide +kernel)]; kernel_rfl) | (rw [if_neg (by decide +kernel)]; exact ⟨rfl, rfl⟩))
    (fun os started H enc _ => lifted os started H enc)

theorem proved : Rows.TableGapsSaid := over
#print axioms proved
end Go.Proofs.Ytdibdjllcdnhaaa.tableGaps
