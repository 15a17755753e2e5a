/- A configuration with a rule in which any number is another one is judged as the document says. No conditions. -/
import Derived.Test.YtaakmlgkfbpdoaaArgsE
import Derived.Test.YtaakmlgkfbpdoaaRule
import Derived.Test.YtaakmlgkfbpdoaaRows
import Derived.Test.YtaakmlgkfbpdoaaChkL
import Derived.Test.YtaakmlgkfbpdoaaChkU
import Derived.ProofKit
import Derived.OpenShut
namespace Go.Proofs.Ytaakmlgkfbpdoaa.checkRule
open Go.ChangeShapes Go.WideShapes Go.ChangeAt Go.RowKit
open Go.ChangeMaps (open_string shut_string)
set_option linter.unusedVariables false

theorem stg_one (l : List Stg) : ∀ u ∈ l.flatMap encStg, u.oneCell' = true := by
  intro u hu
  rw [List.mem_flatMap] at hu
  obtain ⟨s, _, hs⟩ := hu
  simp [encStg] at hs
  rcases hs with rfl | rfl <;> rfl

set_option maxHeartbeats 16000000 in
set_option maxRecDepth 100000 in
theorem walk (w : World) (rules : List (LineD × Value)) (rv : Value) (slots : List Int) (sv : Value) (ba dr pa of_ : Int) (br : Bool) (lo : Int) (hd : DraftR w rules rv slots sv) (u1 : U8 ba) (u2 : U8 dr) (u3 : U8 pa) (u4 : U8 of_) (u5 : U8 lo) (a1 : Int) (wa1 : (Lit.int .u8 a1).wf = true) (a2 : Int) (wa2 : (Lit.int .u8 a2).wf = true) (a3 : Int) (wa3 : (Lit.int .i64 a3).wf = true) (a4 : Bool) :
    Calls Try.prog 3 #[.agg #[rv, sv, .int .u8 ba, .int .u8 dr, .int .u8 pa, .int .u8 of_, .bool br, .int .u8 lo], .int .u8 a1, .int .u8 a2, .int .i64 a3, .bool a4] w fun e w' => e = .returned (.bool true) ∧ Below w.heap.size w w' := by
  obtain ⟨b0, b1⟩ := bounds_u8 wa1
  obtain ⟨c0, c1⟩ := bounds_u8 wa2
  clear wa1 wa2 wa3
  obtain ⟨ra, rc, rfl⟩ := hd.rul.any
  obtain ⟨sa, sc, rfl⟩ := hd.slo.any
  obtain ⟨W1, hW1⟩ : ∃ W1, w.alloc (.cells #[.slice ra rules.length rc, .slice sa slots.length sc, .int .u8 ba, .int .u8 dr, .int .u8 pa, .int .u8 of_, .bool br, .int .u8 lo] 25) = W1 := ⟨_, rfl⟩
  have k1 : Keeps No w W1 := by rw [← hW1]; exact (Keeps.refl _ _).alloc _
  have hb : BlkL W1 w.heap.size 25 [.slice ra rules.length rc, .slice sa slots.length sc, .int .u8 ba, .int .u8 dr, .int .u8 pa, .int .u8 of_, .bool br, .int .u8 lo] := by rw [← hW1]; exact heap_alloc_new w _
  have H1 := hid (hd.calm k1)
  have HB := hid hb
  have HW1 := hid hW1
  have K1 := hid k1
  have U := hid (show U8 ba ∧ U8 dr ∧ U8 pa ∧ U8 of_ ∧ U8 lo from ⟨u1, u2, u3, u4, u5⟩)
  clear hd hW1 k1 hb u1 u2 u3 u4 u5
  go_enter Try.func3, Try.ntmps3
  go_upto_region 1 with fail
  rw [HW1.out]
  go_wp2_with fail
  refine (nothing_true _).mono ?_
  rintro e w2 ⟨rfl, k2⟩
  have hb := HB.out.keep k2 (fun h => h)
  have K2 := hid (K1.out.trans k2)
  have H2 := hid (H1.out.calm k2)
  have HB2 := hid hb
  have x0 := hb.cell (o := 0) rfl
  have x1 := hb.cell (o := 1) rfl
  have x2 := hb.cell (o := 2) rfl
  have x3 := hb.cell (o := 3) rfl
  have x4 := hb.cell (o := 4) rfl
  have x5 := hb.cell (o := 5) rfl
  have x6 := hb.cell (o := 6) rfl
  have x7 := hb.cell (o := 7) rfl
  clear hb k2
  go_wp2_with fail
  refine (short_any H2.out ba dr pa of_ br lo).mono ?_
  rintro e w3 ⟨bs, rfl, k3⟩
  clear x0 x1 x2 x3 x4 x5 x6 x7
  have K3 := hid (K2.out.trans k3)
  have H3 := hid (H2.out.calm k3)
  have hb := HB2.out.keep k3 (fun h => h)
  clear k3
  cases bs
  · clear hb
    go_wp2_with fail
    refine (nothing_true _).mono ?_
    rintro e w4 ⟨rfl, k4⟩
    have K4 := hid (K3.out.trans k4)
    clear k4
    go_wp2_with fail
    go_ret
    exact ⟨rfl, K4.out.toBelow⟩
  have x0 := hb.cell (o := 0) rfl
  have x1 := hb.cell (o := 1) rfl
  have x2 := hb.cell (o := 2) rfl
  have x3 := hb.cell (o := 3) rfl
  have x4 := hb.cell (o := 4) rfl
  have x5 := hb.cell (o := 5) rfl
  have x6 := hb.cell (o := 6) rfl
  have x7 := hb.cell (o := 7) rfl
  clear hb
  go_wp2_with fail
  refine (make_any2 H3.out ba dr pa of_ br lo U.out.1 U.out.2.1 U.out.2.2.1 U.out.2.2.2.1 U.out.2.2.2.2).mono ?_
  rintro e w4 ⟨C, csv, crv, ctv, rfl, hc, hm, k4, hown⟩
  clear x0 x1 x2 x3 x4 x5 x6 x7
  obtain ⟨sg, sgc, ru, ruc, tb, tbc, rfl, rfl, rfl⟩ := hc.shape
  unfold Cfg.val Cfg.cells
  have HF := hid hm.few'
  have hw3 := K3.out.size
  have K4 := hid (K3.out.trans k4)
  have HCC := hid hc
  have HOWN := hid hown
  obtain ⟨W5, hW5⟩ : ∃ W5, w4.alloc (.cells #[.slice sg C.sigs.length sgc, .slice ru C.ruls.length ruc, .slice tb C.tab.length tbc, .int .i64 C.b0, .int .i64 C.b1, .int .i64 C.b2, .int .i64 C.drain, .int .i64 C.pause, .int .i64 C.off, .bool C.brk, .int .i64 C.log] 33) = W5 := ⟨_, rfl⟩
  have k5 : Keeps No w4 W5 := by rw [← hW5]; exact (Keeps.refl _ _).alloc _
  have hb5 : BlkL W5 w4.heap.size 33 [.slice sg C.sigs.length sgc, .slice ru C.ruls.length ruc, .slice tb C.tab.length tbc, .int .i64 C.b0, .int .i64 C.b1, .int .i64 C.b2, .int .i64 C.drain, .int .i64 C.pause, .int .i64 C.off, .bool C.brk, .int .i64 C.log] := by rw [← hW5]; exact heap_alloc_new w4 _
  have HW5 := hid hW5
  have HC5 := hid hb5
  have K45 := hid k5
  have hfew := hm.few
  obtain ⟨nr, hnr⟩ : ∃ nr, C.ruls.length = nr := ⟨_, rfl⟩
  obtain ⟨gr, hgr⟩ : ∃ gr, ru = some ⟨gr, 0, none⟩ := by
    rcases hown.rown.2 with ⟨h1, h2⟩ | ⟨g, cap, cur, h1, _⟩
    · exfalso
      have h3 : C.ruls.length = 0 := by simpa using h2
      omega
    · simp only [Value.slice.injEq] at h1
      exact ⟨g, h1.1⟩
  subst hgr
  have hgn : w3.heap.size ≤ gr := hown.new gr rfl
  have hg4 : gr < w4.heap.size := (hown.rown.lt gr rfl).2
  obtain ⟨i, hi, hit⟩ : ∃ i : Nat, i < C.ruls.length ∧ a1.tmod nr = i := by
    refine ⟨(a1 % nr).toNat, ?_, ?_⟩
    · have h1 := Int.emod_lt_of_pos a1 (show (0 : Int) < nr by omega)
      have h2 := Int.emod_nonneg a1 (show (nr : Int) ≠ 0 by omega)
      omega
    · rw [Int.tmod_eq_emod_of_nonneg b0]
      have h2 := Int.emod_nonneg a1 (show (nr : Int) ≠ 0 by omega)
      omega
  obtain ⟨⟨r, rv8⟩, hri⟩ : ∃ y, C.ruls[i] = y := ⟨_, rfl⟩
  have hmem : (r, rv8) ∈ C.ruls := by rw [← hri]; exact List.getElem_mem hi
  have HRI := hid hri
  have HST5 : Hid (Sl W5 2 rv8 r.stages.length (r.stages.flatMap encStg)) := hid ((hc.stg (r, rv8) hmem).keep k5 (fun _ _ h => h))
  have HNE8 : Hid (rv8.ownBlock ≠ some gr) := hid ((hown.sep1 gr rfl).2.2.1 (r, rv8) hmem)
  have HOW5 := hid (k5.own hown.rown (fun _ _ h => h))
  have HS4 : Hid (r.stages.length ≤ 4) := hid (hm.ruls (r, rv8) hmem).few
  have HNR := hid hnr
  have HIT := hid hit
  have hnr0 : 1 ≤ nr := by omega
  have hnr8 : nr ≤ 8 := by omega
  clear hc hm k4 hown hW5 k5 hb5 H1 H2 H3 HB HB2 K1 K2 K3 HW1 U hri hmem hnr hit hfew
  go_upto_region 4 with fail
  rw [HW5.out]
  go_upto_if 23 with fail
  go_cut [3] from 23 to 25 (fun v3 wx => ∃ m : Int, v3 = .int .i64 m ∧ Hid (W5 = wx))
  case first =>
    cases a4
    · go_wp2_with fail
      go_meet
      exact ⟨_, rfl, hid rfl⟩
    · go_wp2_with fail
      go_meet
      exact ⟨_, rfl, hid rfl⟩
  case rest =>
  obtain ⟨m, rfl, HW⟩ := hcut
  have hw := HW.out
  subst hw
  clear HW
  have x1 := HC5.out.cell (o := 1) rfl
  rw [HNR.out] at x1
  have hin : i < nr := by have := HNR.out; omega
  have hit := HIT.out
  have hit2 : a1 % (nr : Int) = i := by rw [← Int.tmod_eq_emod_of_nonneg b0]; exact hit
  have hnz : ((nr : Int) == 0) = false := by simp; omega
  have hnz2 : ¬ (nr : Int) = 0 := by omega
  go_upto_region 6 with fail
  go_quiet (fail)
  obtain ⟨WQ, hWQ⟩ : ∃ x, W5.drewN nq = x := ⟨_, rfl⟩
  have kq : Keeps No W5 WQ := by rw [← hWQ]; exact (Keeps.refl _ _).drewN _
  rw [hWQ]
  have hc5q := HC5.out.keep kq (fun h => h)
  have hstq := HST5.out.keep kq (fun _ _ h => h)
  have HOWQ := hid (kq.own HOW5.out (fun _ _ h => h))
  have k45q := K45.out.trans kq
  clear HC5 HST5 HOW5 K45 HW5 x1 hWQ kq hit hit2 hnz hnz2
  have HC5 := hid hc5q
  have HST5 := hid hstq
  have K45 := hid k45q
  have hW4Q := k45q.size
  clear hc5q hstq k45q
  rcases (show a2 % 8 = 0 ∨ a2 % 8 = 1 ∨ a2 % 8 = 2 ∨ a2 % 8 = 3 ∨ a2 % 8 = 4 ∨ a2 % 8 = 5 ∨ a2 % 8 = 6 ∨ a2 % 8 = 7 by omega) with h8 | h8 | h8 | h8 | h8 | h8 | h8 | h8
  · have h8 : a2 % 8 = 0 := h8
    obtain ⟨xs, hxs⟩ : ∃ xs : Rul × Value, (⟨m % 256, r.sig, r.limit, r.back, r.delay, r.span, r.pri, r.latch, r.stages⟩, rv8) = xs := ⟨_, rfl⟩
    have hset := MadeOwn.setRule (HCC.out.calm K45.out) (HOWN.out.calm K45.out) rfl (i := i) (j := 0) hi (by decide) (u := .int .u8 (m % 256)) (x := xs) (by rw [HRI.out, ← hxs]; rfl) (by rw [← hxs]; exact HST5.out) (by rw [← hxs]; exact HNE8.out)
    obtain ⟨WF, hWF⟩ : ∃ WF, WQ.setCell ⟨gr, i * 9, none⟩ (.int .u8 (m % 256)) = WF := ⟨_, rfl⟩
    have hWF' : WQ.setCell ⟨gr, i * 9 + 0, none⟩ (.int .u8 (m % 256)) = WF := hWF
    rw [hWF'] at hset
    have hc5w := HC5.out
    have hkw := K4.out.trans K45.out
    have z0 := HOWQ.out.cellAt (i * 9 + 0) (by omega)
    rw [getElem?_flatMap_enc (size := 9) (fun _ => rfl) C.ruls i 0 (by omega) hi, HRI.out] at z0
    have f0 := HOWQ.out.frozenAt (i * 9 + 0)
    obtain ⟨hcs, hks⟩ := hset
    have hwl : (withRule C i xs).ruls.length = C.ruls.length := by show (C.ruls.set i xs).length = _; rw [List.length_set]
    have hcs2 : CfgR WF (withRule C i xs) (.slice sg (withRule C i xs).sigs.length sgc) (.slice (some ⟨gr, 0, none⟩) (withRule C i xs).ruls.length ruc) (.slice tb (withRule C i xs).tab.length tbc) := by
      rw [hwl]
      exact hcs
    have hsm := csame_true (C := withRule C i xs) hcs2 HF.out.1 HF.out.2.1 (by rw [hwl]; exact HF.out.2.2.1) HF.out.2.2.2
    rw [hwl] at hsm
    have HS : Hid (Calls Try.prog 13 #[.agg #[.slice sg C.sigs.length sgc, .slice (some ⟨gr, 0, none⟩) C.ruls.length ruc, .slice tb C.tab.length tbc, .int .i64 C.b0, .int .i64 C.b1, .int .i64 C.b2, .int .i64 C.drain, .int .i64 C.pause, .int .i64 C.off, .bool C.brk, .int .i64 C.log]] WF fun e w' => e = .returned (.bool true) ∧ Keeps No WF w') := hid hsm
    have hbf := hc5w.keep hks (fun e => by omega)
    have HBF := hid hbf
    have KF : Hid (Keeps No w WF) := hid (hkw.trans' hks (fun _ _ h => h) (fun q hq e => by omega))
    have HWF := hid hWF
    clear hWF hWF' hbf hcs hcs2 hks hsm hwl
    simp only [encRul, List.getElem?_cons_succ, List.getElem?_cons_zero] at z0
    simp only [Nat.add_zero] at z0 f0
    clear hxs hc5w hkw
    go_upto_region 23 with fail
    rw [HWF.out]
    clear z0 f0
    have x0 := HBF.out.cell (o := 0) rfl
    have x1 := HBF.out.cell (o := 1) rfl
    have x2 := HBF.out.cell (o := 2) rfl
    have x3 := HBF.out.cell (o := 3) rfl
    have x4 := HBF.out.cell (o := 4) rfl
    have x5 := HBF.out.cell (o := 5) rfl
    have x6 := HBF.out.cell (o := 6) rfl
    have x7 := HBF.out.cell (o := 7) rfl
    have x8 := HBF.out.cell (o := 8) rfl
    have x9 := HBF.out.cell (o := 9) rfl
    have x10 := HBF.out.cell (o := 10) rfl
    go_wp2_with fail
    refine HS.out.mono ?_
    rintro e w6 ⟨rfl, k6⟩
    have K6 := hid (KF.out.trans k6)
    clear k6
    go_wp2_with fail
    go_ret
    exact ⟨rfl, K6.out.toBelow⟩
  · have h8 : a2 % 8 = 1 := h8
    obtain ⟨xs, hxs⟩ : ∃ xs : Rul × Value, (⟨r.kind, m, r.limit, r.back, r.delay, r.span, r.pri, r.latch, r.stages⟩, rv8) = xs := ⟨_, rfl⟩
    have hset := MadeOwn.setRule (HCC.out.calm K45.out) (HOWN.out.calm K45.out) rfl (i := i) (j := 1) hi (by decide) (u := .int .i64 m) (x := xs) (by rw [HRI.out, ← hxs]; rfl) (by rw [← hxs]; exact HST5.out) (by rw [← hxs]; exact HNE8.out)
    obtain ⟨WF, hWF⟩ : ∃ WF, WQ.setCell ⟨gr, i * 9 + 1, none⟩ (.int .i64 m) = WF := ⟨_, rfl⟩
    have hWF' : WQ.setCell ⟨gr, i * 9 + 1, none⟩ (.int .i64 m) = WF := hWF
    rw [hWF'] at hset
    have hc5w := HC5.out
    have hkw := K4.out.trans K45.out
    have z0 := HOWQ.out.cellAt (i * 9 + 1) (by omega)
    rw [getElem?_flatMap_enc (size := 9) (fun _ => rfl) C.ruls i 1 (by omega) hi, HRI.out] at z0
    have f0 := HOWQ.out.frozenAt (i * 9 + 1)
    obtain ⟨hcs, hks⟩ := hset
    have hwl : (withRule C i xs).ruls.length = C.ruls.length := by show (C.ruls.set i xs).length = _; rw [List.length_set]
    have hcs2 : CfgR WF (withRule C i xs) (.slice sg (withRule C i xs).sigs.length sgc) (.slice (some ⟨gr, 0, none⟩) (withRule C i xs).ruls.length ruc) (.slice tb (withRule C i xs).tab.length tbc) := by
      rw [hwl]
      exact hcs
    have hsm := csame_true (C := withRule C i xs) hcs2 HF.out.1 HF.out.2.1 (by rw [hwl]; exact HF.out.2.2.1) HF.out.2.2.2
    rw [hwl] at hsm
    have HS : Hid (Calls Try.prog 13 #[.agg #[.slice sg C.sigs.length sgc, .slice (some ⟨gr, 0, none⟩) C.ruls.length ruc, .slice tb C.tab.length tbc, .int .i64 C.b0, .int .i64 C.b1, .int .i64 C.b2, .int .i64 C.drain, .int .i64 C.pause, .int .i64 C.off, .bool C.brk, .int .i64 C.log]] WF fun e w' => e = .returned (.bool true) ∧ Keeps No WF w') := hid hsm
    have hbf := hc5w.keep hks (fun e => by omega)
    have HBF := hid hbf
    have KF : Hid (Keeps No w WF) := hid (hkw.trans' hks (fun _ _ h => h) (fun q hq e => by omega))
    have HWF := hid hWF
    clear hWF hWF' hbf hcs hcs2 hks hsm hwl
    simp only [encRul, List.getElem?_cons_succ, List.getElem?_cons_zero] at z0
    clear hxs hc5w hkw
    go_upto_region 23 with fail
    rw [HWF.out]
    clear z0 f0
    have x0 := HBF.out.cell (o := 0) rfl
    have x1 := HBF.out.cell (o := 1) rfl
    have x2 := HBF.out.cell (o := 2) rfl
    have x3 := HBF.out.cell (o := 3) rfl
    have x4 := HBF.out.cell (o := 4) rfl
    have x5 := HBF.out.cell (o := 5) rfl
    have x6 := HBF.out.cell (o := 6) rfl
    have x7 := HBF.out.cell (o := 7) rfl
    have x8 := HBF.out.cell (o := 8) rfl
    have x9 := HBF.out.cell (o := 9) rfl
    have x10 := HBF.out.cell (o := 10) rfl
    go_wp2_with fail
    refine HS.out.mono ?_
    rintro e w6 ⟨rfl, k6⟩
    have K6 := hid (KF.out.trans k6)
    clear k6
    go_wp2_with fail
    go_ret
    exact ⟨rfl, K6.out.toBelow⟩
  · have h8 : a2 % 8 = 2 := h8
    obtain ⟨xs, hxs⟩ : ∃ xs : Rul × Value, (⟨r.kind, r.sig, m, r.back, r.delay, r.span, r.pri, r.latch, r.stages⟩, rv8) = xs := ⟨_, rfl⟩
    have hset := MadeOwn.setRule (HCC.out.calm K45.out) (HOWN.out.calm K45.out) rfl (i := i) (j := 2) hi (by decide) (u := .int .i64 m) (x := xs) (by rw [HRI.out, ← hxs]; rfl) (by rw [← hxs]; exact HST5.out) (by rw [← hxs]; exact HNE8.out)
    obtain ⟨WF, hWF⟩ : ∃ WF, WQ.setCell ⟨gr, i * 9 + 2, none⟩ (.int .i64 m) = WF := ⟨_, rfl⟩
    have hWF' : WQ.setCell ⟨gr, i * 9 + 2, none⟩ (.int .i64 m) = WF := hWF
    rw [hWF'] at hset
    have hc5w := HC5.out
    have hkw := K4.out.trans K45.out
    have z0 := HOWQ.out.cellAt (i * 9 + 2) (by omega)
    rw [getElem?_flatMap_enc (size := 9) (fun _ => rfl) C.ruls i 2 (by omega) hi, HRI.out] at z0
    have f0 := HOWQ.out.frozenAt (i * 9 + 2)
    obtain ⟨hcs, hks⟩ := hset
    have hwl : (withRule C i xs).ruls.length = C.ruls.length := by show (C.ruls.set i xs).length = _; rw [List.length_set]
    have hcs2 : CfgR WF (withRule C i xs) (.slice sg (withRule C i xs).sigs.length sgc) (.slice (some ⟨gr, 0, none⟩) (withRule C i xs).ruls.length ruc) (.slice tb (withRule C i xs).tab.length tbc) := by
      rw [hwl]
      exact hcs
    have hsm := csame_true (C := withRule C i xs) hcs2 HF.out.1 HF.out.2.1 (by rw [hwl]; exact HF.out.2.2.1) HF.out.2.2.2
    rw [hwl] at hsm
    have HS : Hid (Calls Try.prog 13 #[.agg #[.slice sg C.sigs.length sgc, .slice (some ⟨gr, 0, none⟩) C.ruls.length ruc, .slice tb C.tab.length tbc, .int .i64 C.b0, .int .i64 C.b1, .int .i64 C.b2, .int .i64 C.drain, .int .i64 C.pause, .int .i64 C.off, .bool C.brk, .int .i64 C.log]] WF fun e w' => e = .returned (.bool true) ∧ Keeps No WF w') := hid hsm
    have hbf := hc5w.keep hks (fun e => by omega)
    have HBF := hid hbf
    have KF : Hid (Keeps No w WF) := hid (hkw.trans' hks (fun _ _ h => h) (fun q hq e => by omega))
    have HWF := hid hWF
    clear hWF hWF' hbf hcs hcs2 hks hsm hwl
    simp only [encRul, List.getElem?_cons_succ, List.getElem?_cons_zero] at z0
    clear hxs hc5w hkw
    go_upto_region 23 with fail
    rw [HWF.out]
    clear z0 f0
    have x0 := HBF.out.cell (o := 0) rfl
    have x1 := HBF.out.cell (o := 1) rfl
    have x2 := HBF.out.cell (o := 2) rfl
    have x3 := HBF.out.cell (o := 3) rfl
    have x4 := HBF.out.cell (o := 4) rfl
    have x5 := HBF.out.cell (o := 5) rfl
    have x6 := HBF.out.cell (o := 6) rfl
    have x7 := HBF.out.cell (o := 7) rfl
    have x8 := HBF.out.cell (o := 8) rfl
    have x9 := HBF.out.cell (o := 9) rfl
    have x10 := HBF.out.cell (o := 10) rfl
    go_wp2_with fail
    refine HS.out.mono ?_
    rintro e w6 ⟨rfl, k6⟩
    have K6 := hid (KF.out.trans k6)
    clear k6
    go_wp2_with fail
    go_ret
    exact ⟨rfl, K6.out.toBelow⟩
  · have h8 : a2 % 8 = 3 := h8
    obtain ⟨xs, hxs⟩ : ∃ xs : Rul × Value, (⟨r.kind, r.sig, r.limit, m, r.delay, r.span, r.pri, r.latch, r.stages⟩, rv8) = xs := ⟨_, rfl⟩
    have hset := MadeOwn.setRule (HCC.out.calm K45.out) (HOWN.out.calm K45.out) rfl (i := i) (j := 3) hi (by decide) (u := .int .i64 m) (x := xs) (by rw [HRI.out, ← hxs]; rfl) (by rw [← hxs]; exact HST5.out) (by rw [← hxs]; exact HNE8.out)
    obtain ⟨WF, hWF⟩ : ∃ WF, WQ.setCell ⟨gr, i * 9 + 3, none⟩ (.int .i64 m) = WF := ⟨_, rfl⟩
    have hWF' : WQ.setCell ⟨gr, i * 9 + 3, none⟩ (.int .i64 m) = WF := hWF
    rw [hWF'] at hset
    have hc5w := HC5.out
    have hkw := K4.out.trans K45.out
    have z0 := HOWQ.out.cellAt (i * 9 + 3) (by omega)
    rw [getElem?_flatMap_enc (size := 9) (fun _ => rfl) C.ruls i 3 (by omega) hi, HRI.out] at z0
    have f0 := HOWQ.out.frozenAt (i * 9 + 3)
    obtain ⟨hcs, hks⟩ := hset
    have hwl : (withRule C i xs).ruls.length = C.ruls.length := by show (C.ruls.set i xs).length = _; rw [List.length_set]
    have hcs2 : CfgR WF (withRule C i xs) (.slice sg (withRule C i xs).sigs.length sgc) (.slice (some ⟨gr, 0, none⟩) (withRule C i xs).ruls.length ruc) (.slice tb (withRule C i xs).tab.length tbc) := by
      rw [hwl]
      exact hcs
    have hsm := csame_true (C := withRule C i xs) hcs2 HF.out.1 HF.out.2.1 (by rw [hwl]; exact HF.out.2.2.1) HF.out.2.2.2
    rw [hwl] at hsm
    have HS : Hid (Calls Try.prog 13 #[.agg #[.slice sg C.sigs.length sgc, .slice (some ⟨gr, 0, none⟩) C.ruls.length ruc, .slice tb C.tab.length tbc, .int .i64 C.b0, .int .i64 C.b1, .int .i64 C.b2, .int .i64 C.drain, .int .i64 C.pause, .int .i64 C.off, .bool C.brk, .int .i64 C.log]] WF fun e w' => e = .returned (.bool true) ∧ Keeps No WF w') := hid hsm
    have hbf := hc5w.keep hks (fun e => by omega)
    have HBF := hid hbf
    have KF : Hid (Keeps No w WF) := hid (hkw.trans' hks (fun _ _ h => h) (fun q hq e => by omega))
    have HWF := hid hWF
    clear hWF hWF' hbf hcs hcs2 hks hsm hwl
    simp only [encRul, List.getElem?_cons_succ, List.getElem?_cons_zero] at z0
    clear hxs hc5w hkw
    go_upto_region 23 with fail
    rw [HWF.out]
    clear z0 f0
    have x0 := HBF.out.cell (o := 0) rfl
    have x1 := HBF.out.cell (o := 1) rfl
    have x2 := HBF.out.cell (o := 2) rfl
    have x3 := HBF.out.cell (o := 3) rfl
    have x4 := HBF.out.cell (o := 4) rfl
    have x5 := HBF.out.cell (o := 5) rfl
    have x6 := HBF.out.cell (o := 6) rfl
    have x7 := HBF.out.cell (o := 7) rfl
    have x8 := HBF.out.cell (o := 8) rfl
    have x9 := HBF.out.cell (o := 9) rfl
    have x10 := HBF.out.cell (o := 10) rfl
    go_wp2_with fail
    refine HS.out.mono ?_
    rintro e w6 ⟨rfl, k6⟩
    have K6 := hid (KF.out.trans k6)
    clear k6
    go_wp2_with fail
    go_ret
    exact ⟨rfl, K6.out.toBelow⟩
  · have h8 : a2 % 8 = 4 := h8
    obtain ⟨xs, hxs⟩ : ∃ xs : Rul × Value, (⟨r.kind, r.sig, r.limit, r.back, m, r.span, r.pri, r.latch, r.stages⟩, rv8) = xs := ⟨_, rfl⟩
    have hset := MadeOwn.setRule (HCC.out.calm K45.out) (HOWN.out.calm K45.out) rfl (i := i) (j := 4) hi (by decide) (u := .int .i64 m) (x := xs) (by rw [HRI.out, ← hxs]; rfl) (by rw [← hxs]; exact HST5.out) (by rw [← hxs]; exact HNE8.out)
    obtain ⟨WF, hWF⟩ : ∃ WF, WQ.setCell ⟨gr, i * 9 + 4, none⟩ (.int .i64 m) = WF := ⟨_, rfl⟩
    have hWF' : WQ.setCell ⟨gr, i * 9 + 4, none⟩ (.int .i64 m) = WF := hWF
    rw [hWF'] at hset
    have hc5w := HC5.out
    have hkw := K4.out.trans K45.out
    have z0 := HOWQ.out.cellAt (i * 9 + 4) (by omega)
    rw [getElem?_flatMap_enc (size := 9) (fun _ => rfl) C.ruls i 4 (by omega) hi, HRI.out] at z0
    have f0 := HOWQ.out.frozenAt (i * 9 + 4)
    obtain ⟨hcs, hks⟩ := hset
    have hwl : (withRule C i xs).ruls.length = C.ruls.length := by show (C.ruls.set i xs).length = _; rw [List.length_set]
    have hcs2 : CfgR WF (withRule C i xs) (.slice sg (withRule C i xs).sigs.length sgc) (.slice (some ⟨gr, 0, none⟩) (withRule C i xs).ruls.length ruc) (.slice tb (withRule C i xs).tab.length tbc) := by
      rw [hwl]
      exact hcs
    have hsm := csame_true (C := withRule C i xs) hcs2 HF.out.1 HF.out.2.1 (by rw [hwl]; exact HF.out.2.2.1) HF.out.2.2.2
    rw [hwl] at hsm
    have HS : Hid (Calls Try.prog 13 #[.agg #[.slice sg C.sigs.length sgc, .slice (some ⟨gr, 0, none⟩) C.ruls.length ruc, .slice tb C.tab.length tbc, .int .i64 C.b0, .int .i64 C.b1, .int .i64 C.b2, .int .i64 C.drain, .int .i64 C.pause, .int .i64 C.off, .bool C.brk, .int .i64 C.log]] WF fun e w' => e = .returned (.bool true) ∧ Keeps No WF w') := hid hsm
    have hbf := hc5w.keep hks (fun e => by omega)
    have HBF := hid hbf
    have KF : Hid (Keeps No w WF) := hid (hkw.trans' hks (fun _ _ h => h) (fun q hq e => by omega))
    have HWF := hid hWF
    clear hWF hWF' hbf hcs hcs2 hks hsm hwl
    simp only [encRul, List.getElem?_cons_succ, List.getElem?_cons_zero] at z0
    clear hxs hc5w hkw
    go_upto_region 23 with fail
    rw [HWF.out]
    clear z0 f0
    have x0 := HBF.out.cell (o := 0) rfl
    have x1 := HBF.out.cell (o := 1) rfl
    have x2 := HBF.out.cell (o := 2) rfl
    have x3 := HBF.out.cell (o := 3) rfl
    have x4 := HBF.out.cell (o := 4) rfl
    have x5 := HBF.out.cell (o := 5) rfl
    have x6 := HBF.out.cell (o := 6) rfl
    have x7 := HBF.out.cell (o := 7) rfl
    have x8 := HBF.out.cell (o := 8) rfl
    have x9 := HBF.out.cell (o := 9) rfl
    have x10 := HBF.out.cell (o := 10) rfl
    go_wp2_with fail
    refine HS.out.mono ?_
    rintro e w6 ⟨rfl, k6⟩
    have K6 := hid (KF.out.trans k6)
    clear k6
    go_wp2_with fail
    go_ret
    exact ⟨rfl, K6.out.toBelow⟩
  · have h8 : a2 % 8 = 5 := h8
    obtain ⟨xs, hxs⟩ : ∃ xs : Rul × Value, (⟨r.kind, r.sig, r.limit, r.back, r.delay, m, r.pri, r.latch, r.stages⟩, rv8) = xs := ⟨_, rfl⟩
    have hset := MadeOwn.setRule (HCC.out.calm K45.out) (HOWN.out.calm K45.out) rfl (i := i) (j := 5) hi (by decide) (u := .int .i64 m) (x := xs) (by rw [HRI.out, ← hxs]; rfl) (by rw [← hxs]; exact HST5.out) (by rw [← hxs]; exact HNE8.out)
    obtain ⟨WF, hWF⟩ : ∃ WF, WQ.setCell ⟨gr, i * 9 + 5, none⟩ (.int .i64 m) = WF := ⟨_, rfl⟩
    have hWF' : WQ.setCell ⟨gr, i * 9 + 5, none⟩ (.int .i64 m) = WF := hWF
    rw [hWF'] at hset
    have hc5w := HC5.out
    have hkw := K4.out.trans K45.out
    have z0 := HOWQ.out.cellAt (i * 9 + 5) (by omega)
    rw [getElem?_flatMap_enc (size := 9) (fun _ => rfl) C.ruls i 5 (by omega) hi, HRI.out] at z0
    have f0 := HOWQ.out.frozenAt (i * 9 + 5)
    obtain ⟨hcs, hks⟩ := hset
    have hwl : (withRule C i xs).ruls.length = C.ruls.length := by show (C.ruls.set i xs).length = _; rw [List.length_set]
    have hcs2 : CfgR WF (withRule C i xs) (.slice sg (withRule C i xs).sigs.length sgc) (.slice (some ⟨gr, 0, none⟩) (withRule C i xs).ruls.length ruc) (.slice tb (withRule C i xs).tab.length tbc) := by
      rw [hwl]
      exact hcs
    have hsm := csame_true (C := withRule C i xs) hcs2 HF.out.1 HF.out.2.1 (by rw [hwl]; exact HF.out.2.2.1) HF.out.2.2.2
    rw [hwl] at hsm
    have HS : Hid (Calls Try.prog 13 #[.agg #[.slice sg C.sigs.length sgc, .slice (some ⟨gr, 0, none⟩) C.ruls.length ruc, .slice tb C.tab.length tbc, .int .i64 C.b0, .int .i64 C.b1, .int .i64 C.b2, .int .i64 C.drain, .int .i64 C.pause, .int .i64 C.off, .bool C.brk, .int .i64 C.log]] WF fun e w' => e = .returned (.bool true) ∧ Keeps No WF w') := hid hsm
    have hbf := hc5w.keep hks (fun e => by omega)
    have HBF := hid hbf
    have KF : Hid (Keeps No w WF) := hid (hkw.trans' hks (fun _ _ h => h) (fun q hq e => by omega))
    have HWF := hid hWF
    clear hWF hWF' hbf hcs hcs2 hks hsm hwl
    simp only [encRul, List.getElem?_cons_succ, List.getElem?_cons_zero] at z0
    clear hxs hc5w hkw
    go_upto_region 23 with fail
    rw [HWF.out]
    clear z0 f0
    have x0 := HBF.out.cell (o := 0) rfl
    have x1 := HBF.out.cell (o := 1) rfl
    have x2 := HBF.out.cell (o := 2) rfl
    have x3 := HBF.out.cell (o := 3) rfl
    have x4 := HBF.out.cell (o := 4) rfl
    have x5 := HBF.out.cell (o := 5) rfl
    have x6 := HBF.out.cell (o := 6) rfl
    have x7 := HBF.out.cell (o := 7) rfl
    have x8 := HBF.out.cell (o := 8) rfl
    have x9 := HBF.out.cell (o := 9) rfl
    have x10 := HBF.out.cell (o := 10) rfl
    go_wp2_with fail
    refine HS.out.mono ?_
    rintro e w6 ⟨rfl, k6⟩
    have K6 := hid (KF.out.trans k6)
    clear k6
    go_wp2_with fail
    go_ret
    exact ⟨rfl, K6.out.toBelow⟩
  · have h8 : a2 % 8 = 6 := h8
    obtain ⟨xs, hxs⟩ : ∃ xs : Rul × Value, (⟨r.kind, r.sig, r.limit, r.back, r.delay, r.span, m % 256, r.latch, r.stages⟩, rv8) = xs := ⟨_, rfl⟩
    have hset := MadeOwn.setRule (HCC.out.calm K45.out) (HOWN.out.calm K45.out) rfl (i := i) (j := 6) hi (by decide) (u := .int .u8 (m % 256)) (x := xs) (by rw [HRI.out, ← hxs]; rfl) (by rw [← hxs]; exact HST5.out) (by rw [← hxs]; exact HNE8.out)
    obtain ⟨WF, hWF⟩ : ∃ WF, WQ.setCell ⟨gr, i * 9 + 6, none⟩ (.int .u8 (m % 256)) = WF := ⟨_, rfl⟩
    have hWF' : WQ.setCell ⟨gr, i * 9 + 6, none⟩ (.int .u8 (m % 256)) = WF := hWF
    rw [hWF'] at hset
    have hc5w := HC5.out
    have hkw := K4.out.trans K45.out
    have z0 := HOWQ.out.cellAt (i * 9 + 6) (by omega)
    rw [getElem?_flatMap_enc (size := 9) (fun _ => rfl) C.ruls i 6 (by omega) hi, HRI.out] at z0
    have f0 := HOWQ.out.frozenAt (i * 9 + 6)
    obtain ⟨hcs, hks⟩ := hset
    have hwl : (withRule C i xs).ruls.length = C.ruls.length := by show (C.ruls.set i xs).length = _; rw [List.length_set]
    have hcs2 : CfgR WF (withRule C i xs) (.slice sg (withRule C i xs).sigs.length sgc) (.slice (some ⟨gr, 0, none⟩) (withRule C i xs).ruls.length ruc) (.slice tb (withRule C i xs).tab.length tbc) := by
      rw [hwl]
      exact hcs
    have hsm := csame_true (C := withRule C i xs) hcs2 HF.out.1 HF.out.2.1 (by rw [hwl]; exact HF.out.2.2.1) HF.out.2.2.2
    rw [hwl] at hsm
    have HS : Hid (Calls Try.prog 13 #[.agg #[.slice sg C.sigs.length sgc, .slice (some ⟨gr, 0, none⟩) C.ruls.length ruc, .slice tb C.tab.length tbc, .int .i64 C.b0, .int .i64 C.b1, .int .i64 C.b2, .int .i64 C.drain, .int .i64 C.pause, .int .i64 C.off, .bool C.brk, .int .i64 C.log]] WF fun e w' => e = .returned (.bool true) ∧ Keeps No WF w') := hid hsm
    have hbf := hc5w.keep hks (fun e => by omega)
    have HBF := hid hbf
    have KF : Hid (Keeps No w WF) := hid (hkw.trans' hks (fun _ _ h => h) (fun q hq e => by omega))
    have HWF := hid hWF
    clear hWF hWF' hbf hcs hcs2 hks hsm hwl
    simp only [encRul, List.getElem?_cons_succ, List.getElem?_cons_zero] at z0
    clear hxs hc5w hkw
    go_upto_region 23 with fail
    rw [HWF.out]
    clear z0 f0
    have x0 := HBF.out.cell (o := 0) rfl
    have x1 := HBF.out.cell (o := 1) rfl
    have x2 := HBF.out.cell (o := 2) rfl
    have x3 := HBF.out.cell (o := 3) rfl
    have x4 := HBF.out.cell (o := 4) rfl
    have x5 := HBF.out.cell (o := 5) rfl
    have x6 := HBF.out.cell (o := 6) rfl
    have x7 := HBF.out.cell (o := 7) rfl
    have x8 := HBF.out.cell (o := 8) rfl
    have x9 := HBF.out.cell (o := 9) rfl
    have x10 := HBF.out.cell (o := 10) rfl
    go_wp2_with fail
    refine HS.out.mono ?_
    rintro e w6 ⟨rfl, k6⟩
    have K6 := hid (KF.out.trans k6)
    clear k6
    go_wp2_with fail
    go_ret
    exact ⟨rfl, K6.out.toBelow⟩
  · have h8 : a2 % 8 = 7 := h8
    obtain ⟨s8, c8, hv8⟩ : ∃ s8 c8, rv8 = .slice s8 r.stages.length c8 := by obtain ⟨a, c, h⟩ := HST5.out.any; exact ⟨a, c, h⟩
    subst hv8
    have z8 := HOWQ.out.cellAt (i * 9 + 8) (by omega)
    rw [getElem?_flatMap_enc (size := 9) (fun _ => rfl) C.ruls i 8 (by omega) hi, HRI.out] at z8
    simp only [encRul, List.getElem?_cons_succ, List.getElem?_cons_zero] at z8
    obtain ⟨p5, hp5⟩ : ∃ x, a2 / 8 % 5 = x := ⟨_, rfl⟩
    have hp5t : (a2.tdiv 8).tmod 5 = p5 := by rw [Int.tdiv_eq_ediv_of_nonneg c0, Int.tmod_eq_emod_of_nonneg (by omega)]; exact hp5
    have hst4 := HS4.out
    obtain ⟨i0, hi0, hz0, hz1, hz2⟩ := info_parts info_stgA
    have HI := hid hi0
    clear hi0
    go_wp2_with (at_builtin; refine wpl_append rfl _ _ 36 rfl 40 i0 (.agg #[.int .i64 0, .int .u8 0]) 2 16 Try.underlying36 HI.out hz0 hz1 hz2 rfl (by decide) _ _ _ _ _ _ rfl rfl (World.ownsRow_nil _ _ _ _) HST5.out (stg_one _) ?c3 ?c4 ?_)
    case c3 => unfold maxLen; omega
    case c4 => omega
    intro v1 w6 ho1 k1 hb1
    replace ho1 : w6.ownsRow 0 40 2 v1 r.stages.length (r.stages.flatMap encStg) := by simpa using ho1
    have k1' : Keeps No WQ w6 := k1.mono (fun _ _ h => by simp [Bl, Value.ownBlock] at h)
    have hb1' : ∀ k, v1.ownBlock = some k → WQ.heap.size ≤ k := fun k hk => by rcases hb1 k hk with h | h; (simp [Value.ownBlock] at h); exact h
    obtain ⟨a1', c1', rfl⟩ := own_any ho1
    have HO1 := hid ho1
    have K56 := hid k1'
    have HB1 := hid hb1'
    clear ho1 k1 hb1 k1' hb1' z8
    go_wp2_with (at_builtin; refine wpl_append rfl _ _ 36 rfl 40 i0 (.agg #[.int .i64 0, .int .u8 0]) 2 16 Try.underlying36 HI.out hz0 hz1 hz2 rfl (by decide) _ _ _ _ _ _ rfl rfl (HO1.out.alloc _) (Sl.new _ _ _ 2 1 rfl (by decide)) ?d2 ?d3 ?d4 ?_)
    case d2 => first | rfl | exact ⟨rfl, rfl⟩ | (intro u hu; simp at hu; rcases hu with rfl | rfl <;> rfl)
    case d3 => unfold maxLen; omega
    case d4 => omega
    intro v2 w7 ho2 k2 hb2
    have hk67 : Keeps No WQ w7 := K56.out.trans' ((Keeps.refl No _).alloc (.cells #[.int .i64 m, .int .u8 p5] 40) |>.trans' k2 (T := Bl (.slice a1' r.stages.length c1')) (fun _ _ h => h.elim) (fun _ _ h => h)) (fun _ _ h => h) (fun q hq hB => by have := HB1.out q hB; omega)
    have hb2' : ∀ k, v2.ownBlock = some k → WQ.heap.size ≤ k := fun k hk => by
      rcases hb2 k hk with h | h
      · exact HB1.out k h
      · have h1 := K56.out.size
        have h2 : w6.heap.size + 1 ≤ k := h
        omega
    obtain ⟨a2', c2', rfl⟩ := own_any ho2
    obtain ⟨xs, hxs⟩ : ∃ xs : Rul × Value, ((⟨r.kind, r.sig, r.limit, r.back, r.delay, r.span, r.pri, r.latch, r.stages ++ [⟨m, p5⟩]⟩ : Rul), Value.slice a2' (r.stages.length + 1) c2') = xs := ⟨_, rfl⟩
    have hnew : Sl w7 2 (.slice a2' (r.stages.length + 1) c2') (r.stages ++ [(⟨m, p5⟩ : Stg)]).length ((r.stages ++ [(⟨m, p5⟩ : Stg)]).flatMap encStg) := by
      have := Sl.ofOwn ho2
      rw [List.length_append, List.flatMap_append]
      exact this
    have hset := MadeOwn.setRule ((HCC.out.calm K45.out).calm hk67) ((HOWN.out.calm K45.out).calm hk67) rfl (i := i) (j := 8) hi (by decide) (u := .slice a2' (r.stages.length + 1) c2') (x := xs) (by rw [HRI.out, ← hxs]; rfl) (by rw [← hxs]; exact hnew) (by rw [← hxs]; intro e; have := hb2' gr e; omega)
    have how7 := hk67.own HOWQ.out (fun _ _ h => h)
    have z0 := how7.cellAt (i * 9 + 8) (by omega)
    rw [getElem?_flatMap_enc (size := 9) (fun _ => rfl) C.ruls i 8 (by omega) hi, HRI.out] at z0
    simp only [encRul, List.getElem?_cons_succ, List.getElem?_cons_zero] at z0
    have f0 := how7.frozenAt (i * 9 + 8)
    obtain ⟨WF, hWF⟩ : ∃ WF, w7.setCell ⟨gr, i * 9 + 8, none⟩ (.slice a2' (r.stages.length + 1) c2') = WF := ⟨_, rfl⟩
    have hWF' := hWF
    rw [hWF'] at hset
    have hc5w := HC5.out.keep hk67 (fun h => h)
    have hkw := (K4.out.trans K45.out).trans hk67
    obtain ⟨hcs, hks⟩ := hset
    have hwl : (withRule C i xs).ruls.length = C.ruls.length := by show (C.ruls.set i xs).length = _; rw [List.length_set]
    have hcs2 : CfgR WF (withRule C i xs) (.slice sg (withRule C i xs).sigs.length sgc) (.slice (some ⟨gr, 0, none⟩) (withRule C i xs).ruls.length ruc) (.slice tb (withRule C i xs).tab.length tbc) := by
      rw [hwl]
      exact hcs
    have hsm := csame_true (C := withRule C i xs) hcs2 HF.out.1 HF.out.2.1 (by rw [hwl]; exact HF.out.2.2.1) HF.out.2.2.2
    rw [hwl] at hsm
    have HS : Hid (Calls Try.prog 13 #[.agg #[.slice sg C.sigs.length sgc, .slice (some ⟨gr, 0, none⟩) C.ruls.length ruc, .slice tb C.tab.length tbc, .int .i64 C.b0, .int .i64 C.b1, .int .i64 C.b2, .int .i64 C.drain, .int .i64 C.pause, .int .i64 C.off, .bool C.brk, .int .i64 C.log]] WF fun e w' => e = .returned (.bool true) ∧ Keeps No WF w') := hid hsm
    have hbf := hc5w.keep hks (fun e => by omega)
    have HBF := hid hbf
    have KF : Hid (Keeps No w WF) := hid (hkw.trans' hks (fun _ _ h => h) (fun q hq e => by omega))
    have HWF := hid hWF
    clear hWF hWF' hbf hcs hcs2 hks hsm hwl
    clear hxs hc5w hkw how7 ho2 k2 hb2 hnew hk67 hb2' HO1 HB1 K56
    go_upto_region 23 with fail
    rw [HWF.out]
    clear z0 f0
    have x0 := HBF.out.cell (o := 0) rfl
    have x1 := HBF.out.cell (o := 1) rfl
    have x2 := HBF.out.cell (o := 2) rfl
    have x3 := HBF.out.cell (o := 3) rfl
    have x4 := HBF.out.cell (o := 4) rfl
    have x5 := HBF.out.cell (o := 5) rfl
    have x6 := HBF.out.cell (o := 6) rfl
    have x7 := HBF.out.cell (o := 7) rfl
    have x8 := HBF.out.cell (o := 8) rfl
    have x9 := HBF.out.cell (o := 9) rfl
    have x10 := HBF.out.cell (o := 10) rfl
    go_wp2_with fail
    refine HS.out.mono ?_
    rintro e w6 ⟨rfl, k6⟩
    have K6 := hid (KF.out.trans k6)
    clear k6
    go_wp2_with fail
    go_ret
    exact ⟨rfl, K6.out.toBelow⟩

theorem own : ownKnob Try.prog.godebug = none := by kernel_rfl
theorem laidOut : laidOutB Try.prog = true := by kernel_rfl
set_option maxRecDepth 100000 in
theorem lifted (os : Os) (started : os.Started) (H : Type) (enc : TypeId × Value → H) :
    ReturnsInHanded {} Try.checked os 3 .any (Rows.checkRuleSpec.pre6 enc Try.prog Try.f3 Rows.checkRuleRow.domain false) (Rows.checkRuleSpec.post enc Try.prog Try.f3 false true false false) := by
  refine returnsInHanded_of_change (C := Try.checked) own started (by kernel_rfl) Try.func3
    (ChangeSpec.witness6 (enc := enc) (C := Try.checked) false ⟨#[], #[.agg #[.slice none 0 0, .slice none 0 0, .int .u8 0, .int .u8 0, .int .u8 0, .int .u8 0, .bool false, .int .u8 0], .int .u8 0, .int .u8 0, .int .i64 0, .bool false], []⟩ 8 (by kernel_rfl) (by kernel_rfl) (by kernel_rfl) (by kernel_rfl)) ?_
  intro W base args ds gs before hval0 hW hcnd _
  have hval : ∀ (j : Nat) t v, Try.f3.params[j]? = some t → args[j]? = some v → Value.okWide Try.prog W .any base t v := hval0
  have hW' := hW
  obtain ⟨p, q, hA0, hV, rfl, hfz, hnd⟩ := hW
  have hA : DataW.TrodAll enc Try.prog W 0 (fun _ => true) true Try.f3.params.toList args.toList ds p := hA0
  rw [Try.params3] at hA hval
  obtain ⟨v0, vs0, d0, ds0, p0, q0, hargs, rfl, rfl, h0, r0⟩ := trodAll_cons hA
  obtain ⟨v1, vs1, d1, ds1, p1, q1, rfl, rfl, rfl, h1, r1⟩ := trodAll_cons r0
  obtain ⟨v2, vs2, d2, ds2, p2, q2, rfl, rfl, rfl, h2, r2⟩ := trodAll_cons r1
  obtain ⟨v3, vs3, d3, ds3, p3, q3, rfl, rfl, rfl, h3, r3⟩ := trodAll_cons r2
  obtain ⟨v4, vs4, d4, ds4, p4, q4, rfl, rfl, rfl, h4, r4⟩ := trodAll_cons r3
  obtain ⟨rfl, rfl, rfl⟩ := trodAll_nil r4
  obtain rfl : args = #[v0, v1, v2, v3, v4] := by cases args; simp_all
  obtain ⟨rfl, rfl⟩ := trodVars_none hV
  have k0 := h0
  have lt0 : ∀ x ∈ p0, x.block < W.heap.size := by obtain ⟨m, hm⟩ := k0; exact DataW.trod_lt m _ _ _ hm
  have k1 := h1
  have lt1 : ∀ x ∈ p1, x.block < W.heap.size := by obtain ⟨m, hm⟩ := k1; exact DataW.trod_lt m _ _ _ hm
  have k2 := h2
  have lt2 : ∀ x ∈ p2, x.block < W.heap.size := by obtain ⟨m, hm⟩ := k2; exact DataW.trod_lt m _ _ _ hm
  have k3 := h3
  have lt3 : ∀ x ∈ p3, x.block < W.heap.size := by obtain ⟨m, hm⟩ := k3; exact DataW.trod_lt m _ _ _ hm
  have k4 := h4
  have lt4 : ∀ x ∈ p4, x.block < W.heap.size := by obtain ⟨m, hm⟩ := k4; exact DataW.trod_lt m _ _ _ hm
  obtain ⟨rules, rv, slots, sv, ba, dr, pa, of_, br, lo, rfl, hd, u1, u2, u3, u4, u5⟩ := argDraft (hval 0 25 v0 rfl rfl) h0
  obtain ⟨a1, rfl, rfl, rfl, w1⟩ := open_int Try.underlying5 (hval 1 5 v1 rfl rfl) h1
  obtain ⟨a2, rfl, rfl, rfl, w2⟩ := open_int Try.underlying5 (hval 2 5 v2 rfl rfl) h2
  obtain ⟨a3, rfl, rfl, rfl, w3⟩ := open_int Try.underlying3 (hval 3 3 v3 rfl rfl) h3
  obtain ⟨a4, rfl, rfl, rfl⟩ := open_bool Try.underlying4 (hval 4 4 v4 rfl rfl) h4
  clear hA0 hval0
  refine (walk W rules rv slots sv ba dr pa of_ br lo hd u1 u2 u3 u4 u5 a1 w1 a2 w2 a3 w3 a4).mono fun e W' ⟨he, bel⟩ => ?_
  subst he
  exact ⟨_, rfl, _, _, _, [], _, [], hW', trodAll_mk1 (shut_bool Try.underlying4 _), (trodAll_cons_mk (Below.trod laidOut (by kernel_rfl) (of_decide_eq_true (by kernel_rfl)) k0 bel lt0) (trodAll_cons_mk (Below.trod laidOut (by kernel_rfl) (of_decide_eq_true (by kernel_rfl)) k1 bel lt1) (trodAll_cons_mk (Below.trod laidOut (by kernel_rfl) (of_decide_eq_true (by kernel_rfl)) k2 bel lt2) (trodAll_cons_mk (Below.trod laidOut (by kernel_rfl) (of_decide_eq_true (by kernel_rfl)) k3 bel lt3) (trodAll_cons_mk (Below.trod laidOut (by kernel_rfl) (of_decide_eq_true (by kernel_rfl)) k4 bel lt4) trodAll_mk0))))), rfl, bel.frame _, fun h => by cases h⟩

theorem over : Rows.checkRuleRow.holds Try.pinned (OpenSpec.ofChange Rows.checkRuleSpec) :=
  OpenClaim.holds_of_wide 3 Try.f3 rfl rfl rfl rfl rfl rfl rfl ⟨rfl, rfl, rfl, rfl, rfl⟩ rfl rfl rfl rfl rfl (by kernel_rfl) Try.func3 (by kernel_rfl)
    (of_decide_eq_true (by kernel_rfl)) (by unfold Func.isWrapper; first | (rw [if_pos (by decide +kernel)]; kernel_rfl) | (rw [if_neg (by decide +kernel)]; exact ⟨rfl, rfl⟩))
    (fun os started H enc _ => lifted os started H enc)

theorem proved : Rows.CheckRuleSaid := over
#print axioms proved
end Go.Proofs.Ytaakmlgkfbpdoaa.checkRule
