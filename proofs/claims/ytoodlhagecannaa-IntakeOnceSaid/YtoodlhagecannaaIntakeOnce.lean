/- What is told already is told no more: nothing waits for it, nothing is refused. No conditions. -/
import Derived.Test.YtoodlhagecannaaRows
import Derived.Test.YtoodlhagecannaaArgsE
import Derived.Test.YtoodlhagecannaaMake2
import Derived.Test.YtoodlhagecannaaInkC
import Derived.Test.YtoodlhagecannaaInkQ
import Derived.Test.YtoodlhagecannaaArrEq
import Derived.Test.YtoodlhagecannaaTake
import Derived.ProofKit
import Derived.OpenShut
import Derived.Deep.RegionHeld3
import Derived.Deep.DeepCutAuto
import Derived.Deep.CutBlock
namespace Go.Proofs.Ytoodlhagecannaa.intakeOnce
open Go.ChangeShapes Go.WideShapes Go.ChangeAt Go.RowKit
open Go.ChangeMaps (open_string shut_string)
set_option linter.unusedVariables false
set_option linter.unusedSimpArgs false

structure ActI where
  do_ : Int
  rule : Int
  behind : Int
  on : Bool
def encActI (x : ActI) : List Value := [.int .u8 x.do_, .int .u8 x.rule, .int .u8 x.behind, .bool x.on]
theorem encActI_len (x : ActI) : (encActI x).length = 4 := rfl
def goodActI (x : ActI) : Prop := (Lit.int .u8 x.do_).wf = true ∧ (Lit.int .u8 x.rule).wf = true ∧ (Lit.int .u8 x.behind).wf = true

set_option maxRecDepth 100000 in
theorem decAct18 {H : Type} {enc : TypeId × Value → H} {W : World} {n : Nat} {cs : List Value} {x} (h : DataW.trod enc Try.prog W 0 (fun _ => true) true n 41 cs = some x) : ∃ y : ActI, cs = encActI y ∧ goodActI y := by
  obtain ⟨xs, m, _, _, hl, hlen, hf⟩ := DataW.trod_struct Try.underlying41 h
  rw [show Try.prog.cellsOf 41 = 4 by kernel_rfl] at hl
  match cs, hl, xs, hlen with
  | [c0, c1, c2, c3], _, [y0, y1, y2, y3], _ =>
    have h0 : DataW.trod enc Try.prog W 0 (fun _ => true) true m 5 (([c0, c1, c2, c3].drop 0).take (Try.prog.cellsOf 5)) = some y0 := hf 0 _ rfl
    have h1 : DataW.trod enc Try.prog W 0 (fun _ => true) true m 5 (([c0, c1, c2, c3].drop 1).take (Try.prog.cellsOf 5)) = some y1 := hf 1 _ rfl
    have h2 : DataW.trod enc Try.prog W 0 (fun _ => true) true m 5 (([c0, c1, c2, c3].drop 2).take (Try.prog.cellsOf 5)) = some y2 := hf 2 _ rfl
    have h3 : DataW.trod enc Try.prog W 0 (fun _ => true) true m 4 (([c0, c1, c2, c3].drop 3).take (Try.prog.cellsOf 4)) = some y3 := hf 3 _ rfl
    rw [show Try.prog.cellsOf 5 = 1 by kernel_rfl] at h0 h1 h2
    rw [show Try.prog.cellsOf 4 = 1 by kernel_rfl] at h3
    obtain ⟨a0, e0, _, w0⟩ := DataW.trod_int Try.underlying5 h0
    obtain ⟨a1, e1, _, w1⟩ := DataW.trod_int Try.underlying5 h1
    obtain ⟨a2, e2, _, w2⟩ := DataW.trod_int Try.underlying5 h2
    obtain ⟨a3, e3, _⟩ := DataW.trod_bool Try.underlying4 h3
    simp at e0 e1 e2 e3
    exact ⟨⟨a0, a1, a2, a3⟩, by simp [e0, e1, e2, e3, encActI], w0, w1, w2⟩

set_option maxHeartbeats 8000000 in
set_option maxRecDepth 100000 in
theorem walk (w : World) (rules : List (LineD × Value)) (rv : Value) (slots : List Int) (sv : Value) (ba dr pa of_ : Int) (br : Bool) (lo : Int) (hd : DraftR w rules rv slots sv) (u1 : U8 ba) (u2 : U8 dr) (u3 : U8 pa) (u4 : U8 of_) (u5 : U8 lo) (s0 : Option Addr) (cap : Nat) (q : List ActI) (hs : Sl w 4 (.slice s0 q.length cap) q.length (q.flatMap encActI)) (hq : ∀ x ∈ q, goodActI x) :
    Calls Try.prog 9 #[.agg #[rv, sv, .int .u8 ba, .int .u8 dr, .int .u8 pa, .int .u8 of_, .bool br, .int .u8 lo], .slice s0 q.length cap] w fun e w' => e = .returned (.bool true) ∧ Below w.heap.size w w' := by
  obtain ⟨ra, rc, rfl⟩ := hd.rul.any
  obtain ⟨sa, sc, rfl⟩ := hd.slo.any
  obtain ⟨W1, hW1⟩ : ∃ W1, w.alloc (.cells #[.slice ra rules.length rc, .slice sa slots.length sc, .int .u8 ba, .int .u8 dr, .int .u8 pa, .int .u8 of_, .bool br, .int .u8 lo] 25) = W1 := ⟨_, rfl⟩
  have k1 : Keeps No w W1 := by rw [← hW1]; exact (Keeps.refl _ _).alloc _
  have hb : BlkL W1 w.heap.size 25 [.slice ra rules.length rc, .slice sa slots.length sc, .int .u8 ba, .int .u8 dr, .int .u8 pa, .int .u8 of_, .bool br, .int .u8 lo] := by rw [← hW1]; exact heap_alloc_new w _
  have H1 := hid (hd.calm k1)
  have HB := hid hb
  have HW1 := hid hW1
  have K1 := hid k1
  have U := hid (show U8 ba ∧ U8 dr ∧ U8 pa ∧ U8 of_ ∧ U8 lo from ⟨u1, u2, u3, u4, u5⟩)
  clear hd hW1 k1 hb u1 u2 u3 u4 u5
  obtain ⟨N, hN⟩ : ∃ N, q.length = N := ⟨_, rfl⟩
  rw [hN] at hs ⊢
  have HS := hid hs
  have HQ := hid hq
  have HN := hid hN
  clear hs hq hN
  by_cases hbig : 60 < N
  · have hdl : decide ((N : Int) > 60) = true := decide_eq_true (by omega)
    go_enter Try.func9, Try.ntmps9
    go_upto_region 1 with fail
    rw [HW1.out]
    go_wp2_with fail
    refine (refuses_true _).mono ?_
    rintro e w2 ⟨rfl, k2⟩
    have hb := HB.out.keep k2 (fun h => h)
    have K2 := hid (K1.out.trans k2)
    have H2 := hid (H1.out.calm k2)
    have HB2 := hid hb
    have x0 := hb.cell (o := 0) rfl
    have x1 := hb.cell (o := 1) rfl
    have x2 := hb.cell (o := 2) rfl
    have x3 := hb.cell (o := 3) rfl
    have x4 := hb.cell (o := 4) rfl
    have x5 := hb.cell (o := 5) rfl
    have x6 := hb.cell (o := 6) rfl
    have x7 := hb.cell (o := 7) rfl
    clear hb k2
    go_wp2_with fail
    refine (short18_any H2.out ba dr pa of_ br lo).mono ?_
    rintro e w3 ⟨bs, rfl, k3⟩
    clear x0 x1 x2 x3 x4 x5 x6 x7
    have K3 := hid (K2.out.trans k3)
    have H3 := hid (H2.out.calm k3)
    have hb := HB2.out.keep k3 (fun h => h)
    clear k3
    cases bs
    · clear hb
      go_wp2_with fail
      refine (refuses_true _).mono ?_
      rintro e w4 ⟨rfl, k4⟩
      have K4 := hid (K3.out.trans k4)
      clear k4
      go_wp2_with fail
      go_ret
      exact ⟨rfl, K4.out.toBelow⟩
    · clear hb
      go_wp2_with fail
      refine (refuses_true _).mono ?_
      rintro e w4 ⟨rfl, k4⟩
      have K4 := hid (K3.out.trans k4)
      clear k4
      go_wp2_with fail
      go_ret
      exact ⟨rfl, K4.out.toBelow⟩
  have hdl : decide ((N : Int) > 60) = false := decide_eq_false (by omega)
  go_enter Try.func9, Try.ntmps9
  go_upto_region 1 with fail
  rw [HW1.out]
  go_wp2_with fail
  refine (refuses_true _).mono ?_
  rintro e w2 ⟨rfl, k2⟩
  have hb := HB.out.keep k2 (fun h => h)
  have K2 := hid (K1.out.trans k2)
  have H2 := hid (H1.out.calm k2)
  have HB2 := hid hb
  have x0 := hb.cell (o := 0) rfl
  have x1 := hb.cell (o := 1) rfl
  have x2 := hb.cell (o := 2) rfl
  have x3 := hb.cell (o := 3) rfl
  have x4 := hb.cell (o := 4) rfl
  have x5 := hb.cell (o := 5) rfl
  have x6 := hb.cell (o := 6) rfl
  have x7 := hb.cell (o := 7) rfl
  clear hb k2
  go_wp2_with fail
  refine (short18_any H2.out ba dr pa of_ br lo).mono ?_
  rintro e w3 ⟨bs, rfl, k3⟩
  clear x0 x1 x2 x3 x4 x5 x6 x7
  have K3 := hid (K2.out.trans k3)
  have H3 := hid (H2.out.calm k3)
  have hb := HB2.out.keep k3 (fun h => h)
  clear k3
  cases bs
  · clear hb
    go_wp2_with fail
    refine (refuses_true _).mono ?_
    rintro e w4 ⟨rfl, k4⟩
    have K4 := hid (K3.out.trans k4)
    clear k4
    go_wp2_with fail
    go_ret
    exact ⟨rfl, K4.out.toBelow⟩
  have x0 := hb.cell (o := 0) rfl
  have x1 := hb.cell (o := 1) rfl
  have x2 := hb.cell (o := 2) rfl
  have x3 := hb.cell (o := 3) rfl
  have x4 := hb.cell (o := 4) rfl
  have x5 := hb.cell (o := 5) rfl
  have x6 := hb.cell (o := 6) rfl
  have x7 := hb.cell (o := 7) rfl
  clear hb
  go_wp2_with fail
  refine (make_any H3.out ba dr pa of_ br lo U.out.1 U.out.2.1 U.out.2.2.1 U.out.2.2.2.1 U.out.2.2.2.2).mono ?_
  rintro e w4 ⟨C, csv, crv, ctv, rfl, hc, hm, k4⟩
  clear x0 x1 x2 x3 x4 x5 x6 x7
  obtain ⟨sg, sgc, ru, ruc, tb, tbc, rfl, rfl, rfl⟩ := cfg_shape18 hc
  unfold Cfg.val Cfg.cells
  have K4 := hid (K3.out.trans k4)
  have HC4 := hid hc
  have HM := hid hm
  have HIC := hid hm.ink
  clear hc hm k4 K1 K2 K3 H1 H2 H3 HB HB2 U HW1
  obtain ⟨cb, hcb⟩ : ∃ y, w4.heap.size = y := ⟨_, rfl⟩
  obtain ⟨W5, hW5⟩ : ∃ W5, w4.alloc (.cells #[.slice sg C.sigs.length sgc, .slice ru C.ruls.length ruc, .slice tb C.tab.length tbc, .int .i64 C.b0, .int .i64 C.b1, .int .i64 C.b2, .int .i64 C.drain, .int .i64 C.pause, .int .i64 C.off, .bool C.brk, .int .i64 C.log] 34) = W5 := ⟨_, rfl⟩
  have HC5 : Hid (CfgR W5 C (.slice sg C.sigs.length sgc) (.slice ru C.ruls.length ruc) (.slice tb C.tab.length tbc)) := hid (HC4.out.calm (by rw [← hW5]; exact (Keeps.refl _ _).alloc _))
  have HB5 : Hid (Bk W5 cb 34 [.slice sg C.sigs.length sgc, .slice ru C.ruls.length ruc, .slice tb C.tab.length tbc, .int .i64 C.b0, .int .i64 C.b1, .int .i64 C.b2, .int .i64 C.drain, .int .i64 C.pause, .int .i64 C.off, .bool C.brk, .int .i64 C.log]) := hid (by rw [← hW5]; exact Bk.new hcb _ _)
  have K5 : Hid (Keeps No w W5) := hid (by rw [← hW5]; exact K4.out.alloc _)
  have HW5 := hid hW5
  have HCB := hid hcb
  have HNC : Hid (w.heap.size ≤ cb) := hid (by rw [← hcb]; exact K4.out.size)
  clear hcb hW5 K4 HC4
  go_upto_region 4 with fail
  try rw [HW5.out, HCB.out]
  clear HW5 HCB
  have x0 := HB5.out.cell 0 rfl
  have x1 := HB5.out.cell 1 rfl
  have x2 := HB5.out.cell 2 rfl
  have x3 := HB5.out.cell 3 rfl
  have x4 := HB5.out.cell 4 rfl
  have x5 := HB5.out.cell 5 rfl
  have x6 := HB5.out.cell 6 rfl
  have x7 := HB5.out.cell 7 rfl
  have x8 := HB5.out.cell 8 rfl
  have x9 := HB5.out.cell 9 rfl
  have x10 := HB5.out.cell 10 rfl
  go_wp2_with fail
  refine (pj_new W5 HC5.out (by have := HM.out.few; omega)).mono ?_
  rintro e w6 ⟨nb, rfl, h6⟩
  have J6 := hid h6
  clear h6 x0 x1 x2 x3 x4 x5 x6 x7 x8 x9 x10
  obtain ⟨n, hnr⟩ : ∃ n, C.ruls.length = n := ⟨_, rfl⟩
  have hn8 : 1 ≤ n ∧ n ≤ 8 := by rw [← hnr]; exact HM.out.few
  obtain ⟨hn1, hn8⟩ := hn8
  have hnz : ¬ n = 0 := by omega
  have hnz2 : ((n : Int) == 0) = false := by simpa using hnz
  have HNR := hid hnr
  clear hnr hdl
  go_wp2_with fail
  go_loopw [7] (fun v7 wr => ∃ (i : Nat) (s : InkD) (X : Nat → Prop), i ≤ N ∧ v7 = .int .i64 i ∧ Hid (s.refs ≤ i ∧ s.last ≤ (i : Int)) ∧ Hid (∀ j, j < W5.heap.size → X j) ∧ Hid (PJ W5 wr X nb C (.slice sg C.sigs.length sgc) (.slice ru C.ruls.length ruc) (.slice tb C.tab.length tbc) s)) (fun v7 _ => N - (intOf v7).toNat)
  case atStart => exact ⟨0, _, _, Nat.zero_le _, rfl, hid ⟨Nat.zero_le _, Int.le_refl _⟩, hid (fun _ h => h), J6⟩
  case round =>
    clear J6
    obtain ⟨i, s, X, hi, rfl, HRF, HXL, HJ⟩ := hrel
    by_cases hlt : i < N
    · skip
      have hil : i < q.length := by rw [HN.out]; exact hlt
      obtain ⟨⟨dd, rr, bh, on⟩, hx⟩ : ∃ x, q[i] = x := ⟨_, rfl⟩
      have hgd := HQ.out _ (List.getElem_mem hil)
      rw [hx] at hgd
      obtain ⟨hd0, hd1⟩ : 0 ≤ dd ∧ dd ≤ 255 := bounds_u8 (show (Lit.int .u8 dd).wf = true from hgd.1)
      obtain ⟨hr0, hr1⟩ : 0 ≤ rr ∧ rr ≤ 255 := bounds_u8 (show (Lit.int .u8 rr).wf = true from hgd.2.1)
      obtain ⟨hb0, hb1⟩ : 0 ≤ bh ∧ bh ≤ 255 := bounds_u8 (show (Lit.int .u8 bh).wf = true from hgd.2.2)
      obtain ⟨g, off, rfl, hgl, hc⟩ := Sl.itemC (enc := encActI) (size := 4) (fun _ => rfl) (by decide) HS.out hil hx
      have HA := hid hc
      clear hx hil hgd hc
      obtain ⟨k, hk⟩ : ∃ k : Nat, rr % (n : Int) = k := ⟨(rr % (n : Int)).toNat, by have := Int.emod_nonneg rr (show (n : Int) ≠ 0 by omega); omega⟩
      have hkn : k < n := by have := Int.emod_lt_of_pos rr (show 0 < (n : Int) by omega); omega
      have HBR := hid (HB5.out.kept HJ.out.old)
      have HKW := hid (K5.out.trans HJ.out.old)
      have c0 := HKW.out.cell (fun h => h) (HA.out 0 _ rfl)
      have c1 := HKW.out.cell (fun h => h) (HA.out 1 _ rfl)
      have c2 := HKW.out.cell (fun h => h) (HA.out 2 _ rfl)
      have c3 := HKW.out.cell (fun h => h) (HA.out 3 _ rfl)
      simp only [Nat.add_zero] at c0
      have x1 := HBR.out.cell 1 rfl
      rw [HNR.out] at x1
      have hni : I64 (i : Int) := ⟨by omega, by omega⟩
      have hrf9 := hid (show s.refs ≤ 1000000000 ∧ (idleD s (k : Int) on = true ∨ s.last ≤ (i : Int)) from ⟨by have := HRF.out; omega, Or.inr (by have := HRF.out; omega)⟩)
      go_upto_region 8 with fail
      go_quiet (fail)
      clear x1
      have c0 := cellDr c0
      have c1 := cellDr c1
      have c3 := cellDr c3
      go_wp2_with fail
      with_reducible refine (pj_offer (HJ.out.calm ((Keeps.refl No wr).drewN _)) HC5.out HIC.out (i : Int) (k : Int) on hni hrf9.out).mono ?_
      rintro e w7 ⟨rfl, h7, k7⟩
      have hrf : (offerD C s (i : Int) (k : Int) on).1.refs ≤ i + 1 ∧ (offerD C s (i : Int) (k : Int) on).1.last ≤ (i : Int) := offer_rl HRF.out.1 HRF.out.2
      have hag := fun h => offer_again (C := C) (s := s) (now := (i : Int)) (now' := (i : Int)) (r := (k : Int)) (on := on) h
      obtain ⟨s2, hs2⟩ : ∃ q, (offerD C s (i : Int) (k : Int) on).1 = q := ⟨_, rfl⟩
      obtain ⟨v2, hv2⟩ : ∃ q, (offerD C s (i : Int) (k : Int) on).2 = q := ⟨_, rfl⟩
      rw [hs2] at h7 hrf hag
      rw [hv2] at hag ⊢
      have HJ7 := hid h7
      have HRF7 : Hid (s2.refs ≤ i + 1 ∧ s2.last ≤ ((i + 1 : Nat) : Int)) := hid ⟨hrf.1, by have := hrf.2; omega⟩
      have HAG := hid hag
      have hrf29 := hid (show s2.refs ≤ 1000000000 ∧ (idleD s2 (k : Int) on = true ∨ s2.last ≤ (i : Int)) from ⟨by have := hrf.1; omega, Or.inr hrf.2⟩)
      clear h7 k7 hrf hag hs2 hv2 c0 c1 c2 c3 HBR HKW
      cases v2
      · go_wp2_with fail
        go_roundw
        case rel => exact ⟨i + 1, s2, X, by omega, by go_num, HRF7, HXL, HJ7⟩
        case measure => simp [intOf]; omega
      · skip
        have e2 := HAG.out rfl
        have E2 := hid e2
        clear e2 HAG
        go_wp2_with fail
        with_reducible refine (pj_wait HJ7.out).mono ?_
        rintro e w7a ⟨rfl, k7a⟩
        have HJ7a := hid (HJ7.out.calm k7a)
        obtain ⟨n1, hn1'⟩ : ∃ q : Int, ((bandL 1 s2.l).length : Int) = q := ⟨_, rfl⟩
        obtain ⟨n2, hn2'⟩ : ∃ q : Int, ((bandL 2 s2.l).length : Int) = q := ⟨_, rfl⟩
        obtain ⟨n3, hn3'⟩ : ∃ q : Int, ((bandL 3 s2.l).length : Int) = q := ⟨_, rfl⟩
        obtain ⟨re, hre⟩ : ∃ q : Int, (s2.refs : Int) = q := ⟨_, rfl⟩
        rw [hn1', hn2', hn3']
        have HN1 := hid hn1'
        have HN2 := hid hn2'
        have HN3 := hid hn3'
        have HRE := hid hre
        clear k7a hn1' hn2' hn3' hre
        go_wp2_with fail
        with_reducible refine (pj_refused HJ7a.out).mono ?_
        rintro e w8 ⟨rfl, k8⟩
        rw [HRE.out]
        have HJ8 := hid (HJ7a.out.calm k8)
        clear k8
        go_upto_region 11 with fail
        obtain ⟨vb, hvb⟩ : ∃ y, w8.heap.size = y := ⟨_, rfl⟩
        obtain ⟨W8, hW8⟩ : ∃ W8, w8.alloc (.cells #[.int .i64 n1, .int .i64 n2, .int .i64 n3] 32) = W8 := ⟨_, rfl⟩
        have HV : Hid (Bk W8 vb 32 [.int .i64 n1, .int .i64 n2, .int .i64 n3]) := hid (by rw [← hW8]; exact Bk.new hvb _ _)
        have HJV : Hid (PJ W5 W8 (fun i => X i ∨ i = vb) nb C (.slice sg C.sigs.length sgc) (.slice ru C.ruls.length ruc) (.slice tb C.tab.length tbc) s2) := hid (HJ8.out.more (Y := fun i => i = vb) (by rw [← hW8]; exact (Keeps.refl _ _).alloc _) (fun j hj => by rw [← hW8, hj, ← hvb]; simp))
        try rw [hvb]
        rw [hW8]
        clear hvb hW8
        have HOF : Hid (∀ w', Keeps No W8 w' → Calls Try.prog 18 #[.pointer (some ⟨nb, 0, none⟩), .int .i64 (i : Int), .int .i64 (k : Int), .bool on] w' fun e w'' => e = .returned (.bool true) ∧ PJ W5 w'' (fun i => X i ∨ i = vb) nb C (.slice sg C.sigs.length sgc) (.slice ru C.ruls.length ruc) (.slice tb C.tab.length tbc) s2 ∧ Keeps (fun j => ¬ (X j ∨ j = vb)) w' w'') := hid (fun w' kw => by
          have h := pj_offer (HJV.out.calm kw) HC5.out HIC.out (i : Int) (k : Int) on hni hrf29.out
          rw [E2.out] at h
          exact h)
        have ae := arr_neq_same18
        have gd := arr_guard18
        have qre : (re != re) = false := by simp
        have c3 := (K5.out.trans HJV.out.old).cell (fun h => h) (HA.out 3 _ rfl)
        have y0 := HV.out.cell 0 rfl
        have y1 := HV.out.cell 1 rfl
        have y2 := HV.out.cell 2 rfl
        refine wp_region_held_drew (S := (fun w' => w'.cell? ⟨g, off + i * 4 + 3, none⟩ = some (.bool on) ∧ w'.cell? ⟨vb, 0, none⟩ = some (.int .i64 n1) ∧ w'.cell? ⟨vb, 1, none⟩ = some (.int .i64 n2) ∧ w'.cell? ⟨vb, 2, none⟩ = some (.int .i64 n3))) (by kernel_rfl) ?_ (fun hHeld => ?_)
        focus ((try dsimp only); first | with_reducible exact ⟨c3, y0, y1, y2⟩ | with_reducible exact ⟨cellDr c3, cellDr y0, cellDr y1, cellDr y2⟩)
        refine takeOn (i := 0) (v := ?_) rfl (by kernel_rfl) (by kernel_rfl) (by kernel_rfl) (fun _ _ _ h => h) (by rfl) ?_ (by assumption) ?_
        rotate_left
        focus (intro w hSw; (try dsimp only at hSw); go_simp; (try with_reducible rfl))
        try simp only [Act.put, List.setIfInBounds_toArray, List.set_cons_zero, List.set_cons_succ, List.getElem_toArray, List.getElem_cons_succ, List.getElem_cons_zero]
        refine takeOn (i := 1) (v := ?_) rfl (by kernel_rfl) (by kernel_rfl) (by kernel_rfl) (fun _ _ _ h => h) (by rfl) ?_ (by assumption) ?_
        rotate_left
        focus (intro w hSw; (try dsimp only at hSw); go_simp; (try with_reducible rfl))
        try simp only [Act.put, List.setIfInBounds_toArray, List.set_cons_zero, List.set_cons_succ, List.getElem_toArray, List.getElem_cons_succ, List.getElem_cons_zero]
        refine takeOn (i := 2) (v := ?_) rfl (by kernel_rfl) (by kernel_rfl) (by kernel_rfl) (fun _ _ _ h => h) (by rfl) ?_ (by assumption) ?_
        rotate_left
        focus (intro w hSw; (try dsimp only at hSw); go_simp; (try with_reducible rfl))
        try simp only [Act.put, List.setIfInBounds_toArray, List.set_cons_zero, List.set_cons_succ, List.getElem_toArray, List.getElem_cons_succ, List.getElem_cons_zero]
        refine takeOn (i := 3) (v := ?_) rfl (by kernel_rfl) (by kernel_rfl) (by kernel_rfl) (fun _ _ _ h => h) (by rfl) ?_ (by assumption) ?_
        rotate_left
        focus (intro w hSw; (try dsimp only at hSw); go_simp; (try with_reducible rfl))
        try simp only [Act.put, List.setIfInBounds_toArray, List.set_cons_zero, List.set_cons_succ, List.getElem_toArray, List.getElem_cons_succ, List.getElem_cons_zero]
        refine takeOn (i := 4) (v := ?_) rfl (by kernel_rfl) (by kernel_rfl) (by kernel_rfl) (fun _ _ _ h => h) (by rfl) ?_ (by assumption) ?_
        rotate_left
        focus (intro w hSw; (try dsimp only at hSw); go_simp; (try with_reducible rfl))
        try simp only [Act.put, List.setIfInBounds_toArray, List.set_cons_zero, List.set_cons_succ, List.getElem_toArray, List.getElem_cons_succ, List.getElem_cons_zero]
        refine takeOn (i := 5) (v := ?_) rfl (by kernel_rfl) (by kernel_rfl) (by kernel_rfl) (fun _ _ _ h => h) (by rfl) ?_ (by assumption) ?_
        rotate_left
        focus (intro w hSw; (try dsimp only at hSw); go_simp; (try with_reducible rfl))
        try simp only [Act.put, List.setIfInBounds_toArray, List.set_cons_zero, List.set_cons_succ, List.getElem_toArray, List.getElem_cons_succ, List.getElem_cons_zero]
        refine takeOn (i := 6) (v := ?_) rfl (by kernel_rfl) (by kernel_rfl) (by kernel_rfl) (fun _ _ _ h => h) (by rfl) ?_ (by assumption) ?_
        rotate_left
        focus (intro w hSw; (try dsimp only at hSw); go_simp; (try with_reducible rfl))
        try simp only [Act.put, List.setIfInBounds_toArray, List.set_cons_zero, List.set_cons_succ, List.getElem_toArray, List.getElem_cons_succ, List.getElem_cons_zero]
        refine takeOn (i := 7) (v := ?_) rfl (by kernel_rfl) (by kernel_rfl) (by kernel_rfl) (fun _ _ _ h => h) (by rfl) ?_ (by assumption) ?_
        rotate_left
        focus (intro w hSw; (try dsimp only at hSw); go_simp; (try with_reducible rfl))
        try simp only [Act.put, List.setIfInBounds_toArray, List.set_cons_zero, List.set_cons_succ, List.getElem_toArray, List.getElem_cons_succ, List.getElem_cons_zero]
        refine wpAnyH_ready (rs := [8]) (by kernel_rfl) (by simp) ?_
        refine AllReadyH.cons rfl (fun K hK => ?_) AllReadyH.nil
        go_simp
        go_at_call 18
        with_reducible refine (HOF.out _ (Keeps.refl No W8).drew).mono ?_
        rintro e w9 ⟨rfl, h9, k9⟩
        have J9 := hid h9
        have HV9 := hid ((HV.out.drew).keep k9 (fun h => h (Or.inr rfl)))
        have c3 := (K5.out.trans h9.old).cell (fun h => h) (HA.out 3 _ rfl)
        have y0 := HV9.out.cell 0 rfl
        have y1 := HV9.out.cell 1 rfl
        have y2 := HV9.out.cell 2 rfl
        clear h9 k9
        go_wp2_with fail
        refine hK.out _ _ ?_ (fun hHeld => ?_)
        focus ((try dsimp only); first | with_reducible exact ⟨c3, y0, y1, y2⟩ | with_reducible exact ⟨cellDr c3, cellDr y0, cellDr y1, cellDr y2⟩)
        clear hK K
        try simp only [Act.put, List.setIfInBounds_toArray, List.set_cons_zero, List.set_cons_succ, List.getElem_toArray, List.getElem_cons_succ, List.getElem_cons_zero]
        refine takeOn (i := 9) (v := ?_) rfl (by kernel_rfl) (by kernel_rfl) (by kernel_rfl) (fun _ _ _ h => h) (by rfl) ?_ (by assumption) ?_
        rotate_left
        focus (intro w hSw; (try dsimp only at hSw); go_simp; (try with_reducible rfl))
        try simp only [Act.put, List.setIfInBounds_toArray, List.set_cons_zero, List.set_cons_succ, List.getElem_toArray, List.getElem_cons_succ, List.getElem_cons_zero]
        refine takeOn (i := 10) (v := ?_) rfl (by kernel_rfl) (by kernel_rfl) (by kernel_rfl) (fun _ _ _ h => h) (by rfl) ?_ (by assumption) ?_
        rotate_left
        focus (intro w hSw; (try dsimp only at hSw); go_simp; (try with_reducible rfl))
        try simp only [Act.put, List.setIfInBounds_toArray, List.set_cons_zero, List.set_cons_succ, List.getElem_toArray, List.getElem_cons_succ, List.getElem_cons_zero]
        refine takeOn (i := 11) (v := ?_) rfl (by kernel_rfl) (by kernel_rfl) (by kernel_rfl) (fun _ _ _ h => h) (by rfl) ?_ (by assumption) ?_
        rotate_left
        focus (intro w hSw; (try dsimp only at hSw); go_simp; (try with_reducible rfl))
        try simp only [Act.put, List.setIfInBounds_toArray, List.set_cons_zero, List.set_cons_succ, List.getElem_toArray, List.getElem_cons_succ, List.getElem_cons_zero]
        refine takeOn (i := 13) (v := ?_) rfl (by kernel_rfl) (by kernel_rfl) (by kernel_rfl) (fun _ _ _ h => h) (by rfl) ?_ (by assumption) ?_
        rotate_left
        focus (intro w hSw; (try dsimp only at hSw); go_simp; (try with_reducible rfl))
        try simp only [Act.put, List.setIfInBounds_toArray, List.set_cons_zero, List.set_cons_succ, List.getElem_toArray, List.getElem_cons_succ, List.getElem_cons_zero]
        refine wpAnyH_ready (rs := [12]) (by kernel_rfl) (by simp) ?_
        refine AllReadyH.cons rfl (fun K hK => ?_) AllReadyH.nil
        go_simp
        go_at_call 22
        with_reducible refine (pj_wait J9.out).mono ?_
        rintro e w10 ⟨rfl, k10⟩
        rw [HN1.out, HN2.out, HN3.out]
        have J10 := hid (J9.out.calm k10)
        have HV10 := hid (HV9.out.kept k10)
        have c3 := (K5.out.trans J10.out.old).cell (fun h => h) (HA.out 3 _ rfl)
        have y0 := HV10.out.cell 0 rfl
        have y1 := HV10.out.cell 1 rfl
        have y2 := HV10.out.cell 2 rfl
        clear k10
        go_wp2_with fail
        refine hK.out _ _ ?_ (fun hHeld => ?_)
        focus ((try dsimp only); first | with_reducible exact ⟨c3, y0, y1, y2⟩ | with_reducible exact ⟨cellDr c3, cellDr y0, cellDr y1, cellDr y2⟩)
        clear hK K
        try simp only [Act.put, List.setIfInBounds_toArray, List.set_cons_zero, List.set_cons_succ, List.getElem_toArray, List.getElem_cons_succ, List.getElem_cons_zero]
        refine takeOn (i := 14) (v := ?_) rfl (by kernel_rfl) (by kernel_rfl) (by kernel_rfl) (fun _ _ _ h => h) (by rfl) ?_ (by assumption) ?_
        rotate_left
        focus (intro w hSw; (try dsimp only at hSw); go_simp; (try with_reducible rfl))
        try simp only [Act.put, List.setIfInBounds_toArray, List.set_cons_zero, List.set_cons_succ, List.getElem_toArray, List.getElem_cons_succ, List.getElem_cons_zero]
        refine takeOn (i := 15) (v := ?_) rfl (by kernel_rfl) (by kernel_rfl) (by kernel_rfl) (fun _ _ _ h => h) (by rfl) ?_ (by assumption) ?_
        rotate_left
        focus (intro w hSw; (try dsimp only at hSw); go_simp; (try with_reducible rfl))
        try simp only [Act.put, List.setIfInBounds_toArray, List.set_cons_zero, List.set_cons_succ, List.getElem_toArray, List.getElem_cons_succ, List.getElem_cons_zero]
        refine takeOn (i := 16) (v := ?_) rfl (by kernel_rfl) (by kernel_rfl) (by kernel_rfl) (fun _ _ _ h => h) (by rfl) ?_ (by assumption) ?_
        rotate_left
        focus (intro w hSw; (try dsimp only at hSw); go_simp; (try with_reducible rfl))
        try simp only [Act.put, List.setIfInBounds_toArray, List.set_cons_zero, List.set_cons_succ, List.getElem_toArray, List.getElem_cons_succ, List.getElem_cons_zero]
        refine takeOn (i := 17) (v := ?_) rfl (by kernel_rfl) (by kernel_rfl) (by kernel_rfl) (fun _ _ _ h => h) (by rfl) ?_ (by assumption) ?_
        rotate_left
        focus (intro w hSw; (try dsimp only at hSw); go_simp; (try with_reducible rfl))
        try simp only [Act.put, List.setIfInBounds_toArray, List.set_cons_zero, List.set_cons_succ, List.getElem_toArray, List.getElem_cons_succ, List.getElem_cons_zero]
        refine takeOn (i := 19) (v := ?_) rfl (by kernel_rfl) (by kernel_rfl) (by kernel_rfl) (fun _ _ _ h => h) (by rfl) ?_ (by assumption) ?_
        rotate_left
        focus (intro w hSw; (try dsimp only at hSw); go_simp; (try with_reducible rfl))
        try simp only [Act.put, List.setIfInBounds_toArray, List.set_cons_zero, List.set_cons_succ, List.getElem_toArray, List.getElem_cons_succ, List.getElem_cons_zero]
        refine wpAnyH_ready (rs := [18]) (by kernel_rfl) (by simp) ?_
        refine AllReadyH.cons rfl (fun K hK => ?_) AllReadyH.nil
        go_simp
        go_at_call 24
        with_reducible refine (pj_refused J10.out).mono ?_
        rintro e w11 ⟨rfl, k11⟩
        rw [HRE.out]
        have J11 := hid (J10.out.calm k11)
        have HV11 := hid (HV10.out.kept k11)
        have c3 := (K5.out.trans J11.out.old).cell (fun h => h) (HA.out 3 _ rfl)
        have y0 := HV11.out.cell 0 rfl
        have y1 := HV11.out.cell 1 rfl
        have y2 := HV11.out.cell 2 rfl
        clear k11
        go_wp2_with fail
        refine hK.out _ _ ?_ (fun hHeld => ?_)
        focus ((try dsimp only); first | with_reducible exact ⟨c3, y0, y1, y2⟩ | with_reducible exact ⟨cellDr c3, cellDr y0, cellDr y1, cellDr y2⟩)
        clear hK K
        try simp only [Act.put, List.setIfInBounds_toArray, List.set_cons_zero, List.set_cons_succ, List.getElem_toArray, List.getElem_cons_succ, List.getElem_cons_zero]
        refine takeOn (i := 20) (v := ?_) rfl (by kernel_rfl) (by kernel_rfl) (by kernel_rfl) (fun _ _ _ h => h) (by rfl) ?_ (by assumption) ?_
        rotate_left
        focus (intro w hSw; (try dsimp only at hSw); go_simp; (try with_reducible rfl))
        try simp only [Act.put, List.setIfInBounds_toArray, List.set_cons_zero, List.set_cons_succ, List.getElem_toArray, List.getElem_cons_succ, List.getElem_cons_zero]
        refine takeOn (i := 21) (v := ?_) rfl (by kernel_rfl) (by kernel_rfl) (by kernel_rfl) (fun _ _ _ h => h) (by rfl) ?_ (by assumption) ?_
        rotate_left
        focus (intro w hSw; (try dsimp only at hSw); go_simp; (try with_reducible rfl))
        try simp only [Act.put, List.setIfInBounds_toArray, List.set_cons_zero, List.set_cons_succ, List.getElem_toArray, List.getElem_cons_succ, List.getElem_cons_zero]
        refine wpAnyH_done (by kernel_rfl) ?_ _
        clear ae gd c3 y0 y1 y2
        go_wp2_with fail
        go_roundw
        case rel => exact ⟨i + 1, s2, _, by omega, by go_num, HRF7, hid (fun j hj => Or.inl (HXL.out j hj)), J11⟩
        case measure => simp [intOf]; omega
    · obtain rfl : i = N := by omega
      have HBR := hid (HB5.out.kept HJ.out.old)
      have hrfA := hid (show s.refs ≤ 1000000000 ∧ (idleD s (-1) true = true ∨ s.last ≤ 1) from ⟨by have := HRF.out; omega, Or.inl (by unfold idleD; rw [decide_eq_true (Or.inl (by decide))]; rfl)⟩)
      have hrfB := hid (show s.refs ≤ 1000000000 ∧ (idleD s (n : Int) true = true ∨ s.last ≤ 1) from ⟨by have := HRF.out; omega, Or.inl (by unfold idleD; rw [decide_eq_true (Or.inr (by rw [HJ.out.ok.told, HNR.out]; exact Int.le_refl _))]; rfl)⟩)
      have h1i : I64 (1 : Int) := ⟨by decide, by decide⟩
      have ht := HJ.out.ok.told
      have q1 := offer_none (C := C) (s := s) (now := 1) (r := -1) (on := true) (Or.inl (by decide))
      have q2 := offer_none (C := C) (s := s) (now := 1) (r := (n : Int)) (on := true) (Or.inr (by rw [ht, HNR.out]; exact Int.le_refl _))
      have Q1 := hid q1
      have Q2 := hid q2
      clear ht q1 q2
      go_wp2_with fail
      with_reducible refine (pj_offer HJ.out HC5.out HIC.out 1 (-1) true h1i hrfA.out).mono ?_
      rintro e w7 ⟨rfl, h7, k7⟩
      rw [Q1.out] at h7 ⊢
      have J7 := hid h7
      have HB7 := hid (HB5.out.kept h7.old)
      have x1 := HB7.out.cell 1 rfl
      rw [HNR.out] at x1
      clear h7 k7
      go_wp2_with fail
      with_reducible refine (pj_offer J7.out HC5.out HIC.out 1 (n : Int) true h1i hrfB.out).mono ?_
      rintro e w8 ⟨rfl, h8, k8⟩
      rw [Q2.out] at h8 ⊢
      have J8 := hid h8
      clear h8 k8 x1
      go_wp2_with fail
      go_ret
      exact ⟨rfl, (K5.out.trans J8.out.old).toBelow⟩

theorem own : ownKnob Try.prog.godebug = none := by kernel_rfl
theorem laidOut : laidOutB Try.prog = true := by kernel_rfl
set_option maxRecDepth 100000 in
theorem lifted (os : Os) (started : os.Started) (H : Type) (enc : TypeId × Value → H) :
    ReturnsInHanded {} Try.checked os 9 .any (Rows.intakeOnceSpec.pre6 enc Try.prog Try.f9 Rows.intakeOnceRow.domain false) (Rows.intakeOnceSpec.post enc Try.prog Try.f9 false true false false) := by
  refine returnsInHanded_of_change (C := Try.checked) own started (by kernel_rfl) Try.func9
    (ChangeSpec.witness6 (enc := enc) (C := Try.checked) false ⟨#[], #[.agg #[.slice none 0 0, .slice none 0 0, .int .u8 0, .int .u8 0, .int .u8 0, .int .u8 0, .bool false, .int .u8 0], .slice none 0 0], []⟩ 8 (by kernel_rfl) (by kernel_rfl) (by kernel_rfl) (by kernel_rfl)) ?_
  intro W base args ds gs before hval0 hW hcnd _
  have hval : ∀ (j : Nat) t v, Try.f9.params[j]? = some t → args[j]? = some v → Value.okWide Try.prog W .any base t v := hval0
  have hW' := hW
  obtain ⟨p, q, hA0, hV, rfl, hfz, hnd⟩ := hW
  have hA : DataW.TrodAll enc Try.prog W 0 (fun _ => true) true Try.f9.params.toList args.toList ds p := hA0
  rw [Try.params9] at hA hval
  obtain ⟨v0, vs0, d0, ds0, p0, q0, hargs, rfl, rfl, h0, r0⟩ := trodAll_cons hA
  obtain ⟨v1, vs1, d1, ds1, p1, q1, rfl, rfl, rfl, h1, r1⟩ := trodAll_cons r0
  obtain ⟨rfl, rfl, rfl⟩ := trodAll_nil r1
  obtain rfl : args = #[v0, v1] := by cases args; simp_all
  obtain ⟨rfl, rfl⟩ := trodVars_none hV
  have k0 := h0
  have lt0 : ∀ x ∈ p0, x.block < W.heap.size := by obtain ⟨m, hm⟩ := k0; exact DataW.trod_lt m _ _ _ hm
  have k1 := h1
  have lt1 : ∀ x ∈ p1, x.block < W.heap.size := by obtain ⟨m, hm⟩ := k1; exact DataW.trod_lt m _ _ _ hm
  obtain ⟨rules, rv, slots, sv, ba, dr, pa, of_, br, lo, rfl, hd, u1, u2, u3, u4, u5⟩ := argDraft (hval 0 25 v0 rfl rfl) h0
  obtain ⟨s1, len1, cap1, rfl⟩ := okWide_slice Try.underlying26 (hval 1 26 v1 rfl rfl)
  obtain ⟨l1, rfl, w1, b1⟩ := argSlice (encE := encActI) (good := goodActI) (size := 4) (fun _ => rfl) (by decide) Try.underlying26 (by kernel_rfl) (fun n cs x hx => decAct18 hx) h1
  clear hA0 hval0
  refine (walk W rules rv slots sv ba dr pa of_ br lo hd u1 u2 u3 u4 u5 s1 cap1 l1 w1 b1).mono fun e W' ⟨he, bel⟩ => ?_
  subst he
  exact ⟨_, rfl, _, _, _, [], _, [], hW', trodAll_mk1 (shut_bool Try.underlying4 _), (trodAll_cons_mk (Below.trod laidOut (by kernel_rfl) (of_decide_eq_true (by kernel_rfl)) k0 bel lt0) (trodAll_cons_mk (Below.trod laidOut (by kernel_rfl) (of_decide_eq_true (by kernel_rfl)) k1 bel lt1) trodAll_mk0)), rfl, bel.frame _, fun h => by cases h⟩

theorem over : Rows.intakeOnceRow.holds Try.pinned (OpenSpec.ofChange Rows.intakeOnceSpec) :=
  OpenClaim.holds_of_wide 9 Try.f9 rfl rfl rfl rfl rfl rfl rfl ⟨rfl, rfl, rfl, rfl, rfl⟩ rfl rfl rfl rfl rfl (by kernel_rfl) Try.func9 (by kernel_rfl)
    (of_decide_eq_true (by kernel_rfl)) (by unfold Func.isWrapper; first | (rw [if_pos (by decide +kernel)]; kernel_rfl) | (rw [if_neg (by decide +kernel)]; exact ⟨rfl, rfl⟩))
    (fun os started H enc _ => lifted os started H enc)

theorem proved : Rows.IntakeOnceSaid := over
#print axioms proved
end Go.Proofs.Ytoodlhagecannaa.intakeOnce
