/- What is told last of a rule is what is so, where there was room: of all its events the last one says it. No conditions. -/
import Derived.Test.YtoodlhagecannaaRows
import Derived.Test.YtoodlhagecannaaArgsE
import Derived.Test.YtoodlhagecannaaMake2
import Derived.Test.YtoodlhagecannaaInkC
import Derived.Test.YtoodlhagecannaaInkQ
import Derived.Test.YtoodlhagecannaaArrEq
import Derived.Test.YtoodlhagecannaaTake
import Derived.ProofKit
import Derived.OpenShut
import Derived.Deep.RegionHeld3
import Derived.Deep.DeepCutAuto
import Derived.Deep.CutBlock
namespace Go.Proofs.Ytoodlhagecannaa.intakeTells
open Go.ChangeShapes Go.WideShapes Go.ChangeAt Go.RowKit
open Go.ChangeMaps (open_string shut_string)
set_option linter.unusedVariables false
set_option linter.unusedSimpArgs false

structure ActI where
  do_ : Int
  rule : Int
  behind : Int
  on : Bool
def encActI (x : ActI) : List Value := [.int .u8 x.do_, .int .u8 x.rule, .int .u8 x.behind, .bool x.on]
theorem encActI_len (x : ActI) : (encActI x).length = 4 := rfl
def goodActI (x : ActI) : Prop := (Lit.int .u8 x.do_).wf = true ∧ (Lit.int .u8 x.rule).wf = true ∧ (Lit.int .u8 x.behind).wf = true

set_option maxRecDepth 100000 in
theorem decAct18 {H : Type} {enc : TypeId × Value → H} {W : World} {n : Nat} {cs : List Value} {x} (h : DataW.trod enc Try.prog W 0 (fun _ => true) true n 41 cs = some x) : ∃ y : ActI, cs = encActI y ∧ goodActI y := by
  obtain ⟨xs, m, _, _, hl, hlen, hf⟩ := DataW.trod_struct Try.underlying41 h
  rw [show Try.prog.cellsOf 41 = 4 by kernel_rfl] at hl
  match cs, hl, xs, hlen with
  | [c0, c1, c2, c3], _, [y0, y1, y2, y3], _ =>
    have h0 : DataW.trod enc Try.prog W 0 (fun _ => true) true m 5 (([c0, c1, c2, c3].drop 0).take (Try.prog.cellsOf 5)) = some y0 := hf 0 _ rfl
    have h1 : DataW.trod enc Try.prog W 0 (fun _ => true) true m 5 (([c0, c1, c2, c3].drop 1).take (Try.prog.cellsOf 5)) = some y1 := hf 1 _ rfl
    have h2 : DataW.trod enc Try.prog W 0 (fun _ => true) true m 5 (([c0, c1, c2, c3].drop 2).take (Try.prog.cellsOf 5)) = some y2 := hf 2 _ rfl
    have h3 : DataW.trod enc Try.prog W 0 (fun _ => true) true m 4 (([c0, c1, c2, c3].drop 3).take (Try.prog.cellsOf 4)) = some y3 := hf 3 _ rfl
    rw [show Try.prog.cellsOf 5 = 1 by kernel_rfl] at h0 h1 h2
    rw [show Try.prog.cellsOf 4 = 1 by kernel_rfl] at h3
    obtain ⟨a0, e0, _, w0⟩ := DataW.trod_int Try.underlying5 h0
    obtain ⟨a1, e1, _, w1⟩ := DataW.trod_int Try.underlying5 h1
    obtain ⟨a2, e2, _, w2⟩ := DataW.trod_int Try.underlying5 h2
    obtain ⟨a3, e3, _⟩ := DataW.trod_bool Try.underlying4 h3
    simp at e0 e1 e2 e3
    exact ⟨⟨a0, a1, a2, a3⟩, by simp [e0, e1, e2, e3, encActI], w0, w1, w2⟩

set_option maxHeartbeats 16000000 in
set_option maxRecDepth 100000 in
theorem walk (w : World) (rules : List (LineD × Value)) (rv : Value) (slots : List Int) (sv : Value) (ba dr pa of_ : Int) (br : Bool) (lo : Int) (hd : DraftR w rules rv slots sv) (u1 : U8 ba) (u2 : U8 dr) (u3 : U8 pa) (u4 : U8 of_) (u5 : U8 lo) (s0 : Option Addr) (cap : Nat) (q : List ActI) (hs : Sl w 4 (.slice s0 q.length cap) q.length (q.flatMap encActI)) (hq : ∀ x ∈ q, goodActI x) :
    Calls Try.prog 5 #[.agg #[rv, sv, .int .u8 ba, .int .u8 dr, .int .u8 pa, .int .u8 of_, .bool br, .int .u8 lo], .slice s0 q.length cap] w fun e w' => e = .returned (.bool true) ∧ Below w.heap.size w w' := by
  obtain ⟨ra, rc, rfl⟩ := hd.rul.any
  obtain ⟨sa, sc, rfl⟩ := hd.slo.any
  obtain ⟨W1, hW1⟩ : ∃ W1, w.alloc (.cells #[.slice ra rules.length rc, .slice sa slots.length sc, .int .u8 ba, .int .u8 dr, .int .u8 pa, .int .u8 of_, .bool br, .int .u8 lo] 25) = W1 := ⟨_, rfl⟩
  have k1 : Keeps No w W1 := by rw [← hW1]; exact (Keeps.refl _ _).alloc _
  have hb : BlkL W1 w.heap.size 25 [.slice ra rules.length rc, .slice sa slots.length sc, .int .u8 ba, .int .u8 dr, .int .u8 pa, .int .u8 of_, .bool br, .int .u8 lo] := by rw [← hW1]; exact heap_alloc_new w _
  have H1 := hid (hd.calm k1)
  have HB := hid hb
  have HW1 := hid hW1
  have K1 := hid k1
  have U := hid (show U8 ba ∧ U8 dr ∧ U8 pa ∧ U8 of_ ∧ U8 lo from ⟨u1, u2, u3, u4, u5⟩)
  clear hd hW1 k1 hb u1 u2 u3 u4 u5
  obtain ⟨N, hN⟩ : ∃ N, q.length = N := ⟨_, rfl⟩
  rw [hN] at hs ⊢
  have HS := hid hs
  have HQ := hid hq
  have HN := hid hN
  clear hs hq hN
  by_cases hbig : 100 < N
  · have hdl : decide ((N : Int) > 100) = true := decide_eq_true (by omega)
    go_enter Try.func5, Try.ntmps5
    go_upto_region 1 with fail
    rw [HW1.out]
    go_wp2_with fail
    refine (refuses_true _).mono ?_
    rintro e w2 ⟨rfl, k2⟩
    have hb := HB.out.keep k2 (fun h => h)
    have K2 := hid (K1.out.trans k2)
    have H2 := hid (H1.out.calm k2)
    have HB2 := hid hb
    have x0 := hb.cell (o := 0) rfl
    have x1 := hb.cell (o := 1) rfl
    have x2 := hb.cell (o := 2) rfl
    have x3 := hb.cell (o := 3) rfl
    have x4 := hb.cell (o := 4) rfl
    have x5 := hb.cell (o := 5) rfl
    have x6 := hb.cell (o := 6) rfl
    have x7 := hb.cell (o := 7) rfl
    clear hb k2
    go_wp2_with fail
    refine (short18_any H2.out ba dr pa of_ br lo).mono ?_
    rintro e w3 ⟨bs, rfl, k3⟩
    clear x0 x1 x2 x3 x4 x5 x6 x7
    have K3 := hid (K2.out.trans k3)
    have H3 := hid (H2.out.calm k3)
    have hb := HB2.out.keep k3 (fun h => h)
    clear k3
    cases bs
    · clear hb
      go_wp2_with fail
      refine (refuses_true _).mono ?_
      rintro e w4 ⟨rfl, k4⟩
      have K4 := hid (K3.out.trans k4)
      clear k4
      go_wp2_with fail
      go_ret
      exact ⟨rfl, K4.out.toBelow⟩
    · clear hb
      go_wp2_with fail
      refine (refuses_true _).mono ?_
      rintro e w4 ⟨rfl, k4⟩
      have K4 := hid (K3.out.trans k4)
      clear k4
      go_wp2_with fail
      go_ret
      exact ⟨rfl, K4.out.toBelow⟩
  have hdl : decide ((N : Int) > 100) = false := decide_eq_false (by omega)
  go_enter Try.func5, Try.ntmps5
  go_upto_region 1 with fail
  rw [HW1.out]
  go_wp2_with fail
  refine (refuses_true _).mono ?_
  rintro e w2 ⟨rfl, k2⟩
  have hb := HB.out.keep k2 (fun h => h)
  have K2 := hid (K1.out.trans k2)
  have H2 := hid (H1.out.calm k2)
  have HB2 := hid hb
  have x0 := hb.cell (o := 0) rfl
  have x1 := hb.cell (o := 1) rfl
  have x2 := hb.cell (o := 2) rfl
  have x3 := hb.cell (o := 3) rfl
  have x4 := hb.cell (o := 4) rfl
  have x5 := hb.cell (o := 5) rfl
  have x6 := hb.cell (o := 6) rfl
  have x7 := hb.cell (o := 7) rfl
  clear hb k2
  go_wp2_with fail
  refine (short18_any H2.out ba dr pa of_ br lo).mono ?_
  rintro e w3 ⟨bs, rfl, k3⟩
  clear x0 x1 x2 x3 x4 x5 x6 x7
  have K3 := hid (K2.out.trans k3)
  have H3 := hid (H2.out.calm k3)
  have hb := HB2.out.keep k3 (fun h => h)
  clear k3
  cases bs
  · clear hb
    go_wp2_with fail
    refine (refuses_true _).mono ?_
    rintro e w4 ⟨rfl, k4⟩
    have K4 := hid (K3.out.trans k4)
    clear k4
    go_wp2_with fail
    go_ret
    exact ⟨rfl, K4.out.toBelow⟩
  have x0 := hb.cell (o := 0) rfl
  have x1 := hb.cell (o := 1) rfl
  have x2 := hb.cell (o := 2) rfl
  have x3 := hb.cell (o := 3) rfl
  have x4 := hb.cell (o := 4) rfl
  have x5 := hb.cell (o := 5) rfl
  have x6 := hb.cell (o := 6) rfl
  have x7 := hb.cell (o := 7) rfl
  clear hb
  go_wp2_with fail
  refine (make_any H3.out ba dr pa of_ br lo U.out.1 U.out.2.1 U.out.2.2.1 U.out.2.2.2.1 U.out.2.2.2.2).mono ?_
  rintro e w4 ⟨C, csv, crv, ctv, rfl, hc, hm, k4⟩
  clear x0 x1 x2 x3 x4 x5 x6 x7
  obtain ⟨sg, sgc, ru, ruc, tb, tbc, rfl, rfl, rfl⟩ := cfg_shape18 hc
  unfold Cfg.val Cfg.cells
  have K4 := hid (K3.out.trans k4)
  have HC4 := hid hc
  have HM := hid hm
  have HIC := hid hm.ink
  clear hc hm k4 K1 K2 K3 H1 H2 H3 HB HB2 U HW1
  obtain ⟨cb, hcb⟩ : ∃ y, w4.heap.size = y := ⟨_, rfl⟩
  obtain ⟨W5, hW5⟩ : ∃ W5, w4.alloc (.cells #[.slice sg C.sigs.length sgc, .slice ru C.ruls.length ruc, .slice tb C.tab.length tbc, .int .i64 C.b0, .int .i64 C.b1, .int .i64 C.b2, .int .i64 C.drain, .int .i64 C.pause, .int .i64 C.off, .bool C.brk, .int .i64 C.log] 34) = W5 := ⟨_, rfl⟩
  have HC5 : Hid (CfgR W5 C (.slice sg C.sigs.length sgc) (.slice ru C.ruls.length ruc) (.slice tb C.tab.length tbc)) := hid (HC4.out.calm (by rw [← hW5]; exact (Keeps.refl _ _).alloc _))
  have HB5 : Hid (Bk W5 cb 34 [.slice sg C.sigs.length sgc, .slice ru C.ruls.length ruc, .slice tb C.tab.length tbc, .int .i64 C.b0, .int .i64 C.b1, .int .i64 C.b2, .int .i64 C.drain, .int .i64 C.pause, .int .i64 C.off, .bool C.brk, .int .i64 C.log]) := hid (by rw [← hW5]; exact Bk.new hcb _ _)
  have K5 : Hid (Keeps No w W5) := hid (by rw [← hW5]; exact K4.out.alloc _)
  have HW5 := hid hW5
  have HCB := hid hcb
  have HNC : Hid (w.heap.size ≤ cb) := hid (by rw [← hcb]; exact K4.out.size)
  clear hcb hW5 K4 HC4
  go_upto_region 4 with fail
  try rw [HW5.out, HCB.out]
  clear HW5 HCB
  have x0 := HB5.out.cell 0 rfl
  have x1 := HB5.out.cell 1 rfl
  have x2 := HB5.out.cell 2 rfl
  have x3 := HB5.out.cell 3 rfl
  have x4 := HB5.out.cell 4 rfl
  have x5 := HB5.out.cell 5 rfl
  have x6 := HB5.out.cell 6 rfl
  have x7 := HB5.out.cell 7 rfl
  have x8 := HB5.out.cell 8 rfl
  have x9 := HB5.out.cell 9 rfl
  have x10 := HB5.out.cell 10 rfl
  go_wp2_with fail
  refine (pj_new W5 HC5.out (by have := HM.out.few; omega)).mono ?_
  rintro e w6 ⟨nb, rfl, h6⟩
  have J6 := hid h6
  clear h6 x0 x1 x2 x3 x4 x5 x6 x7 x8 x9 x10
  obtain ⟨n, hnr⟩ : ∃ n, C.ruls.length = n := ⟨_, rfl⟩
  have hn8 : 1 ≤ n ∧ n ≤ 8 := by rw [← hnr]; exact HM.out.few
  obtain ⟨hn1, hn8⟩ := hn8
  have hnz : ¬ n = 0 := by omega
  have hnz2 : ((n : Int) == 0) = false := by simpa using hnz
  have HNR := hid hnr
  have hmk : ∀ W : World, (Instr.makeSlice 56 (.int .i64 (n : Int)) (.int .i64 (n : Int))).run Try.prog W = .ok (.slice (some ⟨W.heap.size, 0, none⟩) n n) (W.alloc (.cells ((List.replicate n false).map Value.bool).toArray 4 )) := fun W => by
    have := run_make_b' (P := Try.prog) Try.underlying56 info_boolS n (by omega) (by omega) W
    rw [Nat.mul_one] at this
    rw [show ((List.replicate n false).map Value.bool).toArray = madeCells (Value.bool false).cells n from by
      refine Array.ext' ?_
      rw [show (Value.bool false).cells = #[Value.bool false] from rfl, toList_madeCells_one]
      simp]
    exact this
  obtain ⟨zs, hzs⟩ : ∃ q, (List.replicate n false).map Value.bool = q := ⟨_, rfl⟩
  rw [hzs] at hmk
  have HZS := hid hzs
  have x1 := (HB5.out.kept J6.out.old).cell 1 rfl
  rw [hnr] at x1
  clear hnr hdl hzs
  have x1a := fun o => cellA o x1
  go_upto_region 6 with fail
  have x1' := x1a (.cells zs.toArray 4 )
  go_upto_region 7 with fail
  obtain ⟨t1, ht1⟩ : ∃ y, w6.heap.size = y := ⟨_, rfl⟩
  obtain ⟨t2, ht2⟩ : ∃ y, t1 + 1 = y := ⟨_, rfl⟩
  obtain ⟨W7, hW7⟩ : ∃ W7, (w6.alloc (.cells zs.toArray 4 )).alloc (.cells zs.toArray 4 ) = W7 := ⟨_, rfl⟩
  have HT10 : Hid (Bk W7 t1 4 ((InkD.start C.ruls.length).told.map Value.bool)) := hid (by rw [show (InkD.start C.ruls.length).told.map Value.bool = zs by rw [HNR.out, ← HZS.out]; rfl, ← hW7]; exact (Bk.new ht1 _ _).alloc _)
  have HT20 : Hid (Bk W7 t2 4 ((List.replicate n false).map Value.bool)) := hid (by rw [HZS.out, ← hW7, ← ht2]; exact Bk.new (by simp [ht1]) _ _)
  have HJ0 : Hid (PJ W5 W7 (fun j => j < W5.heap.size ∨ (j = t1 ∨ j = t2)) nb C (.slice sg C.sigs.length sgc) (.slice ru C.ruls.length ruc) (.slice tb C.tab.length tbc) (InkD.start C.ruls.length)) := hid (J6.out.more (Y := fun j => j = t1 ∨ j = t2) (by rw [← hW7]; exact ((Keeps.refl _ _).alloc _).alloc _) (fun j hj => by rw [← hW7]; simp; rcases hj with rfl | rfl <;> omega))
  have HT1W := hid (show W5.heap.size ≤ t1 by have := J6.out.old.size; omega)
  have HT2W := hid (show W5.heap.size ≤ t2 by have := HT1W.out; omega)
  have ht12 : ¬ t1 = t2 := by omega
  have ht21 : ¬ t2 = t1 := by omega
  have HTL0 : Hid (ToldL (InkD.start C.ruls.length) (List.replicate n false)) := hid (by rw [HNR.out]; exact ToldL.start n)
  try rw [ht1]
  try rw [ht2]
  rw [hW7]
  clear ht1 ht2 hW7 x1 x1' x1a hmk J6 HZS
  go_wp2_with fail
  go_loopw [9] (fun v9 wr => ∃ (i : Nat) (s : InkD) (last : List Bool), i ≤ N ∧ v9 = .int .i64 (i : Int) ∧ Hid (s.refs ≤ i ∧ s.last ≤ (i : Int)) ∧ Hid (ToldL s last) ∧ Hid (last.length = n) ∧ Hid (Bk wr t1 4 (s.told.map Value.bool)) ∧ Hid (Bk wr t2 4 (last.map Value.bool)) ∧ Hid (PJ W5 wr (fun j => j < W5.heap.size ∨ (j = t1 ∨ j = t2)) nb C (.slice sg C.sigs.length sgc) (.slice ru C.ruls.length ruc) (.slice tb C.tab.length tbc) s)) (fun v9 _ => N - (intOf v9).toNat)
  case atStart => exact ⟨0, _, _, Nat.zero_le _, rfl, hid ⟨Nat.zero_le _, Int.le_refl _⟩, HTL0, hid (by simp), HT10, HT20, HJ0⟩
  case round =>
    clear HTL0 HT10 HT20 HJ0
    obtain ⟨i, s, last, hi, rfl, HRF, HTL, HLN, HT1, HT2, HJ⟩ := hrel
    by_cases hlt : i < N
    · skip
      have hil : i < q.length := by rw [HN.out]; exact hlt
      obtain ⟨⟨dd, rr, bh, on⟩, hx⟩ : ∃ x, q[i] = x := ⟨_, rfl⟩
      have hgd := HQ.out _ (List.getElem_mem hil)
      rw [hx] at hgd
      obtain ⟨hd0, hd1⟩ : 0 ≤ dd ∧ dd ≤ 255 := bounds_u8 (show (Lit.int .u8 dd).wf = true from hgd.1)
      obtain ⟨hr0, hr1⟩ : 0 ≤ rr ∧ rr ≤ 255 := bounds_u8 (show (Lit.int .u8 rr).wf = true from hgd.2.1)
      obtain ⟨hb0, hb1⟩ : 0 ≤ bh ∧ bh ≤ 255 := bounds_u8 (show (Lit.int .u8 bh).wf = true from hgd.2.2)
      obtain ⟨g, off, rfl, hgl, hc⟩ := Sl.itemC (enc := encActI) (size := 4) (fun _ => rfl) (by decide) HS.out hil hx
      have HA := hid hc
      clear hx hil hgd hc
      obtain ⟨k, hk⟩ : ∃ k : Nat, rr % (n : Int) = k := ⟨(rr % (n : Int)).toNat, by have := Int.emod_nonneg rr (show (n : Int) ≠ 0 by omega); omega⟩
      have hkn : k < n := by have := Int.emod_lt_of_pos rr (show 0 < (n : Int) by omega); omega
      have HBR := hid (HB5.out.kept HJ.out.old)
      have HKW := hid (K5.out.trans HJ.out.old)
      have c0 := HKW.out.cell (fun h => h) (HA.out 0 _ rfl)
      have c1 := HKW.out.cell (fun h => h) (HA.out 1 _ rfl)
      have c2 := HKW.out.cell (fun h => h) (HA.out 2 _ rfl)
      have c3 := HKW.out.cell (fun h => h) (HA.out 3 _ rfl)
      simp only [Nat.add_zero] at c0
      have x1 := HBR.out.cell 1 rfl
      rw [HNR.out] at x1
      have hni : I64 (i : Int) := ⟨by omega, by omega⟩
      have hrf9 := hid (show s.refs ≤ 1000000000 ∧ (idleD s (k : Int) on = true ∨ s.last ≤ (i : Int)) from ⟨by have := HRF.out; omega, Or.inr (by have := HRF.out; omega)⟩)
      go_upto_region 10 with fail
      go_quiet (fail)
      clear x1
      have c0 := cellDr c0
      have c3 := cellDr c3
      have hktold : k < s.told.length := by rw [HJ.out.ok.told, HNR.out]; exact hkn
      have HKT := hid hktold
      clear hktold
      go_wp2_with fail
      with_reducible refine (pj_offer (HJ.out.calm ((Keeps.refl No wr).drewN _)) HC5.out HIC.out (i : Int) (k : Int) on hni hrf9.out).mono ?_
      rintro e w7 ⟨rfl, h7, k7⟩
      have hrf : (offerD C s (i : Int) (k : Int) on).1.refs ≤ i + 1 ∧ (offerD C s (i : Int) (k : Int) on).1.last ≤ (i : Int) := offer_rl HRF.out.1 HRF.out.2
      have htl := HTL.out.offer (C := C) HJ.out.ok (i : Int) (k : Int) on
      have htold := ink_told (C := C) (s := s) (now := (i : Int)) (r := k) (on := on) HKT.out
      have ht1 := (HT1.out.drewN _).keep k7 (fun h => h (Or.inr (Or.inl rfl)))
      have ht2 := (HT2.out.drewN _).keep k7 (fun h => h (Or.inr (Or.inr rfl)))
      obtain ⟨s2, hs2⟩ : ∃ q, (offerD C s (i : Int) (k : Int) on).1 = q := ⟨_, rfl⟩
      obtain ⟨v2, hv2⟩ : ∃ q, (offerD C s (i : Int) (k : Int) on).2 = q := ⟨_, rfl⟩
      rw [hs2] at h7 hrf htl htold
      rw [hv2] at htold ⊢
      have HJ7 := hid h7
      have HRF7 : Hid (s2.refs ≤ i + 1 ∧ s2.last ≤ ((i + 1 : Nat) : Int)) := hid ⟨hrf.1, by have := hrf.2; omega⟩
      have HTL7 := hid htl
      have HTO7 := hid htold
      have HT17 := hid ht1
      have HT27 := hid ht2
      have c0 := (K5.out.trans h7.old).cell (fun h => h) (HA.out 0 _ rfl)
      simp only [Nat.add_zero] at c0
      have c3 := (K5.out.trans h7.old).cell (fun h => h) (HA.out 3 _ rfl)
      clear h7 k7 hrf htl htold ht1 ht2 hs2 hv2 c1 c2 HBR HKW HTL
      go_upto_if 66 with fail
      go_cut [] from 66 to 74 (fun wx => Hid (Bk wx t1 4 (s2.told.map Value.bool)) ∧ Hid (Bk wx t2 4 (last.map Value.bool)) ∧ Hid (PJ W5 wx (fun j => j < W5.heap.size ∨ (j = t1 ∨ j = t2)) nb C (.slice sg C.sigs.length sgc) (.slice ru C.ruls.length ruc) (.slice tb C.tab.length tbc) s2))
      case first =>
        cases v2
        · have e := HTO7.out
          rw [if_neg (by decide)] at e
          have E := hid e
          clear e
          go_wp2_with fail
          go_meet
          exact ⟨hid (by rw [E.out]; exact HT17.out), HT27, HJ7⟩
        · have e := HTO7.out
          rw [if_pos rfl] at e
          have E := hid e
          clear e
          have y := HT17.out.cell k (told_atS HKT.out)
          obtain ⟨tk, htk⟩ : ∃ q, s.told[k]'HKT.out = q := ⟨_, rfl⟩
          rw [htk] at y
          clear htk
          have fy := HT17.out.free k
          have hlt1 := HT17.out.lt
          go_wp2_with fail
          go_meet
          exact ⟨hid (by rw [E.out]; exact HT17.out.put k (.bool on) (set_told _ _ _)), hid (HT27.out.other (p := ⟨t1, k, none⟩) ht21 _), hid (HJ7.out.store (S := fun j => j = t1) ((Keeps.refl _ _).at) (fun j hj => by subst hj; exact ⟨Or.inr (Or.inl rfl), HT1W.out⟩))⟩
      case rest =>
      clear HT17 HT27 HJ7 HTO7 c0 c3 HT1 HT2 HJ HRF
      obtain ⟨HT1, HT2, HJ⟩ := hcut
      obtain ⟨wo, rfl⟩ : ∃ y, y = wc := ⟨_, rfl⟩
      obtain ⟨s, rfl⟩ : ∃ y, y = s2 := ⟨_, rfl⟩
      have HTL := HTL7
      have HRF2 := HRF7
      have c0 := (K5.out.trans HJ.out.old).cell (fun h => h) (HA.out 0 _ rfl)
      simp only [Nat.add_zero] at c0
      obtain ⟨told, htd⟩ : ∃ y, s.told = y := ⟨_, rfl⟩
      by_cases h3 : dd % 4 = 3
      · have d3 : (dd % 4 == 3) = true := by simp [h3]
        go_wp2_with fail
        clear c0 d3 h3
        with_reducible refine (pj_drain HJ.out HIC.out).mono ?_
        rintro e wd ⟨v, rfl, hsl, hnw, hjd, kd⟩
        obtain ⟨va, vc, rfl⟩ := hsl.any
        have HEB := hid (HJ.out.ok.drain (s := s)).2
        have HT1D := hid (HT1.out.keep kd (fun h => h (Or.inr (Or.inl rfl))))
        have HT2D := hid (HT2.out.keep kd (fun h => h (Or.inr (Or.inr rfl))))
        have ht2lt := HT2.out.lt
        have htl2 : ToldL (drainD C s).2 ((drainD C s).1.foldl lastL last) := ToldL.drain _ HTL.out HJ.out.ok (by rw [HLN.out, HJ.out.ok.told, HNR.out])
        have hfull := drainF_full C.drain.toNat s.l
        have hdlen := drainF_len C.drain.toNat s.l
        have hdd : (drainD C s).2.l = (drainF C.drain.toNat s.l).2 ∧ (drainD C s).1 = (drainF C.drain.toNat s.l).1 ∧ (drainD C s).2.told = s.told ∧ (drainD C s).2.refs = s.refs ∧ (drainD C s).2.last = s.last := ⟨rfl, rfl, rfl, rfl, rfl⟩
        obtain ⟨es, hes⟩ : ∃ q, (drainD C s).1 = q := ⟨_, rfl⟩
        obtain ⟨sd, hsd⟩ : ∃ q, (drainD C s).2 = q := ⟨_, rfl⟩
        rw [← hdd.1, ← hdd.2.1] at hfull hdlen
        rw [hes] at hsl HEB htl2 hfull hdlen hnw ⊢
        rw [hsd] at hjd htl2 hfull hdlen hdd
        obtain ⟨m, hm⟩ : ∃ q, es.length = q := ⟨_, rfl⟩
        have HES := hid hsl
        rw [hm] at hnw hfull hdlen ⊢
        have HFULL := hid hfull
        have HDLEN := hid hdlen
        have HDD := hid (show sd.told = s.told ∧ sd.refs = s.refs ∧ sd.last = s.last from ⟨hdd.2.2.1, hdd.2.2.2⟩)
        have HM1 := hid hm
        have HJD := hid hjd
        have hmb : m ≤ 64 := by have h1 := HJ.out.ok.len; have h2 := HM.out.few; omega
        have HTLD := hid htl2
        have HEN : Hid (∀ k, (Value.slice va m vc).ownBlock = some k → t2 < k) := hid (fun k hk => by have := hnw k hk; omega)
        rw [htd] at HT1D
        have HTD := hid htd
        clear hes hsd hm hsl hnw hjd kd htl2 hfull hdlen hdd ht2lt htd
        go_wp2_with fail
        go_loopw [12] (fun v12 wy => ∃ j : Nat, j ≤ m ∧ v12 = .int .i64 (j : Int) ∧ Hid (Bk wy t1 4 (told.map Value.bool)) ∧ Hid (Bk wy t2 4 (((es.take j).foldl lastL last).map Value.bool)) ∧ Hid (Keeps (fun x => x = t2) wd wy)) (fun v12 _ => m - (intOf v12).toNat)
        case atStart => exact ⟨0, Nat.zero_le _, rfl, HT1D, hid (by simpa using HT2D.out), hid (Keeps.refl _ _)⟩
        case round =>
          obtain ⟨j, hj, rfl, HT1, HT2, HKY⟩ := hrel
          by_cases hjm : j < m
          · have hjl : j < es.length := by rw [HM1.out]; exact hjm
            obtain ⟨⟨er, eo, ea⟩, hex⟩ : ∃ x, es[j] = x := ⟨_, rfl⟩
            have hrb := HEB.out _ (List.getElem_mem hjl)
            rw [hex] at hrb
            simp only at hrb
            obtain ⟨er0, er1⟩ := hrb
            obtain ⟨r, rfl⟩ : ∃ r : Nat, er = r := ⟨er.toNat, by omega⟩
            have hrn : r < n := by have := HNR.out; omega
            obtain ⟨ge, oe, hva, hge, hce⟩ := Sl.itemC (enc := encE) (size := 3) (fun _ => rfl) (by decide) HES.out hjl hex
            subst hva
            have hgt : ¬ ge = t2 := by have := HEN.out ge rfl; omega
            have z0 := HKY.out.cell hgt (hce 0 _ rfl)
            have z1 := HKY.out.cell hgt (hce 1 _ rfl)
            simp only [Nat.add_zero] at z0
            have htk : (es.take (j + 1)).foldl lastL last = ((es.take j).foldl lastL last).set r eo := by
              rw [List.take_succ_eq_append_getElem hjl, List.foldl_append, hex]
              rfl
            obtain ⟨lc, hlc⟩ : ∃ l, (es.take j).foldl lastL last = l := ⟨_, rfl⟩
            have HLC := hid hlc
            rw [hlc] at HT2 htk
            have HTK := hid htk
            have hlcn : lc.length = n := by rw [← hlc, foldL_len]; exact HLN.out
            have HY2 := hid (HT2.out.cell r (told_atS (l := lc) (by omega)))
            have y2 := HY2.out
            obtain ⟨tk, htk9⟩ : ∃ q, lc[r]'(by omega) = q := ⟨_, rfl⟩
            rw [htk9] at y2
            clear htk9
            have f2 := HT2.out.free r
            have d0 : decide ((r : Int) < 0) = false := decide_eq_false (by omega)
            have d1 : decide ((r : Int) ≥ (n : Int)) = false := decide_eq_false (by omega)
            have d3 : decide (n ≤ r) = false := decide_eq_false (by omega)
            clear hjl hex hce hgt htk hlc HES HY2
            go_upto_region 20 with fail
            go_region
            all_goals
              go_wp2_with fail
              go_roundw
              case rel => exact ⟨j + 1, by omega, by go_num, hid ((HT1.out.drew).other (p := ⟨t2, r, none⟩) ht12 (.bool eo)), hid ((HT2.out.drew).put r (.bool eo) (by rw [HTK.out, set_told])), hid (HKY.out.drew.at)⟩
              case measure => simp [intOf]; omega
          · obtain rfl : j = m := by omega
            have HT2E : Hid (Bk wr t2 4 ((es.foldl lastL last).map Value.bool)) := hid (by have h := HT2.out; rw [List.take_of_length_le (by rw [HM1.out]; exact Nat.le_refl _)] at h; exact h)
            clear HT2
            go_wp2_with fail
            go_roundw
            case rel => exact ⟨i + 1, sd, es.foldl lastL last, hlt, by go_num, hid (by have h := HDD.out.2; have h2 := HRF2.out; omega), HTLD, hid (by rw [foldL_len]; exact HLN.out), hid (by rw [HDD.out.1, HTD.out]; exact HT1.out), HT2E, hid (HJD.out.store HKY.out (fun x hx => by subst hx; exact ⟨Or.inr (Or.inr rfl), HT2W.out⟩))⟩
            case measure => simp [intOf]; omega
      · have d3 : (dd % 4 == 3) = false := by simp [h3]
        go_wp2_with fail
        clear c0
        go_roundw
        case rel => exact ⟨i + 1, s, last, by omega, by go_num, HRF2, HTL, HLN, HT1, HT2, HJ⟩
        case measure => simp [intOf]; omega
    · obtain rfl : i = N := by omega
      clear hlt hi
      go_wp2_with fail
      have HLE0 : Hid (s.l = [] ∨ s.l.length + 0 ≤ 8) := hid (Or.inr (by have := HJ.out.ok.len; have := HM.out.few; omega))
      go_loopw [13] (fun v13 wr => ∃ (t : Nat) (s : InkD) (last : List Bool), t ≤ 40 ∧ v13 = .int .i64 (t : Int) ∧ Hid (ToldL s last) ∧ Hid (last.length = n) ∧ Hid (Bk wr t1 4 (s.told.map Value.bool)) ∧ Hid (Bk wr t2 4 (last.map Value.bool)) ∧ Hid (PJ W5 wr (fun j => j < W5.heap.size ∨ (j = t1 ∨ j = t2)) nb C (.slice sg C.sigs.length sgc) (.slice ru C.ruls.length ruc) (.slice tb C.tab.length tbc) s) ∧ Hid (s.l = [] ∨ s.l.length + t ≤ 8)) (fun v13 _ => 40 - (intOf v13).toNat)
      case atStart => exact ⟨0, s, last, by omega, rfl, HTL, HLN, HT1, HT2, HJ, HLE0⟩
      case round =>
        clear HTL HLN HT1 HT2 HJ HLE0 HRF
        obtain ⟨t, s, last, ht, rfl, HTL, HLN, HT1, HT2, HJ, HLE⟩ := hrel
        by_cases hlt : t < 40
        · obtain ⟨told, htd⟩ : ∃ y, s.told = y := ⟨_, rfl⟩
          go_wp2_with fail
          with_reducible refine (pj_drain HJ.out HIC.out).mono ?_
          rintro e wd ⟨v, rfl, hsl, hnw, hjd, kd⟩
          obtain ⟨va, vc, rfl⟩ := hsl.any
          have HEB := hid (HJ.out.ok.drain (s := s)).2
          have HT1D := hid (HT1.out.keep kd (fun h => h (Or.inr (Or.inl rfl))))
          have HT2D := hid (HT2.out.keep kd (fun h => h (Or.inr (Or.inr rfl))))
          have ht2lt := HT2.out.lt
          have htl2 : ToldL (drainD C s).2 ((drainD C s).1.foldl lastL last) := ToldL.drain _ HTL.out HJ.out.ok (by rw [HLN.out, HJ.out.ok.told, HNR.out])
          have hfull := drainF_full C.drain.toNat s.l
          have hdlen := drainF_len C.drain.toNat s.l
          have hdd : (drainD C s).2.l = (drainF C.drain.toNat s.l).2 ∧ (drainD C s).1 = (drainF C.drain.toNat s.l).1 ∧ (drainD C s).2.told = s.told ∧ (drainD C s).2.refs = s.refs ∧ (drainD C s).2.last = s.last := ⟨rfl, rfl, rfl, rfl, rfl⟩
          obtain ⟨es, hes⟩ : ∃ q, (drainD C s).1 = q := ⟨_, rfl⟩
          obtain ⟨sd, hsd⟩ : ∃ q, (drainD C s).2 = q := ⟨_, rfl⟩
          rw [← hdd.1, ← hdd.2.1] at hfull hdlen
          rw [hes] at hsl HEB htl2 hfull hdlen hnw ⊢
          rw [hsd] at hjd htl2 hfull hdlen hdd
          obtain ⟨m, hm⟩ : ∃ q, es.length = q := ⟨_, rfl⟩
          have HES := hid hsl
          rw [hm] at hnw hfull hdlen ⊢
          have HFULL := hid hfull
          have HDLEN := hid hdlen
          have HDD := hid (show sd.told = s.told ∧ sd.refs = s.refs ∧ sd.last = s.last from ⟨hdd.2.2.1, hdd.2.2.2⟩)
          have HM1 := hid hm
          have HJD := hid hjd
          have hmb : m ≤ 64 := by have h1 := HJ.out.ok.len; have h2 := HM.out.few; omega
          have HTLD := hid htl2
          have HEN : Hid (∀ k, (Value.slice va m vc).ownBlock = some k → t2 < k) := hid (fun k hk => by have := hnw k hk; omega)
          rw [htd] at HT1D
          have HTD := hid htd
          clear hes hsd hm hsl hnw hjd kd htl2 hfull hdlen hdd ht2lt htd
          go_wp2_with fail
          go_loopw [15] (fun v12 wy => ∃ j : Nat, j ≤ m ∧ v12 = .int .i64 (j : Int) ∧ Hid (Bk wy t1 4 (told.map Value.bool)) ∧ Hid (Bk wy t2 4 (((es.take j).foldl lastL last).map Value.bool)) ∧ Hid (Keeps (fun x => x = t2) wd wy)) (fun v12 _ => m - (intOf v12).toNat)
          case atStart => exact ⟨0, Nat.zero_le _, rfl, HT1D, hid (by simpa using HT2D.out), hid (Keeps.refl _ _)⟩
          case round =>
            obtain ⟨j, hj, rfl, HT1, HT2, HKY⟩ := hrel
            by_cases hjm : j < m
            · have hjl : j < es.length := by rw [HM1.out]; exact hjm
              obtain ⟨⟨er, eo, ea⟩, hex⟩ : ∃ x, es[j] = x := ⟨_, rfl⟩
              have hrb := HEB.out _ (List.getElem_mem hjl)
              rw [hex] at hrb
              simp only at hrb
              obtain ⟨er0, er1⟩ := hrb
              obtain ⟨r, rfl⟩ : ∃ r : Nat, er = r := ⟨er.toNat, by omega⟩
              have hrn : r < n := by have := HNR.out; omega
              obtain ⟨ge, oe, hva, hge, hce⟩ := Sl.itemC (enc := encE) (size := 3) (fun _ => rfl) (by decide) HES.out hjl hex
              subst hva
              have hgt : ¬ ge = t2 := by have := HEN.out ge rfl; omega
              have z0 := HKY.out.cell hgt (hce 0 _ rfl)
              have z1 := HKY.out.cell hgt (hce 1 _ rfl)
              simp only [Nat.add_zero] at z0
              have htk : (es.take (j + 1)).foldl lastL last = ((es.take j).foldl lastL last).set r eo := by
                rw [List.take_succ_eq_append_getElem hjl, List.foldl_append, hex]
                rfl
              obtain ⟨lc, hlc⟩ : ∃ l, (es.take j).foldl lastL last = l := ⟨_, rfl⟩
              have HLC := hid hlc
              rw [hlc] at HT2 htk
              have HTK := hid htk
              have hlcn : lc.length = n := by rw [← hlc, foldL_len]; exact HLN.out
              have HY2 := hid (HT2.out.cell r (told_atS (l := lc) (by omega)))
              have y2 := HY2.out
              obtain ⟨tk, htk9⟩ : ∃ q, lc[r]'(by omega) = q := ⟨_, rfl⟩
              rw [htk9] at y2
              clear htk9
              have f2 := HT2.out.free r
              have d0 : decide ((r : Int) < 0) = false := decide_eq_false (by omega)
              have d1 : decide ((r : Int) ≥ (n : Int)) = false := decide_eq_false (by omega)
              have d3 : decide (n ≤ r) = false := decide_eq_false (by omega)
              clear hjl hex hce hgt htk hlc HES HY2
              go_upto_region 30 with fail
              go_region
              all_goals
                go_wp2_with fail
                go_roundw
                case rel => exact ⟨j + 1, by omega, by go_num, hid ((HT1.out.drew).other (p := ⟨t2, r, none⟩) ht12 (.bool eo)), hid ((HT2.out.drew).put r (.bool eo) (by rw [HTK.out, set_told])), hid (HKY.out.drew.at)⟩
                case measure => simp [intOf]; omega
            · obtain rfl : j = m := by omega
              have HT2E : Hid (Bk wr t2 4 ((es.foldl lastL last).map Value.bool)) := hid (by have h := HT2.out; rw [List.take_of_length_le (by rw [HM1.out]; exact Nat.le_refl _)] at h; exact h)
              clear HT2
              go_wp2_with fail
              go_roundw
              case rel => exact ⟨t + 1, sd, es.foldl lastL last, hlt, by go_num, HTLD, hid (by rw [foldL_len]; exact HLN.out), hid (by rw [HDD.out.1, HTD.out]; exact HT1.out), HT2E, hid (HJD.out.store HKY.out (fun x hx => by subst hx; exact ⟨Or.inr (Or.inr rfl), HT2W.out⟩)), hid (by
                  rcases HLE.out with h | h
                  · left
                    have h2 := HDLEN.out
                    rw [h] at h2
                    rw [List.length_nil] at h2
                    exact List.length_eq_zero_iff.1 (by omega)
                  · by_cases h0 : sd.l = []
                    · exact Or.inl h0
                    · right
                      have h1 : 0 < sd.l.length := by cases hl : sd.l with | nil => exact absurd hl h0 | cons x y => simp
                      have h2 := HFULL.out h1
                      have h3 := HDLEN.out
                      have h4 := HIC.out.drain
                      omega)⟩
              case measure => simp [intOf]; omega
        · obtain rfl : t = 40 := by omega
          have hnil : s.l = [] := by
            rcases HLE.out with h | h
            · exact h
            · omega
          have hall := HTL.out.all hnil (by rw [HLN.out, HJ.out.ok.told, HNR.out])
          have HNIL := hid hnil
          have hsl := HLN.out
          rw [hall] at hsl
          have HT2S : Hid (Bk wr t2 4 (s.told.map Value.bool)) := hid (by rw [← hall]; exact HT2.out)
          have HSN := hid hsl
          clear hnil hall hsl HTL HLN HT2 HLE hlt ht
          go_wp2_with fail
          go_loopw [16] (fun v16 wy => ∃ j : Nat, j ≤ n ∧ v16 = .int .i64 (j : Int) ∧ Hid (Keeps No wr wy)) (fun v16 _ => n - (intOf v16).toNat)
          case atStart => exact ⟨0, Nat.zero_le _, rfl, hid (Keeps.refl _ _)⟩
          case round =>
            obtain ⟨j, hj, rfl, HKY⟩ := hrel
            by_cases hjn : j < n
            · have hjt : j < s.told.length := by rw [HSN.out]; exact hjn
              have y1 := (HT1.out.kept HKY.out).cell j (told_atS hjt)
              have y2 := (HT2S.out.kept HKY.out).cell j (told_atS hjt)
              obtain ⟨b, hb⟩ : ∃ b, s.told[j] = b := ⟨_, rfl⟩
              rw [hb] at y1 y2
              have qb : (b != b) = false := by simp
              clear hb hjt
              go_upto_region 34 with fail
              go_quiet (fail)
              go_wp2_with fail
              go_roundw
              case rel => exact ⟨j + 1, by omega, by go_num, hid (HKY.out.drewN _)⟩
              case measure => simp [intOf]; omega
            · obtain rfl : j = n := by omega
              have HJ2 := hid (HJ.out.calm HKY.out)
              have ae := arr_eql_same18
              have gd := arr_guard18
              go_wp2_with fail
              with_reducible refine (pj_wait HJ2.out).mono ?_
              rintro e w9 ⟨rfl, k9⟩
              rw [HNIL.out]
              have K9 := hid (HJ2.out.calm k9)
              clear k9
              simp only [bandL, List.filter_nil, List.map_nil, List.length_nil]
              go_wp2_with fail
              go_ret
              exact ⟨rfl, (K5.out.trans K9.out.old).toBelow⟩

end Go.Proofs.Ytoodlhagecannaa.intakeTells
