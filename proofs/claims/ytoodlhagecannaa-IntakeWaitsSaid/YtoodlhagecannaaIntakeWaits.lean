/- An event that is put waits less than its bound, if only those that the table tells offer, and it is drained at each tick. No conditions. -/
import Derived.Test.YtoodlhagecannaaRows
import Derived.Test.YtoodlhagecannaaArgsE
import Derived.Test.YtoodlhagecannaaMake2
import Derived.Test.YtoodlhagecannaaInkC
import Derived.Test.YtoodlhagecannaaTake
import Derived.ProofKit
import Derived.OpenShut
import Derived.Deep.RegionHeld3
import Derived.Deep.DeepCutAuto
import Derived.Deep.CutBlock
import Derived.Test.YtoodlhagecannaaInkW
namespace Go.Proofs.Ytoodlhagecannaa.intakeWaits
open Go.ChangeShapes Go.WideShapes Go.ChangeAt Go.RowKit
open Go.ChangeMaps (open_string shut_string)
set_option linter.unusedVariables false
set_option linter.unusedSimpArgs false

theorem since_at {l : List Nat} {k : Nat} (hk : k < l.length) : (l.map (fun x : Nat => Value.int .i64 (x : Int)))[k]? = some (.int .i64 (l[k] : Int)) := by simp [hk]
theorem since_set (l : List Nat) (k v : Nat) : (l.set k v).map (fun x : Nat => Value.int .i64 (x : Int)) = (l.map (fun x : Nat => Value.int .i64 (x : Int))).set k (.int .i64 (v : Int)) := by rw [List.map_set]
set_option maxHeartbeats 16000000 in
set_option maxRecDepth 100000 in
theorem walk (w : World) (rules : List (LineD × Value)) (rv : Value) (slots : List Int) (sv : Value) (ba dr pa of_ : Int) (br : Bool) (lo : Int) (hd : DraftR w rules rv slots sv) (u1 : U8 ba) (u2 : U8 dr) (u3 : U8 pa) (u4 : U8 of_) (u5 : U8 lo) (s0 : Option Addr) (cap : Nat) (q : List Int) (hs : Sl w 1 (.slice s0 q.length cap) q.length (q.map (Value.int .u16))) (hq : ∀ x ∈ q, (Lit.int .u16 x).wf = true) :
    Calls Try.prog 4 #[.agg #[rv, sv, .int .u8 ba, .int .u8 dr, .int .u8 pa, .int .u8 of_, .bool br, .int .u8 lo], .slice s0 q.length cap] w fun e w' => e = .returned (.bool true) ∧ Below w.heap.size w w' := by
  obtain ⟨ra, rc, rfl⟩ := hd.rul.any
  obtain ⟨sa, sc, rfl⟩ := hd.slo.any
  obtain ⟨W1, hW1⟩ : ∃ W1, w.alloc (.cells #[.slice ra rules.length rc, .slice sa slots.length sc, .int .u8 ba, .int .u8 dr, .int .u8 pa, .int .u8 of_, .bool br, .int .u8 lo] 25) = W1 := ⟨_, rfl⟩
  have k1 : Keeps No w W1 := by rw [← hW1]; exact (Keeps.refl _ _).alloc _
  have hb : BlkL W1 w.heap.size 25 [.slice ra rules.length rc, .slice sa slots.length sc, .int .u8 ba, .int .u8 dr, .int .u8 pa, .int .u8 of_, .bool br, .int .u8 lo] := by rw [← hW1]; exact heap_alloc_new w _
  have H1 := hid (hd.calm k1)
  have HB := hid hb
  have HW1 := hid hW1
  have K1 := hid k1
  have U := hid (show U8 ba ∧ U8 dr ∧ U8 pa ∧ U8 of_ ∧ U8 lo from ⟨u1, u2, u3, u4, u5⟩)
  clear hd hW1 k1 hb u1 u2 u3 u4 u5
  obtain ⟨N, hN⟩ : ∃ N, q.length = N := ⟨_, rfl⟩
  rw [hN] at hs ⊢
  have HS := hid hs
  have HQ := hid hq
  have HN := hid hN
  clear hs hq hN
  by_cases hbig : 200 < N
  · have hdl : decide ((N : Int) > 200) = true := decide_eq_true (by omega)
    go_enter Try.func4, Try.ntmps4
    go_upto_region 1 with fail
    rw [HW1.out]
    go_wp2_with fail
    refine (refuses_true _).mono ?_
    rintro e w2 ⟨rfl, k2⟩
    have hb := HB.out.keep k2 (fun h => h)
    have K2 := hid (K1.out.trans k2)
    have H2 := hid (H1.out.calm k2)
    have HB2 := hid hb
    have x0 := hb.cell (o := 0) rfl
    have x1 := hb.cell (o := 1) rfl
    have x2 := hb.cell (o := 2) rfl
    have x3 := hb.cell (o := 3) rfl
    have x4 := hb.cell (o := 4) rfl
    have x5 := hb.cell (o := 5) rfl
    have x6 := hb.cell (o := 6) rfl
    have x7 := hb.cell (o := 7) rfl
    clear hb k2
    go_wp2_with fail
    refine (short18_any H2.out ba dr pa of_ br lo).mono ?_
    rintro e w3 ⟨bs, rfl, k3⟩
    clear x0 x1 x2 x3 x4 x5 x6 x7
    have K3 := hid (K2.out.trans k3)
    have H3 := hid (H2.out.calm k3)
    have hb := HB2.out.keep k3 (fun h => h)
    clear k3
    cases bs
    · clear hb
      go_wp2_with fail
      refine (refuses_true _).mono ?_
      rintro e w4 ⟨rfl, k4⟩
      have K4 := hid (K3.out.trans k4)
      clear k4
      go_wp2_with fail
      go_ret
      exact ⟨rfl, K4.out.toBelow⟩
    · clear hb
      go_wp2_with fail
      refine (refuses_true _).mono ?_
      rintro e w4 ⟨rfl, k4⟩
      have K4 := hid (K3.out.trans k4)
      clear k4
      go_wp2_with fail
      go_ret
      exact ⟨rfl, K4.out.toBelow⟩
  have hdl : decide ((N : Int) > 200) = false := decide_eq_false (by omega)
  go_enter Try.func4, Try.ntmps4
  go_upto_region 1 with fail
  rw [HW1.out]
  go_wp2_with fail
  refine (refuses_true _).mono ?_
  rintro e w2 ⟨rfl, k2⟩
  have hb := HB.out.keep k2 (fun h => h)
  have K2 := hid (K1.out.trans k2)
  have H2 := hid (H1.out.calm k2)
  have HB2 := hid hb
  have x0 := hb.cell (o := 0) rfl
  have x1 := hb.cell (o := 1) rfl
  have x2 := hb.cell (o := 2) rfl
  have x3 := hb.cell (o := 3) rfl
  have x4 := hb.cell (o := 4) rfl
  have x5 := hb.cell (o := 5) rfl
  have x6 := hb.cell (o := 6) rfl
  have x7 := hb.cell (o := 7) rfl
  clear hb k2
  go_wp2_with fail
  refine (short18_any H2.out ba dr pa of_ br lo).mono ?_
  rintro e w3 ⟨bs, rfl, k3⟩
  clear x0 x1 x2 x3 x4 x5 x6 x7
  have K3 := hid (K2.out.trans k3)
  have H3 := hid (H2.out.calm k3)
  have hb := HB2.out.keep k3 (fun h => h)
  clear k3
  cases bs
  · clear hb
    go_wp2_with fail
    refine (refuses_true _).mono ?_
    rintro e w4 ⟨rfl, k4⟩
    have K4 := hid (K3.out.trans k4)
    clear k4
    go_wp2_with fail
    go_ret
    exact ⟨rfl, K4.out.toBelow⟩
  have x0 := hb.cell (o := 0) rfl
  have x1 := hb.cell (o := 1) rfl
  have x2 := hb.cell (o := 2) rfl
  have x3 := hb.cell (o := 3) rfl
  have x4 := hb.cell (o := 4) rfl
  have x5 := hb.cell (o := 5) rfl
  have x6 := hb.cell (o := 6) rfl
  have x7 := hb.cell (o := 7) rfl
  clear hb
  go_wp2_with fail
  refine (make_any H3.out ba dr pa of_ br lo U.out.1 U.out.2.1 U.out.2.2.1 U.out.2.2.2.1 U.out.2.2.2.2).mono ?_
  rintro e w4 ⟨C, csv, crv, ctv, rfl, hc, hm, k4⟩
  clear x0 x1 x2 x3 x4 x5 x6 x7
  obtain ⟨sg, sgc, ru, ruc, tb, tbc, rfl, rfl, rfl⟩ := cfg_shape18 hc
  unfold Cfg.val Cfg.cells
  have K4 := hid (K3.out.trans k4)
  have HC4 := hid hc
  have HM := hid hm
  have HIC := hid hm.ink
  clear hc hm k4 K1 K2 K3 H1 H2 H3 HB HB2 U HW1
  obtain ⟨cb, hcb⟩ : ∃ y, w4.heap.size = y := ⟨_, rfl⟩
  obtain ⟨W5, hW5⟩ : ∃ W5, w4.alloc (.cells #[.slice sg C.sigs.length sgc, .slice ru C.ruls.length ruc, .slice tb C.tab.length tbc, .int .i64 C.b0, .int .i64 C.b1, .int .i64 C.b2, .int .i64 C.drain, .int .i64 C.pause, .int .i64 C.off, .bool C.brk, .int .i64 C.log] 34) = W5 := ⟨_, rfl⟩
  have HC5 : Hid (CfgR W5 C (.slice sg C.sigs.length sgc) (.slice ru C.ruls.length ruc) (.slice tb C.tab.length tbc)) := hid (HC4.out.calm (by rw [← hW5]; exact (Keeps.refl _ _).alloc _))
  have HB5 : Hid (Bk W5 cb 34 [.slice sg C.sigs.length sgc, .slice ru C.ruls.length ruc, .slice tb C.tab.length tbc, .int .i64 C.b0, .int .i64 C.b1, .int .i64 C.b2, .int .i64 C.drain, .int .i64 C.pause, .int .i64 C.off, .bool C.brk, .int .i64 C.log]) := hid (by rw [← hW5]; exact Bk.new hcb _ _)
  have K5 : Hid (Keeps No w W5) := hid (by rw [← hW5]; exact K4.out.alloc _)
  have HW5 := hid hW5
  have HCB := hid hcb
  have HNC : Hid (w.heap.size ≤ cb) := hid (by rw [← hcb]; exact K4.out.size)
  clear hcb hW5 K4 HC4
  go_upto_region 4 with fail
  try rw [HW5.out, HCB.out]
  clear HW5 HCB
  have x0 := HB5.out.cell 0 rfl
  have x1 := HB5.out.cell 1 rfl
  have x2 := HB5.out.cell 2 rfl
  have x3 := HB5.out.cell 3 rfl
  have x4 := HB5.out.cell 4 rfl
  have x5 := HB5.out.cell 5 rfl
  have x6 := HB5.out.cell 6 rfl
  have x7 := HB5.out.cell 7 rfl
  have x8 := HB5.out.cell 8 rfl
  have x9 := HB5.out.cell 9 rfl
  have x10 := HB5.out.cell 10 rfl
  go_wp2_with fail
  refine (pj_new W5 HC5.out (by have := HM.out.few; omega)).mono ?_
  rintro e w6 ⟨nb, rfl, h6⟩
  have J6 := hid h6
  clear h6 x0 x1 x2 x3 x4 x5 x6 x7 x8 x9 x10
  obtain ⟨n, hnr⟩ : ∃ n, C.ruls.length = n := ⟨_, rfl⟩
  have hn8 : 1 ≤ n ∧ n ≤ 8 := by rw [← hnr]; exact HM.out.few
  obtain ⟨hn1, hn8⟩ := hn8
  have hnz : ¬ n = 0 := by omega
  have hnz2 : ((n : Int) == 0) = false := by simpa using hnz
  have HNR := hid hnr
  obtain ⟨L, hL⟩ : ∃ L, C.tab.length = L := ⟨_, rfl⟩
  have hLb := HM.out.slots
  rw [hL] at hLb
  have hmk : ∀ W : World, (Instr.makeSlice 56 (.int .i64 (n : Int)) (.int .i64 (n : Int))).run Try.prog W = .ok (.slice (some ⟨W.heap.size, 0, none⟩) n n) (W.alloc (.cells ((List.replicate n false).map Value.bool).toArray 4 )) := fun W => by
    have := run_make_b' (P := Try.prog) Try.underlying56 info_boolS n (by omega) (by omega) W
    rw [Nat.mul_one] at this
    rw [show ((List.replicate n false).map Value.bool).toArray = madeCells (Value.bool false).cells n from by
      refine Array.ext' ?_
      rw [show (Value.bool false).cells = #[Value.bool false] from rfl, toList_madeCells_one]
      simp]
    exact this
  have hmi : ∀ W : World, (Instr.makeSlice 61 (.int .i64 (n : Int)) (.int .i64 (n : Int))).run Try.prog W = .ok (.slice (some ⟨W.heap.size, 0, none⟩) n n) (W.alloc (.cells ((List.replicate n 0).map (fun x : Nat => Value.int .i64 (x : Int))).toArray 3 )) := fun W => by
    have := run_make_b' (P := Try.prog) Try.underlying61 info_intA n (by omega) (by omega) W
    rw [Nat.mul_one] at this
    rw [show ((List.replicate n 0).map (fun x : Nat => Value.int .i64 (x : Int))).toArray = madeCells (Value.int .i64 0).cells n from by
      refine Array.ext' ?_
      rw [show (Value.int .i64 0).cells = #[Value.int .i64 0] from rfl, toList_madeCells_one]
      simp]
    exact this
  obtain ⟨zs, hzs⟩ : ∃ q, (List.replicate n false).map Value.bool = q := ⟨_, rfl⟩
  obtain ⟨ys, hys⟩ : ∃ q, (List.replicate n 0).map (fun x : Nat => Value.int .i64 (x : Int)) = q := ⟨_, rfl⟩
  rw [hzs] at hmk
  rw [hys] at hmi
  have HZS := hid hzs
  have HYS := hid hys
  have x1 := (HB5.out.kept J6.out.old).cell 1 rfl
  rw [hnr] at x1
  clear hnr hdl hzs hys
  have x1a := fun o => cellA o x1
  go_upto_region 6 with fail
  have x1' := x1a (.cells zs.toArray 4 )
  go_upto_region 7 with fail
  obtain ⟨t1, ht1⟩ : ∃ y, w6.heap.size = y := ⟨_, rfl⟩
  obtain ⟨t2, ht2⟩ : ∃ y, t1 + 1 = y := ⟨_, rfl⟩
  obtain ⟨W7, hW7⟩ : ∃ W7, (w6.alloc (.cells zs.toArray 4 )).alloc (.cells ys.toArray 3 ) = W7 := ⟨_, rfl⟩
  have HT10 : Hid (Bk W7 t1 4 ((InkD.start C.ruls.length).told.map Value.bool)) := hid (by rw [show (InkD.start C.ruls.length).told.map Value.bool = zs by rw [HNR.out, ← HZS.out]; rfl, ← hW7]; exact (Bk.new ht1 _ _).alloc _)
  have HT20 : Hid (Bk W7 t2 3 ((List.replicate n 0).map (fun x : Nat => Value.int .i64 (x : Int)))) := hid (by rw [HYS.out, ← hW7, ← ht2]; exact Bk.new (by simp [ht1]) _ _)
  have HJ0 : Hid (PJ W5 W7 (fun j => j < W5.heap.size ∨ (j = t1 ∨ j = t2)) nb C (.slice sg C.sigs.length sgc) (.slice ru C.ruls.length ruc) (.slice tb C.tab.length tbc) (InkD.start C.ruls.length)) := hid (J6.out.more (Y := fun j => j = t1 ∨ j = t2) (by rw [← hW7]; exact ((Keeps.refl _ _).alloc _).alloc _) (fun j hj => by rw [← hW7]; simp; rcases hj with rfl | rfl <;> omega))
  have HT1W := hid (show W5.heap.size ≤ t1 by have := J6.out.old.size; omega)
  have HT2W := hid (show W5.heap.size ≤ t2 by have := HT1W.out; omega)
  have ht12 : ¬ t1 = t2 := by omega
  have ht21 : ¬ t2 = t1 := by omega
  obtain ⟨wt, hwt⟩ : ∃ y : Nat, (n + 1) * L = y := ⟨_, rfl⟩
  have hwtb : wt ≤ 9 * 6 ∧ n + 1 ≤ wt := by
    rw [← hwt]
    exact ⟨Nat.mul_le_mul (by omega) (by omega), Nat.le_mul_of_pos_right _ (by omega)⟩
  have hmul : IntKind.i64.wrap (((n : Int) + 1) * (L : Int)) = (wt : Int) := by
    rw [show ((n : Int) + 1) * (L : Int) = (wt : Int) by rw [← hwt]; push_cast; rfl]
    simp only [IntKind.wrap_i64]; omega
  try rw [ht1]
  try rw [ht2]
  rw [hW7]
  have x1 := (HB5.out.kept HJ0.out.old).cell 1 rfl
  have x2 := (HB5.out.kept HJ0.out.old).cell 2 rfl
  rw [HNR.out] at x1
  rw [hL] at x2
  have HL := hid hL
  have HWT := hid hwt
  clear ht1 ht2 hW7 x1' x1a hmk hmi J6 HZS HYS hL hwt
  go_upto_region 8 with fail
  clear x1 x2 hmul
  obtain ⟨tg, tof, la0, lc0, htb, _, _, _, _⟩ := TabR.at HC5.out.tabR (k := 0) (by rw [HL.out]; omega)
  subst htb
  have HS0 : Hid (SinceOk (InkD.start C.ruls.length) (List.replicate n 0) C.ruls.length 0 0) := hid (by rw [HNR.out]; exact SinceOk.start n 0 0 n)
  have HCN0 : Hid (CountW (C.tab.map (·.1)) C.drain.toNat C.ruls.length (InkD.start C.ruls.length).l.length 0 0) := hid (CountW.zero (by rw [List.length_map, HL.out]; omega))
  go_wp2_with fail
  go_loopw [10] (fun v10 wr => ∃ (t : Nat) (s : InkD) (since : List Nat) (e m : Nat), t ≤ N + wt ∧ v10 = .int .i64 ((t : Int) + 1) ∧ e + m = t ∧ Hid (SinceOk s since C.ruls.length e t) ∧ Hid (s.refs ≤ 8 * t ∧ s.last ≤ (t : Int)) ∧ Hid (CountW (C.tab.map (·.1)) C.drain.toNat C.ruls.length s.l.length e m) ∧ Hid (t ≤ N ∨ s.l = [] ∨ s.l.length + (t - N) ≤ n) ∧ Hid (Bk wr t1 4 (s.told.map Value.bool)) ∧ Hid (Bk wr t2 3 (since.map (fun x : Nat => Value.int .i64 (x : Int)))) ∧ Hid (PJ W5 wr (fun j => j < W5.heap.size ∨ (j = t1 ∨ j = t2)) nb C (.slice sg C.sigs.length sgc) (.slice ru C.ruls.length ruc) (.slice (some ⟨tg, tof, none⟩) C.tab.length tbc) s)) (fun v10 _ => N + wt + 1 - (intOf v10).toNat)
  case atStart => exact ⟨0, _, _, 0, 0, Nat.zero_le _, by simp, rfl, HS0, hid ⟨Nat.zero_le _, Int.le_refl _⟩, HCN0, hid (Or.inl (Nat.zero_le _)), HT10, HT20, HJ0⟩
  case round =>
    clear HS0 HCN0 HT10 HT20 HJ0
    obtain ⟨t, s, since, e0, m, ht, rfl, hem, HSI, HRF, HCN, HTA, HT1, HT2, HJ⟩ := hrel
    by_cases hlt : t < N + wt
    · skip
      obtain ⟨kt, hkt⟩ : ∃ k, t % L = k := ⟨_, rfl⟩
      have hktL : kt < L := by rw [← hkt]; exact Nat.mod_lt _ (by omega)
      have hk : (t : Int) % (L : Int) = (kt : Int) := by rw [← hkt]; push_cast; rfl
      have hkl : kt < C.tab.length := by rw [HL.out]; exact hktL
      obtain ⟨tg', tof', la, lc, hta, hh1, hts, hsl, hh2⟩ := TabR.at HC5.out.tabR hkl
      injection hta with hta
      injection hta with hta1 hta2
      subst hta1 hta2
      have hso := HM.out.tab _ (List.getElem_mem hkl)
      have hcome : comeA (C.tab.map (·.1)) t = C.tab[kt].1.length := by
        unfold comeA
        rw [List.length_map, HL.out, hkt, List.getD_eq_getElem?_getD, List.getElem?_map, List.getElem?_eq_getElem hkl]
        rfl
      obtain ⟨row, hrow⟩ : ∃ r, C.tab[kt].1 = r := ⟨_, rfl⟩
      rw [hrow] at hts hsl hso hcome
      have HSL := hid hsl
      have HSO := hid hso
      have HCO := hid hcome
      have hrl : row.length ≤ 8 := by have h1 := few_of_uniq _ _ hso.rul hso.nodup; have h2 := HM.out.few; omega
      have x2 := (HB5.out.kept HJ.out.old).cell 2 rfl
      rw [HL.out] at x2
      have hs1 : IntKind.i64.wrap ((t : Int) + 1 - 1) = (t : Int) := by simp only [IntKind.wrap_i64]; omega
      have hts := HJ.out.old.cell (fun h => h) hts
      clear hrow hsl hso hcome hh1 hh2 hkl hkt
      go_upto_region 11 with fail
      go_quiet (fail)
      clear x2 hts
      go_upto_block 2 with fail
      go_cut [] from 52 to 167 (fun wx => ∃ (s2 : InkD) (since2 : List Nat), Hid (SinceOk s2 since2 C.ruls.length e0 (t + 1)) ∧ Hid (s2.refs ≤ 8 * (t + 1) ∧ s2.last ≤ (t : Int) + 1) ∧ Hid (s2.l.length ≤ s.l.length + row.length) ∧ Hid (t < N ∨ s2.l.length ≤ s.l.length) ∧ Hid (Bk wx t1 4 (s2.told.map Value.bool)) ∧ Hid (Bk wx t2 3 (since2.map (fun x : Nat => Value.int .i64 (x : Int)))) ∧ Hid (PJ W5 wx (fun j => j < W5.heap.size ∨ (j = t1 ∨ j = t2)) nb C (.slice sg C.sigs.length sgc) (.slice ru C.ruls.length ruc) (.slice (some ⟨tg, tof, none⟩) C.tab.length tbc) s2))
      case first =>
        go_wp2_with fail
        have HSI0 := hid (HSI.out.later (show t ≤ t + 1 by omega))
        go_loopw [12] (fun v12 wy => ∃ (i : Nat) (s' : InkD) (since' : List Nat), i ≤ row.length ∧ v12 = .int .i64 (i : Int) ∧ Hid (SinceOk s' since' C.ruls.length e0 (t + 1)) ∧ Hid (s'.refs ≤ 8 * t + i ∧ s'.last ≤ (t : Int) + 1) ∧ Hid (s'.l.length ≤ s.l.length + i) ∧ Hid (t < N ∨ s'.l.length ≤ s.l.length) ∧ Hid (Bk wy t1 4 (s'.told.map Value.bool)) ∧ Hid (Bk wy t2 3 (since'.map (fun x : Nat => Value.int .i64 (x : Int)))) ∧ Hid (PJ W5 wy (fun j => j < W5.heap.size ∨ (j = t1 ∨ j = t2)) nb C (.slice sg C.sigs.length sgc) (.slice ru C.ruls.length ruc) (.slice (some ⟨tg, tof, none⟩) C.tab.length tbc) s')) (fun v12 _ => row.length - (intOf v12).toNat)
        case atStart => exact ⟨0, s, since, Nat.zero_le _, rfl, HSI0, hid (by have := HRF.out; omega), hid (by omega), hid (Or.inr (Nat.le_refl _)), hid (HT1.out.drewN _), hid (HT2.out.drewN _), hid (HJ.out.calm ((Keeps.refl No wr).drewN _))⟩
        case round =>
          clear HSI0 HSI HRF HCN HTA HT1 HT2 HJ
          obtain ⟨i, s1, since1, hi, rfl, HSI, HRF, HQL, HQN, HT1, HT2, HJ⟩ := hrel
          by_cases hil : i < row.length
          · by_cases htn : t < N
            · skip
              obtain ⟨kr, hkr⟩ : ∃ k, row[i] = k := ⟨_, rfl⟩
              have hkb := HSO.out.rul _ (List.getElem_mem hil)
              rw [hkr] at hkb
              obtain ⟨k, rfl⟩ : ∃ k : Nat, kr = k := ⟨kr.toNat, by omega⟩
              have hkn : k < n := by have := HNR.out; omega
              obtain ⟨gs, os, hla, hgl, hcs⟩ := SlI.cellAt HSL.out hil
              rw [hkr] at hcs
              subst hla
              have htq : t < q.length := by rw [HN.out]; exact htn
              obtain ⟨og, oo, hs0, _, hco⟩ := Sl.cellAt HS.out (j := t) (u := .int .u16 q[t]) (by simp [htq])
              subst hs0
              obtain ⟨ov, hov⟩ : ∃ v, q[t] = v := ⟨_, rfl⟩
              have hob := bounds_u16 (HQ.out _ (List.getElem_mem htq))
              rw [hov] at hco hob
              obtain ⟨ho0, ho1⟩ := hob
              have hko : ∀ w', Keeps No W5 w' → w'.cell? ⟨og, oo + t, none⟩ = some (.int .u16 ov) := fun w' kw => (K5.out.trans kw).cell (fun h => h) hco
              have cs := HJ.out.old.cell (fun h => h) hcs
              have co := hko _ HJ.out.old
              have hs2 : IntKind.i64.wrap ((t : Int) + 1 - 1) = (t : Int) := by simp only [IntKind.wrap_i64]; omega
              have hk16 : 0 ≤ (k : Int) % 16 := by omega
              clear hkb hgl hcs hco hko hov htq
              go_upto_region 17 with fail
              generalize ((ov / 2 ^ (k % 16)).tmod 2 == 1) = on
              clear cs co hs2 hk16 ho0 ho1
              have hni : I64 ((t : Int) + 1) := ⟨by omega, by omega⟩
              have hrf9 := hid (show s1.refs ≤ 1000000000 ∧ (idleD s1 (k : Int) on = true ∨ s1.last ≤ (t : Int) + 1) from ⟨by have := HRF.out; omega, Or.inr HRF.out.2⟩)
              have hktold : k < s1.told.length := by rw [HJ.out.ok.told, HNR.out]; exact hkn
              have HKT := hid hktold
              clear hktold
              go_wp2_with fail
              with_reducible refine (pj_offer HJ.out HC5.out HIC.out ((t : Int) + 1) (k : Int) on hni hrf9.out).mono ?_
              rintro e w7 ⟨rfl, h7, k7⟩
              have hrf : (offerD C s1 ((t : Int) + 1) (k : Int) on).1.refs ≤ 8 * t + (i + 1) ∧ (offerD C s1 ((t : Int) + 1) (k : Int) on).1.last ≤ (t : Int) + 1 := offer_rl (m := 8 * t + i) HRF.out.1 HRF.out.2
              have htold := ink_told (C := C) (s := s1) (now := (t : Int) + 1) (r := k) (on := on) HKT.out
              have hq := offer_queue (C := C) (s := s1) (now := (t : Int) + 1) (r := k) (on := on) HKT.out
              have hsi := fun h2 h3 since' hs => SinceOk.told (C := C) (w := (t : Int) + 1) (on := on) HSI.out HKT.out (by rw [HNR.out]; exact hkn) (show e0 < t + 1 by omega) h2 h3 (since' := since') hs
              have ht1 := HT1.out.keep k7 (fun h => h (Or.inr (Or.inl rfl)))
              have ht2 := HT2.out.keep k7 (fun h => h (Or.inr (Or.inr rfl)))
              obtain ⟨s2, hs2⟩ : ∃ q, (offerD C s1 ((t : Int) + 1) (k : Int) on).1 = q := ⟨_, rfl⟩
              obtain ⟨v2, hv2⟩ : ∃ q, (offerD C s1 ((t : Int) + 1) (k : Int) on).2 = q := ⟨_, rfl⟩
              rw [hs2] at h7 hrf htold hq hsi
              rw [hv2] at htold hq hsi ⊢
              have HJ7 := hid h7
              have HRF7 := hid hrf
              have HTO7 := hid htold
              have HQ7 := hid hq
              have HSI7 := hid hsi
              have HT17 := hid ht1
              have HT27 := hid ht2
              clear h7 k7 hrf htold hq hsi ht1 ht2 hs2 hv2 HT1 HT2 HJ
              have HQL2 : Hid (s2.l.length ≤ s.l.length + (i + 1)) := hid (by have h1 := HQ7.out.2.2.2; have h2 := HQL.out; omega)
              cases v2
              · have hl := HQ7.out.1 rfl
                have e1 := HTO7.out
                rw [if_neg (by decide)] at e1
                have HS2 := hid (HSI.out.same hl)
                have HE1 := hid e1
                clear hl e1 HSI7 HQ7 HTO7
                go_wp2_with fail
                go_roundw
                case rel => exact ⟨i + 1, s2, since1, by omega, by go_num, HS2, HRF7, HQL2, hid (Or.inl htn), hid (by rw [HE1.out]; exact HT17.out), HT27, HJ7⟩
                case measure => simp [intOf]; omega
              · have e1 := HTO7.out
                rw [if_pos rfl] at e1
                have HE1 := hid e1
                have y1 := HT17.out.cell k (told_atS HKT.out)
                have f1 := HT17.out.free k
                obtain ⟨tk, htk⟩ : ∃ q, s1.told[k]'HKT.out = q := ⟨_, rfl⟩
                have HTK := hid htk
                rw [htk] at y1
                clear htk e1
                by_cases htk2 : tk = on
                · subst htk2
                  have hl := HQ7.out.2.1 HTK.out
                  have HS2 := hid (HSI.out.same hl)
                  have HE2 : Hid (s2.told = s1.told) := hid (by rw [HE1.out]; conv => { lhs; rw [← HTK.out] }; exact List.set_getElem_self ..)
                  have qb : (tk != tk) = false := by simp
                  clear hl HSI7 HQ7 HTO7 HE1
                  go_wp2_with fail
                  go_roundw
                  case rel => exact ⟨i + 1, s2, since1, by omega, by go_num, HS2, HRF7, HQL2, hid (Or.inl htn), hid (by rw [HE2.out]; exact HT17.out), HT27, HJ7⟩
                  case measure => simp [intOf]; omega
                · have qb : (!tk == on) = true := by simpa using htk2
                  have hkl : k < since1.length := by rw [HSI.out.len, HNR.out]; exact hkn
                  have y2 := HT27.out.cell k (since_at hkl)
                  have f2 := HT27.out.free k
                  have hsi := HSI7.out rfl (by rw [HTK.out]; exact htk2)
                  obtain ⟨sk, hsk⟩ : ∃ q, since1[k] = q := ⟨_, rfl⟩
                  rw [hsk] at y2
                  have HT18 : Hid (Bk (w7.setCell ⟨t1, k, none⟩ (.bool on)) t1 4 (s2.told.map Value.bool)) := hid (by rw [HE1.out]; exact HT17.out.put k (.bool on) (set_told _ _ _))
                  have HJ8 : Hid (PJ W5 (w7.setCell ⟨t1, k, none⟩ (.bool on)) (fun j => j < W5.heap.size ∨ (j = t1 ∨ j = t2)) nb C (.slice sg C.sigs.length sgc) (.slice ru C.ruls.length ruc) (.slice (some ⟨tg, tof, none⟩) C.tab.length tbc) s2) := hid (HJ7.out.store (S := fun j => j = t1) ((Keeps.refl _ _).at) (fun j hj => by subst hj; exact ⟨Or.inr (Or.inl rfl), HT1W.out⟩))
                  have HT28 : Hid (Bk (w7.setCell ⟨t1, k, none⟩ (.bool on)) t2 3 (since1.map (fun x : Nat => Value.int .i64 (x : Int)))) := hid (HT27.out.other (p := ⟨t1, k, none⟩) ht21 _)
                  have hlt1 := HT17.out.lt
                  clear HQ7 HTO7 HSI7
                  by_cases hz : sk = 0
                  · subst hz
                    have HS2 := hid (hsi (since1.set k (t + 1)) (Or.inl ⟨hkl, hsk, rfl⟩))
                    have d0 : (((0 : Nat) : Int) == 0) = true := by simp
                    clear hsi hsk
                    go_wp2_with fail
                    go_roundw
                    case rel => exact ⟨i + 1, s2, since1.set k (t + 1), by omega, by go_num, HS2, HRF7, HQL2, hid (Or.inl htn), hid (HT18.out.other (p := ⟨t2, k, none⟩) ht12 _), hid (HT28.out.put k _ (by rw [since_set]; push_cast; rfl)), hid (HJ8.out.store (S := fun j => j = t2) ((Keeps.refl _ _).at) (fun j hj => by subst hj; exact ⟨Or.inr (Or.inr rfl), HT2W.out⟩))⟩
                    case measure => simp [intOf]; omega
                  · have HS2 := hid (hsi since1 (Or.inr ⟨hkl, by rw [hsk]; exact hz, rfl⟩))
                    have d0 : (((sk : Nat) : Int) == 0) = false := by simpa using hz
                    clear hsi hsk
                    go_wp2_with fail
                    go_roundw
                    case rel => exact ⟨i + 1, s2, since1, by omega, by go_num, HS2, HRF7, HQL2, hid (Or.inl htn), HT18, HT28, HJ8⟩
                    case measure => simp [intOf]; omega
            · go_wp2_with fail
              go_meet
              exact ⟨s1, since1, HSI, hid (by have := HRF.out; omega), hid (by have := HQL.out; omega), HQN, HT1, HT2, HJ⟩
          · go_wp2_with fail
            go_meet
            exact ⟨s1, since1, HSI, hid (by have := HRF.out; omega), hid (by have := HQL.out; omega), HQN, HT1, HT2, HJ⟩
      case rest =>
      clear HSI HRF HT1 HT2 HJ
      obtain ⟨s2, since2, HSI, HRF, HQL, HQN, HT1, HT2, HJ⟩ := hcut
      obtain ⟨wo, rfl⟩ : ∃ y, y = wc := ⟨_, rfl⟩
      go_wp2_with fail
      with_reducible refine (pj_drain HJ.out HIC.out).mono ?_
      rintro e wd ⟨v, rfl, hsl, hnw, hjd, kd⟩
      obtain ⟨va, vc, rfl⟩ := hsl.any
      have HT1D := hid (HT1.out.keep kd (fun h => h (Or.inr (Or.inl rfl))))
      have HT2D := hid (HT2.out.keep kd (fun h => h (Or.inr (Or.inr rfl))))
      have ht2lt := HT2.out.lt
      have hdr2 := (SinceOk.drain HSI.out HJ.out.ok).2
      have hdr1 := fun es hes => SinceOk.drain1 HSI.out HJ.out.ok (es := es) hes
      have hfull := drainF_full C.drain.toNat s2.l
      have hdlen := drainF_len C.drain.toNat s2.l
      have hdd : (drainD C s2).2.l = (drainF C.drain.toNat s2.l).2 ∧ (drainD C s2).1 = (drainF C.drain.toNat s2.l).1 ∧ (drainD C s2).2.told = s2.told ∧ (drainD C s2).2.refs = s2.refs ∧ (drainD C s2).2.last = s2.last := ⟨rfl, rfl, rfl, rfl, rfl⟩
      obtain ⟨es, hes⟩ : ∃ q, (drainD C s2).1 = q := ⟨_, rfl⟩
      obtain ⟨sd, hsd⟩ : ∃ q, (drainD C s2).2 = q := ⟨_, rfl⟩
      rw [← hdd.1, ← hdd.2.1] at hfull hdlen
      rw [hsd] at hjd hfull hdlen hdd hdr2
      rw [hes] at hdr2
      have HDR1 := hid (hdr1 es hes)
      rw [hes] at hsl hfull hdlen hnw ⊢
      obtain ⟨m1, hm1⟩ : ∃ q, es.length = q := ⟨_, rfl⟩
      have HES := hid hsl
      rw [hm1] at hnw hfull hdlen ⊢
      have HFULL := hid hfull
      have HDLEN := hid hdlen
      have HDD := hid (show sd.told = s2.told ∧ sd.refs = s2.refs ∧ sd.last = s2.last from ⟨hdd.2.2.1, hdd.2.2.2⟩)
      have HM1 := hid hm1
      have HJD := hid hjd
      have HDR2 := hid hdr2
      have HQR : Hid (s2.l.length ≤ n) := hid (by have h1 := HJ.out.ok.len; have h2 := HNR.out; omega)
      have hmb : m1 ≤ 64 := by have h1 := HQR.out; omega
      have hmd : m1 ≤ C.drain.toNat := hdlen.1
      have HEN : Hid (∀ k, (Value.slice va m1 vc).ownBlock = some k → t2 < k) := hid (fun k hk => by have := hnw k hk; omega)
      have hdb := HM.out.drain
      have x6 := (HB5.out.kept hjd.old).cell 6 rfl
      have d6 : decide ((m1 : Int) > C.drain) = false := decide_eq_false (by omega)
      clear hes hsd hm1 hsl hnw hjd kd hfull hdlen hdd ht2lt hdr1 hdr2 HT1 HT2 HJ
      go_wp2_with fail
      clear x6 d6
      go_loopw [16] (fun v16 wy => ∃ j : Nat, j ≤ m1 ∧ v16 = .int .i64 (j : Int) ∧ Hid (Bk wy t1 4 (s2.told.map Value.bool)) ∧ Hid (Bk wy t2 3 (((es.take j).foldl zeroS since2).map (fun x : Nat => Value.int .i64 (x : Int)))) ∧ Hid (Keeps (fun x => x = t2) wd wy)) (fun v16 _ => m1 - (intOf v16).toNat)
      case atStart => exact ⟨0, Nat.zero_le _, rfl, HT1D, hid (by simpa using HT2D.out), hid (Keeps.refl _ _)⟩
      case round =>
        obtain ⟨j, hj, rfl, HT1, HT2, HKY⟩ := hrel
        by_cases hjm : j < m1
        · have hjl : j < es.length := by rw [HM1.out]; exact hjm
          obtain ⟨⟨er, eo, ea⟩, hex⟩ : ∃ x, es[j] = x := ⟨_, rfl⟩
          obtain ⟨r, sk, hre, hrn, hsk, hz1, hz2, hz3⟩ := HDR1.out j _ (by rw [List.getElem?_eq_getElem hjl, hex])
          dsimp only at hre
          subst hre
          have hrn2 : r < n := by have := HNR.out; omega
          obtain ⟨ge, oe, hva, hge, hce⟩ := Sl.itemC (enc := encE) (size := 3) (fun _ => rfl) (by decide) HES.out hjl hex
          subst hva
          have hgt : ¬ ge = t2 := by have := HEN.out ge rfl; omega
          have z0 := HKY.out.cell hgt (hce 0 _ rfl)
          simp only [Nat.add_zero] at z0
          have htk : (es.take (j + 1)).foldl zeroS since2 = ((es.take j).foldl zeroS since2).set r 0 := by
            rw [List.take_succ_eq_append_getElem hjl, List.foldl_append, hex]
            simp only [List.foldl_cons, List.foldl_nil, zeroS, Int.toNat_natCast]
          have hll : ((es.take j).foldl zeroS since2).length = n := by rw [zeroS_len, HSI.out.len, HNR.out]
          obtain ⟨lc2, hlc2⟩ : ∃ l, (es.take j).foldl zeroS since2 = l := ⟨_, rfl⟩
          rw [hlc2] at hsk htk hll
          rw [hlc2] at HT2
          have HTK := hid htk
          have y2 := HT2.out.cell r (since_at (l := lc2) (by omega))
          rw [show lc2[r]'(by omega) = sk from by have h := hsk; rw [List.getElem?_eq_getElem (by omega)] at h; exact Option.some.inj h] at y2
          have f2 := HT2.out.free r
          have d0 : decide ((r : Int) < 0) = false := decide_eq_false (by omega)
          have d1 : decide ((r : Int) ≥ (n : Int)) = false := decide_eq_false (by omega)
          have d2 : (((sk : Nat) : Int) == 0) = false := by simpa using hz1
          have hmw : m < wt := by have h1 := HCN.out.few; rw [List.length_map, HL.out, HNR.out, HWT.out] at h1; exact h1
          have d3 : decide ((t : Int) + 1 - (sk : Int) ≥ (wt : Int)) = false := decide_eq_false (by omega)
          have hws : IntKind.i64.wrap ((t : Int) + 1 - (sk : Int)) = (t : Int) + 1 - (sk : Int) := by simp only [IntKind.wrap_i64]; omega
          clear hjl hex hce hgt htk hsk hlc2 hll hge
          go_wp2_with fail
          go_roundw
          case rel => exact ⟨j + 1, by omega, by go_num, hid (HT1.out.other (p := ⟨t2, r, none⟩) ht12 _), hid (HT2.out.put r (.int .i64 0) (by rw [HTK.out, since_set]; rfl)), hid (HKY.out.at)⟩
          case measure => simp [intOf]; omega
        · obtain rfl : j = m1 := by omega
          have HT2E : Hid (Bk wr t2 3 ((es.foldl zeroS since2).map (fun x : Nat => Value.int .i64 (x : Int)))) := hid (by have h := HT2.out; rw [List.take_of_length_le (by rw [HM1.out]; exact Nat.le_refl _)] at h; exact h)
          have hnext : ∃ e' m' : Nat, e' + m' = t + 1 ∧ Hid (SinceOk sd (es.foldl zeroS since2) C.ruls.length e' (t + 1)) ∧ Hid (CountW (C.tab.map (·.1)) C.drain.toNat C.ruls.length sd.l.length e' m') := by
            by_cases h0 : sd.l = []
            · exact ⟨t + 1, 0, rfl, hid (HDR2.out.empty h0 _ _), hid (by rw [h0]; exact CountW.zero (by rw [List.length_map, HL.out]; omega))⟩
            · have h1 : 0 < sd.l.length := by cases hl : sd.l with | nil => exact absurd hl h0 | cons x y => simp
              have h2 := HFULL.out h1
              have h3 := HDLEN.out
              have h4 := HQL.out
              have hroom := HM.out.room
              refine ⟨e0, m + 1, by omega, hid HDR2.out, hid (CountW.step (c := row.length) HCN.out ?_ (by rw [hem, HCO.out]; exact Nat.le_refl _) (by omega))⟩
              rw [List.length_map]
              unfold entries at hroom
              have h5 : C.drain = ((C.drain.toNat : Nat) : Int) := by omega
              rw [h5] at hroom
              exact_mod_cast hroom
          obtain ⟨e', m', hem', HSI', HCN'⟩ := hnext
          have HTA' : Hid (t + 1 ≤ N ∨ sd.l = [] ∨ sd.l.length + (t + 1 - N) ≤ n) := hid (by
            by_cases h0 : sd.l = []
            · exact Or.inr (Or.inl h0)
            · have h1 : 0 < sd.l.length := by cases hl : sd.l with | nil => exact absurd hl h0 | cons x y => simp
              have h2 := HFULL.out h1
              have h3 := HDLEN.out
              have h4 := HQR.out
              have h5 := hdb.1
              rcases HQN.out with h6 | h6
              · left; omega
              · rcases HTA.out with h7 | h7 | h7
                · by_cases h8 : t + 1 ≤ N
                  · exact Or.inl h8
                  · right; right; omega
                · rw [h7] at h6
                  simp only [List.length_nil] at h6
                  omega
                · right; right; omega)
          clear hem
          go_wp2_with fail
          go_roundw
          case rel => exact ⟨t + 1, sd, es.foldl zeroS since2, e', m', by omega, by go_num, hem', HSI', hid (by have h := HDD.out.2; have h2 := HRF.out; omega), HCN', HTA', hid (by rw [HDD.out.1]; exact HT1.out), HT2E, hid (HJD.out.store HKY.out (fun x hx => by subst hx; exact ⟨Or.inr (Or.inr rfl), HT2W.out⟩))⟩
          case measure => simp [intOf]; omega
    · obtain rfl : t = N + wt := by omega
      have hnil : s.l = [] := by
        rcases HTA.out with h | h | h
        · omega
        · exact h
        · omega
      have HSN := hid (fun k hk => HSI.out.none hnil (k := k) hk)
      have HSL := hid HSI.out.len
      clear hnil HSI HRF HCN HTA HT1
      go_wp2_with fail
      go_loopw [18] (fun v18 wy => ∃ j : Nat, j ≤ n ∧ v18 = .int .i64 (j : Int) ∧ Hid (Keeps No wr wy)) (fun v18 _ => n - (intOf v18).toNat)
      case atStart => exact ⟨0, Nat.zero_le _, rfl, hid (Keeps.refl _ _)⟩
      case round =>
        obtain ⟨j, hj, rfl, HKY⟩ := hrel
        by_cases hjn : j < n
        · have hjt : j < since.length := by rw [HSL.out, HNR.out]; exact hjn
          have y2 := (HT2.out.kept HKY.out).cell j (since_at hjt)
          rw [HSN.out j hjt] at y2
          clear hjt
          go_wp2_with fail
          go_roundw
          case rel => exact ⟨j + 1, by omega, by go_num, HKY⟩
          case measure => simp [intOf]; omega
        · obtain rfl : j = n := by omega
          have HJ2 := hid (HJ.out.calm HKY.out)
          go_wp2_with fail
          go_ret
          exact ⟨rfl, (K5.out.trans HJ2.out.old).toBelow⟩

theorem own : ownKnob Try.prog.godebug = none := by kernel_rfl
theorem laidOut : laidOutB Try.prog = true := by kernel_rfl
set_option maxRecDepth 100000 in
theorem lifted (os : Os) (started : os.Started) (H : Type) (enc : TypeId × Value → H) :
    ReturnsInHanded {} Try.checked os 4 .any (Rows.intakeWaitsSpec.pre6 enc Try.prog Try.f4 Rows.intakeWaitsRow.domain false) (Rows.intakeWaitsSpec.post enc Try.prog Try.f4 false true false false) := by
  refine returnsInHanded_of_change (C := Try.checked) own started (by kernel_rfl) Try.func4
    (ChangeSpec.witness6 (enc := enc) (C := Try.checked) false ⟨#[], #[.agg #[.slice none 0 0, .slice none 0 0, .int .u8 0, .int .u8 0, .int .u8 0, .int .u8 0, .bool false, .int .u8 0], .slice none 0 0], []⟩ 8 (by kernel_rfl) (by kernel_rfl) (by kernel_rfl) (by kernel_rfl)) ?_
  intro W base args ds gs before hval0 hW hcnd _
  have hval : ∀ (j : Nat) t v, Try.f4.params[j]? = some t → args[j]? = some v → Value.okWide Try.prog W .any base t v := hval0
  have hW' := hW
  obtain ⟨p, q, hA0, hV, rfl, hfz, hnd⟩ := hW
  have hA : DataW.TrodAll enc Try.prog W 0 (fun _ => true) true Try.f4.params.toList args.toList ds p := hA0
  rw [Try.params4] at hA hval
  obtain ⟨v0, vs0, d0, ds0, p0, q0, hargs, rfl, rfl, h0, r0⟩ := trodAll_cons hA
  obtain ⟨v1, vs1, d1, ds1, p1, q1, rfl, rfl, rfl, h1, r1⟩ := trodAll_cons r0
  obtain ⟨rfl, rfl, rfl⟩ := trodAll_nil r1
  obtain rfl : args = #[v0, v1] := by cases args; simp_all
  obtain ⟨rfl, rfl⟩ := trodVars_none hV
  have k0 := h0
  have lt0 : ∀ x ∈ p0, x.block < W.heap.size := by obtain ⟨m, hm⟩ := k0; exact DataW.trod_lt m _ _ _ hm
  have k1 := h1
  have lt1 : ∀ x ∈ p1, x.block < W.heap.size := by obtain ⟨m, hm⟩ := k1; exact DataW.trod_lt m _ _ _ hm
  obtain ⟨rules, rv, slots, sv, ba, dr, pa, of_, br, lo, rfl, hd, u1, u2, u3, u4, u5⟩ := argDraft (hval 0 25 v0 rfl rfl) h0
  obtain ⟨s1, len1, cap1, rfl⟩ := okWide_slice Try.underlying60 (hval 1 60 v1 rfl rfl)
  obtain ⟨l1, rfl, w1, b1⟩ := argInts .u16 Try.underlying60 Try.underlying62 (by kernel_rfl) h1
  clear hA0 hval0
  refine (walk W rules rv slots sv ba dr pa of_ br lo hd u1 u2 u3 u4 u5 s1 cap1 l1 w1 b1).mono fun e W' ⟨he, bel⟩ => ?_
  subst he
  exact ⟨_, rfl, _, _, _, [], _, [], hW', trodAll_mk1 (shut_bool Try.underlying4 _), (trodAll_cons_mk (Below.trod laidOut (by kernel_rfl) (of_decide_eq_true (by kernel_rfl)) k0 bel lt0) (trodAll_cons_mk (Below.trod laidOut (by kernel_rfl) (of_decide_eq_true (by kernel_rfl)) k1 bel lt1) trodAll_mk0)), rfl, bel.frame _, fun h => by cases h⟩

theorem over : Rows.intakeWaitsRow.holds Try.pinned (OpenSpec.ofChange Rows.intakeWaitsSpec) :=
  OpenClaim.holds_of_wide 4 Try.f4 rfl rfl rfl rfl rfl rfl rfl ⟨rfl, rfl, rfl, rfl, rfl⟩ rfl rfl rfl rfl rfl (by kernel_rfl) Try.func4 (by kernel_rfl)
    (of_decide_eq_true (by kernel_rfl)) (by unfold Func.isWrapper; first | (rw [if_pos (by decide +kernel)]; kernel_rfl) | (rw [if_neg (by decide +kernel)]; exact ⟨rfl, rfl⟩))
    (fun os started H enc _ => lifted os started H enc)

theorem proved : Rows.IntakeWaitsSaid := over
#print axioms proved
end Go.Proofs.Ytoodlhagecannaa.intakeWaits
