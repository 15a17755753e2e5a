/- An image with something turned: without its sum right, refused; with it, as the document reads it. No conditions beside the row's. -/
import Derived.Test.YtlenhccdkhgfgaaDoorRows
import Derived.Test.YtlenhccdkhgfgaaDoorArgsE
import Derived.Test.YtlenhccdkhgfgaaDoorLawM
import Derived.ProofKit
import Derived.OpenShut
import Derived.Deep.RegionHeld3
import Derived.Test.YtlenhccdkhgfgaaDoorEncM
import Derived.Test.YtlenhccdkhgfgaaDoorCutP
import Derived.Laws.BitsAllLaws
namespace Go.Proofs.YtlenhccdkhgfgaaDoor.imageTurned
open Go.ChangeShapes Go.WideShapes Go.ChangeAt Go.RowKit
open Go.ChangeMaps (open_string shut_string)
set_option linter.unusedVariables false

set_option maxHeartbeats 8000000 in
set_option maxRecDepth 100000 in
theorem walk (w : World) (hg : ErrV w) (rules : List (LineD × Value)) (rv : Value) (slots : List Int) (sv : Value) (ba dr pa of_ : Int) (br : Bool) (lo : Int) (hd : DraftR w rules rv slots sv) (u1 : U8 ba) (u2 : U8 dr) (u3 : U8 pa) (u4 : U8 of_) (u5 : U8 lo) (a1 : Int) (wa1 : (Lit.int .u16 a1).wf = true) (a2 : Int) (wa2 : (Lit.int .u8 a2).wf = true) (a3 : Int) (wa3 : (Lit.int .u16 a3).wf = true) (s4 : Option Addr) (cap4 : Nat) (more : List Int) (hs4 : Sl w 1 (.slice s4 more.length cap4) more.length (more.map (Value.int .u8))) (hb4 : ∀ n ∈ more, (Lit.int .u8 n).wf = true) :
    Calls Tryd.prog 5 #[.agg #[rv, sv, .int .u8 ba, .int .u8 dr, .int .u8 pa, .int .u8 of_, .bool br, .int .u8 lo], .int .u16 a1, .int .u8 a2, .int .u16 a3, .slice s4 more.length cap4] w fun e w' => e = .returned (.bool true) ∧ Below w.heap.size w w' := by
  have B1 := hid (bounds_u16 wa1)
  have B2 := hid (bounds_u8 wa2)
  have B3 := hid (bounds_u16 wa3)
  have hbm : Bytes more := fun x hx => bounds_u8 (hb4 x hx)
  have HMB := hid hbm
  have HMO := hid hs4
  clear wa1 wa2 wa3 hs4 hb4 hbm
  obtain ⟨ra, rc, rfl⟩ := hd.rul.any
  obtain ⟨sa, sc, rfl⟩ := hd.slo.any
  obtain ⟨W1, hW1⟩ : ∃ W1, w.alloc (.cells #[.slice ra rules.length rc, .slice sa slots.length sc, .int .u8 ba, .int .u8 dr, .int .u8 pa, .int .u8 of_, .bool br, .int .u8 lo] 25) = W1 := ⟨_, rfl⟩
  have k1 : Keeps No w W1 := by rw [← hW1]; exact (Keeps.refl _ _).alloc _
  have hb : BlkL W1 w.heap.size 25 [.slice ra rules.length rc, .slice sa slots.length sc, .int .u8 ba, .int .u8 dr, .int .u8 pa, .int .u8 of_, .bool br, .int .u8 lo] := by rw [← hW1]; exact heap_alloc_new w _
  have H1 := hid (hd.calm k1)
  have HB := hid hb
  have HW1 := hid hW1
  have K1 := hid k1
  have U := hid (show U8 ba ∧ U8 dr ∧ U8 pa ∧ U8 of_ ∧ U8 lo from ⟨u1, u2, u3, u4, u5⟩)
  have HG := hid hg
  have HG0 := hid (hg.keep k1)
  clear hd hW1 k1 hb u1 u2 u3 u4 u5 hg
  go_enter Tryd.func5, Tryd.ntmps5
  go_upto_region 1 with fail
  rw [HW1.out]
  go_wp2_with fail
  refine (none_true HG0.out).mono ?_
  rintro e w2 ⟨rfl, k2⟩
  have hb := HB.out.keep k2 (fun h => h)
  have K2 := hid (K1.out.trans k2)
  have H2 := hid (H1.out.calm k2)
  have HB2 := hid hb
  have x0 := hb.cell (o := 0) rfl
  have x1 := hb.cell (o := 1) rfl
  have x2 := hb.cell (o := 2) rfl
  have x3 := hb.cell (o := 3) rfl
  have x4 := hb.cell (o := 4) rfl
  have x5 := hb.cell (o := 5) rfl
  have x6 := hb.cell (o := 6) rfl
  have x7 := hb.cell (o := 7) rfl
  clear hb k2
  go_wp2_with fail
  refine (short_any H2.out ba dr pa of_ br lo).mono ?_
  rintro e w3 ⟨bs, rfl, k3⟩
  clear x0 x1 x2 x3 x4 x5 x6 x7
  have K3 := hid (K2.out.trans k3)
  have H3 := hid (H2.out.calm k3)
  have hb := HB2.out.keep k3 (fun h => h)
  clear k3
  cases bs
  · clear hb
    go_wp2_with fail
    refine (none_true (HG.out.keep K3.out)).mono ?_
    rintro e w4 ⟨rfl, k4⟩
    have K4 := hid (K3.out.trans k4)
    clear k4
    go_wp2_with fail
    go_ret
    exact ⟨rfl, K4.out.toBelow⟩
  have x0 := hb.cell (o := 0) rfl
  have x1 := hb.cell (o := 1) rfl
  have x2 := hb.cell (o := 2) rfl
  have x3 := hb.cell (o := 3) rfl
  have x4 := hb.cell (o := 4) rfl
  have x5 := hb.cell (o := 5) rfl
  have x6 := hb.cell (o := 6) rfl
  have x7 := hb.cell (o := 7) rfl
  clear hb
  by_cases h40 : 40 < more.length
  · have hd40 : decide ((more.length : Int) > 40) = true := decide_eq_true (by omega)
    clear x0 x1 x2 x3 x4 x5 x6 x7
    go_wp2_with fail
    refine (none_true (HG.out.keep K3.out)).mono ?_
    rintro e w4 ⟨rfl, k4⟩
    have K4 := hid (K3.out.trans k4)
    clear k4
    go_wp2_with fail
    go_ret
    exact ⟨rfl, K4.out.toBelow⟩
  have hd40 : decide ((more.length : Int) > 40) = false := decide_eq_false (by omega)
  go_wp2_with fail
  refine (make_any2 H3.out ba dr pa of_ br lo U.out.1 U.out.2.1 U.out.2.2.1 U.out.2.2.2.1 U.out.2.2.2.2).mono ?_
  rintro e w4 ⟨C, csv, crv, ctv, rfl, hc, hm, k4, hown⟩
  clear x0 x1 x2 x3 x4 x5 x6 x7
  obtain ⟨sg, sgc, ru, ruc, tb, tbc, rfl, rfl, rfl⟩ := hc.shape
  unfold Cfg.val Cfg.cells
  have HM := hid hm
  have K4 := hid (K3.out.trans k4)
  have HG4 := hid (HG.out.keep K4.out)
  have HC4 := hid hc
  clear hc hm k4 hown H1 H2 H3 HB HB2 K1 K2 K3 HW1 U HG HG0
  go_wp2_with fail
  refine (mencode_any HC4.out (by have := HM.out.short; omega) HM.out.laid.bytes).mono ?_
  rintro e w5 ⟨v5, rfl, ho, hk, hn5⟩
  have K5 := hid (K4.out.trans hk)
  have HG5 := hid (HG4.out.keep hk)
  obtain ⟨BB, hBB⟩ : ∃ x, cfgB C = x := ⟨_, rfl⟩
  have himg : imgL C = BB ++ [((mof BB).toNat : Int) / 256, ((mof BB).toNat : Int) % 256] := by rw [← hBB]; rfl
  rw [hBB, ← himg] at ho
  obtain ⟨N, hN⟩ : ∃ N, BB.length = N := ⟨_, rfl⟩
  rw [hN] at ho
  have h22 : 22 ≤ N := by rw [← hN, ← hBB, cfgB_len]; omega
  have h898 : N ≤ 898 := by rw [← hN, ← hBB]; exact HM.out.short
  have HBB := hid hBB
  have HIMG := hid himg
  have HN := hid hN
  have HBY : Hid (Bytes BB) := hid (by rw [← hBB]; exact HM.out.laid.bytes)
  have HIB : Hid (Bytes (imgL C)) := hid (imgL_bytes HM.out.laid)
  have HIL : Hid ((imgL C).length = N + 2) := hid (by rw [himg]; simp [hN])
  have HS5 : Hid (Sl w5 1 v5 (N + 2) ((imgL C).map (Value.int .u8))) := hid (Sl.ofOwn ho)
  have HN5 := hid hn5
  obtain ⟨a5, c5, rfl⟩ := own_any ho
  have hcap := Sl.cap HS5.out
  have hfr := Sl.front HS5.out (m := N) (by omega)
  rw [Nat.mul_one, HIMG.out, List.map_append, List.take_append_of_le_length (by rw [List.length_map, HN.out]; omega), List.take_of_length_le (by rw [List.length_map, HN.out]; omega)] at hfr
  have HF5 : Hid (Sl w5 1 (.slice a5 N c5) N (BB.map (Value.int .u8))) := hid hfr
  have HIZ : Hid (mof (imgL C) = 0#16) := hid (img_zero C HM.out.laid.bytes)
  obtain ⟨hb10, hb11⟩ := B1.out
  obtain ⟨hb20, hb21⟩ := B2.out
  obtain ⟨hb30, hb31⟩ := B3.out
  -- the first place
  obtain ⟨i1, hq1⟩ : ∃ q : Nat, a1 % ((N : Int) + 2) = (q : Int) := ⟨(a1 % ((N : Int) + 2)).toNat, by have := Int.emod_nonneg a1 (show ((N : Int) + 2) ≠ 0 by omega); omega⟩
  have hi1 : i1 < N + 2 := by have := Int.emod_lt_of_pos a1 (show 0 < (N : Int) + 2 by omega); omega
  have hi1l : i1 < (imgL C).length := by rw [HIL.out]; exact hi1
  have hxb := HIB.out (imgL C)[i1] (List.getElem_mem hi1l)
  have hg0 : (imgL C)[i1]? = some (imgL C)[i1] := List.getElem?_eq_getElem hi1l
  have HT1 : Hid (∀ (o : Option PCfg) (at_ c : Int), a2 ≠ 0 → DecS ((imgL C).set i1 (xb (imgL C)[i1] a2)) o at_ c → c = 3) := hid (fun o at_ c h0 h => turn_dec HIB.out (by rw [HIL.out]; omega) HIZ.out hi1l B2.out h0 h)
  have hQ1b : Bytes ((imgL C).set i1 (xb (imgL C)[i1] a2)) := set_bytes HIB.out i1 (xb_byte hxb B2.out)
  have hQ1l : ((imgL C).set i1 (xb (imgL C)[i1] a2)).length = N + 2 := by rw [List.length_set]; exact HIL.out
  obtain ⟨x, hx⟩ : ∃ x, (imgL C)[i1] = x := ⟨_, rfl⟩
  rw [hx] at hxb hg0 HT1 hQ1b hQ1l
  obtain ⟨hx0, hx1⟩ := hxb
  have ex1 : bits .xor .u8 x a2 = xb x a2 := u8_xor x a2 hx0 (by omega) hb20 (by omega)
  obtain ⟨Q1, hQ1⟩ : ∃ Q, (imgL C).set i1 (xb x a2) = Q := ⟨_, rfl⟩
  rw [hQ1] at HT1 hQ1b hQ1l
  have HQ1 := hid hQ1
  have HQ1B := hid hQ1b
  have HQ1L := hid hQ1l
  have HG0 := hid hg0
  -- the second place
  obtain ⟨i2, hq2⟩ : ∃ q : Nat, a1 % (N : Int) = (q : Int) := ⟨(a1 % (N : Int)).toNat, by have := Int.emod_nonneg a1 (show (N : Int) ≠ 0 by omega); omega⟩
  have hi2 : i2 < N := by have := Int.emod_lt_of_pos a1 (show 0 < (N : Int) by omega); omega
  have hi2l : i2 < BB.length := by rw [HN.out]; exact hi2
  have hyb := HBY.out BB[i2] (List.getElem_mem hi2l)
  have hg2 : BB[i2]? = some BB[i2] := List.getElem?_eq_getElem hi2l
  obtain ⟨y, hy⟩ : ∃ x, BB[i2] = x := ⟨_, rfl⟩
  rw [hy] at hyb hg2
  have hQ2b : Bytes (BB.set i2 (xb y a2)) := set_bytes HBY.out i2 (xb_byte hyb B2.out)
  have hQ2l : (BB.set i2 (xb y a2)).length = N := by rw [List.length_set]; exact HN.out
  obtain ⟨hy0, hy1⟩ := hyb
  have ey1 : bits .xor .u8 y a2 = xb y a2 := u8_xor y a2 hy0 (by omega) hb20 (by omega)
  obtain ⟨Q2, hQ2⟩ : ∃ Q, BB.set i2 (xb y a2) = Q := ⟨_, rfl⟩
  rw [hQ2] at hQ2b hQ2l
  have HQ2 := hid hQ2
  have HQ2B := hid hQ2b
  have HQ2L := hid hQ2l
  have HG2 := hid hg2
  -- where it is cut
  obtain ⟨r, hq3⟩ : ∃ q : Nat, a3 % (N : Int) = (q : Int) := ⟨(a3 % (N : Int)).toNat, by have := Int.emod_nonneg a3 (show (N : Int) ≠ 0 by omega); omega⟩
  have hrn : r < N := by have := Int.emod_lt_of_pos a3 (show 0 < (N : Int) by omega); omega
  have hrt : ((N : Int) - (r : Int)).toNat = N - r := by omega
  have hr0 : (0 : Int) ≤ (N : Int) - (r : Int) := by omega
  clear ho hk hn5 hBB himg hN hfr hg0 hQ1 hQ1b hQ1l hx hi1l hi2l hg2 hy hQ2 hQ2b hQ2l
  go_wp2_with fail
  refine (mjoin_any (p := imgL C) (q := []) (by unfold SlB; rw [HIL.out]; exact HS5.out) (Sl.nil _ _) (by rw [HIL.out]; simp; omega)).mono ?_
  rintro e w6 ⟨v6, rfl, ho, k6, hb6⟩
  simp only [List.append_nil, List.length_nil, Nat.add_zero, HIL.out] at ho
  obtain ⟨g6, c6, rfl⟩ := own_some ho (by omega)
  have hg6 : w5.heap.size ≤ g6 := hb6 g6 rfl
  have x0 : w6.cell? ⟨g6, i1, none⟩ = some (.int .u8 x) := by rw [ho.cellAt i1 (by omega), List.getElem?_map, HG0.out]; rfl
  have f0 := ho.frozenAt i1
  have ho7 := (ho.stored i1 (.int .u8 (xb x a2))).1
  rw [← List.map_set, HQ1.out] at ho7
  have K7 : Hid (Keeps No w5 (w6.setCell ⟨g6, i1, none⟩ (.int .u8 (xb x a2)))) := hid (k6.setCell (p := ⟨g6, i1, none⟩) (Or.inl hg6) _)
  have HS7 : Hid (SlB (w6.setCell ⟨g6, i1, none⟩ (.int .u8 (xb x a2))) (.slice (some ⟨g6, 0, none⟩) (N + 2) c6) Q1) := hid (by unfold SlB; rw [HQ1L.out]; exact Sl.ofOwn ho7)
  clear ho ho7 k6 hb6 hg6
  go_wp2_with fail
  refine (Decode_any (HG5.out.keep K7.out) HS7.out HQ1B.out (by have := HQ1L.out; omega)).mono ?_
  rintro e w8 ⟨o, at_, c, cv, hd, rfl, hcf, k8⟩
  have HT2 := hid (fun h0 => HT1.out o at_ c h0 hd)
  obtain ⟨D, sa9, ra9, ta9, sc9, rc9, tc9, rfl, _, _⟩ := hcf.cfg
  unfold Cfg.val Cfg.cells
  have K8 := hid (K7.out.trans k8)
  have HS8 := hid (HS7.out.keep k8 (fun _ _ h => h))
  clear hd hcf k8 HS7 K7 x0 f0 ex1
  obtain ⟨W9, hW9⟩ : ∃ x, w8.alloc (.cells #[.slice sa9 D.sigs.length sc9, .slice ra9 D.ruls.length rc9, .slice ta9 D.tab.length tc9, .int .i64 D.b0, .int .i64 D.b1, .int .i64 D.b2, .int .i64 D.drain, .int .i64 D.pause, .int .i64 D.off, .bool D.brk, .int .i64 D.log] 33) = x := ⟨_, rfl⟩
  have k9 : Keeps No w8 W9 := by rw [← hW9]; exact (Keeps.refl _ _).alloc _
  have HW9 := hid hW9
  have K9 := hid (K8.out.trans k9)
  have HS9 := hid (HS8.out.keep k9 (fun _ _ h => h))
  clear hW9 k9 HS8 K8
  go_upto_region 7 with fail
  rw [HW9.out]
  have hcase : ((a2 != 0) = false) ∨ ((a2 != 0) = true ∧ c = 3) := by
    by_cases h0 : a2 = 0
    · exact Or.inl (by simpa using h0)
    · exact Or.inr ⟨by simpa using h0, HT2.out h0⟩
  rcases hcase with ht0 | ⟨ht0, rfl⟩
  all_goals
    go_wp2_with fail
    refine (decodes_true (HG5.out.keep K9.out) HS9.out HQ1B.out (by have := HQ1L.out; omega)).mono ?_
    rintro e w10 ⟨rfl, k10⟩
    have K10 := hid (K9.out.trans k10)
    have HFA := hid (HF5.out.keep K10.out (fun _ _ h => h))
    clear k10
    go_wp2_with fail
    refine (mjoin_any (p := BB) (q := []) (by unfold SlB; rw [HN.out]; exact HFA.out) (Sl.nil _ _) (by rw [HN.out]; simp; omega)).mono ?_
    rintro e w11 ⟨v11, rfl, ho, k11, hb11'⟩
    simp only [List.append_nil, List.length_nil, Nat.add_zero, HN.out] at ho
    obtain ⟨g11, c11, rfl⟩ := own_some ho (by omega)
    have hg11 : w10.heap.size ≤ g11 := hb11' g11 rfl
    have x0 : w11.cell? ⟨g11, i2, none⟩ = some (.int .u8 y) := by rw [ho.cellAt i2 (by omega), List.getElem?_map, HG2.out]; rfl
    have f0 := ho.frozenAt i2
    have ho7 := (ho.stored i2 (.int .u8 (xb y a2))).1
    rw [← List.map_set, HQ2.out] at ho7
    have K12 : Hid (Keeps No w10 (w11.setCell ⟨g11, i2, none⟩ (.int .u8 (xb y a2)))) := hid (k11.setCell (p := ⟨g11, i2, none⟩) (Or.inl hg11) _)
    have hs12 := Sl.ofOwn ho7
    have hcap12 := Sl.cap hs12
    have hrc : (N : Int) - (r : Int) ≤ (c11 : Int) := by omega
    have hf12 := Sl.front hs12 (m := N - r) (by omega)
    rw [Nat.mul_one, ← List.map_take] at hf12
    have hql : (Q2.take (N - r)).length = N - r := by rw [List.length_take, HQ2L.out]; omega
    have hqb : Bytes (Q2.take (N - r)) := fun z hz => HQ2B.out z (List.mem_of_mem_take hz)
    obtain ⟨Q3, hQ3⟩ : ∃ Q, Q2.take (N - r) = Q := ⟨_, rfl⟩
    rw [hQ3] at hf12 hql hqb
    have HF12 := hid hf12
    have HQ3L := hid hql
    have HQ3B := hid hqb
    have KM := hid ((K5.out.trans K10.out).trans K12.out)
    clear ho ho7 k11 hb11' hg11 hs12 hf12 hql hqb hQ3 hcap12
    go_wp2_with fail
    refine (mjoin_any (p := Q3) (q := more) (by unfold SlB; rw [HQ3L.out]; exact HF12.out) (HMO.out.keep KM.out (fun _ _ h => h)) (by rw [HQ3L.out]; omega)).mono ?_
    rintro e w13 ⟨v13, rfl, ho, k13, _⟩
    obtain ⟨P1, hP1⟩ : ∃ P, Q3 ++ more = P := ⟨_, rfl⟩
    have hl1 : P1.length = Q3.length + more.length := by rw [← hP1, List.length_append]
    rw [hP1, ← hl1] at ho
    have HL1 := hid (show P1.length ≤ 938 by have := HQ3L.out; omega)
    have HB1 : Hid (Bytes P1) := hid (by rw [← hP1]; exact HQ3B.out.app HMB.out)
    have HS13 := hid (show SlB w13 v13 P1 from Sl.ofOwn ho)
    obtain ⟨a13, c13, rfl⟩ := own_any ho
    have K13 := hid (KM.out.trans k13)
    have KG13 := hid ((K10.out.trans K12.out).trans k13)
    clear ho k13 hP1 hl1
    go_wp2_with fail
    refine (mclose_any HS13.out HB1.out (by have := HL1.out; omega)).mono ?_
    rintro e w14 ⟨v14, rfl, ho, k14, _⟩
    obtain ⟨P2, hP2⟩ : ∃ P, P1 ++ [((mof P1).toNat : Int) / 256, ((mof P1).toNat : Int) % 256] = P := ⟨_, rfl⟩
    have hl2 : P2.length = P1.length + 2 := by rw [← hP2]; simp
    rw [hP2, ← hl2] at ho
    have HL2 := hid (show P2.length ≤ 940 by have := HL1.out; omega)
    have HB2x : Hid (Bytes P2) := hid (by rw [← hP2]; exact HB1.out.app (sum_bytes _))
    have HS14 := hid (show SlB w14 v14 P2 from Sl.ofOwn ho)
    obtain ⟨a14, c14, rfl⟩ := own_any ho
    have K14 := hid (K13.out.trans k14)
    have KG14 := hid (KG13.out.trans k14)
    clear ho k14 hP2 hl2
    go_wp2_with fail
    refine (decodes_true (HG5.out.keep KG14.out) HS14.out HB2x.out (by have := HL2.out; omega)).mono ?_
    rintro e w15 ⟨rfl, k15⟩
    have K15 := hid (K14.out.trans k15)
    clear k15
    go_wp2_with fail
    go_ret
    exact ⟨rfl, K15.out.toBelow⟩

theorem own : ownKnob Tryd.prog.godebug = none := by kernel_rfl
theorem laidOut : laidOutB Tryd.prog = true := by kernel_rfl
set_option maxRecDepth 100000 in
theorem lifted (os : Os) (started : os.Started) (H : Type) (enc : TypeId × Value → H) :
    ReturnsInHanded {} Tryd.checked os 5 .any (fun w args => (Rows.imageTurnedSpec.pre enc Tryd.prog Tryd.f5 [] false w args ∧ laidMetH Tryd.prog [("errors.errorType", Rows.laid_errors_errorType)] w) ∧ sizedMet enc Tryd.prog Tryd.f5 (OpenSpec.ofChange Rows.imageTurnedSpec) false w args) (Rows.imageTurnedSpec.post enc Tryd.prog Tryd.f5 false true false false) := by
  refine returnsInHanded_of_change_and (C := Tryd.checked) (X := fun w _ => laidMetH Tryd.prog [("errors.errorType", Rows.laid_errors_errorType)] w) (fun _ _ _ hh h => h.of_heap hh) own started (by kernel_rfl) Tryd.func5
    (ChangeSpec.witness_at (enc := enc) (C := Tryd.checked) (os := os) (X := fun w _ => laidMetH Tryd.prog [("errors.errorType", Rows.laid_errors_errorType)] w) false (laidWorld os) #[.agg #[.slice none 0 0, .slice none 0 0, .int .u8 0, .int .u8 0, .int .u8 0, .int .u8 0, .bool false, .int .u8 0], .int .u16 0, .int .u8 0, .int .u16 0, .slice none 0 0] 8 rfl (by kernel_rfl) (by kernel_rfl) (by kernel_rfl) (by kernel_rfl) (by kernel_rfl) (laidWorld_met os _)) ?_
  intro W base args ds gs before hval0 hW hcnd _ hL _
  have hg := handle_of_laid hL
  have hval : ∀ (j : Nat) t v, Tryd.f5.params[j]? = some t → args[j]? = some v → Value.okWide Tryd.prog W .any base t v := hval0
  have hW' := hW
  obtain ⟨p, q, hA0, hV, rfl, hfz, hnd⟩ := hW
  have hA : DataW.TrodAll enc Tryd.prog W 0 (fun _ => true) true Tryd.f5.params.toList args.toList ds p := hA0
  rw [Tryd.params5] at hA hval
  obtain ⟨v0, vs0, d0, ds0, p0, q0, hargs, rfl, rfl, h0, r0⟩ := trodAll_cons hA
  obtain ⟨v1, vs1, d1, ds1, p1, q1, rfl, rfl, rfl, h1, r1⟩ := trodAll_cons r0
  obtain ⟨v2, vs2, d2, ds2, p2, q2, rfl, rfl, rfl, h2, r2⟩ := trodAll_cons r1
  obtain ⟨v3, vs3, d3, ds3, p3, q3, rfl, rfl, rfl, h3, r3⟩ := trodAll_cons r2
  obtain ⟨v4, vs4, d4, ds4, p4, q4, rfl, rfl, rfl, h4, r4⟩ := trodAll_cons r3
  obtain ⟨rfl, rfl, rfl⟩ := trodAll_nil r4
  obtain rfl : args = #[v0, v1, v2, v3, v4] := by cases args; simp_all
  obtain ⟨rfl, rfl⟩ := trodVars_none hV
  have k0 := h0
  have lt0 : ∀ x ∈ p0, x.block < W.heap.size := by obtain ⟨m, hm⟩ := k0; exact DataW.trod_lt m _ _ _ hm
  have k1 := h1
  have lt1 : ∀ x ∈ p1, x.block < W.heap.size := by obtain ⟨m, hm⟩ := k1; exact DataW.trod_lt m _ _ _ hm
  have k2 := h2
  have lt2 : ∀ x ∈ p2, x.block < W.heap.size := by obtain ⟨m, hm⟩ := k2; exact DataW.trod_lt m _ _ _ hm
  have k3 := h3
  have lt3 : ∀ x ∈ p3, x.block < W.heap.size := by obtain ⟨m, hm⟩ := k3; exact DataW.trod_lt m _ _ _ hm
  have k4 := h4
  have lt4 : ∀ x ∈ p4, x.block < W.heap.size := by obtain ⟨m, hm⟩ := k4; exact DataW.trod_lt m _ _ _ hm
  obtain ⟨rules, rv, slots, sv, ba, dr, pa, of_, br, lo, rfl, hd, u1, u2, u3, u4, u5⟩ := argDraft (hval 0 25 v0 rfl rfl) h0
  obtain ⟨a1, rfl, rfl, rfl, w1⟩ := open_int Tryd.underlying44 (hval 1 44 v1 rfl rfl) h1
  obtain ⟨a2, rfl, rfl, rfl, w2⟩ := open_int Tryd.underlying5 (hval 2 5 v2 rfl rfl) h2
  obtain ⟨a3, rfl, rfl, rfl, w3⟩ := open_int Tryd.underlying44 (hval 3 44 v3 rfl rfl) h3
  obtain ⟨s4, len4, cap4, rfl⟩ := okWide_slice Tryd.underlying23 (hval 4 23 v4 rfl rfl)
  obtain ⟨l4, rfl, w4, b4⟩ := argInts .u8 Tryd.underlying23 Tryd.underlying5 (by kernel_rfl) h4
  clear hA0 hval0
  refine (walk W hg rules rv slots sv ba dr pa of_ br lo hd u1 u2 u3 u4 u5 a1 w1 a2 w2 a3 w3 s4 cap4 l4 w4 b4).mono fun e W' ⟨he, bel⟩ => ?_
  subst he
  exact ⟨_, rfl, _, _, _, [], _, [], hW', trodAll_mk1 (shut_bool Tryd.underlying4 _), (trodAll_cons_mk (Below.trod laidOut (by kernel_rfl) (of_decide_eq_true (by kernel_rfl)) k0 bel lt0) (trodAll_cons_mk (Below.trod laidOut (by kernel_rfl) (of_decide_eq_true (by kernel_rfl)) k1 bel lt1) (trodAll_cons_mk (Below.trod laidOut (by kernel_rfl) (of_decide_eq_true (by kernel_rfl)) k2 bel lt2) (trodAll_cons_mk (Below.trod laidOut (by kernel_rfl) (of_decide_eq_true (by kernel_rfl)) k3 bel lt3) (trodAll_cons_mk (Below.trod laidOut (by kernel_rfl) (of_decide_eq_true (by kernel_rfl)) k4 bel lt4) trodAll_mk0))))), rfl, bel.frame _, fun h => by cases h⟩

theorem over : Rows.imageTurnedRow.holds Tryd.pinned (OpenSpec.ofChange Rows.imageTurnedSpec) :=
  OpenClaim.holds_of_wide 5 Tryd.f5 rfl rfl rfl rfl rfl rfl rfl ⟨rfl, rfl, rfl, rfl, rfl⟩ rfl rfl rfl rfl rfl (by kernel_rfl) Tryd.func5 (by kernel_rfl)
    (of_decide_eq_true (by kernel_rfl)) (by unfold Func.isWrapper; first | (rw [if_pos (by decide +kernel)]; kernel_rfl) | (rw [if_neg (by decide +kernel)]; exact ⟨rfl, rfl⟩))
    (fun os started H enc _ => lifted os started H enc)

theorem proved : Rows.ImageTurnedCardSaid :=
  Claim7.holds_tied_plain_at .later [] [.handle] true (true, "bf61a0ac0b77768fd6463ca71fcf3807c313b05a13ffb6325fe70bc381b5822f") true
    over (fun _ h => by cases h) (by kernel_rfl) (fun _ h => by cases h) imageTurned_row_tie rfl ⟨rfl, rfl⟩ (by kernel_rfl) rfl
    (fun f fn hf hfn => by
      obtain rfl : f = 5 := Option.some.inj ((show Tryd.prog.funcNamed "handbell/handbelllaw06.ImageTurned" = some 5 by kernel_rfl).symm.trans hf) |>.symm
      obtain rfl : fn = Tryd.f5 := (Option.some.inj (Tryd.func5.symm.trans hfn)).symm
      exact ⟨by kernel_rfl, fun j t ht => by
        rw [Tryd.params5] at ht
        have hm : t ∈ (#[25, 44, 5, 44, 23] : Array TypeId).toList := by
          have := Array.mem_of_getElem? ht
          simpa using this
        simp at hm
        rcases hm with rfl | rfl | rfl | rfl | rfl
        · exact (show Tryd.prog.wantsStandIn 25 = false by kernel_rfl)
        · exact (show Tryd.prog.wantsStandIn 44 = false by kernel_rfl)
        · exact (show Tryd.prog.wantsStandIn 5 = false by kernel_rfl)
        · exact (show Tryd.prog.wantsStandIn 44 = false by kernel_rfl)
        · exact (show Tryd.prog.wantsStandIn 23 = false by kernel_rfl)⟩)
    (by kernel_rfl)
#print axioms proved
end Go.Proofs.YtlenhccdkhgfgaaDoor.imageTurned
