/- In each round a rule is looked at as often as it stands in the table, once at least. No conditions. -/
import Derived.Test.YtfiijbpcaceibaaRows
import Derived.Test.YtfiijbpcaceibaaArgsE
import Derived.Test.YtfiijbpcaceibaaMake2
import Derived.Test.YtfiijbpcaceibaaTblK
import Derived.Test.YtfiijbpcaceibaaTblM
import Derived.Test.YtfiijbpcaceibaaShort14
import Derived.ProofKit
import Derived.OpenShut
import Derived.Deep.RegionHeld3
import Derived.Deep.DeepCutAuto
import Derived.Deep.CutBlock
namespace Go.Proofs.Ytfiijbpcaceibaa.tableCounts
open Go.ChangeShapes Go.WideShapes Go.ChangeAt Go.RowKit
open Go.ChangeMaps (open_string shut_string)
set_option linter.unusedVariables false

theorem count_take {l : List Int} {j : Nat} (hj : j < l.length) (x : Int) : (l.take (j + 1)).count x = (l.take j).count x + (if l[j] = x then 1 else 0) := by
  rw [List.take_succ_eq_append_getElem hj, List.count_append]
  congr 1
  by_cases h : l[j] = x
  · subst h; simp
  · have : ¬ l[j] = x := h
    simp [List.count_singleton, this]

/-- How often a rule stands in the slot of a tick. -/
def cntD (T : List (List Int)) (k : Int) (y : Nat) : Nat := (slotD T ((y : Int) + 1)).count k

theorem cntD_round (T : List (List Int)) (k : Int) (hL : 1 ≤ T.length) (y : Nat) : cntD T k (y + T.length) = cntD T k y := by
  unfold cntD
  have := slotD_round T ((y : Int) + 1) 1 (by omega) hL
  simp only [Int.natCast_one, Int.one_mul] at this
  rw [← this]
  congr 2
  omega

theorem cntD_at (T : List (List Int)) (k : Int) (y : Nat) (hy : y < T.length) : cntD T k y = (T[y]).count k := by
  unfold cntD slotD
  rw [if_neg (by omega), show ((y : Int) + 1 - 1) = (y : Int) by omega, show ((y : Int) % (T.length : Int)).toNat = y by rw [Int.emod_eq_of_lt (by omega) (by omega)]; simp]
  simp [hy]

theorem sumF_pos (f : Nat → Nat) (c n x : Nat) (hx : x < n) (hf : 1 ≤ f (c + x)) : 1 ≤ sumF f c n := by
  induction n with
  | zero => omega
  | succ n ih =>
    unfold sumF
    by_cases h : x = n
    · subst h; omega
    · have := ih (by omega); omega

set_option maxHeartbeats 8000000 in
set_option maxRecDepth 100000 in
theorem walk (w : World) (rules : List (LineD × Value)) (rv : Value) (slots : List Int) (sv : Value) (ba dr pa of_ : Int) (br : Bool) (lo : Int) (hd : DraftR w rules rv slots sv) (u1 : U8 ba) (u2 : U8 dr) (u3 : U8 pa) (u4 : U8 of_) (u5 : U8 lo) (ru8 : Int) (wr : (Lit.int .u8 ru8).wf = true) (from_ : Int) (wa : (Lit.int .u16 from_).wf = true) :
    Calls Try.prog 7 #[.agg #[rv, sv, .int .u8 ba, .int .u8 dr, .int .u8 pa, .int .u8 of_, .bool br, .int .u8 lo], .int .u8 ru8, .int .u16 from_] w fun e w' => e = .returned (.bool true) ∧ Below w.heap.size w w' := by
  obtain ⟨a0, a1⟩ := bounds_u16 wa
  obtain ⟨r0, r1⟩ := bounds_u8 wr
  clear wa wr
  obtain ⟨s, rfl⟩ : ∃ s : Nat, from_ = s := ⟨from_.toNat, by omega⟩
  obtain ⟨ra, rc, rfl⟩ := hd.rul.any
  obtain ⟨sa, sc, rfl⟩ := hd.slo.any
  obtain ⟨W1, hW1⟩ : ∃ W1, w.alloc (.cells #[.slice ra rules.length rc, .slice sa slots.length sc, .int .u8 ba, .int .u8 dr, .int .u8 pa, .int .u8 of_, .bool br, .int .u8 lo] 25) = W1 := ⟨_, rfl⟩
  have k1 : Keeps No w W1 := by rw [← hW1]; exact (Keeps.refl _ _).alloc _
  have hb : BlkL W1 w.heap.size 25 [.slice ra rules.length rc, .slice sa slots.length sc, .int .u8 ba, .int .u8 dr, .int .u8 pa, .int .u8 of_, .bool br, .int .u8 lo] := by rw [← hW1]; exact heap_alloc_new w _
  have H1 := hid (hd.calm k1)
  have HB := hid hb
  have HW1 := hid hW1
  have K1 := hid k1
  have U := hid (show U8 ba ∧ U8 dr ∧ U8 pa ∧ U8 of_ ∧ U8 lo from ⟨u1, u2, u3, u4, u5⟩)
  clear hd hW1 k1 hb u1 u2 u3 u4 u5
  go_enter Try.func7, Try.ntmps7
  go_upto_region 1 with fail
  rw [HW1.out]
  go_wp2_with fail
  refine (gaps_true _).mono ?_
  rintro e w2 ⟨rfl, k2⟩
  have hb := HB.out.keep k2 (fun h => h)
  have K2 := hid (K1.out.trans k2)
  have H2 := hid (H1.out.calm k2)
  have HB2 := hid hb
  have x0 := hb.cell (o := 0) rfl
  have x1 := hb.cell (o := 1) rfl
  have x2 := hb.cell (o := 2) rfl
  have x3 := hb.cell (o := 3) rfl
  have x4 := hb.cell (o := 4) rfl
  have x5 := hb.cell (o := 5) rfl
  have x6 := hb.cell (o := 6) rfl
  have x7 := hb.cell (o := 7) rfl
  clear hb k2
  go_wp2_with fail
  refine (short14_any H2.out ba dr pa of_ br lo).mono ?_
  rintro e w3 ⟨bs, rfl, k3⟩
  clear x0 x1 x2 x3 x4 x5 x6 x7
  have K3 := hid (K2.out.trans k3)
  have H3 := hid (H2.out.calm k3)
  have hb := HB2.out.keep k3 (fun h => h)
  clear k3
  cases bs
  · clear hb
    go_wp2_with fail
    refine (gaps_true _).mono ?_
    rintro e w4 ⟨rfl, k4⟩
    have K4 := hid (K3.out.trans k4)
    clear k4
    go_wp2_with fail
    go_ret
    exact ⟨rfl, K4.out.toBelow⟩
  have x0 := hb.cell (o := 0) rfl
  have x1 := hb.cell (o := 1) rfl
  have x2 := hb.cell (o := 2) rfl
  have x3 := hb.cell (o := 3) rfl
  have x4 := hb.cell (o := 4) rfl
  have x5 := hb.cell (o := 5) rfl
  have x6 := hb.cell (o := 6) rfl
  have x7 := hb.cell (o := 7) rfl
  clear hb
  go_wp2_with fail
  refine (make_any H3.out ba dr pa of_ br lo U.out.1 U.out.2.1 U.out.2.2.1 U.out.2.2.2.1 U.out.2.2.2.2).mono ?_
  rintro e w4 ⟨C, csv, crv, ctv, rfl, hc, hm, k4⟩
  clear x0 x1 x2 x3 x4 x5 x6 x7
  obtain ⟨sg, sgc, ru, ruc, tb, tbc, rfl, rfl, rfl⟩ := hc.shape
  unfold Cfg.val Cfg.cells
  have K4 := hid (K3.out.trans k4)
  have HC4 := hid hc
  have HM := hid hm
  have HML : Hid (∀ l ∈ C.tab, l.1.length ≤ 100000) := hid (made_short hm)
  have hL := hm.slots
  clear hc hm k4 K1 K2 K3 H1 H2 H3 HB HB2 U HW1
  obtain ⟨cb, hcb⟩ : ∃ y, w4.heap.size = y := ⟨_, rfl⟩
  obtain ⟨W5, hW5⟩ : ∃ W5, w4.alloc (.cells #[.slice sg C.sigs.length sgc, .slice ru C.ruls.length ruc, .slice tb C.tab.length tbc, .int .i64 C.b0, .int .i64 C.b1, .int .i64 C.b2, .int .i64 C.drain, .int .i64 C.pause, .int .i64 C.off, .bool C.brk, .int .i64 C.log] 33) = W5 := ⟨_, rfl⟩
  have HC5 : Hid (CfgR W5 C (.slice sg C.sigs.length sgc) (.slice ru C.ruls.length ruc) (.slice tb C.tab.length tbc)) := hid (HC4.out.calm (by rw [← hW5]; exact (Keeps.refl _ _).alloc _))
  have HB5 : Hid (Bk W5 cb 33 [.slice sg C.sigs.length sgc, .slice ru C.ruls.length ruc, .slice tb C.tab.length tbc, .int .i64 C.b0, .int .i64 C.b1, .int .i64 C.b2, .int .i64 C.drain, .int .i64 C.pause, .int .i64 C.off, .bool C.brk, .int .i64 C.log]) := hid (by rw [← hW5]; exact Bk.new hcb _ _)
  have K5 : Hid (Keeps No w W5) := hid (by rw [← hW5]; exact K4.out.alloc _)
  have HW5 := hid hW5
  have HCB := hid hcb
  have HNC : Hid (w.heap.size ≤ cb) := hid (by rw [← hcb]; exact K4.out.size)
  clear hcb hW5 K4 HC4
  have hN := HM.out.few
  obtain ⟨k, hk⟩ : ∃ k : Nat, ru8.tmod (C.ruls.length : Int) = k := ⟨(ru8.tmod (C.ruls.length : Int)).toNat, by rw [Int.tmod_eq_emod_of_nonneg r0]; have := Int.emod_nonneg ru8 (show (C.ruls.length : Int) ≠ 0 by omega); omega⟩
  have hkN : k < C.ruls.length := by rw [Int.tmod_eq_emod_of_nonneg r0] at hk; have := Int.emod_lt_of_pos ru8 (show 0 < (C.ruls.length : Int) by omega); omega
  have hz1 : ¬ (C.ruls.length = 0) := by omega
  have hz2 : ((C.ruls.length : Int) == 0) = false := by simpa using hz1
  have hwk : IntKind.i64.wrap (k : Int) = (k : Int) := by simp only [IntKind.wrap_i64]; omega
  have HG0 : Hid (Goes (hasD (C.tab.map (·.1)) (k : Int)) C.tab.length) := hid (by
    have := hasD_goes (t := C.tab.map (·.1)) (r := (k : Int)) (by rw [List.length_map]; omega) (by
      obtain ⟨x, hx, hi⟩ := HM.out.stands k hkN
      exact ⟨x.1, List.mem_map_of_mem hx, hi⟩)
    rwa [List.length_map] at this)
  have HT : Hid (∀ (w' : World), Keeps No W5 w' → ∀ now : Int, (-9223372036854775808 ≤ now ∧ now ≤ 9223372036854775807) → Calls Try.prog 12 #[.agg #[.slice sg C.sigs.length sgc, .slice ru C.ruls.length ruc, .slice tb C.tab.length tbc, .int .i64 C.b0, .int .i64 C.b1, .int .i64 C.b2, .int .i64 C.drain, .int .i64 C.pause, .int .i64 C.off, .bool C.brk, .int .i64 C.log], .int .i64 now] w' fun e w'' => ∃ v, e = .returned v ∧ NewI w' w'' v (slotD (C.tab.map (·.1)) now) ∧ Keeps No w' w'') := hid (fun w' k now hn => tslot_any (sa := sg) (sn := C.sigs.length) (sc := sgc) (ra := ru) (rn := C.ruls.length) (rc := ruc) (HC5.out.calm k).tabR hL.1 now hn HML.out C.b0 C.b1 C.b2 C.drain C.pause C.off C.log C.brk)
  go_upto_region 4 with fail
  try rw [HW5.out, HCB.out]
  clear HW5 HCB
  have x1 := HB5.out.cell 1 rfl
  go_upto_region 5 with fail
  clear x1 HG0 hk hz1 hz2 hwk
  have hL1 := hL.1
  have hL6 := hL.2
  obtain ⟨T, hT⟩ : ∃ T, C.tab.map (·.1) = T := ⟨_, rfl⟩
  have hTL : T.length = C.tab.length := by rw [← hT, List.length_map]
  rw [hT] at HT
  have HTT := hid hT
  have HTL := hid hTL
  have HST : Hid (∃ x : Nat, x < T.length ∧ 1 ≤ cntD T k x) := hid (by
    obtain ⟨x, hx, hi⟩ := HM.out.stands k hkN
    obtain ⟨i, hi2, rfl⟩ := List.getElem_of_mem hx
    refine ⟨i, by rw [hTL]; exact hi2, ?_⟩
    rw [cntD_at T k i (by rw [hTL]; exact hi2)]
    have e : T[i]'(by rw [hTL]; exact hi2) = C.tab[i].1 := by simp [← hT]
    rw [e]
    exact List.count_pos_iff.2 hi)
  have hs : s ≤ 65535 := by omega
  clear hT hTL hL
  go_wp2_with fail
  go_loopw [9, 10, 11] (fun v9 v10 v11 wr => ∃ i a b : Nat, i ≤ C.tab.length ∧ v11 = .int .i64 i ∧ v9 = .int .i64 a ∧ v10 = .int .i64 b ∧ a ≤ 100000 * i ∧ b ≤ 100000 * i ∧ Hid (a = sumF (cntD T k) 0 i) ∧ Hid (b = sumF (cntD T k) s i) ∧ Hid (Keeps No W5 wr)) (fun _ _ v11 _ => C.tab.length - (intOf v11).toNat)
  case atStart => exact ⟨0, 0, 0, Nat.zero_le _, rfl, rfl, rfl, by omega, by omega, hid rfl, hid rfl, hid (Keeps.refl _ _)⟩
  case round =>
    obtain ⟨i, a, b, hi, rfl, rfl, rfl, ha, hb, HA, HB, HK⟩ := hrel
    have HBR := hid (HB5.out.kept HK.out)
    have y2 := HBR.out.cell 2 rfl
    by_cases hil : i < C.tab.length
    · have dle : decide ((i : Int) < (C.tab.length : Int)) = true := decide_eq_true (by omega)
      have htab := (HC5.out.calm HK.out).tabR
      obtain ⟨g, off, la, lc, rfl, hg, hc, hsl, _⟩ := TabR.at htab hil
      have hml := HML.out _ (List.getElem_mem hil)
      obtain ⟨l, hl⟩ : ∃ l, C.tab[i].1 = l := ⟨_, rfl⟩
      rw [hl] at hc hsl hml
      have hcl : l.count (k : Int) = cntD T k i := by
        rw [cntD_at T k i (by rw [HTL.out]; exact hil)]
        congr 1
        rw [← hl]
        simp [← HTT.out]
      have HCL := hid hcl
      have HSL := hid hsl
      clear htab hg hl hcl hsl
      go_wp2_with fail
      go_loop [9, 12] (fun v9 v12 => ∃ j a' : Nat, j ≤ l.length ∧ v12 = .int .i64 j ∧ v9 = .int .i64 a' ∧ a' ≤ 100000 * i + j ∧ Hid (a' = a + (l.take j).count (k : Int))) (fun _ v12 => l.length - (intOf v12).toNat)
      case atStart => exact ⟨0, a, Nat.zero_le _, rfl, rfl, by omega, hid (by simp)⟩
      case round =>
        obtain ⟨j, a', hj, rfl, rfl, haj, HAJ⟩ := hrel
        by_cases hjl : j < l.length
        · obtain ⟨g2, off2, rfl, _, hc2⟩ := SlI.cellAt HSL.out hjl
          have hct := count_take hjl (k : Int)
          obtain ⟨x, hx⟩ : ∃ x, l[j] = x := ⟨_, rfl⟩
          rw [hx] at hc2 hct
          have dj : decide ((j : Int) < (l.length : Int)) = true := decide_eq_true (by omega)
          by_cases hxk : x = (k : Int)
          · have dx : (x == (k : Int)) = true := by simpa using hxk
            have HA2 : Hid (a' + 1 = a + (l.take (j + 1)).count (k : Int)) := hid (by rw [hct, if_pos hxk]; have := HAJ.out; omega)
            clear hx hct
            go_wp2_with fail
            go_round
            case rel => exact ⟨j + 1, a' + 1, by omega, by go_num, by go_num, by omega, HA2⟩
            case measure => simp [intOf]; omega
          · have dx : (x == (k : Int)) = false := by simpa using hxk
            have HA2 : Hid (a' = a + (l.take (j + 1)).count (k : Int)) := hid (by rw [hct, if_neg hxk]; have := HAJ.out; omega)
            clear hx hct
            go_wp2_with fail
            go_round
            case rel => exact ⟨j + 1, a', by omega, by go_num, rfl, by omega, HA2⟩
            case measure => simp [intOf]; omega
        · have dj : decide ((j : Int) < (l.length : Int)) = false := decide_eq_false (by omega)
          have HA2 : Hid (a' = sumF (cntD T k) 0 (i + 1)) := hid (by
            have h1 := HAJ.out
            rw [List.take_of_length_le (by omega), HCL.out] at h1
            unfold sumF
            rw [Nat.zero_add, ← HA.out]
            exact h1)
          have ha2 : a' ≤ 100000 * (i + 1) := by omega
          clear haj HAJ HSL HCL y2
          have x0_0 := HBR.out.cell 0 rfl
          have x0_1 := HBR.out.cell 1 rfl
          have x0_2 := HBR.out.cell 2 rfl
          have x0_3 := HBR.out.cell 3 rfl
          have x0_4 := HBR.out.cell 4 rfl
          have x0_5 := HBR.out.cell 5 rfl
          have x0_6 := HBR.out.cell 6 rfl
          have x0_7 := HBR.out.cell 7 rfl
          have x0_8 := HBR.out.cell 8 rfl
          have x0_9 := HBR.out.cell 9 rfl
          have x0_10 := HBR.out.cell 10 rfl
          go_wp2_with fail
          refine (HT.out _ HK.out ((s : Int) + 1 + i) ⟨by omega, by omega⟩).mono ?_
          rintro e w7 ⟨v, rfl, hv, kp⟩
          have K7 := hid (HK.out.trans kp)
          obtain ⟨l3, hl3⟩ : ∃ l, slotD T ((s : Int) + 1 + i) = l := ⟨_, rfl⟩
          rw [hl3] at hv
          have hc3 : l3.count (k : Int) = cntD T k (s + i) := by
            rw [← hl3]
            unfold cntD
            rw [show (s : Int) + 1 + i = ((s + i : Nat) : Int) + 1 by omega]
          have HM3 : Hid (l3.length ≤ 100000) := hid (by
            rw [← hl3]
            unfold slotD
            rw [if_neg (by omega)]
            rcases Nat.lt_or_ge (((s : Int) + 1 + i - 1) % T.length).toNat T.length with h | h
            · have e : T.getD (((s : Int) + 1 + i - 1) % T.length).toNat [] = T[(((s : Int) + 1 + i - 1) % T.length).toNat] := by simp [h]
              rw [e]
              have hmem := List.getElem_mem h
              have hmem2 : T[(((s : Int) + 1 + i - 1) % T.length).toNat] ∈ C.tab.map (·.1) := by rw [HTT.out]; exact hmem
              obtain ⟨y, hy, e2⟩ := List.mem_map.1 hmem2
              rw [← e2]
              exact HML.out y hy
            · simp [h])
          obtain ⟨va, vc, rfl, hrow, _⟩ := hv
          have HV : Hid (SlI w7 (.slice va l3.length vc) l3) := hid (Sl.ofOwn hrow)
          have HC3 := hid hc3
          have hm3 := HM3.out
          clear kp hl3 hc3 hrow HBR x0_0 x0_1 x0_2 x0_3 x0_4 x0_5 x0_6 x0_7 x0_8 x0_9 x0_10
          go_wp2_with fail
          go_loop [10, 14] (fun v10 v14 => ∃ j b' : Nat, j ≤ l3.length ∧ v14 = .int .i64 j ∧ v10 = .int .i64 b' ∧ b' ≤ 100000 * i + j ∧ Hid (b' = b + (l3.take j).count (k : Int))) (fun _ v14 => l3.length - (intOf v14).toNat)
          case atStart => exact ⟨0, b, Nat.zero_le _, rfl, rfl, by omega, hid (by simp)⟩
          case round =>
            obtain ⟨j2, b', hj2, rfl, rfl, hbj, HBJ⟩ := hrel
            by_cases hjl2 : j2 < l3.length
            · obtain ⟨g2, off2, rfl, _, hc2⟩ := SlI.cellAt HV.out hjl2
              have hct := count_take hjl2 (k : Int)
              obtain ⟨x, hx⟩ : ∃ x, l3[j2] = x := ⟨_, rfl⟩
              rw [hx] at hc2 hct
              have dj2 : decide ((j2 : Int) < (l3.length : Int)) = true := decide_eq_true (by omega)
              by_cases hxk : x = (k : Int)
              · have dx : (x == (k : Int)) = true := by simpa using hxk
                have HB2 : Hid (b' + 1 = b + (l3.take (j2 + 1)).count (k : Int)) := hid (by rw [hct, if_pos hxk]; have := HBJ.out; omega)
                clear hx hct
                go_wp2_with fail
                go_round
                case rel => exact ⟨j2 + 1, b' + 1, by omega, by go_num, by go_num, by omega, HB2⟩
                case measure => simp [intOf]; omega
              · have dx : (x == (k : Int)) = false := by simpa using hxk
                have HB2 : Hid (b' = b + (l3.take (j2 + 1)).count (k : Int)) := hid (by rw [hct, if_neg hxk]; have := HBJ.out; omega)
                clear hx hct
                go_wp2_with fail
                go_round
                case rel => exact ⟨j2 + 1, b', by omega, by go_num, rfl, by omega, HB2⟩
                case measure => simp [intOf]; omega
            · have dj2 : decide ((j2 : Int) < (l3.length : Int)) = false := decide_eq_false (by omega)
              have HB2 : Hid (b' = sumF (cntD T k) s (i + 1)) := hid (by
                have h1 := HBJ.out
                rw [List.take_of_length_le (by omega), HC3.out] at h1
                unfold sumF
                rw [← HB.out]
                exact h1)
              have hb2 : b' ≤ 100000 * (i + 1) := by omega
              clear hbj HBJ
              go_wp2_with fail
              go_roundw
              case rel => exact ⟨i + 1, a', b', by omega, by go_num, rfl, rfl, ha2, hb2, HA2, HB2, K7⟩
              case measure => simp [intOf]; omega
    · obtain rfl : i = C.tab.length := by omega
      have dle : decide ((C.tab.length : Int) < (C.tab.length : Int)) = false := decide_eq_false (by omega)
      have hab : a = b := by
        have h1 := HA.out
        have h2 := HB.out
        rw [← HTL.out] at h1 h2
        rw [sumF_round (cntD T k) T.length (fun n => cntD_round T k (by rw [HTL.out]; exact hL1) n) s] at h2
        omega
      have hb1 : 1 ≤ b := by
        obtain ⟨x, hx, hf⟩ := HST.out
        have h1 := HA.out
        rw [← HTL.out] at h1
        have := sumF_pos (cntD T k) 0 T.length x hx (by rw [Nat.zero_add]; exact hf)
        omega
      subst hab
      have d1 : ((a : Int) == (a : Int)) = true := by simp
      have d2 : decide ((a : Int) ≥ 1) = true := decide_eq_true (by omega)
      go_wp2_with fail
      go_ret
      exact ⟨rfl, (K5.out.trans HK.out).toBelow⟩

theorem own : ownKnob Try.prog.godebug = none := by kernel_rfl
theorem laidOut : laidOutB Try.prog = true := by kernel_rfl
set_option maxRecDepth 100000 in
theorem lifted (os : Os) (started : os.Started) (H : Type) (enc : TypeId × Value → H) :
    ReturnsInHanded {} Try.checked os 7 .any (Rows.tableCountsSpec.pre6 enc Try.prog Try.f7 Rows.tableCountsRow.domain false) (Rows.tableCountsSpec.post enc Try.prog Try.f7 false true false false) := by
  refine returnsInHanded_of_change (C := Try.checked) own started (by kernel_rfl) Try.func7
    (ChangeSpec.witness6 (enc := enc) (C := Try.checked) false ⟨#[], #[.agg #[.slice none 0 0, .slice none 0 0, .int .u8 0, .int .u8 0, .int .u8 0, .int .u8 0, .bool false, .int .u8 0], .int .u8 0, .int .u16 0], []⟩ 8 (by kernel_rfl) (by kernel_rfl) (by kernel_rfl) (by kernel_rfl)) ?_
  intro W base args ds gs before hval0 hW hcnd _
  have hval : ∀ (j : Nat) t v, Try.f7.params[j]? = some t → args[j]? = some v → Value.okWide Try.prog W .any base t v := hval0
  have hW' := hW
  obtain ⟨p, q, hA0, hV, rfl, hfz, hnd⟩ := hW
  have hA : DataW.TrodAll enc Try.prog W 0 (fun _ => true) true Try.f7.params.toList args.toList ds p := hA0
  rw [Try.params7] at hA hval
  obtain ⟨v0, vs0, d0, ds0, p0, q0, hargs, rfl, rfl, h0, r0⟩ := trodAll_cons hA
  obtain ⟨v1, vs1, d1, ds1, p1, q1, rfl, rfl, rfl, h1, r1⟩ := trodAll_cons r0
  obtain ⟨v2, vs2, d2, ds2, p2, q2, rfl, rfl, rfl, h2, r2⟩ := trodAll_cons r1
  obtain ⟨rfl, rfl, rfl⟩ := trodAll_nil r2
  obtain rfl : args = #[v0, v1, v2] := by cases args; simp_all
  obtain ⟨rfl, rfl⟩ := trodVars_none hV
  have k0 := h0
  have lt0 : ∀ x ∈ p0, x.block < W.heap.size := by obtain ⟨m, hm⟩ := k0; exact DataW.trod_lt m _ _ _ hm
  have k1 := h1
  have lt1 : ∀ x ∈ p1, x.block < W.heap.size := by obtain ⟨m, hm⟩ := k1; exact DataW.trod_lt m _ _ _ hm
  have k2 := h2
  have lt2 : ∀ x ∈ p2, x.block < W.heap.size := by obtain ⟨m, hm⟩ := k2; exact DataW.trod_lt m _ _ _ hm
  obtain ⟨rules, rv, slots, sv, ba, dr, pa, of_, br, lo, rfl, hd, u1, u2, u3, u4, u5⟩ := argDraft (hval 0 25 v0 rfl rfl) h0
  obtain ⟨a1, rfl, rfl, rfl, w1⟩ := open_int Try.underlying5 (hval 1 5 v1 rfl rfl) h1
  obtain ⟨a2, rfl, rfl, rfl, w2⟩ := open_int Try.underlying39 (hval 2 39 v2 rfl rfl) h2
  clear hA0 hval0
  refine (walk W rules rv slots sv ba dr pa of_ br lo hd u1 u2 u3 u4 u5 a1 w1 a2 w2).mono fun e W' ⟨he, bel⟩ => ?_
  subst he
  exact ⟨_, rfl, _, _, _, [], _, [], hW', trodAll_mk1 (shut_bool Try.underlying4 _), (trodAll_cons_mk (Below.trod laidOut (by kernel_rfl) (of_decide_eq_true (by kernel_rfl)) k0 bel lt0) (trodAll_cons_mk (Below.trod laidOut (by kernel_rfl) (of_decide_eq_true (by kernel_rfl)) k1 bel lt1) (trodAll_cons_mk (Below.trod laidOut (by kernel_rfl) (of_decide_eq_true (by kernel_rfl)) k2 bel lt2) trodAll_mk0))), rfl, bel.frame _, fun h => by cases h⟩

theorem over : Rows.tableCountsRow.holds Try.pinned (OpenSpec.ofChange Rows.tableCountsSpec) :=
  OpenClaim.holds_of_wide 7 Try.f7 rfl rfl rfl rfl rfl rfl rfl ⟨rfl, rfl, rfl, rfl, rfl⟩ rfl rfl rfl rfl rfl (by kernel_rfl) Try.func7 (by kernel_rfl)
    (of_decide_eq_true (by kernel_rfl)) (by unfold Func.isWrapper; first | (rw [if_pos (by decide +kernel)]; kernel_rfl) | (rw [if_neg (by decide +kernel)]; exact ⟨rfl, rfl⟩))
    (fun os started H enc _ => lifted os started H enc)

theorem proved : Rows.TableCountsSaid := over
#print axioms proved
end Go.Proofs.Ytfiijbpcaceibaa.tableCounts
