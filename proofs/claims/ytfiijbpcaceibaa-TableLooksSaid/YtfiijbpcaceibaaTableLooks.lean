/- Each rule is looked at within any ticks of its gap, one behind the other; and sometimes not within fewer. No conditions. -/
import Derived.Test.YtfiijbpcaceibaaRows
import Derived.Test.YtfiijbpcaceibaaArgsE
import Derived.Test.YtfiijbpcaceibaaMake2
import Derived.Test.YtfiijbpcaceibaaTblK
import Derived.Test.YtfiijbpcaceibaaTblM
import Derived.Test.YtfiijbpcaceibaaShort14
import Derived.ProofKit
import Derived.OpenShut
import Derived.Deep.RegionHeld3
import Derived.Deep.DeepCutAuto
import Derived.Deep.CutBlock
namespace Go.Proofs.Ytfiijbpcaceibaa.tableLooks
open Go.ChangeShapes Go.WideShapes Go.ChangeAt Go.RowKit
open Go.ChangeMaps (open_string shut_string)
set_option linter.unusedVariables false

theorem contains_take {l : List Int} {j : Nat} (hj : j < l.length) (x : Int) : (l.take (j + 1)).contains x = ((l.take j).contains x || decide (l[j] = x)) := by
  rw [List.take_succ_eq_append_getElem hj, List.contains_eq_any_beq, List.any_append, ← List.contains_eq_any_beq]
  congr 1
  by_cases h : l[j] = x
  · simp [h]
  · have : ¬ x = l[j] := fun e => h e.symm
    simp [h, this]

set_option maxHeartbeats 8000000 in
set_option maxRecDepth 100000 in
theorem walk (w : World) (rules : List (LineD × Value)) (rv : Value) (slots : List Int) (sv : Value) (ba dr pa of_ : Int) (br : Bool) (lo : Int) (hd : DraftR w rules rv slots sv) (u1 : U8 ba) (u2 : U8 dr) (u3 : U8 pa) (u4 : U8 of_) (u5 : U8 lo) (at_ : Int) (wa : (Lit.int .u16 at_).wf = true) (ru8 : Int) (wr : (Lit.int .u8 ru8).wf = true) :
    Calls Try.prog 4 #[.agg #[rv, sv, .int .u8 ba, .int .u8 dr, .int .u8 pa, .int .u8 of_, .bool br, .int .u8 lo], .int .u16 at_, .int .u8 ru8] w fun e w' => e = .returned (.bool true) ∧ Below w.heap.size w w' := by
  obtain ⟨a0, a1⟩ := bounds_u16 wa
  obtain ⟨r0, r1⟩ := bounds_u8 wr
  clear wa wr
  obtain ⟨s, rfl⟩ : ∃ s : Nat, at_ = s := ⟨at_.toNat, by omega⟩
  obtain ⟨ra, rc, rfl⟩ := hd.rul.any
  obtain ⟨sa, sc, rfl⟩ := hd.slo.any
  obtain ⟨W1, hW1⟩ : ∃ W1, w.alloc (.cells #[.slice ra rules.length rc, .slice sa slots.length sc, .int .u8 ba, .int .u8 dr, .int .u8 pa, .int .u8 of_, .bool br, .int .u8 lo] 25) = W1 := ⟨_, rfl⟩
  have k1 : Keeps No w W1 := by rw [← hW1]; exact (Keeps.refl _ _).alloc _
  have hb : BlkL W1 w.heap.size 25 [.slice ra rules.length rc, .slice sa slots.length sc, .int .u8 ba, .int .u8 dr, .int .u8 pa, .int .u8 of_, .bool br, .int .u8 lo] := by rw [← hW1]; exact heap_alloc_new w _
  have H1 := hid (hd.calm k1)
  have HB := hid hb
  have HW1 := hid hW1
  have K1 := hid k1
  have U := hid (show U8 ba ∧ U8 dr ∧ U8 pa ∧ U8 of_ ∧ U8 lo from ⟨u1, u2, u3, u4, u5⟩)
  clear hd hW1 k1 hb u1 u2 u3 u4 u5
  go_enter Try.func4, Try.ntmps4
  go_upto_region 1 with fail
  rw [HW1.out]
  go_wp2_with fail
  refine (gaps_true _).mono ?_
  rintro e w2 ⟨rfl, k2⟩
  have hb := HB.out.keep k2 (fun h => h)
  have K2 := hid (K1.out.trans k2)
  have H2 := hid (H1.out.calm k2)
  have HB2 := hid hb
  have x0 := hb.cell (o := 0) rfl
  have x1 := hb.cell (o := 1) rfl
  have x2 := hb.cell (o := 2) rfl
  have x3 := hb.cell (o := 3) rfl
  have x4 := hb.cell (o := 4) rfl
  have x5 := hb.cell (o := 5) rfl
  have x6 := hb.cell (o := 6) rfl
  have x7 := hb.cell (o := 7) rfl
  clear hb k2
  go_wp2_with fail
  refine (short14_any H2.out ba dr pa of_ br lo).mono ?_
  rintro e w3 ⟨bs, rfl, k3⟩
  clear x0 x1 x2 x3 x4 x5 x6 x7
  have K3 := hid (K2.out.trans k3)
  have H3 := hid (H2.out.calm k3)
  have hb := HB2.out.keep k3 (fun h => h)
  clear k3
  cases bs
  · clear hb
    go_wp2_with fail
    refine (gaps_true _).mono ?_
    rintro e w4 ⟨rfl, k4⟩
    have K4 := hid (K3.out.trans k4)
    clear k4
    go_wp2_with fail
    go_ret
    exact ⟨rfl, K4.out.toBelow⟩
  have x0 := hb.cell (o := 0) rfl
  have x1 := hb.cell (o := 1) rfl
  have x2 := hb.cell (o := 2) rfl
  have x3 := hb.cell (o := 3) rfl
  have x4 := hb.cell (o := 4) rfl
  have x5 := hb.cell (o := 5) rfl
  have x6 := hb.cell (o := 6) rfl
  have x7 := hb.cell (o := 7) rfl
  clear hb
  go_wp2_with fail
  refine (make_any H3.out ba dr pa of_ br lo U.out.1 U.out.2.1 U.out.2.2.1 U.out.2.2.2.1 U.out.2.2.2.2).mono ?_
  rintro e w4 ⟨C, csv, crv, ctv, rfl, hc, hm, k4⟩
  clear x0 x1 x2 x3 x4 x5 x6 x7
  obtain ⟨sg, sgc, ru, ruc, tb, tbc, rfl, rfl, rfl⟩ := hc.shape
  unfold Cfg.val Cfg.cells
  have K4 := hid (K3.out.trans k4)
  have HC4 := hid hc
  have HM := hid hm
  have HML : Hid (∀ l ∈ C.tab, l.1.length ≤ 100000) := hid (made_short hm)
  have hL := hm.slots
  clear hc hm k4 K1 K2 K3 H1 H2 H3 HB HB2 U HW1
  obtain ⟨cb, hcb⟩ : ∃ y, w4.heap.size = y := ⟨_, rfl⟩
  obtain ⟨W5, hW5⟩ : ∃ W5, w4.alloc (.cells #[.slice sg C.sigs.length sgc, .slice ru C.ruls.length ruc, .slice tb C.tab.length tbc, .int .i64 C.b0, .int .i64 C.b1, .int .i64 C.b2, .int .i64 C.drain, .int .i64 C.pause, .int .i64 C.off, .bool C.brk, .int .i64 C.log] 33) = W5 := ⟨_, rfl⟩
  have HC5 : Hid (CfgR W5 C (.slice sg C.sigs.length sgc) (.slice ru C.ruls.length ruc) (.slice tb C.tab.length tbc)) := hid (HC4.out.calm (by rw [← hW5]; exact (Keeps.refl _ _).alloc _))
  have HB5 : Hid (Bk W5 cb 33 [.slice sg C.sigs.length sgc, .slice ru C.ruls.length ruc, .slice tb C.tab.length tbc, .int .i64 C.b0, .int .i64 C.b1, .int .i64 C.b2, .int .i64 C.drain, .int .i64 C.pause, .int .i64 C.off, .bool C.brk, .int .i64 C.log]) := hid (by rw [← hW5]; exact Bk.new hcb _ _)
  have K5 : Hid (Keeps No w W5) := hid (by rw [← hW5]; exact K4.out.alloc _)
  have HW5 := hid hW5
  have HCB := hid hcb
  have HNC : Hid (w.heap.size ≤ cb) := hid (by rw [← hcb]; exact K4.out.size)
  clear hcb hW5 K4 HC4
  have hN := HM.out.few
  obtain ⟨k, hk⟩ : ∃ k : Nat, ru8.tmod (C.ruls.length : Int) = k := ⟨(ru8.tmod (C.ruls.length : Int)).toNat, by rw [Int.tmod_eq_emod_of_nonneg r0]; have := Int.emod_nonneg ru8 (show (C.ruls.length : Int) ≠ 0 by omega); omega⟩
  have hkN : k < C.ruls.length := by rw [Int.tmod_eq_emod_of_nonneg r0] at hk; have := Int.emod_lt_of_pos ru8 (show 0 < (C.ruls.length : Int) by omega); omega
  have hz1 : ¬ (C.ruls.length = 0) := by omega
  have hz2 : ((C.ruls.length : Int) == 0) = false := by simpa using hz1
  have hwk : IntKind.i64.wrap (k : Int) = (k : Int) := by simp only [IntKind.wrap_i64]; omega
  have HG0 : Hid (Goes (hasD (C.tab.map (·.1)) (k : Int)) C.tab.length) := hid (by
    have := hasD_goes (t := C.tab.map (·.1)) (r := (k : Int)) (by rw [List.length_map]; omega) (by
      obtain ⟨x, hx, hi⟩ := HM.out.stands k hkN
      exact ⟨x.1, List.mem_map_of_mem hx, hi⟩)
    rwa [List.length_map] at this)
  have HT : Hid (∀ (w' : World), Keeps No W5 w' → ∀ now : Int, (-9223372036854775808 ≤ now ∧ now ≤ 9223372036854775807) → Calls Try.prog 12 #[.agg #[.slice sg C.sigs.length sgc, .slice ru C.ruls.length ruc, .slice tb C.tab.length tbc, .int .i64 C.b0, .int .i64 C.b1, .int .i64 C.b2, .int .i64 C.drain, .int .i64 C.pause, .int .i64 C.off, .bool C.brk, .int .i64 C.log], .int .i64 now] w' fun e w'' => ∃ v, e = .returned v ∧ NewI w' w'' v (slotD (C.tab.map (·.1)) now) ∧ Keeps No w' w'') := hid (fun w' k now hn => tslot_any (sa := sg) (sn := C.sigs.length) (sc := sgc) (ra := ru) (rn := C.ruls.length) (rc := ruc) (HC5.out.calm k).tabR hL.1 now hn HML.out C.b0 C.b1 C.b2 C.drain C.pause C.off C.log C.brk)
  have HGP : Hid (∀ (w' : World), Keeps No W5 w' → Calls Try.prog 14 #[.agg #[.slice sg C.sigs.length sgc, .slice ru C.ruls.length ruc, .slice tb C.tab.length tbc, .int .i64 C.b0, .int .i64 C.b1, .int .i64 C.b2, .int .i64 C.drain, .int .i64 C.pause, .int .i64 C.off, .bool C.brk, .int .i64 C.log], .int .i64 k] w' fun e w'' => e = .returned (.int .i64 (gapD (C.tab.map (·.1)) k)) ∧ Keeps No w' w'') := hid (fun w' k' => tgap_any (sa := sg) (sn := C.sigs.length) (sc := sgc) (ra := ru) (rn := C.ruls.length) (rc := ruc) (HC5.out.calm k').tabR (by omega) HML.out (by omega) k (fun h => absurd ⟨by omega, by omega⟩ h) C.b0 C.b1 C.b2 C.drain C.pause C.off C.log C.brk)
  go_upto_region 4 with fail
  try rw [HW5.out, HCB.out]
  clear HW5 HCB
  have x1 := HB5.out.cell 1 rfl
  go_upto_region 5 with fail
  clear x1
  have x0_0 := HB5.out.cell 0 rfl
  have x0_1 := HB5.out.cell 1 rfl
  have x0_2 := HB5.out.cell 2 rfl
  have x0_3 := HB5.out.cell 3 rfl
  have x0_4 := HB5.out.cell 4 rfl
  have x0_5 := HB5.out.cell 5 rfl
  have x0_6 := HB5.out.cell 6 rfl
  have x0_7 := HB5.out.cell 7 rfl
  have x0_8 := HB5.out.cell 8 rfl
  have x0_9 := HB5.out.cell 9 rfl
  have x0_10 := HB5.out.cell 10 rfl
  go_wp2_with fail
  refine (HGP.out _ (Keeps.refl _ _)).mono ?_
  rintro e w6 ⟨rfl, kp⟩
  have K6 := hid kp
  have HBX := hid (HB5.out.kept kp)
  clear kp HGP hk hz1 hz2 hwk x0_0 x0_1 x0_2 x0_3 x0_4 x0_5 x0_6 x0_7 x0_8 x0_9 x0_10
  obtain ⟨L, hLe⟩ : ∃ L, C.tab.length = L := ⟨_, rfl⟩
  have hL1 := hL.1
  have hL6 := hL.2
  have HLE := hid hLe
  have hGG := HG0.out
  rw [hLe] at hGG hL1 hL6
  obtain ⟨G, hG⟩ : ∃ G, gapD (C.tab.map (·.1)) k = G := ⟨_, rfl⟩
  have hgap := hGG.gap s
  have hG' : (gapF (hasD (C.tab.map (·.1)) (k : Int)) (2 * L)).1 = G := by rw [← hG]; unfold gapD; rw [List.length_map, hLe]
  rw [hG'] at hgap
  have HGAP := hid hgap
  rw [hG]
  obtain ⟨h, hh⟩ : ∃ h, hasD (C.tab.map (·.1)) (k : Int) = h := ⟨_, rfl⟩
  have HH := hid hh
  rw [hh] at HGAP
  clear hLe hGG hgap hG hG' hh HG0 hL
  have hs : s ≤ 65535 := by omega
  have hG6 : 1 ≤ G ∧ G ≤ L := ⟨HGAP.out.1, HGAP.out.2.1⟩
  obtain ⟨hG1, hGL⟩ := hG6
  go_wp2_with fail
  go_loopw [10, 11, 12] (fun v10 v11 v12 wr => ∃ j a b : Nat, j ≤ 3 * L ∧ v12 = .int .i64 ((s : Int) + 1 + j) ∧ v10 = .int .i64 a ∧ v11 = .int .i64 b ∧ a ≤ j ∧ b ≤ j ∧ Hid (runF h s j = (a, b)) ∧ Hid (Keeps No w6 wr)) (fun _ _ v12 _ => s + 1 + 3 * L - (intOf v12).toNat)
  case atStart => exact ⟨0, 0, 0, Nat.zero_le _, by simp, rfl, rfl, Nat.le_refl _, Nat.le_refl _, hid rfl, hid (Keeps.refl _ _)⟩
  case round =>
    obtain ⟨j, a, b, hj, rfl, rfl, rfl, haj, hbj, HR, KR⟩ := hrel
    have HBR := hid (HBX.out.kept KR.out)
    have y2 := HBR.out.cell 2 rfl
    rw [HLE.out] at y2
    by_cases hlt : j < 3 * L
    · have hd : decide ((s : Int) + 1 + j < (s : Int) + 1 + 3 * L) = true := decide_eq_true (by omega)
      go_upto_region 10 with fail
      clear y2
      have x0_0 := HBR.out.cell 0 rfl
      have x0_1 := HBR.out.cell 1 rfl
      have x0_2 := HBR.out.cell 2 rfl
      have x0_3 := HBR.out.cell 3 rfl
      have x0_4 := HBR.out.cell 4 rfl
      have x0_5 := HBR.out.cell 5 rfl
      have x0_6 := HBR.out.cell 6 rfl
      have x0_7 := HBR.out.cell 7 rfl
      have x0_8 := HBR.out.cell 8 rfl
      have x0_9 := HBR.out.cell 9 rfl
      have x0_10 := HBR.out.cell 10 rfl
      go_wp2_with fail
      refine (HT.out _ (K6.out.trans KR.out) ((s : Int) + 1 + j) ⟨by omega, by omega⟩).mono ?_
      rintro e w7 ⟨v, rfl, hv, kp⟩
      have K7 := hid (KR.out.trans kp)
      obtain ⟨l, hl⟩ : ∃ l, slotD (C.tab.map (·.1)) ((s : Int) + 1 + j) = l := ⟨_, rfl⟩
      rw [hl] at hv
      obtain ⟨va, vc, rfl, hrow, _⟩ := hv
      have HV : Hid (SlI w7 (.slice va l.length vc) l) := hid (Sl.ofOwn hrow)
      have hll : (l.length : Int) ≤ 9223372036854775807 := by have := HV.out.2.1; unfold maxLen at this; omega
      have hH : l.contains (k : Int) = h (s + j + 1) := by
        rw [← HH.out, ← hl]
        unfold hasD
        rw [show ((s + j + 1 : Nat) : Int) = (s : Int) + 1 + j by omega]
      obtain ⟨hit, hhit⟩ : ∃ b, h (s + j + 1) = b := ⟨_, rfl⟩
      rw [hhit] at hH
      have HHIT := hid hH
      have HST : Hid (runF h s (j + 1) = (if hit then 0 else a + 1, max b (if hit then 0 else a + 1))) := hid (by
        conv => lhs; unfold runF
        rw [hhit, HR.out])
      clear kp hl hrow hH hhit HR KR HBR x0_0 x0_1 x0_2 x0_3 x0_4 x0_5 x0_6 x0_7 x0_8 x0_9 x0_10
      go_wp2_with fail
      go_loop [14, 15] (fun v14 v15 => ∃ i : Nat, i ≤ l.length ∧ v15 = .int .i64 i ∧ v14 = .bool ((l.take i).contains (k : Int))) (fun _ v15 => l.length - (intOf v15).toNat)
      case atStart => exact ⟨0, Nat.zero_le _, rfl, by simp⟩
      case round =>
        obtain ⟨i, hi, rfl, rfl⟩ := hrel
        by_cases hil : i < l.length
        · obtain ⟨g, off, rfl, _, hc⟩ := SlI.cellAt HV.out hil
          have hct := contains_take hil (k : Int)
          obtain ⟨x, hx⟩ : ∃ x, l[i] = x := ⟨_, rfl⟩
          rw [hx] at hc hct
          obtain ⟨q, hq⟩ : ∃ q, (l.take i).contains (k : Int) = q := ⟨_, rfl⟩
          rw [hq] at hct ⊢
          have HCT := hid hct
          have dle : decide ((i : Int) < (l.length : Int)) = true := decide_eq_true (by omega)
          clear hx hq hct
          cases q
          · by_cases hxk : x = (k : Int)
            · have dx : (x == (k : Int)) = true := by simpa using hxk
              have HC2 : Hid ((l.take (i + 1)).contains (k : Int) = true) := hid (by rw [HCT.out, decide_eq_true hxk]; rfl)
              go_wp2_with fail
              go_round
              case rel => exact ⟨i + 1, by omega, by go_num, by rw [HC2.out]⟩
              case measure => simp [intOf]; omega
            · have dx : (x == (k : Int)) = false := by simpa using hxk
              have HC2 : Hid ((l.take (i + 1)).contains (k : Int) = false) := hid (by rw [HCT.out, decide_eq_false hxk]; rfl)
              go_wp2_with fail
              go_round
              case rel => exact ⟨i + 1, by omega, by go_num, by rw [HC2.out]⟩
              case measure => simp [intOf]; omega
          · have HC2 : Hid ((l.take (i + 1)).contains (k : Int) = true) := hid (by rw [HCT.out]; rfl)
            go_wp2_with fail
            go_round
            case rel => exact ⟨i + 1, by omega, by go_num, by rw [HC2.out]⟩
            case measure => simp [intOf]; omega
        · have he : (l.take i).contains (k : Int) = hit := by rw [List.take_of_length_le (by omega)]; exact HHIT.out
          obtain rfl : i = l.length := by omega
          rw [he]
          clear he hil hi
          have dle : decide ((l.length : Int) < (l.length : Int)) = false := decide_eq_false (by omega)
          have HT3 := HST.out
          cases hit
          · rw [if_neg (by decide)] at HT3
            have HST2 := hid HT3
            clear HT3
            by_cases hab : b < a + 1
            · have dab : decide ((a : Int) + 1 > b) = true := decide_eq_true (by omega)
              go_wp2_with fail
              go_roundw
              case rel => exact ⟨j + 1, a + 1, a + 1, by omega, by go_num, by go_num, by go_num, by omega, by omega, hid (by rw [HST2.out, Nat.max_eq_right (by omega)]), K7⟩
              case measure => simp [intOf]; omega
            · have dab : decide ((a : Int) + 1 > b) = false := decide_eq_false (by omega)
              go_wp2_with fail
              go_roundw
              case rel => exact ⟨j + 1, a + 1, b, by omega, by go_num, by go_num, rfl, by omega, by omega, hid (by rw [HST2.out, Nat.max_eq_left (by omega)]), K7⟩
              case measure => simp [intOf]; omega
          · rw [if_pos rfl] at HT3
            have HST2 := hid HT3
            clear HT3
            have dab : decide ((0 : Int) > b) = false := decide_eq_false (by omega)
            go_wp2_with fail
            go_roundw
            case rel => exact ⟨j + 1, 0, b, by omega, by go_num, rfl, rfl, by omega, by omega, hid (by rw [HST2.out, Nat.max_eq_left (by omega)]), K7⟩
            case measure => simp [intOf]; omega
    · obtain rfl : j = 3 * L := by omega
      have hd : decide ((s : Int) + 1 + ((3 * L : Nat) : Int) < (s : Int) + 1 + 3 * L) = false := decide_eq_false (by omega)
      have hmost : b + 1 = G := by have := HGAP.out.2.2; rw [HR.out] at this; exact this
      have d1 : decide ((G : Int) ≥ 1) = true := decide_eq_true (by omega)
      have d2 : decide ((G : Int) ≤ L) = true := decide_eq_true (by omega)
      have d3 : ((b : Int) == (G : Int) - 1) = true := by simp; omega
      go_wp2_with fail
      go_ret
      exact ⟨rfl, (K5.out.trans (K6.out.trans KR.out)).toBelow⟩

theorem own : ownKnob Try.prog.godebug = none := by kernel_rfl
theorem laidOut : laidOutB Try.prog = true := by kernel_rfl
set_option maxRecDepth 100000 in
theorem lifted (os : Os) (started : os.Started) (H : Type) (enc : TypeId × Value → H) :
    ReturnsInHanded {} Try.checked os 4 .any (Rows.tableLooksSpec.pre6 enc Try.prog Try.f4 Rows.tableLooksRow.domain false) (Rows.tableLooksSpec.post enc Try.prog Try.f4 false true false false) := by
  refine returnsInHanded_of_change (C := Try.checked) own started (by kernel_rfl) Try.func4
    (ChangeSpec.witness6 (enc := enc) (C := Try.checked) false ⟨#[], #[.agg #[.slice none 0 0, .slice none 0 0, .int .u8 0, .int .u8 0, .int .u8 0, .int .u8 0, .bool false, .int .u8 0], .int .u16 0, .int .u8 0], []⟩ 8 (by kernel_rfl) (by kernel_rfl) (by kernel_rfl) (by kernel_rfl)) ?_
  intro W base args ds gs before hval0 hW hcnd _
  have hval : ∀ (j : Nat) t v, Try.f4.params[j]? = some t → args[j]? = some v → Value.okWide Try.prog W .any base t v := hval0
  have hW' := hW
  obtain ⟨p, q, hA0, hV, rfl, hfz, hnd⟩ := hW
  have hA : DataW.TrodAll enc Try.prog W 0 (fun _ => true) true Try.f4.params.toList args.toList ds p := hA0
  rw [Try.params4] at hA hval
  obtain ⟨v0, vs0, d0, ds0, p0, q0, hargs, rfl, rfl, h0, r0⟩ := trodAll_cons hA
  obtain ⟨v1, vs1, d1, ds1, p1, q1, rfl, rfl, rfl, h1, r1⟩ := trodAll_cons r0
  obtain ⟨v2, vs2, d2, ds2, p2, q2, rfl, rfl, rfl, h2, r2⟩ := trodAll_cons r1
  obtain ⟨rfl, rfl, rfl⟩ := trodAll_nil r2
  obtain rfl : args = #[v0, v1, v2] := by cases args; simp_all
  obtain ⟨rfl, rfl⟩ := trodVars_none hV
  have k0 := h0
  have lt0 : ∀ x ∈ p0, x.block < W.heap.size := by obtain ⟨m, hm⟩ := k0; exact DataW.trod_lt m _ _ _ hm
  have k1 := h1
  have lt1 : ∀ x ∈ p1, x.block < W.heap.size := by obtain ⟨m, hm⟩ := k1; exact DataW.trod_lt m _ _ _ hm
  have k2 := h2
  have lt2 : ∀ x ∈ p2, x.block < W.heap.size := by obtain ⟨m, hm⟩ := k2; exact DataW.trod_lt m _ _ _ hm
  obtain ⟨rules, rv, slots, sv, ba, dr, pa, of_, br, lo, rfl, hd, u1, u2, u3, u4, u5⟩ := argDraft (hval 0 25 v0 rfl rfl) h0
  obtain ⟨a1, rfl, rfl, rfl, w1⟩ := open_int Try.underlying39 (hval 1 39 v1 rfl rfl) h1
  obtain ⟨a2, rfl, rfl, rfl, w2⟩ := open_int Try.underlying5 (hval 2 5 v2 rfl rfl) h2
  clear hA0 hval0
  refine (walk W rules rv slots sv ba dr pa of_ br lo hd u1 u2 u3 u4 u5 a1 w1 a2 w2).mono fun e W' ⟨he, bel⟩ => ?_
  subst he
  exact ⟨_, rfl, _, _, _, [], _, [], hW', trodAll_mk1 (shut_bool Try.underlying4 _), (trodAll_cons_mk (Below.trod laidOut (by kernel_rfl) (of_decide_eq_true (by kernel_rfl)) k0 bel lt0) (trodAll_cons_mk (Below.trod laidOut (by kernel_rfl) (of_decide_eq_true (by kernel_rfl)) k1 bel lt1) (trodAll_cons_mk (Below.trod laidOut (by kernel_rfl) (of_decide_eq_true (by kernel_rfl)) k2 bel lt2) trodAll_mk0))), rfl, bel.frame _, fun h => by cases h⟩

theorem over : Rows.tableLooksRow.holds Try.pinned (OpenSpec.ofChange Rows.tableLooksSpec) :=
  OpenClaim.holds_of_wide 4 Try.f4 rfl rfl rfl rfl rfl rfl rfl ⟨rfl, rfl, rfl, rfl, rfl⟩ rfl rfl rfl rfl rfl (by kernel_rfl) Try.func4 (by kernel_rfl)
    (of_decide_eq_true (by kernel_rfl)) (by unfold Func.isWrapper; first | (rw [if_pos (by decide +kernel)]; kernel_rfl) | (rw [if_neg (by decide +kernel)]; exact ⟨rfl, rfl⟩))
    (fun os started H enc _ => lifted os started H enc)

theorem proved : Rows.TableLooksSaid := over
#print axioms proved
end Go.Proofs.Ytfiijbpcaceibaa.tableLooks
