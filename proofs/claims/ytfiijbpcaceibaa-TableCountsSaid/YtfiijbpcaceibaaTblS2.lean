/-
  The program's gaps and bounds of a table.
-/
import Derived.Test.YtfiijbpcaceibaaTblD
import Derived.Test.YtfiijbpcaceibaaIdx
import Derived.Test.YtfiijbpcaceibaaBlk
import Derived.Test.YtfiijbpcaceibaaMake
import Derived.Test.YtfiijbpcaceibaaCellP
import Derived.BigQuiet
import Derived.Deep.RegionHeld3
import Derived.Deep.DeepCutAuto
import Derived.Deep.CutBlock
namespace Go.Proofs.Ytfiijbpcaceibaa
open Go.RowKit
set_option linter.unusedVariables false

section
variable {w : World} {sa ra ta : Option Addr} {sn sc rn rc tc N : Nat} {t : List (List Int × Value)}

set_option maxHeartbeats 4000000 in
set_option maxRecDepth 100000 in
theorem trule_any (w : World) (r : Int) (hrn : rn ≤ 64) (i0 i1 i2 i3 i4 i5 i6 : Int) (b : Bool) :
    Calls Try.prog 21 #[.agg #[.slice sa sn sc, .slice ra rn rc, .slice ta N tc, .int .i64 i0, .int .i64 i1, .int .i64 i2, .int .i64 i3, .int .i64 i4, .int .i64 i5, .bool b, .int .i64 i6], .int .i64 r] w fun e w' => e = .returned (.bool (decide (0 ≤ r ∧ r < (rn : Int)))) ∧ Keeps No w w' := by
  obtain ⟨W1, hW1⟩ : ∃ W1, w.alloc (.cells #[.slice sa sn sc, .slice ra rn rc, .slice ta N tc, .int .i64 i0, .int .i64 i1, .int .i64 i2, .int .i64 i3, .int .i64 i4, .int .i64 i5, .bool b, .int .i64 i6] 33) = W1 := ⟨_, rfl⟩
  have k1 : Keeps No w W1 := by rw [← hW1]; exact (Keeps.refl _ _).alloc _
  have HBK : Hid (Bk W1 w.heap.size 33 [.slice sa sn sc, .slice ra rn rc, .slice ta N tc, .int .i64 i0, .int .i64 i1, .int .i64 i2, .int .i64 i3, .int .i64 i4, .int .i64 i5, .bool b, .int .i64 i6]) := hid (by rw [← hW1]; exact Bk.new rfl _ _)
  have K1 := hid k1
  have HW1 := hid hW1
  obtain ⟨wb, hwb⟩ : ∃ q, w.heap.size = q := ⟨_, rfl⟩
  rw [hwb] at HBK
  have HWB := hid hwb
  clear hwb
  clear k1 hW1
  have x0 := HBK.out.cell 0 rfl
  have x1 := HBK.out.cell 1 rfl
  have x2 := HBK.out.cell 2 rfl
  have x3 := HBK.out.cell 3 rfl
  have x4 := HBK.out.cell 4 rfl
  have x5 := HBK.out.cell 5 rfl
  have x6 := HBK.out.cell 6 rfl
  have x7 := HBK.out.cell 7 rfl
  have x8 := HBK.out.cell 8 rfl
  have x9 := HBK.out.cell 9 rfl
  have x10 := HBK.out.cell 10 rfl
  by_cases h0 : 0 ≤ r
  · have d0 : decide (0 ≤ r) = true := decide_eq_true h0
    have HD : Hid (decide (0 ≤ r ∧ r < (rn : Int)) = decide (r < (rn : Int))) := hid (by simp [h0])
    rw [HD.out]
    obtain ⟨v, hv⟩ : ∃ v, decide (r < (rn : Int)) = v := ⟨_, rfl⟩
    rw [hv]
    go_enter Try.func21, Try.ntmps21
    go_upto_region 1 with fail
    rw [HW1.out, HWB.out]
    clear HW1 HWB
    go_wp2_with fail
    go_ret
    exact ⟨rfl, K1.out⟩
  · have d0 : decide (0 ≤ r) = false := decide_eq_false h0
    have HD : Hid (decide (0 ≤ r ∧ r < (rn : Int)) = false) := hid (decide_eq_false (fun e => h0 e.1))
    rw [HD.out]
    go_enter Try.func21, Try.ntmps21
    go_upto_region 1 with fail
    rw [HW1.out, HWB.out]
    clear HW1 HWB
    go_wp2_with fail
    go_ret
    exact ⟨rfl, K1.out⟩

set_option maxHeartbeats 4000000 in
set_option maxRecDepth 100000 in
theorem twait_any (w : World) (L : Nat) (hn : rn ≤ 64) (hL : L ≤ 64) (i0 i1 i2 i3 i4 i5 i6 : Int) (b : Bool) :
    Calls Try.prog 17 #[cfgV (.slice sa sn sc) (.slice ra rn rc) (.slice ta L tc) i0 i1 i2 i3 i4 i5 b i6] w fun e w' => e = .returned (.int .i64 (waitD rn L)) ∧ Keeps No w w' := by
  unfold cfgV
  obtain ⟨W1, hW1⟩ : ∃ W1, w.alloc (.cells #[.slice sa sn sc, .slice ra rn rc, .slice ta L tc, .int .i64 i0, .int .i64 i1, .int .i64 i2, .int .i64 i3, .int .i64 i4, .int .i64 i5, .bool b, .int .i64 i6] 33) = W1 := ⟨_, rfl⟩
  have k1 : Keeps No w W1 := by rw [← hW1]; exact (Keeps.refl _ _).alloc _
  have HBK : Hid (Bk W1 w.heap.size 33 [.slice sa sn sc, .slice ra rn rc, .slice ta L tc, .int .i64 i0, .int .i64 i1, .int .i64 i2, .int .i64 i3, .int .i64 i4, .int .i64 i5, .bool b, .int .i64 i6]) := hid (by rw [← hW1]; exact Bk.new rfl _ _)
  have K1 := hid k1
  have HW1 := hid hW1
  obtain ⟨wb, hwb⟩ : ∃ q, w.heap.size = q := ⟨_, rfl⟩
  rw [hwb] at HBK
  have HWB := hid hwb
  clear hwb
  clear k1 hW1
  have x0 := HBK.out.cell 0 rfl
  have x1 := HBK.out.cell 1 rfl
  have x2 := HBK.out.cell 2 rfl
  have x3 := HBK.out.cell 3 rfl
  have x4 := HBK.out.cell 4 rfl
  have x5 := HBK.out.cell 5 rfl
  have x6 := HBK.out.cell 6 rfl
  have x7 := HBK.out.cell 7 rfl
  have x8 := HBK.out.cell 8 rfl
  have x9 := HBK.out.cell 9 rfl
  have x10 := HBK.out.cell 10 rfl
  have HE : Hid (waitD rn L = ((rn : Int) + 1) * (L : Int)) := hid rfl
  have hp : 0 ≤ ((rn : Int) + 1) * (L : Int) ∧ ((rn : Int) + 1) * (L : Int) ≤ 65 * 64 := ⟨Int.mul_nonneg (by omega) (by omega), Int.mul_le_mul (by omega) (by omega) (by omega) (by omega)⟩
  rw [HE.out]
  obtain ⟨p, hpp⟩ : ∃ p, ((rn : Int) + 1) * (L : Int) = p := ⟨_, rfl⟩
  rw [hpp] at hp ⊢
  have hw2 : IntKind.i64.wrap p = p := by simp only [IntKind.wrap_i64]; omega
  have hw3 : IntKind.i64.wrap (((rn : Int) + 1) * (L : Int)) = p := by rw [hpp]; exact hw2
  clear hp
  go_enter Try.func17, Try.ntmps17
  go_upto_region 1 with fail
  rw [HW1.out, HWB.out]
  clear HW1 HWB
  go_wp2_with fail
  go_ret
  exact ⟨by first | rfl | (congr 2; omega), K1.out⟩

theorem gapF_succ_no' {h : Nat → Bool} {n : Nat} (hh : h (n + 1) = false) : gapF h (n + 1) = gapF h n := by simp [gapF, hh]
theorem gapF_succ_yes' {h : Nat → Bool} {n : Nat} (hh : h (n + 1) = true) : gapF h (n + 1) = (if 0 < (gapF h n).2 ∧ (gapF h n).1 < n + 1 - (gapF h n).2 then n + 1 - (gapF h n).2 else (gapF h n).1, n + 1) := by simp [gapF, hh]
theorem gapF_none {h : Nat → Bool} (hh : ∀ n, 1 ≤ n → h n = false) : ∀ n, gapF h n = (0, 0)
  | 0 => rfl
  | n + 1 => by rw [gapF_succ_no' (hh _ (by omega)), gapF_none hh n]
theorem gapD_none {t : List (List Int)} {r : Int} (h : ∀ l ∈ t, r ∉ l) : gapD t r = 0 := by
  unfold gapD
  rw [gapF_none (fun n hn => ?_)]
  unfold hasD slotD
  split
  · simp
  · rw [List.getD_eq_getElem?_getD]
    cases hg : t[(((n : Int) - 1) % t.length).toNat]? with
    | none => simp
    | some q => simpa using h q (List.mem_of_getElem? hg)
/-- Is a rule looked at in the slot k? -/
theorem hasD_at {t : List (List Int)} {r : Int} {n : Nat} (hL : 1 ≤ t.length) : hasD t r (n + 1) = (t.getD (n % t.length) []).contains r := by
  unfold hasD slotD
  rw [if_neg (by omega)]
  congr 2
  push_cast
  rw [show ((n : Int) + 1 - 1) = (n : Int) by omega, ← Int.natCast_emod, Int.toNat_natCast]

set_option maxHeartbeats 8000000 in
set_option maxRecDepth 100000 in
theorem tgap2_any (h : TabR w (.slice ta N tc) t) (hN : t.length = N) (hL : 1 ≤ N ∧ N ≤ 64) (hrn : rn ≤ 64) (r : Int) (hr : ¬ (0 ≤ r ∧ r < (rn : Int)) → ∀ l ∈ t, r ∉ l.1) (i0 i1 i2 i3 i4 i5 i6 : Int) (b : Bool) :
    Calls Try.prog 14 #[.agg #[.slice sa sn sc, .slice ra rn rc, .slice ta N tc, .int .i64 i0, .int .i64 i1, .int .i64 i2, .int .i64 i3, .int .i64 i4, .int .i64 i5, .bool b, .int .i64 i6], .int .i64 r] w fun e w' => e = .returned (.int .i64 (gapD (t.map (·.1)) r)) ∧ Keeps No w w' := by
  obtain ⟨W1, hW1⟩ : ∃ W1, w.alloc (.cells #[.slice sa sn sc, .slice ra rn rc, .slice ta N tc, .int .i64 i0, .int .i64 i1, .int .i64 i2, .int .i64 i3, .int .i64 i4, .int .i64 i5, .bool b, .int .i64 i6] 33) = W1 := ⟨_, rfl⟩
  have k1 : Keeps No w W1 := by rw [← hW1]; exact (Keeps.refl _ _).alloc _
  have HBK : Hid (Bk W1 w.heap.size 33 [.slice sa sn sc, .slice ra rn rc, .slice ta N tc, .int .i64 i0, .int .i64 i1, .int .i64 i2, .int .i64 i3, .int .i64 i4, .int .i64 i5, .bool b, .int .i64 i6]) := hid (by rw [← hW1]; exact Bk.new rfl _ _)
  have K1 := hid k1
  have HW1 := hid hW1
  have HT := hid (h.calm k1)
  have HNN := hid hN
  obtain ⟨L1, L2⟩ := hL
  have HR := hid (fun w => trule_any (sa := sa) (ra := ra) (ta := ta) (sn := sn) (sc := sc) (rn := rn) (rc := rc) (tc := tc) (N := N) w r hrn i0 i1 i2 i3 i4 i5 i6 b)
  by_cases hin : ¬ (0 ≤ r ∧ r < (rn : Int))
  · have HZ : Hid (gapD (t.map (·.1)) r = 0) := hid (gapD_none (fun l hl => by obtain ⟨x, hx, rfl⟩ := List.mem_map.1 hl; exact hr hin x hx))
    rw [HZ.out]
    rw [decide_eq_false hin] at HR
    clear k1 hW1 h hN hr hin HT HNN
    obtain ⟨wb, hwb⟩ : ∃ q, w.heap.size = q := ⟨_, rfl⟩
    rw [hwb] at HBK
    have HWB := hid hwb
    clear hwb
    have x0 := HBK.out.cell 0 rfl
    have x1 := HBK.out.cell 1 rfl
    have x2 := HBK.out.cell 2 rfl
    have x3 := HBK.out.cell 3 rfl
    have x4 := HBK.out.cell 4 rfl
    have x5 := HBK.out.cell 5 rfl
    have x6 := HBK.out.cell 6 rfl
    have x7 := HBK.out.cell 7 rfl
    have x8 := HBK.out.cell 8 rfl
    have x9 := HBK.out.cell 9 rfl
    have x10 := HBK.out.cell 10 rfl
    go_enter Try.func14, Try.ntmps14
    go_upto_region 1 with fail
    rw [HW1.out, HWB.out]
    clear HW1 HWB
    go_wp2_with fail
    refine (HR.out _).mono ?_
    rintro e w2 ⟨rfl, k2⟩
    have K2 := hid (K1.out.trans k2)
    clear k2
    go_wp2_with fail
    go_ret
    exact ⟨rfl, K2.out⟩
  have hin := Decidable.not_not.1 hin
  rw [decide_eq_true hin] at HR
  obtain ⟨f, hf⟩ : ∃ f, hasD (t.map (·.1)) r = f := ⟨_, rfl⟩
  have HF : Hid (∀ n : Nat, ((t.map (·.1)).getD (n % N) []).contains r = f (n + 1)) := hid (fun n => by rw [← hf, hasD_at (by rw [List.length_map]; omega), List.length_map, hN])
  have HG : Hid (gapD (t.map (·.1)) r = (gapF f (2 * N)).1) := hid (by unfold gapD; rw [hf, List.length_map, hN])
  rw [HG.out]
  clear k1 hW1 h hf hN hr hin
  obtain ⟨wb, hwb⟩ : ∃ q, w.heap.size = q := ⟨_, rfl⟩
  rw [hwb] at HBK
  have HWB := hid hwb
  clear hwb
  have x0 := HBK.out.cell 0 rfl
  have x1 := HBK.out.cell 1 rfl
  have x2 := HBK.out.cell 2 rfl
  have x3 := HBK.out.cell 3 rfl
  have x4 := HBK.out.cell 4 rfl
  have x5 := HBK.out.cell 5 rfl
  have x6 := HBK.out.cell 6 rfl
  have x7 := HBK.out.cell 7 rfl
  have x8 := HBK.out.cell 8 rfl
  have x9 := HBK.out.cell 9 rfl
  have x10 := HBK.out.cell 10 rfl
  go_enter Try.func14, Try.ntmps14
  go_upto_region 1 with fail
  rw [HW1.out, HWB.out]
  clear HW1 HWB
  go_wp2_with fail
  refine (HR.out _).mono ?_
  rintro e w2 ⟨rfl, k2⟩
  have HB2 := hid (HBK.out.kept k2)
  have K2 := hid (K1.out.trans k2)
  have HT2 := hid (HT.out.calm k2)
  have c2 := HB2.out.cell 2 rfl
  clear k2 HBK K1 HT HR x0 x1 x2 x3 x4 x5 x6 x7 x8 x9 x10
  go_wp2_with fail
  have hz : ¬ ((N : Int) = 0) := by omega
  have hz2 : ((N : Int) == 0) = false := by simpa using hz
  have hz3 : ¬ (N = 0) := by omega
  have hz4 : (N == 0) = false := by simpa using hz3
  go_loopw [6, 7, 18] (fun v6 v7 v18 wr => ∃ (n m l : Nat), n ≤ 2 * N ∧ m ≤ n ∧ l ≤ n ∧ v18 = .int .i64 n ∧ v7 = .int .i64 m ∧ v6 = .int .i64 ((l : Int) - 1) ∧ Hid (gapF f n = (m, l)) ∧ Hid (Keeps No w2 wr)) (fun _ _ v18 _ => 2 * N - (intOf v18).toNat)
  case atStart => exact ⟨0, 0, 0, Nat.zero_le _, Nat.le_refl _, Nat.le_refl _, rfl, rfl, rfl, hid rfl, hid (Keeps.refl _ _)⟩
  case round =>
    obtain ⟨n, m, l, hn, hmn, hln, rfl, rfl, rfl, HGF, HK⟩ := hrel
    by_cases hlt : n < 2 * N
    · have hd : decide ((n : Int) < 2 * (N : Int)) = true := decide_eq_true (by omega)
      obtain ⟨kk, hkk⟩ : ∃ q, n % N = q := ⟨_, rfl⟩
      have hkN : kk < N := by rw [← hkk]; exact Nat.mod_lt _ (by omega)
      have htm : (n : Int).tmod (N : Int) = (kk : Int) := by rw [Int.tmod_eq_emod_of_nonneg (by omega), ← hkk, Int.natCast_emod]
      have hwk : IntKind.i64.wrap (kk : Int) = (kk : Int) := by simp only [IntKind.wrap_i64]; omega
      have hkt : kk < t.length := by rw [HNN.out]; exact hkN
      have hTa : TabR wr (.slice ta t.length tc) t := by rw [HNN.out]; exact HT2.out.calm HK.out
      obtain ⟨g, off, la, lc, hta, hg, hc, hs, hr9⟩ := TabR.at hTa hkt
      subst hta
      obtain ⟨sl, hsl⟩ : ∃ q, t[kk].1 = q := ⟨_, rfl⟩
      rw [hsl] at hc hs
      have hfn : sl.contains r = f (n + 1) := by
        have h1 := HF.out n
        rw [hkk] at h1
        rw [← h1, List.getD_eq_getElem?_getD, List.getElem?_map, List.getElem?_eq_getElem hkt]
        simp [hsl]
      have HC := hid (fun (w' : World) (kw : Keeps No wr w') => contains_any (hs.keep kw (fun _ _ h => h)) r)
      rw [hfn] at HC
      have y2 := HK.out.cell (fun h => h) c2
      have yc := hc
      have HY2 := hid y2
      have HYC := hid yc
      clear hr9 hTa hsl hfn hs hc hkk hkt
      cases hh : f (n + 1)
      · rw [hh] at HC
        have HS := hid ((gapF_succ_no' hh).trans HGF.out)
        clear hh
        go_upto_region 8 with fail
        first | go_region_held3 (fun w' => w'.cell? ⟨wb, 2, none⟩ = some (.slice (some ⟨g, off, none⟩) N tc) ∧ w'.cell? ⟨g, off + kk, none⟩ = some (.slice la sl.length lc)) (first | with_reducible exact ⟨y2, yc⟩ | with_reducible exact ⟨cellDr y2, cellDr yc⟩ | (go_keep; done)) (first | (go_at_call 22; (with_reducible refine (HC.out _ (by repeat' (first | with_reducible exact Keeps.refl _ _ | with_reducible assumption | with_reducible refine Keeps.drewN ?_ _ | with_reducible refine Keeps.drew ?_ | with_reducible refine Keeps.alloc ?_ _))).mono ?_); rintro e w9 ⟨rfl, hw9⟩; subst hw9; have k3 : Keeps No wr _ := Keeps.refl No wr)) | fail
        go_wp2_with fail
        go_roundw
        case rel => exact ⟨n + 1, m, l, by omega, by omega, by omega, by go_num, rfl, rfl, HS, hid (HK.out.drewN _)⟩
        case measure => simp [intOf]; omega
      · rw [hh] at HC
        have hs := gapF_succ_yes' hh
        rw [HGF.out] at hs
        dsimp only at hs
        have HS := hid hs
        clear hh hs
        go_upto_region 8 with fail
        first | go_region_held3 (fun w' => w'.cell? ⟨wb, 2, none⟩ = some (.slice (some ⟨g, off, none⟩) N tc) ∧ w'.cell? ⟨g, off + kk, none⟩ = some (.slice la sl.length lc)) (first | with_reducible exact ⟨y2, yc⟩ | with_reducible exact ⟨cellDr y2, cellDr yc⟩ | (go_keep; done)) (first | (go_at_call 22; (with_reducible refine (HC.out _ (by repeat' (first | with_reducible exact Keeps.refl _ _ | with_reducible assumption | with_reducible refine Keeps.drewN ?_ _ | with_reducible refine Keeps.drew ?_ | with_reducible refine Keeps.alloc ?_ _))).mono ?_); rintro e w9 ⟨rfl, hw9⟩; subst hw9)) | fail
        by_cases hl0 : 0 < l
        · have q1 : decide ((l : Int) - 1 ≥ 0) = true := decide_eq_true (by omega)
          by_cases hg2 : m < n + 1 - l
          · have HS2 : Hid (gapF f (n + 1) = (n + 1 - l, n + 1)) := hid (by rw [HS.out, if_pos ⟨hl0, hg2⟩])
            go_wp2_with fail
            go_roundw
            case rel => exact ⟨n + 1, n + 1 - l, n + 1, by omega, by omega, by omega, by go_num, by go_num, by go_num, HS2, hid (HK.out.drewN _)⟩
            case measure => simp [intOf]; omega
          · have HS2 : Hid (gapF f (n + 1) = (m, n + 1)) := hid (by rw [HS.out, if_neg (fun e => hg2 e.2)])
            go_wp2_with fail
            go_roundw
            case rel => exact ⟨n + 1, m, n + 1, by omega, by omega, by omega, by go_num, by go_num, by go_num, HS2, hid (HK.out.drewN _)⟩
            case measure => simp [intOf]; omega
        · have q1 : decide ((l : Int) - 1 ≥ 0) = false := decide_eq_false (by omega)
          have HS2 : Hid (gapF f (n + 1) = (m, n + 1)) := hid (by rw [HS.out, if_neg (fun e => hl0 e.1)])
          go_wp2_with fail
          go_roundw
          case rel => exact ⟨n + 1, m, n + 1, by omega, by omega, by omega, by go_num, rfl, by go_num, HS2, hid (HK.out.drewN _)⟩
          case measure => simp [intOf]; omega
    · have hd : decide ((n : Int) < 2 * (N : Int)) = false := decide_eq_false (by omega)
      obtain rfl : n = 2 * N := by omega
      have HE : Hid ((gapF f (2 * N)).1 = m) := hid (by rw [HGF.out])
      clear hlt
      go_wp2_with fail
      go_ret
      exact ⟨by rw [HE.out]; rfl, K2.out.trans HK.out⟩

end

set_option maxHeartbeats 400000 in
set_option maxRecDepth 100000 in
theorem tgap_any {w : World} {sa ra ta : Option Addr} {sn sc rn rc tc : Nat} {t : List (List Int × Value)} (h : TabR w (.slice ta t.length tc) t) (hL : 1 ≤ t.length ∧ t.length ≤ 64) (hm : ∀ l ∈ t, l.1.length ≤ 100000) (hrn : rn ≤ 64) (r : Int) (hr : ¬ (0 ≤ r ∧ r < (rn : Int)) → ∀ l ∈ t, r ∉ l.1) (i0 i1 i2 i3 i4 i5 i6 : Int) (b : Bool) :
    Calls Try.prog 14 #[cfgV (.slice sa sn sc) (.slice ra rn rc) (.slice ta t.length tc) i0 i1 i2 i3 i4 i5 b i6, .int .i64 r] w fun e w' => e = .returned (.int .i64 (gapD (t.map (·.1)) r)) ∧ Keeps No w w' :=
  tgap2_any h rfl hL hrn r hr i0 i1 i2 i3 i4 i5 i6 b

set_option maxHeartbeats 8000000 in
set_option maxRecDepth 100000 in
theorem tlate_any {w : World} {C : Cfg} {sg ru tb : Option Addr} {sgc ruc tbc : Nat} (h : CfgR w C (.slice sg C.sigs.length sgc) (.slice ru C.ruls.length ruc) (.slice tb C.tab.length tbc)) (hm : Made C) (r : Int) :
    Calls Try.prog 15 #[.agg #[.slice sg C.sigs.length sgc, .slice ru C.ruls.length ruc, .slice tb C.tab.length tbc, .int .i64 C.b0, .int .i64 C.b1, .int .i64 C.b2, .int .i64 C.drain, .int .i64 C.pause, .int .i64 C.off, .bool C.brk, .int .i64 C.log], .int .i64 r] w fun e w' => e = .returned (.int .i64 (lateD C r)) ∧ Keeps No w w' := by
  obtain ⟨RN, hRN⟩ : ∃ q, C.ruls.length = q := ⟨_, rfl⟩
  obtain ⟨N, hN⟩ : ∃ q, C.tab.length = q := ⟨_, rfl⟩
  have hr8 : 1 ≤ RN ∧ RN ≤ 8 := by rw [← hRN]; exact hm.few
  have hn6 : 1 ≤ N ∧ N ≤ 6 := by rw [← hN]; exact hm.slots
  obtain ⟨r1, r8⟩ := hr8
  obtain ⟨n1, n6⟩ := hn6
  have HRN := hid hRN
  have HNN := hid hN
  have HC := hid h
  have HM := hid hm
  rw [hRN, hN] at HC ⊢
  clear h hm hRN hN
  obtain ⟨W1, hW1⟩ : ∃ W1, w.alloc (.cells #[.slice sg C.sigs.length sgc, .slice ru RN ruc, .slice tb N tbc, .int .i64 C.b0, .int .i64 C.b1, .int .i64 C.b2, .int .i64 C.drain, .int .i64 C.pause, .int .i64 C.off, .bool C.brk, .int .i64 C.log] 33) = W1 := ⟨_, rfl⟩
  have k1 : Keeps No w W1 := by rw [← hW1]; exact (Keeps.refl _ _).alloc _
  have HBK : Hid (Bk W1 w.heap.size 33 [.slice sg C.sigs.length sgc, .slice ru RN ruc, .slice tb N tbc, .int .i64 C.b0, .int .i64 C.b1, .int .i64 C.b2, .int .i64 C.drain, .int .i64 C.pause, .int .i64 C.off, .bool C.brk, .int .i64 C.log]) := hid (by rw [← hW1]; exact Bk.new rfl _ _)
  have K1 := hid k1
  have HW1 := hid hW1
  have HT := hid (HC.out.tabR.calm k1)
  have HRU := hid (HC.out.rul.keep k1 (fun _ _ h => h))
  clear k1 hW1
  obtain ⟨wb, hwb⟩ : ∃ q, w.heap.size = q := ⟨_, rfl⟩
  rw [hwb] at HBK
  have HWB := hid hwb
  clear hwb
  have HR := hid (fun w => trule_any (sa := sg) (ra := ru) (ta := tb) (sn := C.sigs.length) (sc := sgc) (rn := RN) (rc := ruc) (tc := tbc) (N := N) w r (by omega) C.b0 C.b1 C.b2 C.drain C.pause C.off C.log C.brk)
  by_cases hin : 0 ≤ r ∧ r < (RN : Int)
  · rw [decide_eq_true hin] at HR
    obtain ⟨i0, i1⟩ := hin
    obtain ⟨k, hk⟩ : ∃ k : Nat, r = (k : Int) := ⟨r.toNat, by omega⟩
    subst hk
    have hkR : k < RN := by omega
    have hkl : k < C.ruls.length := by rw [HRN.out]; exact hkR
    obtain ⟨g, hg⟩ : ∃ q : Nat, gapD (C.tab.map (·.1)) (k : Int) = q := ⟨_, rfl⟩
    have hg12 : g ≤ 12 := by
      rw [← hg]; unfold gapD; rw [List.length_map, HNN.out]
      rcases gapF_le (h := hasD (C.tab.map (·.1)) (k : Int)) (2 * N) with h | ⟨p, q, h1, h2, h3, _, _, _, h4⟩ <;> omega
    obtain ⟨wt, hwt⟩ : ∃ q : Int, waitD RN N = q := ⟨_, rfl⟩
    have hw0 : 0 ≤ wt ∧ wt ≤ 54 := by
      rw [← hwt]; unfold waitD
      refine ⟨Int.mul_nonneg (by omega) (by omega), ?_⟩
      have := Int.mul_le_mul (show (RN : Int) + 1 ≤ 9 by omega) (show (N : Int) ≤ 6 by omega) (by omega) (by omega)
      omega
    obtain ⟨x, hx⟩ : ∃ x, C.ruls[k] = x := ⟨_, rfl⟩
    obtain ⟨dl, hdl⟩ : ∃ q, x.1.delay = q := ⟨_, rfl⟩
    have hok := HM.out.ruls x (by rw [← hx]; exact List.getElem_mem hkl)
    have hd0 : 0 ≤ dl ∧ dl ≤ 1000 := by rw [← hdl]; have := hok.num.delay; omega
    obtain ⟨rg, rof, hra, hrg, hc⟩ := Sl.itemC (enc := encRul) (size := 9) (fun _ => rfl) (by decide) (by have h1 := HRU.out; rw [HRN.out] at h1; exact h1) hkl hx
    subst hra
    have y4 := hc 4 (.int .i64 dl) (by rw [← hdl]; rfl)
    have HY4 := hid y4
    have HG := hid (fun (w' : World) (kw : Keeps No W1 w') => tgap2_any (sa := sg) (sn := C.sigs.length) (sc := sgc) (ra := some ⟨rg, rof, none⟩) (rn := RN) (rc := ruc) (tc := tbc) (HT.out.calm kw) HNN.out ⟨n1, by omega⟩ (by omega) (k : Int) (fun h => absurd ⟨by omega, by omega⟩ h) C.b0 C.b1 C.b2 C.drain C.pause C.off C.log C.brk)
    have HWT := hid (fun (w' : World) => twait_any (sa := sg) (sn := C.sigs.length) (sc := sgc) (ra := some ⟨rg, rof, none⟩) (rn := RN) (rc := ruc) (ta := tb) (tc := tbc) w' N (by omega) (by omega) C.b0 C.b1 C.b2 C.drain C.pause C.off C.log C.brk)
    unfold cfgV at HWT
    rw [hg] at HG
    rw [hwt] at HWT
    have HRES : Hid (lateD C (k : Int) = IntKind.i64.wrap (IntKind.i64.wrap (dl + IntKind.i64.wrap (2 * g)) + wt)) := hid (by
      have e1 : isRule C (k : Int) = true := decide_eq_true ⟨by omega, by rw [HRN.out]; omega⟩
      unfold lateD
      rw [if_pos e1, hg, HRN.out, HNN.out, hwt]
      have e2 : delayD C (k : Int) = dl := by unfold delayD; rw [Int.toNat_natCast, List.getD_eq_getElem?_getD, List.getElem?_map, List.getElem?_eq_getElem hkl, hx]; exact hdl
      rw [e2]
      simp only [IntKind.wrap_i64]
      omega)
    rw [HRES.out]
    have d3 : decide (RN ≤ k) = false := decide_eq_false (by omega)
    clear hg hwt hx hdl hok hc y4 hkl
    have x0 := HBK.out.cell 0 rfl
    have x1 := HBK.out.cell 1 rfl
    have x2 := HBK.out.cell 2 rfl
    have x3 := HBK.out.cell 3 rfl
    have x4 := HBK.out.cell 4 rfl
    have x5 := HBK.out.cell 5 rfl
    have x6 := HBK.out.cell 6 rfl
    have x7 := HBK.out.cell 7 rfl
    have x8 := HBK.out.cell 8 rfl
    have x9 := HBK.out.cell 9 rfl
    have x10 := HBK.out.cell 10 rfl
    go_enter Try.func15, Try.ntmps15
    go_upto_region 1 with fail
    rw [HW1.out, HWB.out]
    clear HW1 HWB
    go_wp2_with fail
    refine (HR.out _).mono ?_
    rintro e w2 ⟨rfl, k2⟩
    have K2 := hid k2
    have HB2 := hid (HBK.out.kept k2)
    have HY := hid (k2.cell (fun h => h) HY4.out)
    clear k2 HR x0 x1 x2 x3 x4 x5 x6 x7 x8 x9 x10
    have x0 := HB2.out.cell 0 rfl
    have x1 := HB2.out.cell 1 rfl
    have x2 := HB2.out.cell 2 rfl
    have x3 := HB2.out.cell 3 rfl
    have x4 := HB2.out.cell 4 rfl
    have x5 := HB2.out.cell 5 rfl
    have x6 := HB2.out.cell 6 rfl
    have x7 := HB2.out.cell 7 rfl
    have x8 := HB2.out.cell 8 rfl
    have x9 := HB2.out.cell 9 rfl
    have x10 := HB2.out.cell 10 rfl
    have yy := HY.out
    go_upto_region 3 with fail
    first | go_region_held3 (fun w' => w'.cell? ⟨wb, 0, none⟩ = some (.slice sg C.sigs.length sgc) ∧ w'.cell? ⟨wb, 1, none⟩ = some (.slice (some ⟨rg, rof, none⟩) RN ruc) ∧ w'.cell? ⟨wb, 2, none⟩ = some (.slice tb N tbc) ∧ w'.cell? ⟨wb, 3, none⟩ = some (.int .i64 C.b0) ∧ w'.cell? ⟨wb, 4, none⟩ = some (.int .i64 C.b1) ∧ w'.cell? ⟨wb, 5, none⟩ = some (.int .i64 C.b2) ∧ w'.cell? ⟨wb, 6, none⟩ = some (.int .i64 C.drain) ∧ w'.cell? ⟨wb, 7, none⟩ = some (.int .i64 C.pause) ∧ w'.cell? ⟨wb, 8, none⟩ = some (.int .i64 C.off) ∧ w'.cell? ⟨wb, 9, none⟩ = some (.bool C.brk) ∧ w'.cell? ⟨wb, 10, none⟩ = some (.int .i64 C.log) ∧ w'.cell? ⟨rg, rof + k * 9 + 4, none⟩ = some (.int .i64 dl)) (first | with_reducible exact ⟨x0, x1, x2, x3, x4, x5, x6, x7, x8, x9, x10, yy⟩ | with_reducible exact ⟨cellDr x0, cellDr x1, cellDr x2, cellDr x3, cellDr x4, cellDr x5, cellDr x6, cellDr x7, cellDr x8, cellDr x9, cellDr x10, cellDr yy⟩ | with_reducible exact ⟨cellA _ x0, cellA _ x1, cellA _ x2, cellA _ x3, cellA _ x4, cellA _ x5, cellA _ x6, cellA _ x7, cellA _ x8, cellA _ x9, cellA _ x10, cellA _ yy⟩ | with_reducible exact ⟨cellDr (cellA _ x0), cellDr (cellA _ x1), cellDr (cellA _ x2), cellDr (cellA _ x3), cellDr (cellA _ x4), cellDr (cellA _ x5), cellDr (cellA _ x6), cellDr (cellA _ x7), cellDr (cellA _ x8), cellDr (cellA _ x9), cellDr (cellA _ x10), cellDr (cellA _ yy)⟩ | (go_keep; done)) (first | (go_at_call 14; (with_reducible refine (HG.out _ (Keeps.trans K2.out (by repeat' (first | with_reducible exact Keeps.refl _ _ | with_reducible assumption | with_reducible refine Keeps.drewN ?_ _ | with_reducible refine Keeps.drew ?_ | with_reducible refine Keeps.alloc ?_ _)))).mono ?_); rintro e w9 ⟨rfl, k⟩; have kk : Keeps No w2 w9 := Keeps.trans (by repeat' (first | with_reducible exact Keeps.refl _ _ | with_reducible assumption | with_reducible refine Keeps.drewN ?_ _ | with_reducible refine Keeps.drew ?_ | with_reducible refine Keeps.alloc ?_ _)) k; have g0 := HB2.out.kept kk; have x0 := g0.cell 0 rfl; have x1 := g0.cell 1 rfl; have x2 := g0.cell 2 rfl; have x3 := g0.cell 3 rfl; have x4 := g0.cell 4 rfl; have x5 := g0.cell 5 rfl; have x6 := g0.cell 6 rfl; have x7 := g0.cell 7 rfl; have x8 := g0.cell 8 rfl; have x9 := g0.cell 9 rfl; have x10 := g0.cell 10 rfl; have yy := kk.cell (fun h => h) HY.out; clear k g0) | (go_at_call 17; (with_reducible refine (HWT.out _).mono ?_); rintro e w9 ⟨rfl, k⟩; have kk : Keeps No w2 w9 := Keeps.trans (by repeat' (first | with_reducible exact Keeps.refl _ _ | with_reducible assumption | with_reducible refine Keeps.drewN ?_ _ | with_reducible refine Keeps.drew ?_ | with_reducible refine Keeps.alloc ?_ _)) k; have g0 := HB2.out.kept kk; have x0 := g0.cell 0 rfl; have x1 := g0.cell 1 rfl; have x2 := g0.cell 2 rfl; have x3 := g0.cell 3 rfl; have x4 := g0.cell 4 rfl; have x5 := g0.cell 5 rfl; have x6 := g0.cell 6 rfl; have x7 := g0.cell 7 rfl; have x8 := g0.cell 8 rfl; have x9 := g0.cell 9 rfl; have x10 := g0.cell 10 rfl; have yy := kk.cell (fun h => h) HY.out; clear k g0)) | fail
    all_goals
      go_wp2_with fail
      go_ret
      exact ⟨rfl, K1.out.trans (K2.out.trans kk)⟩
  · rw [decide_eq_false hin] at HR
    have HRES : Hid (lateD C r = 0) := hid (by
      have e1 : isRule C r = false := decide_eq_false (by rw [HRN.out]; exact hin)
      unfold lateD
      rw [if_neg (by rw [e1]; decide)])
    rw [HRES.out]
    have x0 := HBK.out.cell 0 rfl
    have x1 := HBK.out.cell 1 rfl
    have x2 := HBK.out.cell 2 rfl
    have x3 := HBK.out.cell 3 rfl
    have x4 := HBK.out.cell 4 rfl
    have x5 := HBK.out.cell 5 rfl
    have x6 := HBK.out.cell 6 rfl
    have x7 := HBK.out.cell 7 rfl
    have x8 := HBK.out.cell 8 rfl
    have x9 := HBK.out.cell 9 rfl
    have x10 := HBK.out.cell 10 rfl
    go_enter Try.func15, Try.ntmps15
    go_upto_region 1 with fail
    rw [HW1.out, HWB.out]
    clear HW1 HWB
    go_wp2_with fail
    refine (HR.out _).mono ?_
    rintro e w2 ⟨rfl, k2⟩
    have K2 := hid (K1.out.trans k2)
    clear k2
    go_wp2_with fail
    go_ret
    exact ⟨rfl, K2.out⟩

set_option maxHeartbeats 8000000 in
set_option maxRecDepth 100000 in
theorem tgone_any {w : World} {C : Cfg} {sg ru tb : Option Addr} {sgc ruc tbc : Nat} (h : CfgR w C (.slice sg C.sigs.length sgc) (.slice ru C.ruls.length ruc) (.slice tb C.tab.length tbc)) (hm : Made C) (r : Int) :
    Calls Try.prog 16 #[.agg #[.slice sg C.sigs.length sgc, .slice ru C.ruls.length ruc, .slice tb C.tab.length tbc, .int .i64 C.b0, .int .i64 C.b1, .int .i64 C.b2, .int .i64 C.drain, .int .i64 C.pause, .int .i64 C.off, .bool C.brk, .int .i64 C.log], .int .i64 r] w fun e w' => e = .returned (.int .i64 (goneD C r)) ∧ Keeps No w w' := by
  obtain ⟨RN, hRN⟩ : ∃ q, C.ruls.length = q := ⟨_, rfl⟩
  obtain ⟨N, hN⟩ : ∃ q, C.tab.length = q := ⟨_, rfl⟩
  have hr8 : 1 ≤ RN ∧ RN ≤ 8 := by rw [← hRN]; exact hm.few
  have hn6 : 1 ≤ N ∧ N ≤ 6 := by rw [← hN]; exact hm.slots
  obtain ⟨r1, r8⟩ := hr8
  obtain ⟨n1, n6⟩ := hn6
  have HRN := hid hRN
  have HNN := hid hN
  have HC := hid h
  have HM := hid hm
  rw [hRN, hN] at HC ⊢
  clear h hm hRN hN
  obtain ⟨W1, hW1⟩ : ∃ W1, w.alloc (.cells #[.slice sg C.sigs.length sgc, .slice ru RN ruc, .slice tb N tbc, .int .i64 C.b0, .int .i64 C.b1, .int .i64 C.b2, .int .i64 C.drain, .int .i64 C.pause, .int .i64 C.off, .bool C.brk, .int .i64 C.log] 33) = W1 := ⟨_, rfl⟩
  have k1 : Keeps No w W1 := by rw [← hW1]; exact (Keeps.refl _ _).alloc _
  have HBK : Hid (Bk W1 w.heap.size 33 [.slice sg C.sigs.length sgc, .slice ru RN ruc, .slice tb N tbc, .int .i64 C.b0, .int .i64 C.b1, .int .i64 C.b2, .int .i64 C.drain, .int .i64 C.pause, .int .i64 C.off, .bool C.brk, .int .i64 C.log]) := hid (by rw [← hW1]; exact Bk.new rfl _ _)
  have K1 := hid k1
  have HW1 := hid hW1
  have HT := hid (HC.out.tabR.calm k1)
  have HRU := hid (HC.out.rul.keep k1 (fun _ _ h => h))
  clear k1 hW1
  obtain ⟨wb, hwb⟩ : ∃ q, w.heap.size = q := ⟨_, rfl⟩
  rw [hwb] at HBK
  have HWB := hid hwb
  clear hwb
  have HR := hid (fun w => trule_any (sa := sg) (ra := ru) (ta := tb) (sn := C.sigs.length) (sc := sgc) (rn := RN) (rc := ruc) (tc := tbc) (N := N) w r (by omega) C.b0 C.b1 C.b2 C.drain C.pause C.off C.log C.brk)
  by_cases hin : 0 ≤ r ∧ r < (RN : Int)
  · rw [decide_eq_true hin] at HR
    obtain ⟨i0, i1⟩ := hin
    obtain ⟨k, hk⟩ : ∃ k : Nat, r = (k : Int) := ⟨r.toNat, by omega⟩
    subst hk
    have hkR : k < RN := by omega
    have hkl : k < C.ruls.length := by rw [HRN.out]; exact hkR
    obtain ⟨g, hg⟩ : ∃ q : Nat, gapD (C.tab.map (·.1)) (k : Int) = q := ⟨_, rfl⟩
    have hg12 : g ≤ 12 := by
      rw [← hg]; unfold gapD; rw [List.length_map, HNN.out]
      rcases gapF_le (h := hasD (C.tab.map (·.1)) (k : Int)) (2 * N) with h | ⟨p, q, h1, h2, h3, _, _, _, h4⟩ <;> omega
    obtain ⟨wt, hwt⟩ : ∃ q : Int, waitD RN N = q := ⟨_, rfl⟩
    have hw0 : 0 ≤ wt ∧ wt ≤ 54 := by
      rw [← hwt]; unfold waitD
      refine ⟨Int.mul_nonneg (by omega) (by omega), ?_⟩
      have := Int.mul_le_mul (show (RN : Int) + 1 ≤ 9 by omega) (show (N : Int) ≤ 6 by omega) (by omega) (by omega)
      omega
    obtain ⟨x, hx⟩ : ∃ x, C.ruls[k] = x := ⟨_, rfl⟩
    obtain ⟨dl, hdl⟩ : ∃ q, x.1.delay = q := ⟨_, rfl⟩
    have hok := HM.out.ruls x (by rw [← hx]; exact List.getElem_mem hkl)
    have hd0 : 0 ≤ dl ∧ dl ≤ 1000 := by rw [← hdl]; have := hok.num.delay; omega
    obtain ⟨rg, rof, hra, hrg, hc⟩ := Sl.itemC (enc := encRul) (size := 9) (fun _ => rfl) (by decide) (by have h1 := HRU.out; rw [HRN.out] at h1; exact h1) hkl hx
    subst hra
    have y4 := hc 4 (.int .i64 dl) (by rw [← hdl]; rfl)
    have HY4 := hid y4
    have HG := hid (fun (w' : World) (kw : Keeps No W1 w') => tgap2_any (sa := sg) (sn := C.sigs.length) (sc := sgc) (ra := some ⟨rg, rof, none⟩) (rn := RN) (rc := ruc) (tc := tbc) (HT.out.calm kw) HNN.out ⟨n1, by omega⟩ (by omega) (k : Int) (fun h => absurd ⟨by omega, by omega⟩ h) C.b0 C.b1 C.b2 C.drain C.pause C.off C.log C.brk)
    have HWT := hid (fun (w' : World) => twait_any (sa := sg) (sn := C.sigs.length) (sc := sgc) (ra := some ⟨rg, rof, none⟩) (rn := RN) (rc := ruc) (ta := tb) (tc := tbc) w' N (by omega) (by omega) C.b0 C.b1 C.b2 C.drain C.pause C.off C.log C.brk)
    unfold cfgV at HWT
    rw [hg] at HG
    rw [hwt] at HWT
    have HRES : Hid (goneD C (k : Int) = IntKind.i64.wrap (g + wt)) := hid (by
      have e1 : isRule C (k : Int) = true := decide_eq_true ⟨by omega, by rw [HRN.out]; omega⟩
      unfold goneD
      rw [if_pos e1, hg, HRN.out, HNN.out, hwt]
      simp only [IntKind.wrap_i64]
      omega)
    rw [HRES.out]
    have d3 : decide (RN ≤ k) = false := decide_eq_false (by omega)
    clear hg hwt hx hdl hok hc y4 hkl
    have x0 := HBK.out.cell 0 rfl
    have x1 := HBK.out.cell 1 rfl
    have x2 := HBK.out.cell 2 rfl
    have x3 := HBK.out.cell 3 rfl
    have x4 := HBK.out.cell 4 rfl
    have x5 := HBK.out.cell 5 rfl
    have x6 := HBK.out.cell 6 rfl
    have x7 := HBK.out.cell 7 rfl
    have x8 := HBK.out.cell 8 rfl
    have x9 := HBK.out.cell 9 rfl
    have x10 := HBK.out.cell 10 rfl
    go_enter Try.func16, Try.ntmps16
    go_upto_region 1 with fail
    rw [HW1.out, HWB.out]
    clear HW1 HWB
    go_wp2_with fail
    refine (HR.out _).mono ?_
    rintro e w2 ⟨rfl, k2⟩
    have K2 := hid k2
    have HB2 := hid (HBK.out.kept k2)
    have HY := hid (k2.cell (fun h => h) HY4.out)
    clear k2 HR x0 x1 x2 x3 x4 x5 x6 x7 x8 x9 x10
    have x0 := HB2.out.cell 0 rfl
    have x1 := HB2.out.cell 1 rfl
    have x2 := HB2.out.cell 2 rfl
    have x3 := HB2.out.cell 3 rfl
    have x4 := HB2.out.cell 4 rfl
    have x5 := HB2.out.cell 5 rfl
    have x6 := HB2.out.cell 6 rfl
    have x7 := HB2.out.cell 7 rfl
    have x8 := HB2.out.cell 8 rfl
    have x9 := HB2.out.cell 9 rfl
    have x10 := HB2.out.cell 10 rfl
    have yy := HY.out
    go_upto_region 3 with fail
    first | go_region_held3 (fun w' => w'.cell? ⟨wb, 0, none⟩ = some (.slice sg C.sigs.length sgc) ∧ w'.cell? ⟨wb, 1, none⟩ = some (.slice (some ⟨rg, rof, none⟩) RN ruc) ∧ w'.cell? ⟨wb, 2, none⟩ = some (.slice tb N tbc) ∧ w'.cell? ⟨wb, 3, none⟩ = some (.int .i64 C.b0) ∧ w'.cell? ⟨wb, 4, none⟩ = some (.int .i64 C.b1) ∧ w'.cell? ⟨wb, 5, none⟩ = some (.int .i64 C.b2) ∧ w'.cell? ⟨wb, 6, none⟩ = some (.int .i64 C.drain) ∧ w'.cell? ⟨wb, 7, none⟩ = some (.int .i64 C.pause) ∧ w'.cell? ⟨wb, 8, none⟩ = some (.int .i64 C.off) ∧ w'.cell? ⟨wb, 9, none⟩ = some (.bool C.brk) ∧ w'.cell? ⟨wb, 10, none⟩ = some (.int .i64 C.log) ∧ w'.cell? ⟨rg, rof + k * 9 + 4, none⟩ = some (.int .i64 dl)) (first | with_reducible exact ⟨x0, x1, x2, x3, x4, x5, x6, x7, x8, x9, x10, yy⟩ | with_reducible exact ⟨cellDr x0, cellDr x1, cellDr x2, cellDr x3, cellDr x4, cellDr x5, cellDr x6, cellDr x7, cellDr x8, cellDr x9, cellDr x10, cellDr yy⟩ | with_reducible exact ⟨cellA _ x0, cellA _ x1, cellA _ x2, cellA _ x3, cellA _ x4, cellA _ x5, cellA _ x6, cellA _ x7, cellA _ x8, cellA _ x9, cellA _ x10, cellA _ yy⟩ | with_reducible exact ⟨cellDr (cellA _ x0), cellDr (cellA _ x1), cellDr (cellA _ x2), cellDr (cellA _ x3), cellDr (cellA _ x4), cellDr (cellA _ x5), cellDr (cellA _ x6), cellDr (cellA _ x7), cellDr (cellA _ x8), cellDr (cellA _ x9), cellDr (cellA _ x10), cellDr (cellA _ yy)⟩ | (go_keep; done)) (first | (go_at_call 14; (with_reducible refine (HG.out _ (Keeps.trans K2.out (by repeat' (first | with_reducible exact Keeps.refl _ _ | with_reducible assumption | with_reducible refine Keeps.drewN ?_ _ | with_reducible refine Keeps.drew ?_ | with_reducible refine Keeps.alloc ?_ _)))).mono ?_); rintro e w9 ⟨rfl, k⟩; have kk : Keeps No w2 w9 := Keeps.trans (by repeat' (first | with_reducible exact Keeps.refl _ _ | with_reducible assumption | with_reducible refine Keeps.drewN ?_ _ | with_reducible refine Keeps.drew ?_ | with_reducible refine Keeps.alloc ?_ _)) k; have g0 := HB2.out.kept kk; have x0 := g0.cell 0 rfl; have x1 := g0.cell 1 rfl; have x2 := g0.cell 2 rfl; have x3 := g0.cell 3 rfl; have x4 := g0.cell 4 rfl; have x5 := g0.cell 5 rfl; have x6 := g0.cell 6 rfl; have x7 := g0.cell 7 rfl; have x8 := g0.cell 8 rfl; have x9 := g0.cell 9 rfl; have x10 := g0.cell 10 rfl; have yy := kk.cell (fun h => h) HY.out; clear k g0) | (go_at_call 17; (with_reducible refine (HWT.out _).mono ?_); rintro e w9 ⟨rfl, k⟩; have kk : Keeps No w2 w9 := Keeps.trans (by repeat' (first | with_reducible exact Keeps.refl _ _ | with_reducible assumption | with_reducible refine Keeps.drewN ?_ _ | with_reducible refine Keeps.drew ?_ | with_reducible refine Keeps.alloc ?_ _)) k; have g0 := HB2.out.kept kk; have x0 := g0.cell 0 rfl; have x1 := g0.cell 1 rfl; have x2 := g0.cell 2 rfl; have x3 := g0.cell 3 rfl; have x4 := g0.cell 4 rfl; have x5 := g0.cell 5 rfl; have x6 := g0.cell 6 rfl; have x7 := g0.cell 7 rfl; have x8 := g0.cell 8 rfl; have x9 := g0.cell 9 rfl; have x10 := g0.cell 10 rfl; have yy := kk.cell (fun h => h) HY.out; clear k g0)) | fail
    all_goals
      go_wp2_with fail
      go_ret
      exact ⟨rfl, K1.out.trans (K2.out.trans kk)⟩
  · rw [decide_eq_false hin] at HR
    have HRES : Hid (goneD C r = 0) := hid (by
      have e1 : isRule C r = false := decide_eq_false (by rw [HRN.out]; exact hin)
      unfold goneD
      rw [if_neg (by rw [e1]; decide)])
    rw [HRES.out]
    have x0 := HBK.out.cell 0 rfl
    have x1 := HBK.out.cell 1 rfl
    have x2 := HBK.out.cell 2 rfl
    have x3 := HBK.out.cell 3 rfl
    have x4 := HBK.out.cell 4 rfl
    have x5 := HBK.out.cell 5 rfl
    have x6 := HBK.out.cell 6 rfl
    have x7 := HBK.out.cell 7 rfl
    have x8 := HBK.out.cell 8 rfl
    have x9 := HBK.out.cell 9 rfl
    have x10 := HBK.out.cell 10 rfl
    go_enter Try.func16, Try.ntmps16
    go_upto_region 1 with fail
    rw [HW1.out, HWB.out]
    clear HW1 HWB
    go_wp2_with fail
    refine (HR.out _).mono ?_
    rintro e w2 ⟨rfl, k2⟩
    have K2 := hid (K1.out.trans k2)
    clear k2
    go_wp2_with fail
    go_ret
    exact ⟨rfl, K2.out⟩

end Go.Proofs.Ytfiijbpcaceibaa
