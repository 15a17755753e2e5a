/- A period later it is the same; somewhere within a period there is a pulse, and somewhere none. No conditions. -/
import Derived.Test.YtnmlaobiljmgaaaRows
import Derived.Test.YtnmlaobiljmgaaaArgs
import Derived.Test.YtnmlaobiljmgaaaBurK
import Derived.ProofKit
import Derived.OpenShut
import Derived.Deep.DeepCutAuto
import Derived.Deep.CutBlock
namespace Go.Proofs.Ytnmlaobiljmgaaa.burstRound
open Go.ChangeShapes Go.WideShapes Go.ChangeAt Go.RowKit
open Go.ChangeMaps (open_string shut_string)
set_option linter.unusedVariables false
set_option linter.unusedSimpArgs false

def anyR (f : Nat → Bool) (n : Nat) : Bool := (List.range n).any f
theorem anyR_succ (f : Nat → Bool) (n : Nat) : anyR f (n + 1) = (anyR f n || f n) := by unfold anyR; rw [List.range_succ, List.any_append]; simp
theorem anyR_true {f : Nat → Bool} {n k : Nat} (hk : k < n) (h : f k = true) : anyR f n = true := by
  unfold anyR; rw [List.any_eq_true]; exact ⟨k, List.mem_range.2 hk, h⟩
theorem sound_mod {q a b : Int} (ha : 0 ≤ a) (hb : 0 ≤ b) (h : a % (pulsesD q).2 = b % (pulsesD q).2) : soundD q a = soundD q b := by
  unfold soundD; rw [h, decide_eq_true ha, decide_eq_true hb]
theorem some_pulse {q a : Int} (hq : 1 ≤ q ∧ q ≤ 3) (ha : 0 ≤ a) : anyR (fun j => soundD q (a + j)) (pulsesD q).2.toNat = true := by
  have hp : 24 ≤ (pulsesD q).2 ∧ (pulsesD q).2 ≤ 40 ∧ soundD q 0 = true := by
    rcases (show q = 1 ∨ q = 2 ∨ q = 3 by omega) with rfl | rfl | rfl <;> decide
  obtain ⟨h1, h2, h3⟩ := hp
  obtain ⟨n, hn⟩ : ∃ n, (pulsesD q).2 = n := ⟨_, rfl⟩
  rw [hn] at h1 h2 ⊢
  have hm := Int.emod_nonneg a (show n ≠ 0 by omega)
  have hl := Int.emod_lt_of_pos a (show 0 < n by omega)
  by_cases hz : a % n = 0
  · refine anyR_true (k := 0) (by omega) ?_
    show soundD q (a + ((0 : Nat) : Int)) = true
    rw [sound_mod (b := 0) (by omega) (by omega) (by rw [hn]; simpa using hz)]
    exact h3
  · refine anyR_true (k := (n - a % n).toNat) (by omega) ?_
    show soundD q (a + ((n - a % n).toNat : Int)) = true
    rw [sound_mod (b := 0) (by omega) (by omega) (by
      rw [hn, Int.toNat_of_nonneg (by omega), show a + (n - a % n) = (a - a % n) + n by omega, Int.add_emod_right]
      have := Int.mul_ediv_add_emod a n
      rw [show a - a % n = n * (a / n) by omega, Int.mul_emod_right]
      simp)]
    exact h3
theorem some_none {q a : Int} (hq : 1 ≤ q ∧ q ≤ 3) (ha : 0 ≤ a) : anyR (fun j => !soundD q (a + j)) (pulsesD q).2.toNat = true := by
  have hp : 24 ≤ (pulsesD q).2 ∧ (pulsesD q).2 ≤ 40 ∧ soundD q 1 = false := by
    rcases (show q = 1 ∨ q = 2 ∨ q = 3 by omega) with rfl | rfl | rfl <;> decide
  obtain ⟨h1, h2, h3⟩ := hp
  obtain ⟨n, hn⟩ : ∃ n, (pulsesD q).2 = n := ⟨_, rfl⟩
  rw [hn] at h1 h2 ⊢
  have hm := Int.emod_nonneg a (show n ≠ 0 by omega)
  have hl := Int.emod_lt_of_pos a (show 0 < n by omega)
  have hd := Int.mul_ediv_add_emod a n
  by_cases hz : a % n = 0
  · refine anyR_true (k := 1) (by omega) ?_
    show (!soundD q (a + ((1 : Nat) : Int))) = true
    rw [sound_mod (b := 1) (by omega) (by omega) (by
      rw [hn]
      rw [show a + ((1 : Nat) : Int) = 1 + n * (a / n) by omega, Int.add_mul_emod_self_left])]
    rw [h3]; rfl
  · by_cases hz1 : a % n = 1
    · refine anyR_true (k := 0) (by omega) ?_
      show (!soundD q (a + ((0 : Nat) : Int))) = true
      rw [sound_mod (b := 1) (by omega) (by omega) (by
        rw [hn, show a + ((0 : Nat) : Int) = 1 + n * (a / n) by omega, Int.add_mul_emod_self_left])]
      rw [h3]; rfl
    · refine anyR_true (k := (n + 1 - a % n).toNat) (by omega) ?_
      show (!soundD q (a + ((n + 1 - a % n).toNat : Int))) = true
      rw [sound_mod (b := 1) (by omega) (by omega) (by
        rw [hn, Int.toNat_of_nonneg (by omega), show a + (n + 1 - a % n) = (1 + n) + n * (a / n) by omega, Int.add_mul_emod_self_left, Int.add_emod_right])]
      rw [h3]; rfl

set_option maxHeartbeats 8000000 in
set_option maxRecDepth 100000 in
theorem walk (w : World) (p : Int) (wp : (Lit.int .u8 p).wf = true) (ph : Int) (wh : (Lit.int .u32 ph).wf = true) (n : Int) (wn : (Lit.int .u8 n).wf = true) :
    Calls Try.prog 5 #[.int .u8 p, .int .u32 ph, .int .u8 n] w fun e w' => e = .returned (.bool true) ∧ Below w.heap.size w w' := by
  obtain ⟨p0, p1⟩ := bounds_u8 wp
  obtain ⟨h0, h1⟩ := bounds_u32 wh
  obtain ⟨n0, n1⟩ := bounds_u8 wn
  have hb : p.tmod 3 = p % 3 := Int.tmod_eq_emod_of_nonneg p0
  obtain ⟨q, hq⟩ : ∃ q, 1 + p % 3 = q := ⟨_, rfl⟩
  have hq3 : 1 ≤ q ∧ q ≤ 3 := by omega
  have h3 : IntKind.u8.wrap (p % 3) = p % 3 := by simp only [IntKind.wrap, IntKind.bits, IntKind.signed]; simp; omega
  have h4 : IntKind.u8.wrap (1 + p % 3) = q := by rw [hq]; simp only [IntKind.wrap, IntKind.bits, IntKind.signed]; simp; omega
  have hph : IntKind.i64.wrap ph = ph := by simp only [IntKind.wrap_i64]; omega
  have hnn : IntKind.i64.wrap n = n := by simp only [IntKind.wrap_i64]; omega
  obtain ⟨m, hm⟩ : ∃ m : Nat, (pulsesD q).2.toNat = m := ⟨_, rfl⟩
  have hpm : (pulsesD q).2 = m ∧ 24 ≤ m ∧ m ≤ 40 := by
    have := pulses_len q
    rcases (show q = 1 ∨ q = 2 ∨ q = 3 by omega) with h | h | h <;> subst h <;> subst hm <;> decide
  obtain ⟨hpm, m0, m1⟩ := hpm
  have hn0 : 0 ≤ n * (m : Int) ∧ n * (m : Int) ≤ 255 * 40 := ⟨Int.mul_nonneg n0 (by omega), Int.mul_le_mul n1 (by omega) (by omega) (by omega)⟩
  have HSS : Hid (soundD q (ph + n * (m : Int)) = soundD q ph) := hid (sound_mod (by omega) (by omega) (by rw [hpm, Int.mul_comm n, Int.add_mul_emod_self_left]))
  have HPER := hid (period_at hpm)
  have HQ3 := hid hq3
  have HPM := hid hpm
  have HAN : Hid (anyR (fun j => soundD q (ph + j)) m = true) := hid (by rw [← hm]; exact some_pulse hq3 h0)
  have HNN : Hid (anyR (fun j => !soundD q (ph + j)) m = true) := hid (by rw [← hm]; exact some_none hq3 h0)
  obtain ⟨r, hr⟩ : ∃ r, soundD q ph = r := ⟨_, rfl⟩
  have HSA := hid (sound_at hr ⟨by omega, by omega⟩)
  have HSB := hid (sound_at (HSS.out.trans hr) ⟨by omega, by omega⟩)
  have er : (r == r) = true := by simp
  obtain ⟨c, hc⟩ : ∃ c, n * (m : Int) = c := ⟨_, rfl⟩
  have hwc : IntKind.i64.wrap c = c := by simp only [IntKind.wrap_i64]; omega
  have hwd : IntKind.i64.wrap (ph + c) = ph + c := by simp only [IntKind.wrap_i64]; omega
  rw [hc] at HSB hn0
  have HM := hid hm
  clear hm hpm hq3 hr wp wh wn HSS
  have K0 : Hid (Keeps No w w) := hid (Keeps.refl _ _)
  go_enter Try.func5, Try.ntmps5
  go_wp2_with fail
  go_loopw [9, 10, 11] (fun v9 v10 v11 wr => ∃ (i : Nat) (s t : Bool), i ≤ m ∧ v11 = .int .i64 i ∧ v9 = .bool s ∧ v10 = .bool t ∧ Hid (anyR (fun j => soundD q (ph + j)) i = s) ∧ Hid (anyR (fun j => !soundD q (ph + j)) i = t) ∧ Hid (Keeps No w wr)) (fun _ _ v11 _ => m - (intOf v11).toNat)
  case atStart => exact ⟨0, false, false, Nat.zero_le _, rfl, rfl, rfl, hid rfl, hid rfl, hid (Keeps.refl _ _)⟩
  case round =>
    obtain ⟨i, s, t, hi, rfl, rfl, rfl, HA, HN, HK⟩ := hrel
    go_wp2_with fail
    refine (HPER.out _).mono ?_
    rintro e w2 ⟨rfl, rfl⟩
    by_cases hlt : i < m
    · obtain ⟨b, hb2⟩ : ∃ b, soundD q (ph + (i : Int)) = b := ⟨_, rfl⟩
      have HS := hid (sound_at hb2 ⟨by omega, by omega⟩)
      have HSD := hid hb2
      clear hb2
      cases b
      · go_wp2_with fail
        refine (HS.out _).mono ?_
        rintro e w3 ⟨rfl, k3⟩
        have K3 := hid (HK.out.trans k3)
        clear k3
        go_wp2_with fail
        go_roundw
        case rel => exact ⟨i + 1, s, true, by omega, by go_num, rfl, rfl, hid (by rw [anyR_succ, HA.out, HSD.out]; simp), hid (by rw [anyR_succ, HN.out, HSD.out]; simp), hid K3.out⟩
        case measure => simp [intOf]; omega

      · go_wp2_with fail
        refine (HS.out _).mono ?_
        rintro e w3 ⟨rfl, k3⟩
        have K3 := hid (HK.out.trans k3)
        clear k3
        go_wp2_with fail
        go_roundw
        case rel => exact ⟨i + 1, true, t, by omega, by go_num, rfl, rfl, hid (by rw [anyR_succ, HA.out, HSD.out]; simp), hid (by rw [anyR_succ, HN.out, HSD.out]; simp), hid K3.out⟩
        case measure => simp [intOf]; omega

    · obtain rfl : i = m := by omega
      have hs : s = true := by rw [← HA.out]; exact HAN.out
      have ht : t = true := by rw [← HN.out]; exact HNN.out
      subst hs ht
      have K0 := HK
      go_wp2_with fail
      refine (beats_true _).mono ?_
      rintro e w1 ⟨rfl, k1⟩
      have K1 := hid (K0.out.trans k1)
      clear k1
      go_wp2_with fail
      refine (HSA.out _).mono ?_
      rintro e w2 ⟨rfl, k2⟩
      have K2 := hid (K1.out.trans k2)
      clear k2
      go_wp2_with fail
      refine (HPER.out _).mono ?_
      rintro e w9 ⟨rfl, rfl⟩
      go_wp2_with fail
      refine (HSB.out _).mono ?_
      rintro e w3 ⟨rfl, k3⟩
      have K3 := hid (K2.out.trans k3)
      clear k3
      go_wp2_with fail
      go_ret
      exact ⟨rfl, K3.out.toBelow⟩

theorem own : ownKnob Try.prog.godebug = none := by kernel_rfl
theorem laidOut : laidOutB Try.prog = true := by kernel_rfl
set_option maxRecDepth 100000 in
theorem lifted (os : Os) (started : os.Started) (H : Type) (enc : TypeId × Value → H) :
    ReturnsInHanded {} Try.checked os 5 .any (Rows.burstRoundSpec.pre6 enc Try.prog Try.f5 Rows.burstRoundRow.domain false) (Rows.burstRoundSpec.post enc Try.prog Try.f5 false true false false) := by
  refine returnsInHanded_of_change (C := Try.checked) own started (by kernel_rfl) Try.func5
    (ChangeSpec.witness6 (enc := enc) (C := Try.checked) false ⟨#[], #[.int .u8 0, .int .u32 0, .int .u8 0], []⟩ 8 (by kernel_rfl) (by kernel_rfl) (by kernel_rfl) (by kernel_rfl)) ?_
  intro W base args ds gs before hval0 hW hcnd _
  have hval : ∀ (j : Nat) t v, Try.f5.params[j]? = some t → args[j]? = some v → Value.okWide Try.prog W .any base t v := hval0
  have hW' := hW
  obtain ⟨p, q, hA0, hV, rfl, hfz, hnd⟩ := hW
  have hA : DataW.TrodAll enc Try.prog W 0 (fun _ => true) true Try.f5.params.toList args.toList ds p := hA0
  rw [Try.params5] at hA hval
  obtain ⟨v0, vs0, d0, ds0, p0, q0, hargs, rfl, rfl, h0, r0⟩ := trodAll_cons hA
  obtain ⟨v1, vs1, d1, ds1, p1, q1, rfl, rfl, rfl, h1, r1⟩ := trodAll_cons r0
  obtain ⟨v2, vs2, d2, ds2, p2, q2, rfl, rfl, rfl, h2, r2⟩ := trodAll_cons r1
  obtain ⟨rfl, rfl, rfl⟩ := trodAll_nil r2
  obtain rfl : args = #[v0, v1, v2] := by cases args; simp_all
  obtain ⟨rfl, rfl⟩ := trodVars_none hV
  have k0 := h0
  have lt0 : ∀ x ∈ p0, x.block < W.heap.size := by obtain ⟨m, hm⟩ := k0; exact DataW.trod_lt m _ _ _ hm
  have k1 := h1
  have lt1 : ∀ x ∈ p1, x.block < W.heap.size := by obtain ⟨m, hm⟩ := k1; exact DataW.trod_lt m _ _ _ hm
  have k2 := h2
  have lt2 : ∀ x ∈ p2, x.block < W.heap.size := by obtain ⟨m, hm⟩ := k2; exact DataW.trod_lt m _ _ _ hm
  obtain ⟨a0, rfl, rfl, rfl, w0⟩ := open_int Try.underlying5 (hval 0 5 v0 rfl rfl) h0
  obtain ⟨a1, rfl, rfl, rfl, w1⟩ := open_int Try.underlying31 (hval 1 31 v1 rfl rfl) h1
  obtain ⟨a2, rfl, rfl, rfl, w2⟩ := open_int Try.underlying5 (hval 2 5 v2 rfl rfl) h2
  clear hA0 hval0
  refine (walk W a0 w0 a1 w1 a2 w2).mono fun e W' ⟨he, bel⟩ => ?_
  subst he
  exact ⟨_, rfl, _, _, _, [], _, [], hW', trodAll_mk1 (shut_bool Try.underlying4 _), (trodAll_cons_mk (Below.trod laidOut (by kernel_rfl) (of_decide_eq_true (by kernel_rfl)) k0 bel lt0) (trodAll_cons_mk (Below.trod laidOut (by kernel_rfl) (of_decide_eq_true (by kernel_rfl)) k1 bel lt1) (trodAll_cons_mk (Below.trod laidOut (by kernel_rfl) (of_decide_eq_true (by kernel_rfl)) k2 bel lt2) trodAll_mk0))), rfl, bel.frame _, fun h => by cases h⟩

theorem over : Rows.burstRoundRow.holds Try.pinned (OpenSpec.ofChange Rows.burstRoundSpec) :=
  OpenClaim.holds_of_wide 5 Try.f5 rfl rfl rfl rfl rfl rfl rfl ⟨rfl, rfl, rfl, rfl, rfl⟩ rfl rfl rfl rfl rfl (by kernel_rfl) Try.func5 (by kernel_rfl)
    (of_decide_eq_true (by kernel_rfl)) (by unfold Func.isWrapper; first | (rw [if_pos (by decide +kernel)]; kernel_rfl) | (rw [if_neg (by decide +kernel)]; exact ⟨rfl, rfl⟩))
    (fun os started H enc _ => lifted os started H enc)

theorem proved : Rows.BurstRoundSaid := over
#print axioms proved
end Go.Proofs.Ytnmlaobiljmgaaa.burstRound
