/-
  A condition that nobody acknowledges grows: the document's.
-/
import Derived.Test.YtpliabljhkejoaaLadP
import Derived.Test.YtpliabljhkejoaaCellP
import Derived.BigQuiet
import Derived.Deep.DeepCutAuto
namespace Go.Proofs.Ytpliabljhkejoaa
open Go.RowKit
set_option linter.unusedVariables false

/-- A slice of stages. -/
def SlS (w : World) (v : Value) (l : List StD) : Prop := Sl w 2 v l.length (l.flatMap encSt)
def SmallSt (l : List StD) : Prop := l.length ≤ 8 ∧ ∀ s ∈ l, 0 ≤ s.wait ∧ s.wait ≤ 1000000
theorem sumD_small {l : List StD} (h : SmallSt l) {k : Nat} (hk : k ≤ l.length) : 0 ≤ sumD l k ∧ sumD l k ≤ 1000000 * k := by
  induction k with
  | zero => simp [sumD]
  | succ k ih =>
    have h1 := ih (by omega)
    rw [sumD_succ l k (by omega)]
    have h2 := h.2 _ (List.getElem_mem (show k < l.length by omega))
    constructor
    · omega
    · push_cast; omega

set_option maxHeartbeats 2000000 in
set_option maxRecDepth 100000 in
theorem msum_any {w : World} {v : Value} {l : List StD} (h : SlS w v l) (hs : SmallSt l) (k : Int) (hk : -9223372036854775808 ≤ k ∧ k ≤ 9223372036854775807) :
    Calls Try.prog 11 #[v, .int .i64 k] w fun e w' => e = .returned (.int .i64 (sumD l k.toNat)) ∧ Keeps No w w' := by
  obtain ⟨a, c, rfl⟩ := Sl.any h
  have H := hid h
  have HS := hid hs
  obtain ⟨N, hN⟩ : ∃ N, l.length = N := ⟨_, rfl⟩
  have h8 : N ≤ 8 := by rw [← hN]; exact hs.1
  have HN := hid hN
  have HSL : Hid (Sl w 2 (.slice a N c) N (l.flatMap encSt)) := hid (by rw [← hN]; exact h)
  rw [hN]
  clear h hs hN
  obtain ⟨R, hR⟩ : ∃ R, sumD l k.toNat = R := ⟨_, rfl⟩
  rw [hR]
  have HR := hid hR
  clear hR
  go_enter Try.func11, Try.ntmps11
  go_wp2_with fail
  go_loop [5, 6] (fun v5 v6 => ∃ i : Nat, i ≤ N ∧ (i : Int) ≤ (if k < 0 then 0 else k) ∧ v6 = .int .i64 i ∧ v5 = .int .i64 (sumD l i)) (fun _ v6 => N - (intOf v6).toNat)
  case atStart => exact ⟨0, Nat.zero_le _, by split <;> omega, rfl, by rw [sumD_zero]⟩
  case round =>
    obtain ⟨i, hi, hik, rfl, rfl⟩ := hrel
    by_cases hk1 : (i : Int) < k
    · have d1 : decide ((i : Int) < k) = true := decide_eq_true hk1
      by_cases hil : i < N
      · have d2 : decide ((i : Int) < (N : Int)) = true := decide_eq_true (by omega)
        have hil2 : i < l.length := by rw [HN.out]; exact hil
        obtain ⟨⟨wt, pr⟩, hx⟩ : ∃ x, l[i] = x := ⟨_, rfl⟩
        obtain ⟨g, off, rfl, _, hc⟩ := Sl.itemC (enc := encSt) (size := 2) (fun _ => rfl) (by decide) HSL.out hil2 hx
        have c0 := hc 0 _ rfl
        simp only [Nat.add_zero] at c0
        have hsu := sumD_succ l i hil2
        rw [hx] at hsu
        dsimp only at hsu c0
        have hb := sumD_small HS.out (k := i) (by omega)
        have hw := HS.out.2 _ (List.getElem_mem hil2)
        rw [hx] at hw
        dsimp only at hw
        obtain ⟨s, hse⟩ : ∃ s, sumD l i = s := ⟨_, rfl⟩
        rw [hse] at hsu hb ⊢
        have HSU := hid hsu
        obtain ⟨hb0, hb1⟩ := hb
        obtain ⟨hw0, hw1⟩ := hw
        clear hx hc hsu hse
        go_wp2_with fail
        go_round
        case rel => exact ⟨i + 1, by omega, by split <;> omega, by go_num, by rw [HSU.out]⟩
        case measure => simp [intOf]; omega
      · have d2 : decide ((i : Int) < (N : Int)) = false := decide_eq_false (by omega)
        have e : sumD l k.toNat = sumD l i := by rw [sumD_all l k.toNat (by rw [HN.out]; omega), sumD_all l i (by rw [HN.out]; omega)]
        rw [← e, HR.out]
        clear e
        go_wp2_with fail
        go_ret
        exact ⟨rfl, Keeps.refl _ _⟩
    · have d1 : decide ((i : Int) < k) = false := decide_eq_false hk1
      have e : k.toNat = i := by split at hik <;> omega
      rw [← e, HR.out]
      clear e
      go_wp2_with fail
      go_ret
      exact ⟨rfl, Keeps.refl _ _⟩

set_option maxHeartbeats 2000000 in
set_option maxRecDepth 100000 in
theorem mreached_any {w : World} {v : Value} {l : List StD} (h : SlS w v l) (hs : SmallSt l) (d : Int) :
    Calls Try.prog 13 #[v, .int .i64 d] w fun e w' => e = .returned (.int .i64 (reachedD l d)) ∧ Keeps No w w' := by
  obtain ⟨a, c, rfl⟩ := Sl.any h
  have HSUM := hid (fun (w' : World) (kw : Keeps No w w') (k : Int) (hk : -9223372036854775808 ≤ k ∧ k ≤ 9223372036854775807) => msum_any (Sl.keep h kw (fun _ _ h => h)) hs k hk)
  obtain ⟨N, hN⟩ : ∃ N, l.length = N := ⟨_, rfl⟩
  have h8 : N ≤ 8 := by rw [← hN]; exact hs.1
  unfold reachedD
  rw [hN] at HSUM ⊢
  clear h hs hN
  obtain ⟨R, hR⟩ : ∃ R, reachD l d N = R := ⟨_, rfl⟩
  rw [hR]
  have HR := hid hR
  clear hR
  go_enter Try.func13, Try.ntmps13
  go_wp2_with fail
  go_loopw [5, 6] (fun v5 v6 wr => ∃ i : Nat, i ≤ N ∧ v6 = .int .i64 ((i : Int) + 1) ∧ v5 = .int .i64 (reachD l d i) ∧ Hid (Keeps No w wr)) (fun _ v6 _ => N + 1 - (intOf v6).toNat)
  case atStart => exact ⟨0, Nat.zero_le _, rfl, rfl, hid (Keeps.refl _ _)⟩
  case round =>
    obtain ⟨i, hi, rfl, rfl, HK⟩ := hrel
    by_cases hil : i < N
    · have d2 : decide ((i : Int) + 1 ≤ (N : Int)) = true := decide_eq_true (by omega)
      have hrs : reachD l d (i + 1) = if sumD l (i + 1) ≤ d then i + 1 else reachD l d i := rfl
      have htn : ((i : Int) + 1).toNat = i + 1 := by omega
      obtain ⟨s, hse⟩ : ∃ s, sumD l (i + 1) = s := ⟨_, rfl⟩
      obtain ⟨r, hre⟩ : ∃ r, reachD l d i = r := ⟨_, rfl⟩
      rw [hse, hre] at hrs
      rw [hre]
      have HRS := hid hrs
      have HC : Hid (∀ w', Keeps No w w' → Calls Try.prog 11 #[.slice a N c, .int .i64 ((i : Int) + 1)] w' fun e w'' => e = .returned (.int .i64 s) ∧ Keeps No w' w'') := hid (fun w' kw => by
        have h := HSUM.out w' kw ((i : Int) + 1) ⟨by omega, by omega⟩
        rw [htn, hse] at h
        exact h)
      clear hrs htn hse hre
      by_cases hsd : s ≤ d
      · have d3 : decide (s ≤ d) = true := decide_eq_true hsd
        have hr2 := HRS.out
        rw [if_pos hsd] at hr2
        have HR2 := hid hr2
        clear hr2
        go_wp2_with fail
        refine (HC.out _ HK.out).mono ?_
        rintro e w1 ⟨rfl, kp⟩
        have K1 := hid (HK.out.trans kp)
        clear kp
        go_wp2_with fail
        go_roundw
        case rel => exact ⟨i + 1, by omega, by go_num, by rw [HR2.out]; go_num, K1⟩
        case measure => simp [intOf]; omega
      · have d3 : decide (s ≤ d) = false := decide_eq_false hsd
        have hr2 := HRS.out
        rw [if_neg hsd] at hr2
        have HR2 := hid hr2
        clear hr2
        go_wp2_with fail
        refine (HC.out _ HK.out).mono ?_
        rintro e w1 ⟨rfl, kp⟩
        have K1 := hid (HK.out.trans kp)
        clear kp
        go_wp2_with fail
        go_roundw
        case rel => exact ⟨i + 1, by omega, by go_num, by rw [HR2.out], K1⟩
        case measure => simp [intOf]; omega
    · obtain rfl : i = N := by omega
      have d2 : decide ((i : Int) + 1 ≤ (i : Int)) = false := decide_eq_false (by omega)
      rw [HR.out]
      go_wp2_with fail
      go_ret
      exact ⟨rfl, HK.out⟩

set_option maxHeartbeats 2000000 in
set_option maxRecDepth 100000 in
theorem mpri_any {w : World} {v : Value} {l : List StD} (h : SlS w v l) (hs : SmallSt l) (a0 a1 a2 a3 a4 a5 a7 : Value) (p : Int) (k : Int) (hk : -9223372036854775808 ≤ k ∧ k ≤ 9223372036854775807) :
    Calls Try.prog 15 #[.agg #[a0, a1, a2, a3, a4, a5, .int .u8 p, a7, v], .int .i64 k] w fun e w' => e = .returned (.int .u8 (priD p l k.toNat)) ∧ Keeps No w w' := by
  obtain ⟨a, c, rfl⟩ := Sl.any h
  obtain ⟨W1, hW1⟩ : ∃ W, w.alloc (.cells #[a0, a1, a2, a3, a4, a5, .int .u8 p, a7, .slice a l.length c] 26) = W := ⟨_, rfl⟩
  have k1 : Keeps No w W1 := by rw [← hW1]; exact (Keeps.refl _ _).alloc _
  have hb : Bk W1 w.heap.size 26 [a0, a1, a2, a3, a4, a5, .int .u8 p, a7, .slice a l.length c] := by rw [← hW1]; exact Bk.new rfl _ _
  obtain ⟨N, hN⟩ : ∃ N, l.length = N := ⟨_, rfl⟩
  have h8 : N ≤ 8 := by rw [← hN]; exact hs.1
  have HN := hid hN
  have HSL : Hid (Sl W1 2 (.slice a N c) N (l.flatMap encSt)) := hid (by rw [← hN]; exact Sl.keep h k1 (fun _ _ h => h))
  rw [hN] at hW1 hb ⊢
  have HW1 := hid hW1
  have K1 := hid k1
  have x6 := hb.cell 6 rfl
  have x8 := hb.cell 8 rfl
  obtain ⟨hk0, hk9⟩ := hk
  clear h hs hN hW1 k1 hb
  obtain ⟨R, hR⟩ : ∃ R, priD p l k.toNat = R := ⟨_, rfl⟩
  rw [hR]
  have HR := hid hR
  clear hR
  go_enter Try.func15, Try.ntmps15
  go_upto_region 1 with fail
  rw [HW1.out]
  clear HW1
  go_wp2_with fail
  go_loop [5, 6] (fun v5 v6 => ∃ i : Nat, i ≤ N ∧ (i : Int) ≤ (if k < 0 then 0 else k) ∧ v6 = .int .i64 ((i : Int) + 1) ∧ v5 = .int .u8 (priD p l i)) (fun _ v6 => N + 1 - (intOf v6).toNat)
  case atStart => exact ⟨0, Nat.zero_le _, by split <;> omega, rfl, rfl⟩
  case round =>
    obtain ⟨i, hi, hik, rfl, rfl⟩ := hrel
    by_cases hk1 : (i : Int) + 1 ≤ k
    · have d1 : decide ((i : Int) + 1 ≤ k) = true := decide_eq_true hk1
      by_cases hil : i < N
      · have d2 : decide ((i : Int) + 1 ≤ (N : Int)) = true := decide_eq_true (by omega)
        have hil2 : i < l.length := by rw [HN.out]; exact hil
        obtain ⟨⟨wt, pr⟩, hx⟩ : ∃ x, l[i] = x := ⟨_, rfl⟩
        obtain ⟨g, off, rfl, _, hc⟩ := Sl.itemC (enc := encSt) (size := 2) (fun _ => rfl) (by decide) HSL.out hil2 hx
        have c1 := hc 1 _ rfl
        have hsu := priD_succ p l i hil2
        rw [hx] at hsu
        dsimp only at hsu c1
        obtain ⟨s, hse⟩ : ∃ s, priD p l i = s := ⟨_, rfl⟩
        rw [hse]
        have HSU := hid hsu
        have hsub : IntKind.i64.wrap ((i : Int) + 1 - 1) = i := by simp only [IntKind.wrap_i64]; omega
        clear hx hc hsu hse
        go_wp2_with fail
        go_round
        case rel => exact ⟨i + 1, by omega, by split <;> omega, by go_num, by rw [HSU.out]⟩
        case measure => simp [intOf]; omega
      · have d2 : decide ((i : Int) + 1 ≤ (N : Int)) = false := decide_eq_false (by omega)
        have e : priD p l k.toNat = priD p l i := by rw [priD_all p l k.toNat (by rw [HN.out]; omega), priD_all p l i (by rw [HN.out]; omega)]
        rw [← e, HR.out]
        clear e
        go_wp2_with fail
        go_ret
        exact ⟨rfl, K1.out⟩
    · have d1 : decide ((i : Int) + 1 ≤ k) = false := decide_eq_false hk1
      have e : k.toNat = i := by split at hik <;> omega
      rw [← e, HR.out]
      clear e
      go_wp2_with fail
      go_ret
      exact ⟨rfl, K1.out⟩

end Go.Proofs.Ytpliabljhkejoaa
