/-
  A condition that nobody acknowledges grows: the program's.
-/
import Derived.Test.YtpliabljhkejoaaLadM
import Derived.Test.YtpliabljhkejoaaCellP
import Derived.BigQuiet
import Derived.Deep.DeepCutAuto
namespace Go.Proofs.Ytpliabljhkejoaa
open Go.RowKit
set_option linter.unusedVariables false

theorem run_headTo {P : Program} {t e : TypeId} {size n cap hi : Nat} {a : Option Addr} {z : Int} (ht : P.underlying t = some (.slice e)) (hs : (P.info? e).map (·.size) = some size) (hz : z = hi) (h : hi ≤ n) (hc : n ≤ cap) (w : World) :
    (Instr.slice t (.slice a n cap) none (some (.int .i64 z)) none).run P w = .ok (.slice a hi cap) w := by
  subst hz
  obtain ⟨i, hi', rfl⟩ : ∃ i, P.info? e = some i ∧ i.size = size := by simpa [Option.map_eq_some_iff] using hs
  have hle : (hi : Int) ≤ cap := by omega
  rcases a with _ | ⟨g, o, y⟩ <;> simp [Instr.slice, run_underlying ht, Instr.sliceBounds, run_sliceBound, sizeOf, typeInfo, hi', hle, Addr.add]

set_option maxHeartbeats 2000000 in
set_option maxRecDepth 100000 in
theorem lwithin_any (w : World) (a : Option Addr) (N c : Nat) (h8 : N ≤ 8) (k : Int) (hk : -9223372036854775808 ≤ k ∧ k ≤ 9223372036854775807) :
    Calls Try.prog 19 #[.slice a N c, .int .i64 k] w fun e w' => e = .returned (.int .i64 ((min k.toNat N : Nat) : Int)) ∧ w' = w := by
  obtain ⟨hk0, hk9⟩ := hk
  go_enter Try.func19, Try.ntmps19
  go_wp2_with fail
  all_goals
    go_ret
    refine ⟨congrArg (fun z : Int => Ending.returned (Value.int .i64 z)) (?_ : (_ : Int) = _), rfl⟩
    split at * <;> omega

set_option maxHeartbeats 2000000 in
set_option maxRecDepth 100000 in
theorem lsum_any {w : World} {v : Value} {l : List StD} (h : SlS w v l) (hs : SmallSt l) (k : Int) (hk : -9223372036854775808 ≤ k ∧ k ≤ 9223372036854775807) :
    Calls Try.prog 10 #[v, .int .i64 k] w fun e w' => e = .returned (.int .i64 (sumD l k.toNat)) ∧ Keeps No w w' := by
  obtain ⟨a, c, rfl⟩ := Sl.any h
  have HS := hid hs
  obtain ⟨N, hN⟩ : ∃ N, l.length = N := ⟨_, rfl⟩
  have h8 : N ≤ 8 := by rw [← hN]; exact hs.1
  have HN := hid hN
  have HSL : Hid (Sl w 2 (.slice a N c) N (l.flatMap encSt)) := hid (by rw [← hN]; exact h)
  have hcap : N ≤ c := by
    obtain ⟨_, _, a', cap', hv, hc, _⟩ := HSL.out
    simp only [Value.slice.injEq] at hv
    obtain ⟨_, _, rfl⟩ := hv
    exact hc
  rw [hN]
  have HW := hid (fun w' => lwithin_any w' a N c h8 k hk)
  obtain ⟨M, hM⟩ : ∃ M : Nat, min k.toNat N = M := ⟨_, rfl⟩
  rw [hM] at HW
  have hMN : M ≤ N := by omega
  have hR : sumD l k.toNat = sumD l M := by
    rcases Nat.lt_or_ge k.toNat N with h1 | h1
    · congr 1; omega
    · rw [sumD_all l k.toNat (by rw [hN]; exact h1)]; congr 1; omega
  rw [hR]
  clear h hs hN hR hM hk
  have qs : ∀ w' : World, (Instr.slice 24 (.slice a N c) none (some (.int .i64 (M : Int))) none).run Try.prog w' = .ok (.slice a M c) w' := fun w' => run_headTo (size := 2) Try.underlying24 (by kernel_rfl) rfl hMN hcap w'
  go_enter Try.func10, Try.ntmps10
  go_wp2_with fail
  refine (HW.out _).mono ?_
  rintro e w1 ⟨rfl, rfl⟩
  go_wp2_with fail
  go_loopw [5, 14] (fun v5 v14 wr => ∃ i : Nat, i ≤ M ∧ v14 = .int .i64 i ∧ v5 = .int .i64 (sumD l i) ∧ Hid (Keeps No w1 wr)) (fun _ v14 _ => M - (intOf v14).toNat)
  case atStart => exact ⟨0, Nat.zero_le _, rfl, by rw [sumD_zero], hid (Keeps.refl _ _)⟩
  case round =>
    obtain ⟨i, hi, rfl, rfl, HK⟩ := hrel
    by_cases hil : i < M
    · have d2 : decide ((i : Int) < (M : Int)) = true := decide_eq_true (by omega)
      have hil2 : i < l.length := by rw [HN.out]; omega
      obtain ⟨⟨wt, pr⟩, hx⟩ : ∃ x, l[i] = x := ⟨_, rfl⟩
      obtain ⟨g, off, rfl, _, hc⟩ := Sl.itemC (enc := encSt) (size := 2) (fun _ => rfl) (by decide) HSL.out hil2 hx
      have c0 := HK.out.cell (fun h => h) (hc 0 _ rfl)
      have c1 := HK.out.cell (fun h => h) (hc 1 _ rfl)
      simp only [Nat.add_zero] at c0
      dsimp only at c0 c1
      have hsu := sumD_succ l i hil2
      rw [hx] at hsu
      dsimp only at hsu
      have hb := sumD_small HS.out (k := i) (by omega)
      have hw := HS.out.2 _ (List.getElem_mem hil2)
      rw [hx] at hw
      dsimp only at hw
      obtain ⟨s, hse⟩ : ∃ s, sumD l i = s := ⟨_, rfl⟩
      rw [hse] at hsu hb ⊢
      have HSU := hid hsu
      obtain ⟨hb0, hb1⟩ := hb
      obtain ⟨hw0, hw1⟩ := hw
      have HK2 := hid (HK.out.alloc (.cells #[.int .i64 wt, .int .u8 pr] 43))
      clear hx hc hsu hse
      go_wp2_with fail
      go_roundw
      case rel => exact ⟨i + 1, by omega, by go_num, by rw [HSU.out], HK2⟩
      case measure => simp [intOf]; omega
    · obtain rfl : i = M := by omega
      have d2 : decide ((i : Int) < (i : Int)) = false := decide_eq_false (by omega)
      go_wp2_with fail
      go_ret
      exact ⟨rfl, HK.out⟩

set_option maxHeartbeats 2000000 in
set_option maxRecDepth 100000 in
theorem lreached_any {w : World} {v : Value} {l : List StD} (h : SlS w v l) (hs : SmallSt l) (d : Int) :
    Calls Try.prog 12 #[v, .int .i64 d] w fun e w' => e = .returned (.int .i64 (reachedD l d)) ∧ Keeps No w w' := by
  obtain ⟨a, c, rfl⟩ := Sl.any h
  have HS := hid hs
  obtain ⟨N, hN⟩ : ∃ N, l.length = N := ⟨_, rfl⟩
  have h8 : N ≤ 8 := by rw [← hN]; exact hs.1
  have HN := hid hN
  have HSL : Hid (Sl w 2 (.slice a N c) N (l.flatMap encSt)) := hid (by rw [← hN]; exact h)
  unfold reachedD
  rw [hN]
  clear h hs hN
  obtain ⟨R, hR⟩ : ∃ R, reachD l d N = R := ⟨_, rfl⟩
  rw [hR]
  have HR := hid hR
  clear hR
  go_enter Try.func12, Try.ntmps12
  go_wp2_with fail
  go_loopw [5, 6, 11] (fun v5 v6 v11 wr => ∃ i : Nat, i ≤ N ∧ v11 = .int .i64 i ∧ v6 = .int .i64 (sumD l i) ∧ v5 = .int .i64 (reachD l d i) ∧ Hid (Keeps No w wr)) (fun _ _ v11 _ => N - (intOf v11).toNat)
  case atStart => exact ⟨0, Nat.zero_le _, rfl, by rw [sumD_zero], rfl, hid (Keeps.refl _ _)⟩
  case round =>
    obtain ⟨i, hi, rfl, rfl, rfl, HK⟩ := hrel
    by_cases hil : i < N
    · have d2 : decide ((i : Int) < (N : Int)) = true := decide_eq_true (by omega)
      have hil2 : i < l.length := by rw [HN.out]; exact hil
      obtain ⟨⟨wt, pr⟩, hx⟩ : ∃ x, l[i] = x := ⟨_, rfl⟩
      obtain ⟨g, off, rfl, _, hc⟩ := Sl.itemC (enc := encSt) (size := 2) (fun _ => rfl) (by decide) HSL.out hil2 hx
      have c0 := HK.out.cell (fun h => h) (hc 0 _ rfl)
      have c1 := HK.out.cell (fun h => h) (hc 1 _ rfl)
      simp only [Nat.add_zero] at c0
      dsimp only at c0 c1
      have hsu := sumD_succ l i hil2
      rw [hx] at hsu
      dsimp only at hsu
      have hb := sumD_small HS.out (k := i) (by omega)
      have hw := HS.out.2 _ (List.getElem_mem hil2)
      rw [hx] at hw
      dsimp only at hw
      obtain ⟨s, hse⟩ : ∃ s, sumD l i = s := ⟨_, rfl⟩
      obtain ⟨r, hre⟩ : ∃ r, reachD l d i = r := ⟨_, rfl⟩
      have hrs : reachD l d (i + 1) = if s + wt ≤ d then i + 1 else r := by rw [← hse, ← hre, ← hsu]; rfl
      rw [hse] at hsu hb ⊢
      rw [hre]
      have HSU := hid hsu
      have HRS := hid hrs
      obtain ⟨hb0, hb1⟩ := hb
      obtain ⟨hw0, hw1⟩ := hw
      have HK2 := hid (HK.out.alloc (.cells #[.int .i64 wt, .int .u8 pr] 43))
      clear hx hc hsu hse hre hrs
      by_cases hk1 : s + wt ≤ d
      · have d1 : decide (s + wt ≤ d) = true := decide_eq_true hk1
        have hr2 := HRS.out
        rw [if_pos hk1] at hr2
        have HR2 := hid hr2
        clear hr2
        go_wp2_with fail
        go_roundw
        case rel => exact ⟨i + 1, by omega, by go_num, by rw [HSU.out], by rw [HR2.out]; go_num, HK2⟩
        case measure => simp [intOf]; omega
      · have d1 : decide (s + wt ≤ d) = false := decide_eq_false hk1
        have hr2 := HRS.out
        rw [if_neg hk1] at hr2
        have HR2 := hid hr2
        clear hr2
        go_wp2_with fail
        go_roundw
        case rel => exact ⟨i + 1, by omega, by go_num, by rw [HSU.out], by rw [HR2.out], HK2⟩
        case measure => simp [intOf]; omega
    · obtain rfl : i = N := by omega
      have d2 : decide ((i : Int) < (i : Int)) = false := decide_eq_false (by omega)
      rw [HR.out]
      go_wp2_with fail
      go_ret
      exact ⟨rfl, HK.out⟩

set_option maxHeartbeats 2000000 in
set_option maxRecDepth 100000 in
theorem lpri_any {w : World} {v : Value} {l : List StD} (h : SlS w v l) (hs : SmallSt l) (a0 a1 a2 a3 a4 a5 a7 : Value) (p : Int) (k : Int) (hk : -9223372036854775808 ≤ k ∧ k ≤ 9223372036854775807) :
    Calls Try.prog 14 #[.agg #[a0, a1, a2, a3, a4, a5, .int .u8 p, a7, v], .int .i64 k] w fun e w' => e = .returned (.int .u8 (priD p l k.toNat)) ∧ Keeps No w w' := by
  obtain ⟨a, c, rfl⟩ := Sl.any h
  obtain ⟨W1, hW1⟩ : ∃ W, w.alloc (.cells #[a0, a1, a2, a3, a4, a5, .int .u8 p, a7, .slice a l.length c] 26) = W := ⟨_, rfl⟩
  have k1 : Keeps No w W1 := by rw [← hW1]; exact (Keeps.refl _ _).alloc _
  have hb : Bk W1 w.heap.size 26 [a0, a1, a2, a3, a4, a5, .int .u8 p, a7, .slice a l.length c] := by rw [← hW1]; exact Bk.new rfl _ _
  obtain ⟨N, hN⟩ : ∃ N, l.length = N := ⟨_, rfl⟩
  have h8 : N ≤ 8 := by rw [← hN]; exact hs.1
  have HN := hid hN
  have HSL : Hid (Sl W1 2 (.slice a N c) N (l.flatMap encSt)) := hid (by rw [← hN]; exact Sl.keep h k1 (fun _ _ h => h))
  rw [hN] at hW1 hb ⊢
  have HW1 := hid hW1
  have K1 := hid k1
  have x6 := hb.cell 6 rfl
  have x8 := hb.cell 8 rfl
  obtain ⟨hk0, hk9⟩ := hk
  clear h hs hN hW1 k1 hb
  have HW := hid (fun w' => lwithin_any w' a N c h8 k ⟨hk0, hk9⟩)
  obtain ⟨M, hM⟩ : ∃ M : Nat, min k.toNat N = M := ⟨_, rfl⟩
  rw [hM] at HW
  have hMN : M ≤ N := by omega
  have hR : priD p l k.toNat = priD p l M := by
    rcases Nat.lt_or_ge k.toNat N with h1 | h1
    · congr 1; omega
    · rw [priD_all p l k.toNat (by rw [HN.out]; exact h1), HN.out]; congr 1; omega
  rw [hR]
  clear hR hM hk0 hk9
  by_cases h1 : M = 0
  · have dz : ((M : Int) == 0) = true := by simp [h1]
    rw [h1, priD_zero]
    go_enter Try.func14, Try.ntmps14
    go_upto_region 1 with fail
    rw [HW1.out]
    clear HW1
    go_wp2_with fail
    refine (HW.out _).mono ?_
    rintro e w1 ⟨rfl, rfl⟩
    go_wp2_with fail
    go_ret
    exact ⟨rfl, K1.out⟩
  · have dz : ((M : Int) == 0) = false := by simp [h1]
    obtain ⟨i, hi⟩ : ∃ i : Nat, M = i + 1 := ⟨M - 1, by omega⟩
    have hil : i < N := by omega
    have hil2 : i < l.length := by rw [HN.out]; exact hil
    obtain ⟨⟨wt, pr⟩, hx⟩ : ∃ x, l[i] = x := ⟨_, rfl⟩
    obtain ⟨g, off, rfl, _, hc⟩ := Sl.itemC (enc := encSt) (size := 2) (fun _ => rfl) (by decide) HSL.out hil2 hx
    have c1 := hc 1 _ rfl
    have hsu := priD_succ p l i hil2
    rw [hx] at hsu
    dsimp only at hsu c1
    rw [show priD p l M = pr by rw [hi]; exact hsu]
    have hsub : IntKind.i64.wrap ((M : Int) - 1) = i := by simp only [IntKind.wrap_i64]; omega
    clear hx hc hsu hi
    go_enter Try.func14, Try.ntmps14
    go_upto_region 1 with fail
    rw [HW1.out]
    clear HW1
    go_wp2_with fail
    refine (HW.out _).mono ?_
    rintro e w1 ⟨rfl, rfl⟩
    go_wp2_with fail
    go_ret
    exact ⟨rfl, K1.out⟩

end Go.Proofs.Ytpliabljhkejoaa
