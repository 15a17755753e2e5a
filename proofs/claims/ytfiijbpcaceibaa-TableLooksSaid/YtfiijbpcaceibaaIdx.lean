/-
  The library's Index and Contains of whole numbers.
-/
import Derived.Test.YtfiijbpcaceibaaTblP
namespace Go.Proofs.Ytfiijbpcaceibaa
open Go.RowKit
set_option linter.unusedVariables false

/-- Where a number stands first; -1: nowhere. -/
def idxI (x : Int) : List Int → Int
  | [] => -1
  | y :: l => if y = x then 0 else if idxI x l < 0 then -1 else idxI x l + 1

theorem idxI_at {x : Int} : ∀ {l : List Int} {k : Nat} (hk : k < l.length), (∀ y ∈ l.take k, y ≠ x) → l[k] = x → idxI x l = k
  | y :: l, 0, _, _, h => by
    simp only [List.getElem_cons_zero] at h
    simp [idxI, h]
  | y :: l, k + 1, hk, hn, h => by
    simp only [List.getElem_cons_succ] at h
    simp at hk
    have h1 : y ≠ x := hn y (by simp)
    have h2 := idxI_at (l := l) hk (fun z hz => hn z (by simp [hz])) h
    unfold idxI
    rw [if_neg h1, h2, if_neg (by omega)]
    omega

theorem idxI_none {x : Int} : ∀ {l : List Int}, (∀ y ∈ l, y ≠ x) → idxI x l = -1
  | [], _ => rfl
  | y :: l, h => by
    unfold idxI
    rw [if_neg (h y (by simp)), idxI_none (fun z hz => h z (by simp [hz]))]
    rfl

theorem idxI_has (x : Int) : ∀ l : List Int, decide (0 ≤ idxI x l) = l.contains x
  | [] => rfl
  | y :: l => by
    have ih := idxI_has x l
    unfold idxI
    by_cases h : y = x
    · simp [h]
    · have h' : (x == y) = false := by simpa using fun e => h e.symm
      rw [if_neg h, List.contains_cons, h', Bool.false_or, ← ih]
      by_cases h2 : idxI x l < 0
      · rw [if_pos h2, decide_eq_false (by omega), decide_eq_false (by omega)]
      · rw [if_neg h2, decide_eq_true (by omega), decide_eq_true (by omega)]

set_option maxHeartbeats 1000000 in
set_option maxRecDepth 100000 in
theorem index_any {w : World} {la : Option Addr} {lc : Nat} {l : List Int} (h : SlI w (.slice la l.length lc) l) (x : Int) :
    Calls Try.prog 23 #[.slice la l.length lc, .int .i64 x] w fun e w' => e = .returned (.int .i64 (idxI x l)) ∧ w = w' := by
  have hl := h.2.1
  unfold maxLen at hl
  have H := hid h
  clear h
  go_enter Try.func23, Try.ntmps23
  go_wp2_with fail
  go_loop [8] (fun v8 => ∃ k : Nat, k ≤ l.length ∧ v8 = .int .i64 k ∧ Hid (∀ y ∈ l.take k, y ≠ x)) (fun v8 => l.length - (intOf v8).toNat)
  case atStart => exact ⟨0, Nat.zero_le _, rfl, hid (by simp)⟩
  case round =>
    obtain ⟨k, hk, rfl, HN⟩ := hrel
    by_cases hlt : k < l.length
    · obtain ⟨g, off, rfl, hg, hc⟩ := SlI.cellAt H.out hlt
      obtain ⟨y, hy⟩ : ∃ y, l[k] = y := ⟨_, rfl⟩
      rw [hy] at hc
      have HY := hid hy
      clear hy
      by_cases hyx : y = x
      · have HT : Hid (idxI x l = k) := hid (idxI_at hlt HN.out (HY.out.trans hyx))
        subst hyx
        go_wp2_with fail
        go_ret
        exact ⟨by rw [HT.out]; rfl, rfl⟩
      · have HM : Hid (∀ z ∈ l.take (k + 1), z ≠ x) := hid (by
          rw [List.take_succ_eq_append_getElem hlt, HY.out]
          intro z hz
          rcases List.mem_append.1 hz with hz | hz
          · exact HN.out z hz
          · simp at hz; subst hz; exact hyx)
        have hxy : (x == y) = false := by simpa using fun e => hyx e.symm
        go_wp2_with fail
        go_round
        case rel => exact ⟨k + 1, by omega, by go_num, HM⟩
        case measure => simp [intOf]; omega
    · have HT : Hid (idxI x l = -1) := hid (idxI_none (by
        have := HN.out
        rwa [List.take_of_length_le (by omega)] at this))
      go_wp2_with fail
      go_ret
      exact ⟨by rw [HT.out]; rfl, rfl⟩

set_option maxHeartbeats 1000000 in
set_option maxRecDepth 100000 in
theorem contains_any {w : World} {la : Option Addr} {lc : Nat} {l : List Int} (h : SlI w (.slice la l.length lc) l) (x : Int) :
    Calls Try.prog 22 #[.slice la l.length lc, .int .i64 x] w fun e w' => e = .returned (.bool (l.contains x)) ∧ w = w' := by
  have HI := hid (index_any h x)
  have hh := idxI_has x l
  obtain ⟨r, hr⟩ : ∃ r, idxI x l = r := ⟨_, rfl⟩
  rw [hr] at HI hh
  have HH := hid hh
  clear h hr hh
  go_enter Try.func22, Try.ntmps22
  go_wp2_with fail
  refine HI.out.mono ?_
  rintro e w' ⟨rfl, rfl⟩
  go_wp2_with fail
  go_ret
  exact ⟨by rw [← HH.out]; rfl, rfl⟩

end Go.Proofs.Ytfiijbpcaceibaa
