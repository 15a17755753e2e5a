/-
  The program's rules of check: where a rule stands (by a closure); the drain; stages.
-/
import Derived.Test.YtaakmlgkfbpdoaaChk5
namespace Go.Proofs.Ytaakmlgkfbpdoaa
open Go.RowKit

/-- Where a list stands first that holds a number; -1: nowhere. -/
def idxT (i : Int) : List (List Int) → Int
  | [] => -1
  | y :: l => if y.contains i then 0 else if idxT i l < 0 then -1 else idxT i l + 1

theorem idxT_at {i : Int} : ∀ {l : List (List Int)} {k : Nat} (hk : k < l.length), (∀ y ∈ l.take k, y.contains i = false) → l[k].contains i = true → idxT i l = k
  | y :: l, 0, _, _, h => by
    simp only [List.getElem_cons_zero] at h
    unfold idxT
    rw [if_pos h]; rfl
  | y :: l, k + 1, hk, hn, h => by
    simp only [List.getElem_cons_succ] at h
    simp at hk
    have h1 : ¬ y.contains i = true := by rw [hn y (by simp)]; decide
    have h2 := idxT_at (l := l) hk (fun z hz => hn z (by simp [hz])) h
    unfold idxT
    rw [if_neg h1, h2, if_neg (by omega)]
    omega

theorem idxT_none {i : Int} : ∀ {l : List (List Int)}, (∀ y ∈ l, y.contains i = false) → idxT i l = -1
  | [], _ => rfl
  | y :: l, h => by
    unfold idxT
    rw [if_neg (by rw [h y (by simp)]; decide), idxT_none (fun z hz => h z (by simp [hz]))]
    rfl

theorem idxT_has (i : Int) : ∀ l : List (List Int), decide (0 ≤ idxT i l) = standsB l i
  | [] => rfl
  | y :: l => by
    have ih := idxT_has i l
    unfold idxT
    show _ = List.any (y :: l) (fun l => l.contains i)
    rw [List.any_cons]
    by_cases h : y.contains i = true
    · rw [if_pos h, h]; rfl
    · rw [if_neg h, show y.contains i = false by simpa using h, Bool.false_or]
      show _ = standsB l i
      rw [← ih]
      by_cases h2 : idxT i l < 0
      · rw [if_pos h2, decide_eq_false (by omega), decide_eq_false (by omega)]
      · rw [if_neg h2, decide_eq_true (by omega), decide_eq_true (by omega)]

section
variable {w : World} {b : Nat} {C : Cfg} {sa ra ta : Option Addr} {sc rc tc : Nat}

set_option maxHeartbeats 1000000 in
set_option maxRecDepth 100000 in
theorem standsC_any {la : Option Addr} {lc ab : Nat} {l : List Int} {i : Int} (h : SlI w (.slice la l.length lc) l) (hc : w.cell? ⟨ab, 0, none⟩ = some (.int .i64 i)) :
    Calls Try.prog 80 #[.slice la l.length lc, .pointer (some ⟨ab, 0, none⟩)] w fun e w' => e = .returned (.bool (l.contains i)) ∧ w = w' := by
  have hC := contains_any h i
  obtain ⟨r, hr⟩ : ∃ r, l.contains i = r := ⟨_, rfl⟩
  rw [hr] at hC ⊢
  have HC := hid hC
  clear h hr hC
  go_enter Try.func80, Try.ntmps80
  go_wp2_with fail
  refine HC.out.mono ?_
  rintro e w' ⟨rfl, rfl⟩
  go_wp2_with fail
  go_ret
  exact ⟨rfl, rfl⟩

set_option maxHeartbeats 1000000 in
set_option maxRecDepth 100000 in
theorem indexF_any {t : List (List Int × Value)} {ab : Nat} {i : Int} (h : TabR w (.slice ta t.length tc) t) (hc : w.cell? ⟨ab, 0, none⟩ = some (.int .i64 i)) :
    Calls Try.prog 83 #[.slice ta t.length tc, .func (.func 80) #[] #[.pointer (some ⟨ab, 0, none⟩)]] w fun e w' => e = .returned (.int .i64 (idxT i (t.map (·.1)))) ∧ w = w' := by
  have hl := h.row.2.1
  unfold maxLen at hl
  have H := hid h
  have HCell := hid hc
  clear h hc
  go_enter Try.func83, Try.ntmps83
  go_wp2_with fail
  go_loop [8] (fun v8 => ∃ k : Nat, k ≤ t.length ∧ v8 = .int .i64 k ∧ Hid (∀ y ∈ (t.map (·.1)).take k, y.contains i = false)) (fun v8 => t.length - (intOf v8).toNat)
  case atStart => exact ⟨0, Nat.zero_le _, rfl, hid (by simp)⟩
  case round =>
    obtain ⟨k, hk, rfl, HN⟩ := hrel
    by_cases hlt : k < t.length
    · obtain ⟨g, off, la, lc, rfl, hg, hcc, hs, _⟩ := TabR.at H.out hlt
      have hm : k < (t.map (·.1)).length := by simpa using hlt
      obtain ⟨l, hle⟩ : ∃ l, t[k].1 = l := ⟨_, rfl⟩
      have hlm : (t.map (·.1))[k] = l := by simp [hle]
      rw [hle] at hcc hs
      have hF := standsC_any hs HCell.out
      have HLM := hid hlm
      clear hle hs hlm
      cases hb : l.contains i
      · rw [hb] at hF
        have HF := hid hF
        have HM : Hid (∀ z ∈ (t.map (·.1)).take (k + 1), z.contains i = false) := hid (by
          rw [List.take_succ_eq_append_getElem hm, HLM.out]
          intro z hz
          rcases List.mem_append.1 hz with hz | hz
          · exact HN.out z hz
          · simp at hz; subst hz; exact hb)
        clear hF hb
        go_wp2_with ((with_reducible refine HF.out.mono ?_); rintro e w' ⟨rfl, rfl⟩)
        go_round
        case rel => exact ⟨k + 1, by omega, by go_num, HM⟩
        case measure => simp [intOf]; omega
      · rw [hb] at hF
        have HF := hid hF
        have HT : Hid (idxT i (t.map (·.1)) = k) := hid (idxT_at hm HN.out (by rw [HLM.out]; exact hb))
        clear hF hb
        go_wp2_with ((with_reducible refine HF.out.mono ?_); rintro e w' ⟨rfl, rfl⟩)
        go_ret
        exact ⟨by rw [HT.out]; rfl, rfl⟩
    · have HT : Hid (idxT i (t.map (·.1)) = -1) := hid (idxT_none (by
        have := HN.out
        rwa [List.take_of_length_le (by simp; omega)] at this))
      go_wp2_with fail
      go_ret
      exact ⟨by rw [HT.out]; rfl, rfl⟩

set_option maxHeartbeats 1000000 in
set_option maxRecDepth 100000 in
theorem containsF_any {t : List (List Int × Value)} {ab : Nat} {i : Int} (h : TabR w (.slice ta t.length tc) t) (hc : w.cell? ⟨ab, 0, none⟩ = some (.int .i64 i)) :
    Calls Try.prog 79 #[.slice ta t.length tc, .func (.func 80) #[] #[.pointer (some ⟨ab, 0, none⟩)]] w fun e w' => e = .returned (.bool (standsB (t.map (·.1)) i)) ∧ w = w' := by
  have HI := hid (indexF_any h hc)
  have hh := idxT_has i (t.map (·.1))
  obtain ⟨r, hr⟩ : ∃ r, idxT i (t.map (·.1)) = r := ⟨_, rfl⟩
  rw [hr] at HI hh
  have HH := hid hh
  clear h hr hh hc
  go_enter Try.func79, Try.ntmps79
  go_wp2_with fail
  refine HI.out.mono ?_
  rintro e w' ⟨rfl, rfl⟩
  go_wp2_with fail
  go_ret
  exact ⟨by rw [← HH.out]; rfl, rfl⟩

set_option maxHeartbeats 1000000 in
set_option maxRecDepth 100000 in
theorem kp12_any (h : CfgB w b C sa ra ta sc rc tc) (a : Nat) : Calls Try.prog 69 #[.pointer (some ⟨b, 0, none⟩), .int .i64 a] w fun e w' => e = .returned (.bool (keepB rulP C 12 a)) ∧ Keeps No w w' := by
  have hb := h.blk.lt
  have hk := (Keeps.refl No w).alloc (.cells #[.int .i64 a] 3)
  have hC := (containsF_any (w := w.alloc (.cells #[.int .i64 a] 3)) (ab := w.heap.size) (i := a) (h.cfg.tabR.calm hk) (cell_at (heap_alloc_new w _) rfl))
  have hk12 : keepB rulP C 12 a = standsB (C.tab.map (·.1)) a := rfl
  rw [hk12]
  obtain ⟨r, hr⟩ : ∃ r, standsB (C.tab.map (·.1)) (a : Int) = r := ⟨_, rfl⟩
  rw [hr] at hC ⊢
  have HC := hid hC
  have c2 := h.blk.cell (o := 2) rfl
  have hbn : ¬ b = w.heap.size := by omega
  have HK := hid hk
  clear h hk hr hC hk12
  go_enter Try.func69, Try.ntmps69
  go_wp2_with fail
  refine HC.out.mono ?_
  rintro e w' ⟨rfl, rfl⟩
  go_wp2_with fail
  go_ret
  exact ⟨rfl, HK.out⟩

end
end Go.Proofs.Ytaakmlgkfbpdoaa
