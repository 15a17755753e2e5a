/-
  The document's Entries and Stands: over a table that reads as a list of lists.
-/
import Derived.Test.YtoodlhagecannaaMake
namespace Go.Proofs.Ytoodlhagecannaa
open Go.RowKit

def standsB (t : List (List Int)) (i : Int) : Bool := t.any (fun l => l.contains i)

/-- A table's value reads t. -/
structure TabR (w : World) (tv : Value) (t : List (List Int × Value)) : Prop where
  row : Sl w 1 tv t.length (t.map (·.2))
  slot : ∀ x ∈ t, SlI w x.2 x.1

theorem TabR.calm {w w' : World} {tv : Value} {t : List (List Int × Value)} (h : TabR w tv t) (k : Keeps No w w') : TabR w' tv t :=
  ⟨h.row.keep k (fun _ _ h => h), fun x hx => Sl.keep (h.slot x hx) k (fun _ _ h => h)⟩

theorem CfgR.tabR {w : World} {c : Cfg} {sv rv tv : Value} (h : CfgR w c sv rv tv) : TabR w tv c.tab := ⟨h.tab, h.slot⟩

/-- The cell of a slot, and that slot. -/
theorem TabR.at {w : World} {ta : Option Addr} {tc : Nat} {t : List (List Int × Value)} (h : TabR w (.slice ta t.length tc) t) {k : Nat} (hk : k < t.length) :
    ∃ g off la lc, ta = some ⟨g, off, none⟩ ∧ g < w.heap.size ∧ w.cell? ⟨g, off + k, none⟩ = some (.slice la t[k].1.length lc) ∧ SlI w (.slice la t[k].1.length lc) t[k].1 ∧ t[k].2 = .slice la t[k].1.length lc := by
  obtain ⟨g, off, e, hg, hc⟩ := Sl.cellAt h.row (j := k) (u := t[k].2) (by simp [hk])
  have hs := h.slot t[k] (List.getElem_mem hk)
  obtain ⟨la, lc, hl⟩ := hs.any
  exact ⟨g, off, la, lc, e, hg, by rw [hc, hl], hl ▸ hs, hl⟩

theorem entries_take {t : List (List Int × Value)} {k : Nat} (hk : k < t.length) : entries ((t.take (k + 1)).map (·.1)) = entries ((t.take k).map (·.1)) + t[k].1.length := by
  unfold entries
  rw [List.take_succ_eq_append_getElem hk, List.map_append, List.flatten_append, List.length_append]
  simp

theorem entries_le {t : List (List Int × Value)} (k : Nat) : entries ((t.take k).map (·.1)) ≤ entries (t.map (·.1)) := by
  unfold entries
  conv => rhs; rw [← List.take_append_drop k t, List.map_append, List.flatten_append, List.length_append]
  omega

theorem standsB_false {t : List (List Int)} {i : Int} (h : ∀ l ∈ t, ∀ x ∈ l, x ≠ i) : standsB t i = false := by
  unfold standsB
  rw [List.any_eq_false]
  intro l hl
  simp only [List.contains_iff_mem]
  intro hi
  exact h l hl i hi rfl

theorem standsB_true {t : List (List Int)} {i : Int} {l : List Int} (hl : l ∈ t) (hi : i ∈ l) : standsB t i = true := by
  unfold standsB
  rw [List.any_eq_true]
  exact ⟨l, hl, by simpa using hi⟩

theorem standsB_iff {t : List (List Int)} {i : Int} : standsB t i = true ↔ ∃ l ∈ t, i ∈ l := by
  unfold standsB
  rw [List.any_eq_true]
  simp

/-- A configuration's value whose table is tv. -/
def cfgV (sv rv tv : Value) (i0 i1 i2 i3 i4 i5 : Int) (b : Bool) (i6 : Int) : Value := .agg #[sv, rv, tv, .int .i64 i0, .int .i64 i1, .int .i64 i2, .int .i64 i3, .int .i64 i4, .int .i64 i5, .bool b, .int .i64 i6]

section
variable {w : World} {sa ra ta : Option Addr} {sn sc rn rc tc : Nat} {t : List (List Int × Value)}

set_option maxHeartbeats 2000000 in
set_option maxRecDepth 100000 in
theorem mstands_any (h : TabR w (.slice ta t.length tc) t) (i i0 i1 i2 i3 i4 i5 i6 : Int) (b : Bool) :
    Calls Try.prog 25 #[cfgV (.slice sa sn sc) (.slice ra rn rc) (.slice ta t.length tc) i0 i1 i2 i3 i4 i5 b i6, .int .i64 i] w fun e w' => e = .returned (.bool (standsB (t.map (·.1)) i)) ∧ Keeps No w w' := by
  unfold cfgV
  obtain ⟨W1, hW1⟩ : ∃ W1, W1 = w.alloc (.cells #[.slice sa sn sc, .slice ra rn rc, .slice ta t.length tc, .int .i64 i0, .int .i64 i1, .int .i64 i2, .int .i64 i3, .int .i64 i4, .int .i64 i5, .bool b, .int .i64 i6] 34) := ⟨_, rfl⟩
  have k1 : Keeps No w W1 := by rw [hW1]; exact (Keeps.refl _ _).alloc _
  have hb : BlkL W1 w.heap.size 34 [.slice sa sn sc, .slice ra rn rc, .slice ta t.length tc, .int .i64 i0, .int .i64 i1, .int .i64 i2, .int .i64 i3, .int .i64 i4, .int .i64 i5, .bool b, .int .i64 i6] := by rw [hW1]; exact heap_alloc_new w _
  have c2 : W1.cell? ⟨w.heap.size, 2, none⟩ = some (.slice ta t.length tc) := hb.cell rfl
  have H := hid (h.calm k1)
  have hl : (t.length : Int) ≤ 9223372036854775807 := by
    have := h.row.2.1
    unfold maxLen at this
    omega
  have HW1 := hid hW1.symm
  have K1 := hid k1
  clear h hW1 k1 hb
  go_enter Try.func25, Try.ntmps25
  go_wp2_with fail
  rw [HW1.out]
  clear HW1
  go_loop [5] (fun v5 => ∃ k : Nat, k ≤ t.length ∧ v5 = .int .i64 k ∧ Hid (∀ l ∈ (t.take k).map (·.1), ∀ x ∈ l, x ≠ i)) (fun v5 => t.length - (intOf v5).toNat)
  case atStart => exact ⟨0, Nat.zero_le _, rfl, hid (by simp)⟩
  case round =>
    obtain ⟨k, hk, rfl, HN⟩ := hrel
    by_cases hlt : k < t.length
    · obtain ⟨g, off, la, lc, rfl, hg, hc, hs, _⟩ := TabR.at H.out hlt
      obtain ⟨l, hle⟩ : ∃ l, t[k].1 = l := ⟨_, rfl⟩
      rw [hle] at hc hs
      have HL := hid hle
      have HS := hid hs
      have hll : (l.length : Int) ≤ 9223372036854775807 := by
        have := hs.2.1
        unfold maxLen at this
        omega
      clear hle hs
      go_wp2_with fail
      go_loop [6] (fun v6 => ∃ j : Nat, j ≤ l.length ∧ v6 = .int .i64 j ∧ Hid (∀ x ∈ l.take j, x ≠ i)) (fun v6 => l.length - (intOf v6).toNat)
      case atStart => exact ⟨0, Nat.zero_le _, rfl, hid (by simp)⟩
      case round =>
        obtain ⟨j, hj, rfl, HJ⟩ := hrel
        by_cases hjl : j < l.length
        · obtain ⟨g2, off2, rfl, hg2, hc2⟩ := SlI.cellAt HS.out hjl
          obtain ⟨x, hx⟩ : ∃ x, l[j] = x := ⟨_, rfl⟩
          rw [hx] at hc2
          have HX := hid hx
          clear hx
          by_cases hxi : x = i
          · have hT : Hid (standsB (t.map (·.1)) i = true) := hid (standsB_true (l := l) (by rw [← HL.out]; exact List.mem_map_of_mem (List.getElem_mem hlt)) (by rw [← hxi, ← HX.out]; exact List.getElem_mem hjl))
            subst hxi
            go_wp2_with fail
            go_ret
            exact ⟨by rw [hT.out]; rfl, K1.out⟩
          · have hN : Hid (∀ y ∈ l.take (j + 1), y ≠ i) := hid (by
              rw [List.take_succ_eq_append_getElem hjl, HX.out]
              intro y hy
              rcases List.mem_append.1 hy with hy | hy
              · exact HJ.out y hy
              · simp at hy; subst hy; exact hxi)
            go_wp2_with fail
            go_round
            case rel => exact ⟨j + 1, by omega, by go_num, hN⟩
            case measure => simp [intOf]; omega
        · have hN : Hid (∀ m ∈ (t.take (k + 1)).map (·.1), ∀ x ∈ m, x ≠ i) := hid (by
            rw [List.take_succ_eq_append_getElem hlt, List.map_append]
            intro m hm
            rcases List.mem_append.1 hm with hm | hm
            · exact HN.out m hm
            · simp at hm; subst hm
              rw [HL.out]
              have := HJ.out
              rwa [List.take_of_length_le (by omega)] at this)
          go_wp2_with fail
          go_round
          case rel => exact ⟨k + 1, by omega, by go_num, hN⟩
          case measure => simp [intOf]; omega
    · have hT : Hid (standsB (t.map (·.1)) i = false) := hid (standsB_false (by
        have := HN.out
        rwa [List.take_of_length_le (by omega)] at this))
      go_wp2_with fail
      go_ret
      exact ⟨by rw [hT.out]; rfl, K1.out⟩

set_option maxHeartbeats 2000000 in
set_option maxRecDepth 100000 in
theorem mentries_any (h : TabR w (.slice ta t.length tc) t) (he : entries (t.map (·.1)) ≤ 1000000) (i0 i1 i2 i3 i4 i5 i6 : Int) (b : Bool) :
    Calls Try.prog 26 #[cfgV (.slice sa sn sc) (.slice ra rn rc) (.slice ta t.length tc) i0 i1 i2 i3 i4 i5 b i6] w fun e w' => e = .returned (.int .i64 (entries (t.map (·.1)))) ∧ Keeps No w w' := by
  unfold cfgV
  obtain ⟨W1, hW1⟩ : ∃ W1, W1 = w.alloc (.cells #[.slice sa sn sc, .slice ra rn rc, .slice ta t.length tc, .int .i64 i0, .int .i64 i1, .int .i64 i2, .int .i64 i3, .int .i64 i4, .int .i64 i5, .bool b, .int .i64 i6] 34) := ⟨_, rfl⟩
  have k1 : Keeps No w W1 := by rw [hW1]; exact (Keeps.refl _ _).alloc _
  have hb : BlkL W1 w.heap.size 34 [.slice sa sn sc, .slice ra rn rc, .slice ta t.length tc, .int .i64 i0, .int .i64 i1, .int .i64 i2, .int .i64 i3, .int .i64 i4, .int .i64 i5, .bool b, .int .i64 i6] := by rw [hW1]; exact heap_alloc_new w _
  have c2 : W1.cell? ⟨w.heap.size, 2, none⟩ = some (.slice ta t.length tc) := hb.cell rfl
  have H := hid (h.calm k1)
  have hl : (t.length : Int) ≤ 9223372036854775807 := by
    have := h.row.2.1
    unfold maxLen at this
    omega
  have HE := hid he
  have HW1 := hid hW1.symm
  have K1 := hid k1
  clear h hW1 k1 hb he
  go_enter Try.func26, Try.ntmps26
  go_wp2_with fail
  rw [HW1.out]
  clear HW1
  go_loop [3, 4] (fun v3 v4 => ∃ (k n : Nat), k ≤ t.length ∧ v4 = .int .i64 k ∧ v3 = .int .i64 n ∧ Hid (entries ((t.take k).map (·.1)) = n)) (fun _ v4 => t.length - (intOf v4).toNat)
  case atStart => exact ⟨0, 0, Nat.zero_le _, rfl, rfl, hid rfl⟩
  case round =>
    obtain ⟨k, n, hk, rfl, rfl, HN⟩ := hrel
    by_cases hlt : k < t.length
    · obtain ⟨g, off, la, lc, rfl, hg, hc, hs, _⟩ := TabR.at H.out hlt
      obtain ⟨l, hle⟩ : ∃ l, t[k].1 = l := ⟨_, rfl⟩
      rw [hle] at hc
      have HN2 : Hid (entries ((t.take (k + 1)).map (·.1)) = n + l.length) := hid (by rw [entries_take hlt, HN.out, hle])
      have hb : n + l.length ≤ 1000000 := by rw [← HN2.out]; exact Nat.le_trans (entries_le _) HE.out
      clear hle hs
      go_wp2_with fail
      go_round
      case rel => exact ⟨k + 1, n + l.length, by omega, by go_num, by go_num, HN2⟩
      case measure => simp [intOf]; omega
    · have hT : Hid (entries (t.map (·.1)) = n) := hid (by
        have := HN.out
        rwa [List.take_of_length_le (by omega)] at this)
      go_wp2_with fail
      go_ret
      exact ⟨by rw [hT.out]; rfl, K1.out⟩

end
end Go.Proofs.Ytoodlhagecannaa
