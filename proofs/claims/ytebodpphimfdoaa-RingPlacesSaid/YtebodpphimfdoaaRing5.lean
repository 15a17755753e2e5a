/-
  The document's answers for layer 1, more: Pop, Force, Same; and the document's example.
-/
import Derived.Test.YtebodpphimfdoaaRing4
namespace Go.Proofs.Ytebodpphimfdoaa
open Go.RowKit

set_option maxHeartbeats 400000 in
set_option maxRecDepth 100000 in
theorem msame_true {w : World} {va vb : Value} {l : List Int} (ha : SlI w va l) (hb : SlI w vb l) :
    Calls Try.prog 25 #[va, vb] w fun e w' => e = .returned (.bool true) ∧ Keeps No w w' := by
  obtain ⟨aa, ca, rfl⟩ := ha.any
  obtain ⟨ab, cb, rfl⟩ := hb.any
  have HA := hid ha
  have HB := hid hb
  have hlen := ha.2.1
  unfold maxLen at hlen
  clear ha hb
  go_enter Try.func25, Try.ntmps25
  go_wp2
  go_loopw [5] (fun v5 wr => ∃ k : Nat, k ≤ l.length ∧ v5 = .int .i64 k ∧ Hid (∃ n, wr = w.drewN n)) (fun v5 _ => l.length - (intOf v5).toNat)
  case atStart => exact ⟨0, Nat.zero_le _, rfl, hid ⟨0, rfl⟩⟩
  case round =>
    obtain ⟨k, hk, rfl, HN⟩ := hrel
    obtain ⟨n0, rfl⟩ := HN.out
    by_cases hlt : k < l.length
    · obtain ⟨ga, offa, rfl, _, hca⟩ := SlI.cellAt HA.out hlt
      obtain ⟨gb, offb, rfl, _, hcb⟩ := SlI.cellAt HB.out hlt
      go_wp2
      go_quiet (fail)
      go_wp2
      go_roundw
      case rel => exact ⟨k + 1, by omega, by go_num, hid ⟨_, rfl⟩⟩
      case measure => simp [intOf]; omega
    · go_wp2
      go_ret
      exact ⟨rfl, (Keeps.refl _ _).drewN _⟩

theorem SlI.rest {w : World} {g off cap : Nat} {y : Int} {l : List Int} (h : SlI w (.slice (some ⟨g, off, none⟩) (l.length + 1) cap) (y :: l)) (hcap : l.length + 1 ≤ cap) : SlI w (.slice (some ⟨g, off + 1, none⟩) l.length (cap - 1)) l := by
  have hm := h.2.1
  simp only [List.length_cons] at hm
  obtain ⟨_, _, _, hg, _⟩ := SlI.cellAt h (k := 0) (by simp)
  have hgw := h.lt (by simp) g rfl
  refine ⟨by simp, by omega, _, cap - 1, rfl, by omega, fun h => (by cases h), fun _ => ⟨g, off + 1, rfl, hgw, fun j u hu => ?_⟩⟩
  have hj : j < l.length := by have := (List.getElem?_eq_some_iff.1 hu).1; simpa using this
  obtain ⟨g', off', e, _, hc⟩ := SlI.cellAt h (k := j + 1) (by simp; omega)
  simp only [Option.some.injEq, Addr.mk.injEq, and_true] at e
  obtain ⟨rfl, rfl⟩ := e
  simp [hj] at hu hc
  rw [show off + 1 + j = off + (j + 1) by omega, hc, hu]

set_option maxHeartbeats 400000 in
set_option maxRecDepth 100000 in
theorem mpop_none {w : World} {lv : Value} {room : Nat} (h : SlI w lv []) :
    Calls Try.prog 19 #[.agg #[.int .i64 room, lv]] w fun e w' => e = .returned (.tuple #[.agg #[.int .i64 room, lv], .int .i64 0, .bool false]) ∧ Keeps No w w' := by
  obtain ⟨ao, cap, rfl⟩ := h.any
  clear h
  go_enter Try.func19, Try.ntmps19
  go_wp2
  go_returns
  refine ⟨rfl, ?_⟩
  repeat' (first | with_reducible exact Keeps.refl _ _ | with_reducible assumption | with_reducible refine Keeps.drewN ?_ _ | with_reducible refine Keeps.drew ?_ | with_reducible refine Keeps.alloc ?_ _ | with_reducible refine Keeps.setCell ?_ ?_ _ | exact Or.inl (by simp) | exact Or.inl (by simp; omega) | exact Or.inl (by omega))

set_option maxHeartbeats 400000 in
set_option maxRecDepth 100000 in
theorem mpop_ok {w : World} {lv : Value} {room : Nat} {y : Int} {l : List Int} (h : SlI w lv (y :: l)) :
    Calls Try.prog 19 #[.agg #[.int .i64 room, lv]] w fun e w' => ∃ lv', e = .returned (.tuple #[.agg #[.int .i64 room, lv'], .int .i64 y, .bool true]) ∧ SlI w lv' l ∧ lv'.ownBlock = lv.ownBlock ∧ Keeps No w w' := by
  obtain ⟨ao, cap, rfl⟩ := h.any
  obtain ⟨g, off, rfl, hgl, hc0⟩ := SlI.cellAt h (k := 0) (by simp)
  have hcap : l.length + 1 ≤ cap := by
    obtain ⟨_, _, a, cap', hv, hc, _⟩ := h
    simp only [Value.slice.injEq, List.length_cons] at hv hc; omega
  have hm := h.2.1
  unfold maxLen at hm
  simp only [List.length_cons, List.getElem_cons_zero, Nat.add_zero] at hm hc0 ⊢
  have hgl1 : g < w.heap.size + 1 := by omega
  have H := hid h
  clear h
  by_cases hc1 : cap = 1
  · subst hc1
    obtain rfl : l = [] := List.length_eq_zero_iff.1 (by omega)
    go_enter Try.func19, Try.ntmps19
    go_wp2
    go_region
    all_goals
      go_wp2
      go_returns
      refine ⟨_, rfl, Sl.zero _ _, rfl, ?_⟩
      repeat' (first | with_reducible exact Keeps.refl _ _ | with_reducible assumption | with_reducible refine Keeps.drewN ?_ _ | with_reducible refine Keeps.drew ?_ | with_reducible refine Keeps.alloc ?_ _ | with_reducible refine Keeps.setCell ?_ ?_ _ | exact Or.inl (by simp) | exact Or.inl (by simp; omega) | exact Or.inl (by omega))
  · have hc2 : 1 < cap := by omega
    go_enter Try.func19, Try.ntmps19
    go_wp2
    go_region
    all_goals
      go_wp2
      go_returns
      refine ⟨_, rfl, SlI.rest H.out hcap, rfl, ?_⟩
      repeat' (first | with_reducible exact Keeps.refl _ _ | with_reducible assumption | with_reducible refine Keeps.drewN ?_ _ | with_reducible refine Keeps.drew ?_ | with_reducible refine Keeps.alloc ?_ _ | with_reducible refine Keeps.setCell ?_ ?_ _ | exact Or.inl (by simp) | exact Or.inl (by simp; omega) | exact Or.inl (by omega))

end Go.Proofs.Ytebodpphimfdoaa
