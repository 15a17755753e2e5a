/-
  The store, walked: which cell, what it asks.
-/
import Derived.Test.YtboalfajghkajaaCellSP
import Derived.Test.YtboalfajghkajaaTimeS
namespace Go.Proofs.Ytboalfajghkajaa
open Go.RowKit
set_option linter.unusedVariables false

set_option maxHeartbeats 1000000 in
set_option maxRecDepth 100000 in
theorem cof_nil (w : World) (k : Int) : Calls Try.prog 20 #[.pointer none, .int .i64 k] w fun e w' => e = .returned (.pointer none) ∧ w = w' := by
  go_enter Try.func20, Try.ntmps20
  go_wp2_with fail
  go_ret
  exact ⟨rfl, rfl⟩

set_option maxHeartbeats 1000000 in
set_option maxRecDepth 100000 in
theorem cof_none {w : World} {sb cb n : Nat} (hb : w.cell? ⟨sb, 0, none⟩ = some (.slice (some ⟨cb, 0, none⟩) n n)) (hn : n ≤ 8) (k : Int) (hk : ¬ (0 ≤ k ∧ k < n)) :
    Calls Try.prog 20 #[.pointer (some ⟨sb, 0, none⟩), .int .i64 k] w fun e w' => e = .returned (.pointer none) ∧ w = w' := by
  by_cases h0 : k < 0
  · have d0 : decide (k < 0) = true := decide_eq_true h0
    clear hk
    go_enter Try.func20, Try.ntmps20
    go_wp2_with fail
    go_ret
    exact ⟨rfl, rfl⟩
  · have d0 : decide (k < 0) = false := decide_eq_false h0
    have d1 : decide (k ≥ (n : Int)) = true := decide_eq_true (by omega)
    clear hk
    go_enter Try.func20, Try.ntmps20
    go_wp2_with fail
    go_ret
    exact ⟨rfl, rfl⟩

set_option maxHeartbeats 1000000 in
set_option maxRecDepth 100000 in
theorem cof_ok {w : World} {sb cb n : Nat} (hb : w.cell? ⟨sb, 0, none⟩ = some (.slice (some ⟨cb, 0, none⟩) n n)) (hn : n ≤ 8) (k : Nat) (hk : k < n) :
    Calls Try.prog 20 #[.pointer (some ⟨sb, 0, none⟩), .int .i64 k] w fun e w' => e = .returned (.pointer (some ⟨cb, k * 3, none⟩)) ∧ w = w' := by
  have d0 : decide ((k : Int) < 0) = false := decide_eq_false (by omega)
  have d1 : decide ((k : Int) ≥ (n : Int)) = false := decide_eq_false (by omega)
  go_enter Try.func20, Try.ntmps20
  go_wp2_with fail
  go_ret
  exact ⟨rfl, rfl⟩

/-- What a signal that there is reads. -/
theorem Sto0.sig {w : World} {sb : Nat} {F : Nat → Prop} {n : Nat} {l : List SeenD} (h : Sto0 w sb F n l) : ∃ cb, n ≤ 8 ∧ w.cell? ⟨sb, 0, none⟩ = some (.slice (some ⟨cb, 0, none⟩) n n) ∧
    ∀ k : Nat, k < n → ∃ (b : Nat) (R : Nat → Prop), w.cell? ⟨cb, k * 3, none⟩ = some (.pointer (some ⟨b, 0, none⟩)) ∧ w.cell? ⟨cb, k * 3 + 1, none⟩ = some (.int .i64 (cameD l k)) ∧ w.cell? ⟨cb, k * 3 + 2, none⟩ = some (.bool (badD l k)) ∧ RingV w b R 16 (vals l k) := by
  obtain ⟨cb, rb, R, h8, hb, ho, hne, hr, hd, hj, hF⟩ := h
  refine ⟨cb, h8, cell_at (i := 0) hb rfl, fun k hk => ⟨rb k, R k, ?_, ?_, ?_, hr k hk⟩⟩
  all_goals
    have h3 := own_cellC ho (cellsOf_len _ _ _).symm (p := k) (by rw [cellsOf_len]; exact hk)
    have hg : (cellsOf rb n l)[k]'(by rw [cellsOf_len]; exact hk) = cellOf rb l k := by simp [cellsOf]
    rw [hg] at h3
  · exact h3.1
  · exact h3.2.1
  · exact h3.2.2

section
variable {w : World} {sb : Nat} {F : Nat → Prop} {n : Nat} {l : List SeenD}

set_option maxHeartbeats 1000000 in
set_option maxRecDepth 100000 in
theorem cbad_ok (h : Sto0 w sb F n l) (k : Nat) (hk : k < n) :
    Calls Try.prog 25 #[.pointer (some ⟨sb, 0, none⟩), .int .i64 k] w fun e w' => e = .returned (.bool (badD l k)) ∧ Keeps No w w' := by
  obtain ⟨cb, h8, hb, hs⟩ := h.sig
  obtain ⟨b, R, c0, c1, c2, hr⟩ := hs k hk
  clear hs h hr
  go_enter Try.func25, Try.ntmps25
  go_wp2_with (first | (go_at_call 20; refine (cof_ok hb h8 k hk).mono ?_; rintro e w' ⟨rfl, rfl⟩))
  go_ret
  exact ⟨rfl, Keeps.refl _ _⟩

set_option maxHeartbeats 1000000 in
set_option maxRecDepth 100000 in
theorem cquiet_ok (h : Sto0 w sb F n l) (k : Nat) (hk : k < n) (now : Int) (hn : I64 now) (hc : I64 (cameD l k)) :
    Calls Try.prog 24 #[.pointer (some ⟨sb, 0, none⟩), .int .i64 k, .int .i64 now] w fun e w' => e = .returned (.int .i64 (quietD l k now)) ∧ Keeps No w w' := by
  obtain ⟨cb, h8, hb, hs⟩ := h.sig
  obtain ⟨b, R, c0, c1, c2, hr⟩ := hs k hk
  have HS := hid (fun w' => since_any now (cameD l k) w' hn hc)
  clear hs h hr hn hc
  go_enter Try.func24, Try.ntmps24
  go_wp2_with (first | (go_at_call 20; refine (cof_ok hb h8 k hk).mono ?_; rintro e w' ⟨rfl, rfl⟩) | (go_at_call 40; refine (HS.out _).mono ?_; rintro e w' ⟨rfl, rfl⟩))
  go_ret
  exact ⟨rfl, Keeps.refl _ _⟩

end

end Go.Proofs.Ytboalfajghkajaa
