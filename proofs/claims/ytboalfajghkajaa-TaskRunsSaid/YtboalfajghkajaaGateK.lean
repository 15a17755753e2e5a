/-
  The document's example of a gate.
-/
import Derived.Test.YtboalfajghkajaaGateS
import Derived.Test.YtboalfajghkajaaGateM
import Derived.Test.YtboalfajghkajaaBlk
import Derived.StillTailTactics
namespace Go.Proofs.Ytboalfajghkajaa
open Go.RowKit
set_option linter.unusedVariables false

/-- Both are the same step. -/
theorem steps_same (on hd : Bool) (s now : Int) (i o : Bool) (d : Int) (hn : I64 now) (hs : I64 s) : ∃ on' hd' s', stepD ⟨on, hd, s⟩ now i o d = ⟨on', hd', s'⟩ ∧ I64 s' ∧
    (∀ w, Calls Try.prog 33 #[.agg #[.bool on, .bool hd, .int .i64 s], .int .i64 now, .bool i, .bool o, .int .i64 d] w fun e w' => e = .returned (.agg #[.bool on', .bool hd', .int .i64 s']) ∧ Keeps No w w') := by
  obtain ⟨on', hd', s', h⟩ : ∃ on' hd' s', stepD ⟨on, hd, s⟩ now i o d = ⟨on', hd', s'⟩ := ⟨_, _, _, rfl⟩
  have hi := stepD_i64 (g := ⟨on, hd, s⟩) (i := i) (o := o) (d := d) hs hn
  rw [h] at hi
  refine ⟨on', hd', s', h, hi, fun w => ?_⟩
  have h1 := gstep_any ⟨on, hd, s⟩ now i o d w hn hs
  rw [h] at h1
  exact h1

theorem msteps_same (on hd : Bool) (s now : Int) (i o : Bool) (d : Int) (hn : I64 now) (hs : I64 s) {on' hd' : Bool} {s' : Int} (h : stepD ⟨on, hd, s⟩ now i o d = ⟨on', hd', s'⟩) :
    (∀ w, Calls Try.prog 15 #[.agg #[.bool on, .bool hd, .int .i64 s], .int .i64 now, .bool i, .bool o, .int .i64 d] w fun e w' => e = .returned (.agg #[.bool on', .bool hd', .int .i64 s']) ∧ Keeps No w w') := by
  intro w
  have h1 := mstep_any ⟨on, hd, s⟩ now i o d w hn hs
  rw [h] at h1
  exact h1

end Go.Proofs.Ytboalfajghkajaa
