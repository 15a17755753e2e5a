/-
  The document's example of a gate.
-/
import Derived.Test.YtiflpkmknooioaaGateS
import Derived.Test.YtiflpkmknooioaaGateM
import Derived.Test.YtiflpkmknooioaaBlk
import Derived.StillTailTactics
namespace Go.Proofs.Ytiflpkmknooioaa
open Go.RowKit
set_option linter.unusedVariables false

/-- Both are the same step. -/
theorem steps_same (on hd : Bool) (s now : Int) (i o : Bool) (d : Int) (hn : I64 now) (hs : I64 s) : ∃ on' hd' s', stepD ⟨on, hd, s⟩ now i o d = ⟨on', hd', s'⟩ ∧ I64 s' ∧
    (∀ w, Calls Try.prog 16 #[.agg #[.bool on, .bool hd, .int .i64 s], .int .i64 now, .bool i, .bool o, .int .i64 d] w fun e w' => e = .returned (.agg #[.bool on', .bool hd', .int .i64 s']) ∧ Keeps No w w') := by
  obtain ⟨on', hd', s', h⟩ : ∃ on' hd' s', stepD ⟨on, hd, s⟩ now i o d = ⟨on', hd', s'⟩ := ⟨_, _, _, rfl⟩
  have hi := stepD_i64 (g := ⟨on, hd, s⟩) (i := i) (o := o) (d := d) hs hn
  rw [h] at hi
  refine ⟨on', hd', s', h, hi, fun w => ?_⟩
  have h1 := gstep_any ⟨on, hd, s⟩ now i o d w hn hs
  rw [h] at h1
  exact h1

theorem msteps_same (on hd : Bool) (s now : Int) (i o : Bool) (d : Int) (hn : I64 now) (hs : I64 s) {on' hd' : Bool} {s' : Int} (h : stepD ⟨on, hd, s⟩ now i o d = ⟨on', hd', s'⟩) :
    (∀ w, Calls Try.prog 17 #[.agg #[.bool on, .bool hd, .int .i64 s], .int .i64 now, .bool i, .bool o, .int .i64 d] w fun e w' => e = .returned (.agg #[.bool on', .bool hd', .int .i64 s']) ∧ Keeps No w w') := by
  intro w
  have h1 := mstep_any ⟨on, hd, s⟩ now i o d w hn hs
  rw [h] at h1
  exact h1

set_option maxHeartbeats 4000000 in
set_option maxRecDepth 100000 in
theorem lasts_true (w : World) : Calls Try.prog 15 #[] w fun e w' => e = .returned (.bool true) ∧ Keeps No w w' := by
  have i5 : I64 5 := ⟨by decide, by decide⟩
  have i6 : I64 6 := ⟨by decide, by decide⟩
  have i7 : I64 7 := ⟨by decide, by decide⟩
  have i0 : I64 0 := ⟨by decide, by decide⟩
  have S1 := hid (fun w => show Calls Try.prog 16 #[.agg #[.bool false, .bool false, .int .i64 0], .int .i64 5, .bool true, .bool false, .int .i64 2] w fun e w' => e = .returned (.agg #[.bool false, .bool true, .int .i64 5]) ∧ Keeps No w w' from gstep_any ⟨false, false, 0⟩ 5 true false 2 w i5 i0)
  have S2 := hid (fun w => show Calls Try.prog 16 #[.agg #[.bool false, .bool true, .int .i64 5], .int .i64 6, .bool true, .bool false, .int .i64 2] w fun e w' => e = .returned (.agg #[.bool false, .bool true, .int .i64 5]) ∧ Keeps No w w' from gstep_any ⟨false, true, 5⟩ 6 true false 2 w i6 i5)
  have S3 := hid (fun w => show Calls Try.prog 16 #[.agg #[.bool false, .bool true, .int .i64 5], .int .i64 7, .bool true, .bool false, .int .i64 2] w fun e w' => e = .returned (.agg #[.bool true, .bool false, .int .i64 0]) ∧ Keeps No w w' from gstep_any ⟨false, true, 5⟩ 7 true false 2 w i7 i5)
  clear i5 i6 i7 i0
  go_enter Try.func15, Try.ntmps15
  go_wp2_with fail
  refine (S1.out _).mono ?_
  rintro e w1 ⟨rfl, k1⟩
  have K1 := hid (Keeps.trans ((Keeps.refl No w).alloc _) k1)
  clear k1
  go_wp2_with fail
  refine (S2.out _).mono ?_
  rintro e w2 ⟨rfl, k2⟩
  have b2 := k2.heap (fun h => h) (heap_alloc_new w1 (.cells #[.bool false, .bool true, .int .i64 5] 25))
  have K2 := hid ((K1.out.alloc _).trans k2)
  have B2 := hid b2
  clear k2 b2
  go_wp2_with fail
  refine (S3.out _).mono ?_
  rintro e w3 ⟨rfl, k3⟩
  have b3 := k3.heap (fun h => h) (heap_alloc_new w2 (.cells #[.bool false, .bool true, .int .i64 5] 25))
  have b2 := k3.heap (fun h => h) (heapA (.cells #[.bool false, .bool true, .int .i64 5] 25) B2.out)
  have K3 := hid ((K2.out.alloc _).trans k3)
  have x0 := cellA (.cells #[.bool true, .bool false, .int .i64 0] 25) (cell_at (i := 0) (v := .bool false) b2 rfl)
  have x1 := cellA (.cells #[.bool true, .bool false, .int .i64 0] 25) (cell_at (i := 1) (v := .bool true) b2 rfl)
  have x2 := cellA (.cells #[.bool true, .bool false, .int .i64 0] 25) (cell_at (i := 2) (v := .int .i64 5) b2 rfl)
  have y0 := cellA (.cells #[.bool true, .bool false, .int .i64 0] 25) (cell_at (i := 0) (v := .bool false) b3 rfl)
  have y1 := cellA (.cells #[.bool true, .bool false, .int .i64 0] 25) (cell_at (i := 1) (v := .bool true) b3 rfl)
  have y2 := cellA (.cells #[.bool true, .bool false, .int .i64 0] 25) (cell_at (i := 2) (v := .int .i64 5) b3 rfl)
  clear k3 b3 b2 B2
  go_wp2_with fail
  go_ret
  exact ⟨rfl, K3.out.alloc _⟩

end Go.Proofs.Ytiflpkmknooioaa
