/-
  Hushes: the program's.
-/
import Derived.Test.YtnmlaobiljmgaaaHushP
import Derived.Test.YtnmlaobiljmgaaaTimeA
import Derived.Deep.RegionHeld3
import Derived.Deep.DeepCutAuto
import Derived.Deep.CutBlock
namespace Go.Proofs.Ytnmlaobiljmgaaa
open Go.RowKit
set_option linter.unusedVariables false

set_option maxHeartbeats 2000000 in
set_option maxRecDepth 100000 in
theorem hpaused_any (u o m now : Int) (w : World) :
    Calls Try.prog 41 #[.agg #[.int .i64 u, .int .i64 o, .int .u8 m], .int .i64 now] w fun e w' => e = .returned (.bool (decide (now < u))) ∧ Keeps No w w' := by
  go_enter Try.func41, Try.ntmps41
  go_wp2_with fail
  go_ret
  refine ⟨rfl, ?_⟩
  repeat' (first | with_reducible exact Keeps.refl _ _ | with_reducible assumption | with_reducible refine Keeps.drewN ?_ _ | with_reducible refine Keeps.drew ?_ | with_reducible refine Keeps.alloc ?_ _ | with_reducible refine Keeps.setCell ?_ ?_ _ | exact Or.inl (by simp) | exact Or.inl (by simp; omega) | exact Or.inl (by omega))

set_option maxHeartbeats 2000000 in
set_option maxRecDepth 100000 in
theorem hisoff_any (u o m now : Int) (w : World) :
    Calls Try.prog 42 #[.agg #[.int .i64 u, .int .i64 o, .int .u8 m], .int .i64 now] w fun e w' => e = .returned (.bool (decide (now < o))) ∧ Keeps No w w' := by
  go_enter Try.func42, Try.ntmps42
  go_wp2_with fail
  go_ret
  refine ⟨rfl, ?_⟩
  repeat' (first | with_reducible exact Keeps.refl _ _ | with_reducible assumption | with_reducible refine Keeps.drewN ?_ _ | with_reducible refine Keeps.drew ?_ | with_reducible refine Keeps.alloc ?_ _ | with_reducible refine Keeps.setCell ?_ ?_ _ | exact Or.inl (by simp) | exact Or.inl (by simp; omega) | exact Or.inl (by omega))

set_option maxHeartbeats 2000000 in
set_option maxRecDepth 100000 in
theorem hsilent_any (u o m now : Int) (w : World) :
    Calls Try.prog 53 #[.agg #[.int .i64 u, .int .i64 o, .int .u8 m], .int .i64 now] w fun e w' => e = .returned (.bool (decide (now < u) || decide (now < o))) ∧ Keeps No w w' := by
  by_cases h1 : now < u
  · have d1 : decide (now < u) = true := decide_eq_true h1
    rw [d1]
    go_enter Try.func53, Try.ntmps53
    go_wp2_with fail
    refine (hpaused_any u o m now _).mono ?_
    rintro e w1 ⟨rfl, k1⟩
    have K1 := hid (Keeps.trans ((Keeps.refl No w).alloc _) k1)
    clear k1
    go_wp2_with fail
    go_ret
    exact ⟨rfl, K1.out⟩
  · have d1 : decide (now < u) = false := decide_eq_false h1
    rw [d1]
    go_enter Try.func53, Try.ntmps53
    go_wp2_with fail
    refine (hpaused_any u o m now _).mono ?_
    rintro e w1 ⟨rfl, k1⟩
    have hb := (Bk.new (w := w) rfl [.int .i64 u, .int .i64 o, .int .u8 m] 62).kept k1
    have x0 := hb.cell 0 rfl
    have x1 := hb.cell 1 rfl
    have x2 := hb.cell 2 rfl
    have K1 := hid (Keeps.trans ((Keeps.refl No w).alloc _) k1)
    clear k1 hb
    go_wp2_with fail
    refine (hisoff_any u o m now _).mono ?_
    rintro e w2 ⟨rfl, k2⟩
    have K2 := hid (K1.out.trans k2)
    clear k2
    go_wp2_with fail
    go_ret
    exact ⟨rfl, K2.out⟩

end Go.Proofs.Ytnmlaobiljmgaaa
