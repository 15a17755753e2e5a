/-
  Gates: the program's.
-/
import Derived.Test.YtboalfajghkajaaGateP
import Derived.Test.YtboalfajghkajaaTimeS
import Derived.BigQuiet
namespace Go.Proofs.Ytboalfajghkajaa
open Go.RowKit
set_option linter.unusedVariables false

set_option maxHeartbeats 4000000 in
set_option maxRecDepth 100000 in
theorem gstep_any (g : GateD) (now : Int) (i o : Bool) (d : Int) (w : World) (hn : I64 now) (hs : I64 g.since) :
    Calls Try.prog 33 #[.agg #[.bool g.on, .bool g.hd, .int .i64 g.since], .int .i64 now, .bool i, .bool o, .int .i64 d] w fun e w' => e = .returned (stepD g now i o d).val ∧ Keeps No w w' := by
  obtain ⟨on, h, s⟩ := g
  dsimp only at hs ⊢
  unfold GateD.val
  have SN := hid (fun w' => show Calls Try.prog 40 #[.int .i64 now, .int .i64 now] w' (fun e w2 => e = .returned (.int .i64 (held 0)) ∧ w' = w2) from by have h1 := since_any now now w' hn hn; rwa [Int.sub_self] at h1)
  cases on
  · cases i
    · have e : stepD ⟨false, h, s⟩ now false o d = ⟨false, false, 0⟩ := by simp [stepD]
      rw [e]
      clear e
      go_enter Try.func33, Try.ntmps33
      go_wp2_with fail
      go_returns
      refine ⟨rfl, ?_⟩
      repeat' (first | with_reducible exact Keeps.refl _ _ | with_reducible assumption | with_reducible refine Keeps.drewN ?_ _ | with_reducible refine Keeps.drew ?_ | with_reducible refine Keeps.alloc ?_ _ | with_reducible refine Keeps.setCell ?_ ?_ _ | exact Or.inl (by simp) | exact Or.inl (by simp; omega) | exact Or.inl (by omega))
    · cases h
      · by_cases hge : held (0) ≥ d
        · have e : stepD ⟨false, false, s⟩ now true o d = ⟨true, false, 0⟩ := by simp [stepD, hge]
          have dd : decide (held (0) ≥ d) = true := decide_eq_true hge
          rw [e]
          clear e hge
          go_enter Try.func33, Try.ntmps33
          go_wp2_with fail
          refine (SN.out _).mono ?_
          rintro e w1 ⟨rfl, rfl⟩
          go_wp2_with fail
          go_returns
          refine ⟨rfl, ?_⟩
          repeat' (first | with_reducible exact Keeps.refl _ _ | with_reducible assumption | with_reducible refine Keeps.drewN ?_ _ | with_reducible refine Keeps.drew ?_ | with_reducible refine Keeps.alloc ?_ _ | with_reducible refine Keeps.setCell ?_ ?_ _ | exact Or.inl (by simp) | exact Or.inl (by simp; omega) | exact Or.inl (by omega))
        · have e : stepD ⟨false, false, s⟩ now true o d = ⟨false, true, now⟩ := by simp [stepD, hge]
          have dd : decide (held (0) ≥ d) = false := decide_eq_false hge
          rw [e]
          clear e hge
          go_enter Try.func33, Try.ntmps33
          go_wp2_with fail
          refine (SN.out _).mono ?_
          rintro e w1 ⟨rfl, rfl⟩
          go_wp2_with fail
          go_returns
          refine ⟨rfl, ?_⟩
          repeat' (first | with_reducible exact Keeps.refl _ _ | with_reducible assumption | with_reducible refine Keeps.drewN ?_ _ | with_reducible refine Keeps.drew ?_ | with_reducible refine Keeps.alloc ?_ _ | with_reducible refine Keeps.setCell ?_ ?_ _ | exact Or.inl (by simp) | exact Or.inl (by simp; omega) | exact Or.inl (by omega))
      · by_cases hge : held (now - s) ≥ d
        · have e : stepD ⟨false, true, s⟩ now true o d = ⟨true, false, 0⟩ := by simp [stepD, hge]
          have dd : decide (held (now - s) ≥ d) = true := decide_eq_true hge
          rw [e]
          clear e hge
          go_enter Try.func33, Try.ntmps33
          go_wp2_with fail
          refine (since_any now s _ hn hs).mono ?_
          rintro e w1 ⟨rfl, rfl⟩
          go_wp2_with fail
          go_returns
          refine ⟨rfl, ?_⟩
          repeat' (first | with_reducible exact Keeps.refl _ _ | with_reducible assumption | with_reducible refine Keeps.drewN ?_ _ | with_reducible refine Keeps.drew ?_ | with_reducible refine Keeps.alloc ?_ _ | with_reducible refine Keeps.setCell ?_ ?_ _ | exact Or.inl (by simp) | exact Or.inl (by simp; omega) | exact Or.inl (by omega))
        · have e : stepD ⟨false, true, s⟩ now true o d = ⟨false, true, s⟩ := by simp [stepD, hge]
          have dd : decide (held (now - s) ≥ d) = false := decide_eq_false hge
          rw [e]
          clear e hge
          go_enter Try.func33, Try.ntmps33
          go_wp2_with fail
          refine (since_any now s _ hn hs).mono ?_
          rintro e w1 ⟨rfl, rfl⟩
          go_wp2_with fail
          go_returns
          refine ⟨rfl, ?_⟩
          repeat' (first | with_reducible exact Keeps.refl _ _ | with_reducible assumption | with_reducible refine Keeps.drewN ?_ _ | with_reducible refine Keeps.drew ?_ | with_reducible refine Keeps.alloc ?_ _ | with_reducible refine Keeps.setCell ?_ ?_ _ | exact Or.inl (by simp) | exact Or.inl (by simp; omega) | exact Or.inl (by omega))
  · cases o
    · have e : stepD ⟨true, h, s⟩ now i false d = ⟨true, h, s⟩ := by simp [stepD]
      rw [e]
      clear e
      go_enter Try.func33, Try.ntmps33
      go_wp2_with fail
      go_returns
      refine ⟨rfl, ?_⟩
      repeat' (first | with_reducible exact Keeps.refl _ _ | with_reducible assumption | with_reducible refine Keeps.drewN ?_ _ | with_reducible refine Keeps.drew ?_ | with_reducible refine Keeps.alloc ?_ _ | with_reducible refine Keeps.setCell ?_ ?_ _ | exact Or.inl (by simp) | exact Or.inl (by simp; omega) | exact Or.inl (by omega))
    · have e : stepD ⟨true, h, s⟩ now i true d = ⟨false, false, 0⟩ := by simp [stepD]
      rw [e]
      clear e
      go_enter Try.func33, Try.ntmps33
      go_wp2_with fail
      go_returns
      refine ⟨rfl, ?_⟩
      repeat' (first | with_reducible exact Keeps.refl _ _ | with_reducible assumption | with_reducible refine Keeps.drewN ?_ _ | with_reducible refine Keeps.drew ?_ | with_reducible refine Keeps.alloc ?_ _ | with_reducible refine Keeps.setCell ?_ ?_ _ | exact Or.inl (by simp) | exact Or.inl (by simp; omega) | exact Or.inl (by omega))

set_option maxHeartbeats 4000000 in
set_option maxRecDepth 100000 in
theorem gcross_any (k lim back v : Int) (a1 a4 a5 a6 a7 a8 : Value) (w : World) :
    Calls Try.prog 37 #[.agg #[.int .u8 k, a1, .int .i64 lim, .int .i64 back, a4, a5, a6, a7, a8], .int .i64 v] w fun e w' => e = .returned (.tuple #[.bool (crossD k lim back v).1, .bool (crossD k lim back v).2]) ∧ Keeps No w w' := by
  by_cases h1 : k = 1
  · subst h1
    unfold crossD
    rw [if_pos rfl]
    rw [show (!decide (v > back)) = decide (v ≤ back) by by_cases h : v ≤ back <;> simp [h] <;> omega]
    go_enter Try.func37, Try.ntmps37
    go_wp2_with fail
    go_quiet (fail)
    go_wp2_with fail
    go_ret2
    refine ⟨rfl, ?_⟩
    repeat' (first | with_reducible exact Keeps.refl _ _ | with_reducible assumption | with_reducible refine Keeps.drewN ?_ _ | with_reducible refine Keeps.drew ?_ | with_reducible refine Keeps.alloc ?_ _ | with_reducible refine Keeps.setCell ?_ ?_ _ | exact Or.inl (by simp) | exact Or.inl (by simp; omega) | exact Or.inl (by omega))
  by_cases h2 : k = 2
  · subst h2
    unfold crossD
    rw [if_neg (by decide), if_pos rfl]
    rw [show (!decide (v < back)) = decide (v ≥ back) by by_cases h : v < back <;> simp [h] <;> omega]
    go_enter Try.func37, Try.ntmps37
    go_wp2_with fail
    go_quiet (fail)
    go_wp2_with fail
    go_ret2
    refine ⟨rfl, ?_⟩
    repeat' (first | with_reducible exact Keeps.refl _ _ | with_reducible assumption | with_reducible refine Keeps.drewN ?_ _ | with_reducible refine Keeps.drew ?_ | with_reducible refine Keeps.alloc ?_ _ | with_reducible refine Keeps.setCell ?_ ?_ _ | exact Or.inl (by simp) | exact Or.inl (by simp; omega) | exact Or.inl (by omega))
  have e1 : (k == 1) = false := by simpa using h1
  have e2 : (k == 2) = false := by simpa using h2
  unfold crossD
  rw [if_neg h1, if_neg h2]
  clear h1 h2
  go_enter Try.func37, Try.ntmps37
  go_wp2_with fail
  go_ret2
  refine ⟨rfl, ?_⟩
  repeat' (first | with_reducible exact Keeps.refl _ _ | with_reducible assumption | with_reducible refine Keeps.drewN ?_ _ | with_reducible refine Keeps.drew ?_ | with_reducible refine Keeps.alloc ?_ _ | with_reducible refine Keeps.setCell ?_ ?_ _ | exact Or.inl (by simp) | exact Or.inl (by simp; omega) | exact Or.inl (by omega))

end Go.Proofs.Ytboalfajghkajaa
