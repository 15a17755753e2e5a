/-
  How a signal changes: the program's.
-/
import Derived.Test.YtboalfajghkajaaTrendP
import Derived.Test.YtboalfajghkajaaCellS
import Derived.BigQuiet
namespace Go.Proofs.Ytboalfajghkajaa
open Go.RowKit
set_option linter.unusedVariables false

set_option maxHeartbeats 4000000 in
set_option maxRecDepth 100000 in
theorem tchange_val {w : World} {p : Value} (k now span : Int) (hn : I64 now) (hs : I64 span) (o : Option SeenD) (x : Option SeenD) (hox : ∀ y, o = some y → ∃ z, x = some z)
    (ho : Calls Try.prog 49 #[p, .int .i64 k, .int .i64 (held (now - span))] w fun e w' => e = .returned (OldestA o) ∧ Keeps No w w')
    (hv : ∀ w', Keeps No w w' → Calls Try.prog 36 #[p, .int .i64 k] w' fun e w'' => e = .returned (ValueA x) ∧ Keeps No w' w'') :
    Calls Try.prog 38 #[p, .int .i64 k, .int .i64 now, .int .i64 span] w fun e w' => e = .returned (ChangeA (o.bind fun o => x.map fun v => wrap64 (v.val - o.val))) ∧ Keeps No w w' := by
  have HS := hid (fun w' => since_any now span w' hn hs)
  have HO := hid ho
  have HV := hid hv
  obtain ⟨f, hf⟩ : ∃ f, held (now - span) = f := ⟨_, rfl⟩
  rw [hf] at HS HO
  clear hn hs ho hv hf
  cases o with
  | none =>
    unfold OldestA at HO
    go_enter Try.func38, Try.ntmps38
    go_wp2_with fail
    refine (HS.out _).mono ?_
    rintro e w0 ⟨rfl, rfl⟩
    go_wp2_with fail
    refine HO.out.mono ?_
    rintro e w1 ⟨rfl, k1⟩
    have K1 := hid k1
    clear k1
    go_wp2_with fail
    go_ret2
    exact ⟨rfl, K1.out⟩
  | some o =>
    obtain ⟨x, rfl⟩ := hox o rfl
    obtain ⟨oa, os, oq, ov, ob⟩ := o
    obtain ⟨xa, xs, xq, xv, xb⟩ := x
    unfold OldestA at HO
    unfold ValueA at HV
    go_enter Try.func38, Try.ntmps38
    go_wp2_with fail
    refine (HS.out _).mono ?_
    rintro e w0 ⟨rfl, rfl⟩
    go_wp2_with fail
    refine HO.out.mono ?_
    rintro e w1 ⟨rfl, k1⟩
    have K1 := hid k1
    clear k1
    go_wp2_with fail
    refine (HV.out _ K1.out).mono ?_
    rintro e w2 ⟨rfl, k2⟩
    have K2 := hid (K1.out.trans k2)
    clear k2
    go_wp2_with fail
    go_ret2
    exact ⟨rfl, K2.out⟩

theorem tchange_any {w : World} {sb : Nat} {F : Nat → Prop} {n : Nat} {l : List SeenD} (h : Sto w sb F n l) (k now span : Int) (hn : I64 now) (hs : I64 span) :
    Calls Try.prog 38 #[.pointer (some ⟨sb, 0, none⟩), .int .i64 k, .int .i64 now, .int .i64 span] w fun e w' => e = .returned (ChangeA (changeD l k now span)) ∧ Keeps No w w' :=
  tchange_val k now span hn hs _ _ (fun y hy => old_last hy) (coldest_any h k _) (fun w' kw => cvalue_any (h.keep kw (fun _ _ h => h)) k)

theorem nchange_any (w : World) (k now span : Int) (hn : I64 now) (hs : I64 span) :
    Calls Try.prog 38 #[.pointer none, .int .i64 k, .int .i64 now, .int .i64 span] w fun e w' => e = .returned (ChangeA none) ∧ Keeps No w w' :=
  tchange_val k now span hn hs none none (fun y hy => by cases hy) (noldest_any w k _) (fun w' kw => nvalue_any w' k)

set_option maxHeartbeats 4000000 in
set_option maxRecDepth 100000 in
theorem tcrossT_any (k lim back v : Int) (a1 a4 a5 a6 a7 a8 : Value) (w : World) (hv : I64 v) :
    Calls Try.prog 39 #[.agg #[.int .u8 k, a1, .int .i64 lim, .int .i64 back, a4, a5, a6, a7, a8], .int .i64 v] w fun e w' => e = .returned (.tuple #[.bool (crossT k lim back v).1, .bool (crossT k lim back v).2]) ∧ Keeps No w w' := by
  clear hv
  by_cases h1 : k = 3
  · subst h1
    unfold crossT
    rw [if_pos rfl]
    go_enter Try.func39, Try.ntmps39
    go_wp2_with fail
    go_quiet (fail)
    go_wp2_with fail
    go_ret2
    refine ⟨rfl, ?_⟩
    repeat' (first | with_reducible exact Keeps.refl _ _ | with_reducible assumption | with_reducible refine Keeps.drewN ?_ _ | with_reducible refine Keeps.drew ?_ | with_reducible refine Keeps.alloc ?_ _ | with_reducible refine Keeps.setCell ?_ ?_ _ | exact Or.inl (by simp) | exact Or.inl (by simp; omega) | exact Or.inl (by omega))
  by_cases h2 : k = 4
  · subst h2
    unfold crossT
    rw [if_neg (by decide), if_pos rfl]
    go_enter Try.func39, Try.ntmps39
    go_wp2_with fail
    go_quiet (fail)
    go_wp2_with fail
    go_ret2
    refine ⟨rfl, ?_⟩
    repeat' (first | with_reducible exact Keeps.refl _ _ | with_reducible assumption | with_reducible refine Keeps.drewN ?_ _ | with_reducible refine Keeps.drew ?_ | with_reducible refine Keeps.alloc ?_ _ | with_reducible refine Keeps.setCell ?_ ?_ _ | exact Or.inl (by simp) | exact Or.inl (by simp; omega) | exact Or.inl (by omega))
  have e1 : (k == 3) = false := by simpa using h1
  have e2 : (k == 4) = false := by simpa using h2
  unfold crossT
  rw [if_neg h1, if_neg h2]
  clear h1 h2
  go_enter Try.func39, Try.ntmps39
  go_wp2_with fail
  go_ret2
  refine ⟨rfl, ?_⟩
  repeat' (first | with_reducible exact Keeps.refl _ _ | with_reducible assumption | with_reducible refine Keeps.drewN ?_ _ | with_reducible refine Keeps.drew ?_ | with_reducible refine Keeps.alloc ?_ _ | with_reducible refine Keeps.setCell ?_ ?_ _ | exact Or.inl (by simp) | exact Or.inl (by simp; omega) | exact Or.inl (by omega))

end Go.Proofs.Ytboalfajghkajaa
