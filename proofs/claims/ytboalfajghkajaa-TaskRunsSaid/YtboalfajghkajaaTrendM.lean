/-
  How a signal changes: the document's.
-/
import Derived.Test.YtboalfajghkajaaTrendP
import Derived.BigQuiet
namespace Go.Proofs.Ytboalfajghkajaa
open Go.RowKit
set_option linter.unusedVariables false

set_option maxHeartbeats 4000000 in
set_option maxRecDepth 100000 in
theorem mchange_any {w : World} {v : Value} {l : List SeenD} (h : Sl w 5 v l.length (l.flatMap encSn)) (k now span : Int) (hl : l.length ≤ 100000) (hn : I64 now) (hs : I64 span) :
    Calls Try.prog 29 #[v, .int .i64 k, .int .i64 now, .int .i64 span] w fun e w' => e = .returned (ChangeA (changeD l k now span)) ∧ Keeps No w w' := by
  obtain ⟨ao, cap, rfl⟩ := h.any
  have HS := hid (fun w' => msince_any now span w' hn hs)
  have HO := hid (moldest_any h k (held (now - span)) hl)
  have HV := hid (fun (w' : World) (kw : Keeps No w w') => mvalue_any (h.keep kw (fun _ _ h => h)) k hl)
  obtain ⟨N, hN⟩ : ∃ N, l.length = N := ⟨_, rfl⟩
  rw [hN] at HO HV ⊢
  obtain ⟨f, hf⟩ : ∃ f, held (now - span) = f := ⟨_, rfl⟩
  rw [hf] at HS HO
  clear h hl hn hs hN
  cases ho : oldestD l k f with
  | none =>
    rw [changeD_none (by rw [hf]; exact ho)]
    rw [ho] at HO
    obtain ⟨vi, va, vo, hva⟩ : ∃ (vi va : Int) (vo : Bool), ValueA (valueD l k) = .tuple #[.int .i64 vi, .int .i64 va, .bool vo] := ⟨_, _, _, rfl⟩
    rw [hva] at HV
    unfold OldestA at HO
    clear ho hf hva
    go_enter Try.func29, Try.ntmps29
    go_wp2_with fail
    refine (HS.out _).mono ?_
    rintro e w0 ⟨rfl, rfl⟩
    go_wp2_with fail
    refine HO.out.mono ?_
    rintro e w1 ⟨rfl, k1⟩
    have K1 := hid k1
    clear k1
    go_wp2_with fail
    refine (HV.out _ K1.out).mono ?_
    rintro e w2 ⟨rfl, k2⟩
    have K2 := hid (K1.out.trans k2)
    clear k2
    go_wp2_with fail
    go_ret2
    exact ⟨rfl, K2.out⟩
  | some o =>
    obtain ⟨x, hx⟩ := old_last ho
    rw [changeD_some (by rw [hf]; exact ho) hx]
    rw [ho] at HO
    rw [hx] at HV
    obtain ⟨oa, os, oq, ov, ob⟩ := o
    obtain ⟨xa, xs, xq, xv, xb⟩ := x
    unfold OldestA at HO
    unfold ValueA at HV
    clear ho hf hx
    go_enter Try.func29, Try.ntmps29
    go_wp2_with fail
    refine (HS.out _).mono ?_
    rintro e w0 ⟨rfl, rfl⟩
    go_wp2_with fail
    refine HO.out.mono ?_
    rintro e w1 ⟨rfl, k1⟩
    have K1 := hid k1
    clear k1
    go_wp2_with fail
    refine (HV.out _ K1.out).mono ?_
    rintro e w2 ⟨rfl, k2⟩
    have K2 := hid (K1.out.trans k2)
    clear k2
    go_wp2_with fail
    go_ret2
    exact ⟨rfl, K2.out⟩

set_option maxHeartbeats 4000000 in
set_option maxRecDepth 100000 in
theorem mcrossT_any (k lim back v : Int) (a1 a4 a5 a6 a7 a8 : Value) (w : World) (hv : I64 v) :
    Calls Try.prog 30 #[.agg #[.int .u8 k, a1, .int .i64 lim, .int .i64 back, a4, a5, a6, a7, a8], .int .i64 v] w fun e w' => e = .returned (.tuple #[.bool (crossT k lim back v).1, .bool (crossT k lim back v).2]) ∧ Keeps No w w' := by
  clear hv
  by_cases h1 : k = 3
  · subst h1
    unfold crossT
    rw [if_pos rfl]
    go_enter Try.func30, Try.ntmps30
    go_wp2_with fail
    go_quiet (fail)
    go_wp2_with fail
    go_ret2
    refine ⟨rfl, ?_⟩
    repeat' (first | with_reducible exact Keeps.refl _ _ | with_reducible assumption | with_reducible refine Keeps.drewN ?_ _ | with_reducible refine Keeps.drew ?_ | with_reducible refine Keeps.alloc ?_ _ | with_reducible refine Keeps.setCell ?_ ?_ _ | exact Or.inl (by simp) | exact Or.inl (by simp; omega) | exact Or.inl (by omega))
  by_cases h2 : k = 4
  · subst h2
    unfold crossT
    rw [if_neg (by decide), if_pos rfl]
    go_enter Try.func30, Try.ntmps30
    go_wp2_with fail
    go_quiet (fail)
    go_wp2_with fail
    go_ret2
    refine ⟨rfl, ?_⟩
    repeat' (first | with_reducible exact Keeps.refl _ _ | with_reducible assumption | with_reducible refine Keeps.drewN ?_ _ | with_reducible refine Keeps.drew ?_ | with_reducible refine Keeps.alloc ?_ _ | with_reducible refine Keeps.setCell ?_ ?_ _ | exact Or.inl (by simp) | exact Or.inl (by simp; omega) | exact Or.inl (by omega))
  have e1 : (k == 3) = false := by simpa using h1
  have e2 : (k == 4) = false := by simpa using h2
  unfold crossT
  rw [if_neg h1, if_neg h2]
  clear h1 h2
  go_enter Try.func30, Try.ntmps30
  go_wp2_with fail
  go_ret2
  refine ⟨rfl, ?_⟩
  repeat' (first | with_reducible exact Keeps.refl _ _ | with_reducible assumption | with_reducible refine Keeps.drewN ?_ _ | with_reducible refine Keeps.drew ?_ | with_reducible refine Keeps.alloc ?_ _ | with_reducible refine Keeps.setCell ?_ ?_ _ | exact Or.inl (by simp) | exact Or.inl (by simp; omega) | exact Or.inl (by omega))

end Go.Proofs.Ytboalfajghkajaa
