/-
  A wheel: Due, by the list that it is read as.
-/
import Derived.Test.YtnedmmjkhemgjaaWhl2
import Derived.Laws.IdiomRangeMap
namespace Go.Proofs.Ytnedmmjkhemgjaa
open Go.RowKit Go.Maps
set_option linter.unusedVariables false

set_option maxHeartbeats 4000000 in
set_option maxRecDepth 100000 in
theorem due_zero {w : World} {b : Nat} (now : Int) (h : W0 w b) :
    Calls Try.prog 13 #[.pointer (some ⟨b, 0, none⟩), .int .i64 now] w fun e w' => e = .returned (.slice none 0 0) ∧ Keeps No w w' := by
  have c0 := cell_at (i := 0) h rfl
  have hrg : ∀ wx : World, (Instr.range 47 (.map none)).run Try.prog wx = _ := fun wx => run_range_nilMap wx 47 3 2 Try.underlying47
  have hnx : ∀ ty, (Instr.next (.pointer (some ⟨w.heap.size, 0, none⟩)) false ty).run Try.prog (w.alloc (.mapIter none 0 #[] 0)) = .ok (.tuple #[.bool false]) (w.alloc (.mapIter none 0 #[] 0)) := fun ty => by
    simpa using run_next_nilMap (P := Try.prog) w ty 0 0 #[]
  clear h
  go_enter Try.func13, Try.ntmps13
  go_wp2_with fail
  refine wp_loop_rounds 1 ?_
  rw [rounds_succ]
  go_wp2_with (go_at_call 18; refine (sort_nil _ _).mono ?_; rintro e w' ⟨rfl, q, rfl⟩)
  refine wp_loop_rounds 1 ?_
  rw [rounds_succ]
  go_wp2_with fail
  go_ret
  refine ⟨rfl, ?_⟩
  repeat' (first | with_reducible exact Keeps.refl _ _ | with_reducible refine Keeps.drewN ?_ _ | with_reducible refine Keeps.drew ?_ | with_reducible refine Keeps.alloc ?_ _)

/-- What Due leaves. -/
structure DueW (w w' : World) (b n : Nat) (F : Nat → Prop) (L : List Tmr) (now : Int) (v : Value) (xs : List Int) : Prop where
  ordered : xs.Pairwise (fun x y => ltT (tmOf L) x y = true)
  iff : ∀ x, x ∈ xs ↔ (x ∈ idsT L ∧ tmOf L x ≤ now)
  row : w'.ownsRow 0 3 1 v xs.length (xs.map (Value.int .i64))
  fresh : ∀ k, v.ownBlock = some k → w.heap.size ≤ k
  wheel : Whl w' b F n (dropT L xs)
  keeps : Keeps F w w'

theorem dropT_nil (L : List Tmr) : dropT L [] = L := by unfold dropT; simp

theorem wdue_any {w : World} {b n : Nat} {F : Nat → Prop} {L : List Tmr} (now : Int) (h : Whl w b F n L) (hn : n ≤ 60) :
    Calls Try.prog 13 #[.pointer (some ⟨b, 0, none⟩), .int .i64 now] w fun e w' => ∃ v, e = .returned v ∧ ∃ xs, DueW w w' b n F L now v xs := by
  rcases h with ⟨h0, rfl, h2⟩ | ⟨m, D, hb, hw, hr, hF⟩
  · refine (due_zero now h0).mono ?_
    rintro e w' ⟨he, k⟩
    exact ⟨_, he, [], List.Pairwise.nil, fun x => by simp [idsT], World.ownsRow_nil _ _ _ _, fun k hk => by simp [Value.ownBlock] at hk, Or.inl ⟨k.heap (fun h => h) h0, by simp [dropT], h2⟩, k.no⟩
  · refine (due_any (T := tmOf L) (S := idsT L) now hw hb hn hr.times (fun x hx => (hr.has x).1 hx)).mono ?_
    rintro e w' ⟨v, he, xs, hd⟩
    exact ⟨v, he, xs, hd.ordered, fun x => by rw [hd.iff, hr.has]; rfl, hd.row, hd.fresh, Or.inr ⟨m, _, hb, hd.wheel, hr.less xs, hF⟩, hd.keeps.mono (fun k _ e => (hF k).2 (Or.inr e))⟩

end Go.Proofs.Ytnedmmjkhemgjaa
