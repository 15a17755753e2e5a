/-
  A row that a sort works on: what it holds, and that nothing else was written.
-/
import Derived.Test.YtnedmmjkhemgjaaClockS
import Derived.Sort.LotB
import Derived.Sort.LotD2
import Derived.BigQuiet
namespace Go.Proofs.Ytnedmmjkhemgjaa
open Go.RowKit
set_option linter.unusedVariables false

/-- The row g holds D, all of it one of ks; only g was written since w0. -/
structure SR (w0 w : World) (g cap n : Nat) (ks : List Int) (D : Array Int) : Prop where
  own : w.ownsRow 0 3 1 (.slice (some ⟨g, 0, none⟩) n cap) n (D.toList.map (Value.int .i64))
  keeps : Keeps (fun k => k = g) w0 w
  size : D.size = n
  mem : ∀ i, i < n → D[i]! ∈ ks

section
variable {w0 w : World} {g cap n : Nat} {ks : List Int} {D : Array Int}

theorem SR.drewN (h : SR w0 w g cap n ks D) (q : Nat) : SR w0 (w.drewN q) g cap n ks D := ⟨own_drewN h.own q, h.keeps.drewN q, h.size, h.mem⟩

theorem own_keep {S : Nat → Prop} {w w' : World} {base : Nat} {e : TypeId} {size g cap n : Nat} {xs : List Value} (h : w.ownsRow base e size (.slice (some ⟨g, 0, none⟩) n cap) n xs) (k : Keeps S w w') (hs : ¬ S g) :
    w'.ownsRow base e size (.slice (some ⟨g, 0, none⟩) n cap) n xs := by
  obtain ⟨hl, h | ⟨g', cap', cur, e1, hbase, hb, rest⟩⟩ := h
  · exact absurd h.1 (by simp)
  · have e2 : g = g' := by simpa using congrArg (fun v => match v with | .slice (some a) _ _ => a.block | _ => 0) e1
    subst e2
    exact ⟨hl, Or.inr ⟨g, cap', cur, e1, hbase, (k.block g (lt_of_block hb) hs).trans hb, rest⟩⟩

theorem SR.keep {S : Nat → Prop} {w' : World} (h : SR w0 w g cap n ks D) (k : Keeps S w w') (hs : ¬ S g) (h0 : ∀ i, i < w0.heap.size → ¬ S i) : SR w0 w' g cap n ks D :=
  ⟨own_keep h.own k hs, h.keeps.trans' k (fun _ _ h => h) (fun i hi e => absurd e (h0 i hi)), h.size, h.mem⟩

theorem SR.kept {w' : World} (h : SR w0 w g cap n ks D) (k : Keeps No w w') : SR w0 w' g cap n ks D := h.keep k (fun h => h) (fun _ _ h => h)

theorem SR.lt (h : SR w0 w g cap n ks D) : g < w.heap.size := by
  rcases h.own.2 with h | ⟨g', cap', cur, e1, hbase, hb, rest⟩
  · exact absurd h.1 (by simp)
  · have e2 : g = g' := by simpa using congrArg (fun v => match v with | .slice (some a) _ _ => a.block | _ => 0) e1
    subst e2
    exact lt_of_block hb

theorem SR.cell (h : SR w0 w g cap n ks D) {i : Nat} (hi : i < n) : w.cell? ⟨g, i, none⟩ = some (.int .i64 D[i]!) :=
  own_cellA h.own h.size.symm (by rw [h.size]; exact hi)

theorem SR.free (h : SR w0 w g cap n ks D) (i : Nat) : w.frozen? ⟨g, i, none⟩ = false := h.own.frozenAt i

theorem SR.swap (h : SR w0 w g cap n ks D) {i j : Nat} (hi : i < n) (hj : j < n) {x y : Int} (hx : D[i]! = x) (hy : D[j]! = y) :
    SR w0 ((w.setCell ⟨g, i, none⟩ (.int .i64 y)).setCell ⟨g, j, none⟩ (.int .i64 x)) g cap n ks (Sort.swp D i j) := by
  subst hx hy
  have h1 := ((h.own.stored i (.int .i64 D[j]!)).1.stored j (.int .i64 D[i]!)).1
  rw [← List.map_set, ← List.map_set] at h1
  refine ⟨?_, (h.keeps.setCell (p := ⟨g, i, none⟩) (Or.inr rfl) _).setCell (p := ⟨g, j, none⟩) (Or.inr rfl) _, by rw [Sort.size_swp]; exact h.size, fun k hk => ?_⟩
  · unfold Sort.swp
    rw [Array.toList_setIfInBounds, Array.toList_setIfInBounds]
    exact h1
  · have hsz := h.size
    rw [Sort.swp_get D (by omega) (by omega) k]
    split
    · exact h.mem _ hi
    · split
      · exact h.mem _ hj
      · exact h.mem _ hk

theorem SR.swapD (h : SR w0 w g cap n ks D) {i j : Nat} (hi : i < n) (hj : j < n) {x y : Int} (hx : D[i]! = x) (hy : D[j]! = y) (q : Nat) :
    SR w0 (((w.drewN q).setCell ⟨g, i, none⟩ (.int .i64 y)).setCell ⟨g, j, none⟩ (.int .i64 x)) g cap n ks (Sort.swp D i j) := (h.drewN q).swap hi hj hx hy

theorem SR.cell2 (h : SR w0 w g cap n ks D) {i j : Nat} (hj : j < n) (v : Int) : ∃ u, (w.setCell ⟨g, i, none⟩ (.int .i64 v)).cell? ⟨g, j, none⟩ = some u := by
  have h1 := (h.own.stored i (.int .i64 v)).1
  have hl : ((D.toList.map (Value.int .i64)).set i (.int .i64 v)).length = n := by simp [h.size]
  exact ⟨_, (h1.cellAt j (by omega)).trans (List.getElem?_eq_getElem (by rw [hl]; exact hj))⟩

theorem SR.ord {b : Nat} {T : Int → Int} (h : SR w0 w g cap n ks D) (hc : Orders w0 g b T ks) {i j : Nat} (hi : i < n) (hj : j < n) (m : Nat) :
    Calls Try.prog 19 #[.pointer (some ⟨b, 0, none⟩), .int .i64 D[i]!, .int .i64 D[j]!] (w.drewN m) fun e w'' => e = .returned (.int .i64 (cfT T D[i]! D[j]!)) ∧ ∃ q, w'' = (w.drewN m).drewN q :=
  hc _ (h.keeps.drewN m) _ _ (h.mem i hi) (h.mem j hj)
end

theorem lt_neg {T : Int → Int} {x y : Int} (h : ltT T x y = true) : cfT T x y < 0 := (cfT_lt T x y).2 h
theorem lt_pos {T : Int → Int} {x y : Int} (h : ltT T x y = false) : ¬ cfT T x y < 0 := fun h' => by rw [(cfT_lt T x y).1 h'] at h; cases h

/-- The function value that a sort is handed. -/
abbrev ordV (b : Nat) : Value := .func (.func 19) #[.pointer (some ⟨b, 0, none⟩)] #[]

end Go.Proofs.Ytnedmmjkhemgjaa
