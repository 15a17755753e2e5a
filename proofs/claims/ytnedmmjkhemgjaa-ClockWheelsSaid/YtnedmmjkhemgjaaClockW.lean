/-
  A wheel: New and Set.
-/
import Derived.Test.YtnedmmjkhemgjaaClockO
namespace Go.Proofs.Ytnedmmjkhemgjaa
open Go.RowKit Go.Maps

/-- A wheel that has no map yet. -/
def W0 (w : World) (b : Nat) : Prop := w.heap[b]? = some (.cells #[.map none] 49 (0, 0))

theorem new_any (w : World) : Calls Try.prog 6 #[] w fun e w' => e = .returned (.pointer (some ⟨w.heap.size, 0, none⟩)) ∧ W0 w' w.heap.size ∧ Keeps No w w' := by
  go_enter Try.func6, Try.ntmps6
  go_wp2
  go_ret
  exact ⟨rfl, heap_alloc_new _ _, (Keeps.refl _ _).alloc _⟩

theorem eqSome (m : Nat) (w : World) : (binOp .eql 47 (.map (some m)) (.map none)).run Try.prog w = .ok (.bool false) w := by kernel_rfl
theorem eqNil (w : World) : (binOp .eql 47 (.map none) (.map none)).run Try.prog w = .ok (.bool true) w := by kernel_rfl

/-- An entry. -/
def kAt (x : Int) : Lit := .int .i64 x
def dAt (x : Int) : DataW Unit := .lit (.int .i64 x)

set_option maxHeartbeats 1000000 in
set_option maxRecDepth 100000 in
theorem set_first {w : World} {b : Nat} {x t : Int} (hv : W0 w b) (hx : I64 x) (ht : I64 t) :
    Calls Try.prog 7 #[.pointer (some ⟨b, 0, none⟩), .int .i64 x, .int .i64 t] w fun e w' => e = .returned (.tuple #[]) ∧ ∃ m, w.heap.size ≤ m ∧ WM w' b m 1 ((DataW.map []).put (kAt x) (dAt t)) ∧ Keeps (fun k => k = b) w w' := by
  have hmm := @run_makeMap Try.prog
  have q1 := eqNil
  have c0 := cell_at (i := 0) hv rfl
  have f0 := free_at (i := 0) hv
  have hb := lt_of_block hv
  have hkey := keyOf_int_mk Try.underlying3 (WalkArith.wf_i64 hx)
  have hval := plainElem_int (H := Unit) Try.underlying2 (WalkArith.wf_i64 ht)
  have HV := hid hv
  clear hv
  go_enter Try.func7, Try.ntmps7
  go_wp2_with (at_mapUpdate; go_loud (refine wpList_mapUpdate_own _ rfl _ _ _ 47 rfl 3 2 klaw Try.underlying47 _ w.heap.size 0 (.map []) rfl ?own (by decide) _ _ _ rfl rfl hkey _ [] hval ?_))
  case own => first
    | exact (World.ownsMap_made w Try.prog 3 (plainElem (H := Unit) Try.prog 2)).setCell (a := ⟨b, 0, none⟩) (by simp; omega) _
    | (have := World.ownsMap_made (w.setCell ⟨b, 0, none⟩ (.map (some w.heap.size))) Try.prog 3 (plainElem (H := Unit) Try.prog 2); simpa using this)
  intro w1 hown1 hgrow1
  have HO := hid hown1
  have HG := hid hgrow1
  clear hown1 hgrow1
  go_wp2_with fail
  go_end0
  have hk0 : Keeps (fun k => k = b) w w1 := by
    refine Keeps.grown ?_ HG.out (fun k hk => by cases hk; exact Or.inl (Nat.le_refl _))
    exact (Keeps.setCell (S := fun k => k = b) (p := ⟨b, 0, none⟩) (Keeps.refl (fun k => k = b) w) (Or.inr rfl) _).alloc _
  refine ⟨rfl, w.heap.size, Nat.le_refl _, ⟨?_, HO.out⟩, hk0⟩
  refine (World.cell?_of_block (HG.out.block b (by simp; omega) (by simp; omega))).trans ?_
  have c1 : (w.setCell ⟨b, 0, none⟩ (.map (some w.heap.size))).cell? ⟨b, 0, none⟩ = some (.map (some w.heap.size)) := by simp [go_sem, c0]
  exact ((Keeps.refl No _).alloc _).cell (fun h => h) c1

set_option maxHeartbeats 1000000 in
set_option maxRecDepth 100000 in
theorem set_more {w : World} {b m n : Nat} {D : DataW Unit} {x t : Int} (h : WM w b m n D) (hn : n < 1000) (hbm : b ≠ m) (hx : I64 x) (ht : I64 t) :
    Calls Try.prog 7 #[.pointer (some ⟨b, 0, none⟩), .int .i64 x, .int .i64 t] w fun e w' => e = .returned (.tuple #[]) ∧ WM w' b m (n + 1) (D.put (kAt x) (dAt t)) ∧ Keeps (fun k => k = m) w w' := by
  have c0 := h.cell
  have hown := h.own
  have hkey := keyOf_int_mk Try.underlying3 (WalkArith.wf_i64 hx)
  have hval := plainElem_int (H := Unit) Try.underlying2 (WalkArith.wf_i64 ht)
  have H0 := hid h
  have q1 := eqSome m
  clear h
  go_enter Try.func7, Try.ntmps7
  go_wp2_with (at_mapUpdate; refine wpList_mapUpdate_own _ rfl _ _ _ 47 rfl 3 2 klaw Try.underlying47 _ m n _ rfl hown (by unfold maxLen; omega) _ _ _ rfl rfl hkey _ [] hval ?_)
  intro w1 hown1 hgrow1
  have HO := hid hown1
  have HG := hid hgrow1
  clear hown1 hgrow1
  go_wp2_with fail
  go_end0
  have hk : Keeps (fun k => k = m) w w1 := (Keeps.refl _ w).grown HG.out (fun k hk => by cases hk; exact Or.inr rfl)
  exact ⟨rfl, ⟨hk.cell hbm H0.out.cell, HO.out⟩, hk⟩

end Go.Proofs.Ytnedmmjkhemgjaa
