/-
  The document's example for layer 2 holds.
-/
import Derived.Test.YtmmgkcimobkbbabQueue4
namespace Go.Proofs.Ytmmgkcimobkbbab
open Go.RowKit

/-- A queue of the call's own, behind a step that changed it alone. -/
theorem QueueE.own {w wr wr' : World} {F F' : Nat → Prop} (hF : ∀ i, F i → w.heap.size ≤ i) (hk : Keeps No w wr) (hu : Upd F wr wr' F') : (∀ i, F' i → w.heap.size ≤ i) ∧ Keeps No w wr' := newUpd hF hk hu

set_option maxHeartbeats 1000000 in
set_option maxRecDepth 100000 in
theorem first_true (w : World) :
    Calls Try.prog 6 #[] w fun e w' => e = .returned (.bool true) ∧ Keeps No w w' := by
  go_enter Try.func6, Try.ntmps6
  go_wp2_with fail
  refine (qnew_any 1 1 1 w).mono ?_
  rintro e w1 ⟨qb, rfl, F1, h1, f1, k1⟩
  have hR : ∀ i : Nat, roomOf (if i = 1 then 1 else if i = 2 then 1 else 1) = 1 := fun i => by split <;> (try split) <;> rfl
  simp only [hR] at h1
  have H1 := hid h1
  have O1 := hid (And.intro f1 k1)
  clear h1 f1 k1 hR
  go_wp2_with fail
  refine (qput_new H1.out (p := 1) (i := 1) rfl (by decide) (by decide) ⟨4, false, 0⟩ (by simp) (by simp)).mono ?_
  rintro e w2 ⟨rfl, F2, h2, u2⟩
  have H2 := hid h2
  have O2 := hid (newUpd O1.out.1 O1.out.2 u2)
  clear h2 u2
  go_wp2_with fail
  refine (qput_new H2.out (p := 3) (i := 3) rfl (by decide) (by decide) ⟨2, false, 0⟩ (by simp [upd]) (by simp [upd])).mono ?_
  rintro e w3 ⟨rfl, F3, h3, u3⟩
  have H3 := hid h3
  have O3 := hid (newUpd O2.out.1 O2.out.2 u3)
  clear h3 u3
  go_wp2_with fail
  refine (qtake_ok H3.out (i := 3) (by decide) (by decide) (y := ⟨2, false, 0⟩) (t := []) (by simp [upd]) (fun j a b => by omega)).mono ?_
  rintro e w4 ⟨rfl, F4, h4, u4⟩
  have H4 := hid h4
  have O4 := hid (newUpd O3.out.1 O3.out.2 u4)
  have hk4 := Keeps.toBelow O4.out.2
  clear h4 u4
  simp only [Ev.val]
  go_wp2_with fail
  have H5 := hid (QueueE.keep H4.out ((Keeps.refl No _).alloc (.cells #[.int .i64 2, .bool false, .int .i64 0] 31)) (fun _ _ h => h))
  refine (qtake_ok H5.out (i := 1) (by decide) (by decide) (y := ⟨4, false, 0⟩) (t := []) (by simp [upd]) (by intro j a b; rcases (show j = 2 ∨ j = 3 by omega) with rfl | rfl <;> simp [upd])).mono ?_
  rintro e w5 ⟨rfl, F5, h5, u5⟩
  simp only [Ev.val]
  have hb := u5.keeps.heap (b := w4.heap.size) (fun h => by have := H4.out.lt h; omega) (heap_alloc_new _ _)
  have hl := lt_of_block hb
  have r0 := cell_at (i := 0) hb rfl
  have O5 := hid (newUpd O4.out.1 (O4.out.2.alloc _) u5)
  clear h5 u5 hb
  go_wp2_with fail
  go_ret
  exact ⟨rfl, O5.out.2.alloc _⟩

end Go.Proofs.Ytmmgkcimobkbbab
