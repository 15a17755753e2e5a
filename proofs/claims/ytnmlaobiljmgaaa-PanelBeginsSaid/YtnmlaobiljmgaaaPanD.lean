/-
  Panels: the document's example.
-/
import Derived.Test.YtnmlaobiljmgaaaPanK
namespace Go.Proofs.Ytnmlaobiljmgaaa
open Go.ChangeShapes Go.WideShapes Go.ChangeAt Go.RowKit
set_option linter.unusedVariables false

set_option maxHeartbeats 8000000 in
set_option maxRecDepth 100000 in
theorem dark_true (w : World) : Calls Try.prog 19 #[] w fun e w' => e = .returned (.bool true) ∧ Keeps No w w' := by
  have HSH : Hid (∀ (w0 : World) (b : Nat), POb w0 b ⟨0, 0⟩ → Calls Try.prog 29 #[.pointer (some ⟨b, 0, none⟩), .int .i64 5, .slice (some ⟨w0.heap.size, 0, none⟩) 1 1, .agg #[.int .i64 0, .int .i64 0, .int .u8 0]] (w0.alloc (.cells #[.int .i64 1, .int .u8 3, .bool false, .bool false, .bool false, .int .i64 0, .int .i64 0] 51)) fun e w' => ∃ la lc, e = .returned (.agg #[.int .i64 5, .slice la 0 lc, .int .u8 0, .bool false, .bool false, .bool false]) ∧ Keeps (fun i => i = b) (w0.alloc (.cells #[.int .i64 1, .int .u8 3, .bool false, .bool false, .bool false, .int .i64 0, .int .i64 0] 51)) w') := hid (fun w0 b hb => by
    refine (pshow_any (l := [⟨1, 3, ⟨false, false, false, 0, 0⟩⟩]) (show SlPi _ _ [_] from Sl.new w0 #[.int .i64 1, .int .u8 3, .bool false, .bool false, .bool false, .int .i64 0, .int .i64 0] 51 7 1 rfl (by decide)) (by decide) (by intro x hx; rw [List.mem_singleton] at hx; subst hx; decide) (by unfold Unlike; simp) (hb.keep ((Keeps.refl No w0).alloc _) (fun h => h)) 5 0 0 0 ⟨by decide, by decide⟩ ⟨by decide, by decide⟩ (fun _ k hk e => by have h1 := hb.lt; simp [Value.ownBlock] at hk; omega)).mono ?_
    rintro e w' ⟨lv, rfl, hsl, _, _, kk⟩
    obtain ⟨la, lc, rfl⟩ := hsl.any
    exact ⟨la, lc, rfl, kk⟩)
  have HHI : Hid (∀ (w0 : World) (k : Nat), w0.heap.size = k → Calls Try.prog 24 #[.slice (some ⟨k, 0, none⟩) 1 1] (w0.alloc (.cells #[.int .i64 0, .int .u8 2, .bool false, .bool true, .bool false, .int .i64 0, .int .i64 0] 51)) fun e w' => e = .returned (.int .u8 2) ∧ Keeps No (w0.alloc (.cells #[.int .i64 0, .int .u8 2, .bool false, .bool true, .bool false, .int .i64 0, .int .i64 0] 51)) w') := hid (fun w0 k hk => by
    have h := phigh_any (l := [⟨0, 2, ⟨false, true, false, 0, 0⟩⟩]) (show SlPi _ _ [_] from Sl.newAt (w := w0) hk #[.int .i64 0, .int .u8 2, .bool false, .bool true, .bool false, .int .i64 0, .int .i64 0] 51 7 1 rfl (by decide)) (by decide) (by intro x hx; rw [List.mem_singleton] at hx; subst hx; decide)
    exact h)
  go_enter Try.func19, Try.ntmps19
  go_wp2_with fail
  refine (pnew_any _).mono ?_
  rintro e w1 ⟨b, rfl, hbn, hb1, k1⟩
  have HBN := hid hbn
  have HB1 := hid hb1
  have K1 := hid k1
  clear hbn hb1 k1
  go_wp2_with fail
  refine (HSH.out _ _ HB1.out).mono ?_
  rintro e w2 ⟨la, lc, rfl, k2⟩
  have K2 : Hid (Keeps No w w2) := hid ((K1.out.alloc _).trans' k2 (fun _ _ h => h) (fun i hi e => by have := HBN.out; omega))
  clear k2
  go_wp2_with fail
  refine (HHI.out _ _ (by simp)).mono ?_
  rintro e w3 ⟨rfl, k3⟩
  have K3 := hid (((K2.out.alloc _).alloc _).trans k3)
  clear k3
  go_wp2_with fail
  go_ret
  exact ⟨rfl, K3.out⟩

end Go.Proofs.Ytnmlaobiljmgaaa
