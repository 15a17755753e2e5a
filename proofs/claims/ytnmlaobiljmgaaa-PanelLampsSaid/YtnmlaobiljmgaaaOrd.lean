/-
  How lamps are put in order: the program's.
-/
import Derived.Test.YtnmlaobiljmgaaaPanQ
import Derived.Test.YtnmlaobiljmgaaaBlk
import Derived.Shelf.SlSortCmp.InsertionK
import Derived.StillTailTactics
import Derived.Deep.RegionHeld3
import Derived.Deep.DeepCutAuto
import Derived.Deep.CutBlock
namespace Go.Proofs.Ytnmlaobiljmgaaa
open Go.RowKit Go.Sort
set_option linter.unusedVariables false

set_option maxHeartbeats 1000000 in
set_option maxRecDepth 100000 in
theorem nanB_any (a : Int) (w : World) : Calls Try.prog 65 #[.int .u8 a] w fun e w' => e = .returned (.bool false) ∧ w' = w := by
  have h : (a != a) = false := by simp
  go_enter Try.func65, Try.ntmps65
  go_wp2_with fail
  go_ret
  exact ⟨rfl, rfl⟩

set_option maxHeartbeats 1000000 in
set_option maxRecDepth 100000 in
theorem cmpB_any (a b : Int) (w : World) : Calls Try.prog 49 #[.int .u8 a, .int .u8 b] w fun e w' => e = .returned (.int .i64 (Lib.compareInt a b)) ∧ w' = w := by
  by_cases h1 : a < b
  · have e : Lib.compareInt a b = -1 := by unfold Lib.compareInt; rw [if_pos h1]
    have d1 : decide (a < b) = true := decide_eq_true h1
    rw [e]
    clear e
    go_enter Try.func49, Try.ntmps49
    go_wp2_with fail
    refine (nanB_any _ _).mono ?_
    rintro e w1 ⟨rfl, rfl⟩
    go_wp2_with fail
    refine (nanB_any _ _).mono ?_
    rintro e w1 ⟨rfl, rfl⟩
    go_wp2_with fail
    go_ret
    exact ⟨rfl, rfl⟩
  · have d1 : decide (a < b) = false := decide_eq_false h1
    by_cases h2 : a > b
    · have e : Lib.compareInt a b = 1 := by unfold Lib.compareInt; rw [if_neg h1, if_pos h2]
      have d2 : decide (a > b) = true := decide_eq_true h2
      rw [e]
      clear e
      go_enter Try.func49, Try.ntmps49
      go_wp2_with fail
      refine (nanB_any _ _).mono ?_
      rintro e w1 ⟨rfl, rfl⟩
      go_wp2_with fail
      refine (nanB_any _ _).mono ?_
      rintro e w1 ⟨rfl, rfl⟩
      go_wp2_with fail
      go_ret
      exact ⟨rfl, rfl⟩
    · have e : Lib.compareInt a b = 0 := by unfold Lib.compareInt; rw [if_neg h1, if_neg h2]
      have d2 : decide (a > b) = false := decide_eq_false h2
      rw [e]
      clear e
      go_enter Try.func49, Try.ntmps49
      go_wp2_with fail
      refine (nanB_any _ _).mono ?_
      rintro e w1 ⟨rfl, rfl⟩
      go_wp2_with fail
      refine (nanB_any _ _).mono ?_
      rintro e w1 ⟨rfl, rfl⟩
      go_wp2_with fail
      go_ret
      exact ⟨rfl, rfl⟩

set_option maxHeartbeats 1000000 in
set_option maxRecDepth 100000 in
theorem nanI_any (a : Int) (w : World) : Calls Try.prog 66 #[.int .i64 a] w fun e w' => e = .returned (.bool false) ∧ w' = w := by
  have h : (a != a) = false := by simp
  go_enter Try.func66, Try.ntmps66
  go_wp2_with fail
  go_ret
  exact ⟨rfl, rfl⟩

set_option maxHeartbeats 1000000 in
set_option maxRecDepth 100000 in
theorem cmpI_any (a b : Int) (w : World) : Calls Try.prog 50 #[.int .i64 a, .int .i64 b] w fun e w' => e = .returned (.int .i64 (Lib.compareInt a b)) ∧ w' = w := by
  by_cases h1 : a < b
  · have e : Lib.compareInt a b = -1 := by unfold Lib.compareInt; rw [if_pos h1]
    have d1 : decide (a < b) = true := decide_eq_true h1
    rw [e]
    clear e
    go_enter Try.func50, Try.ntmps50
    go_wp2_with fail
    refine (nanI_any _ _).mono ?_
    rintro e w1 ⟨rfl, rfl⟩
    go_wp2_with fail
    refine (nanI_any _ _).mono ?_
    rintro e w1 ⟨rfl, rfl⟩
    go_wp2_with fail
    go_ret
    exact ⟨rfl, rfl⟩
  · have d1 : decide (a < b) = false := decide_eq_false h1
    by_cases h2 : a > b
    · have e : Lib.compareInt a b = 1 := by unfold Lib.compareInt; rw [if_neg h1, if_pos h2]
      have d2 : decide (a > b) = true := decide_eq_true h2
      rw [e]
      clear e
      go_enter Try.func50, Try.ntmps50
      go_wp2_with fail
      refine (nanI_any _ _).mono ?_
      rintro e w1 ⟨rfl, rfl⟩
      go_wp2_with fail
      refine (nanI_any _ _).mono ?_
      rintro e w1 ⟨rfl, rfl⟩
      go_wp2_with fail
      go_ret
      exact ⟨rfl, rfl⟩
    · have e : Lib.compareInt a b = 0 := by unfold Lib.compareInt; rw [if_neg h1, if_neg h2]
      have d2 : decide (a > b) = false := decide_eq_false h2
      rw [e]
      clear e
      go_enter Try.func50, Try.ntmps50
      go_wp2_with fail
      refine (nanI_any _ _).mono ?_
      rintro e w1 ⟨rfl, rfl⟩
      go_wp2_with fail
      refine (nanI_any _ _).mono ?_
      rintro e w1 ⟨rfl, rfl⟩
      go_wp2_with fail
      go_ret
      exact ⟨rfl, rfl⟩

def orI (a c : Int) : Int := if a = 0 then c else a
set_option maxHeartbeats 2000000 in
set_option maxRecDepth 100000 in
theorem or_any (g : Nat) (a c : Int) (w : World) (h0 : w.cell? ⟨g, 0, none⟩ = some (.int .i64 a)) (h1 : w.cell? ⟨g, 1, none⟩ = some (.int .i64 c)) :
    Calls Try.prog 48 #[.slice (some ⟨g, 0, none⟩) 2 2] w fun e w' => e = .returned (.int .i64 (orI a c)) ∧ w' = w := by
  by_cases ha : a = 0
  · subst ha
    have e : orI 0 c = c := by unfold orI; rw [if_pos rfl]
    rw [e]
    by_cases hc : c = 0
    · subst hc
      clear e
      go_enter Try.func48, Try.ntmps48
      go_wp2_with fail
      refine wp_loop_rounds 3 ?_
      rw [rounds_succ]
      go_wp2_with fail
      rw [rounds_succ]
      go_wp2_with fail
      rw [rounds_succ]
      go_wp2_with fail
      go_ret
      exact ⟨rfl, rfl⟩
    · have d : (c != 0) = true := by simpa using hc
      clear e hc
      go_enter Try.func48, Try.ntmps48
      go_wp2_with fail
      refine wp_loop_rounds 3 ?_
      rw [rounds_succ]
      go_wp2_with fail
      rw [rounds_succ]
      go_wp2_with fail
      go_ret
      exact ⟨rfl, rfl⟩
  · have d : (a != 0) = true := by simpa using ha
    have e : orI a c = a := by unfold orI; rw [if_neg ha]
    rw [e]
    clear e ha
    go_enter Try.func48, Try.ntmps48
    go_wp2_with fail
    refine wp_loop_rounds 3 ?_
    rw [rounds_succ]
    go_wp2_with fail
    go_ret
    exact ⟨rfl, rfl⟩

/-- What a comparison says of two lamps. -/
def cmpL (x y : LampD) : Int := orI (Lib.compareInt y.pri x.pri) (Lib.compareInt x.cond y.cond)
theorem ltOf_cmpL (x y : LampD) : ltOf cmpL x y = aheadD x y := by
  unfold ltOf cmpL orI Lib.compareInt aheadD
  by_cases h1 : y.pri < x.pri
  · simp [h1]
  · by_cases h2 : y.pri > x.pri
    · simp [h1, h2]; omega
    · have h3 : x.pri = y.pri := by omega
      by_cases h4 : x.cond < y.cond
      · simp [h3, h4]
      · by_cases h5 : y.cond < x.cond <;> simp [h3, h4, h5]
theorem swo_cmpL : SWO (ltOf cmpL) where
  irrefl x := by rw [ltOf_cmpL]; unfold aheadD; simp
  trans x y z h1 h2 := by rw [ltOf_cmpL] at *; exact ahead_trans h1 h2
  ntrans x y z h1 h2 := by
    rw [ltOf_cmpL] at *
    unfold aheadD at *
    rw [Bool.or_eq_false_iff, Bool.and_eq_false_iff, decide_eq_false_iff_not, decide_eq_false_iff_not, decide_eq_false_iff_not] at *
    omega

set_option maxHeartbeats 4000000 in
set_option maxRecDepth 100000 in
theorem order_any (xc xp xs : Int) (xu xa : Bool) (yc yp ys : Int) (yu ya : Bool) (w : World) :
    Calls Try.prog 34 #[.agg #[.int .i64 xc, .int .u8 xp, .int .i64 xs, .bool xu, .bool xa], .agg #[.int .i64 yc, .int .u8 yp, .int .i64 ys, .bool yu, .bool ya]] w fun e w' => e = .returned (.int .i64 (orI (Lib.compareInt yp xp) (Lib.compareInt xc yc))) ∧ ∃ q os', w' = grow (w.drewN q) os' := by
  have HP := hid (cmpB_any yp xp)
  have HC := hid (cmpI_any xc yc)
  obtain ⟨p, hp⟩ : ∃ p, Lib.compareInt yp xp = p := ⟨_, rfl⟩
  obtain ⟨c, hc⟩ : ∃ c, Lib.compareInt xc yc = c := ⟨_, rfl⟩
  rw [hp] at HP
  rw [hc] at HC
  rw [hp, hc]
  clear hp hc
  have HO := hid (fun g w h0 h1 => or_any g p c w h0 h1)
  obtain ⟨r, hr⟩ : ∃ r, orI p c = r := ⟨_, rfl⟩
  rw [hr] at HO ⊢
  clear hr
  go_enter Try.func34, Try.ntmps34
  obtain ⟨z, hz⟩ : ∃ z, w.heap.size = z := ⟨_, rfl⟩
  obtain ⟨W, hW⟩ : ∃ W, (w.alloc (.cells #[.int .i64 xc, .int .u8 xp, .int .i64 xs, .bool xu, .bool xa] 77)).alloc (.cells #[.int .i64 yc, .int .u8 yp, .int .i64 ys, .bool yu, .bool ya] 77) = W := ⟨_, rfl⟩
  have B0 : Hid (Bk W z 77 [.int .i64 xc, .int .u8 xp, .int .i64 xs, .bool xu, .bool xa]) := hid (by rw [← hW]; exact (Bk.new hz _ _).alloc _)
  have B1 : Hid (Bk W (z + 1) 77 [.int .i64 yc, .int .u8 yp, .int .i64 ys, .bool yu, .bool ya]) := hid (by rw [← hW]; exact Bk.new (by simp [hz]) _ _)
  have HW := hid hW
  go_upto_region 1 with fail
  try rw [hz]
  try rw [hW]
  clear hz hW
  have HOW := hid (HO.out W.heap.size (W.alloc (.cells #[.int .i64 p, .int .i64 c] 3)).drew ((Bk.new (w := W) rfl [.int .i64 p, .int .i64 c] 3).cell 0 rfl) ((Bk.new (w := W) rfl [.int .i64 p, .int .i64 c] 3).cell 1 rfl))
  have x0 := B0.out.cell 0 rfl
  have x1 := B0.out.cell 1 rfl
  have y0 := B1.out.cell 0 rfl
  have y1 := B1.out.cell 1 rfl
  first | go_region_held3 (fun w' => w'.cell? ⟨z, 0, none⟩ = some (.int .i64 xc) ∧ w'.cell? ⟨z, 1, none⟩ = some (.int .u8 xp) ∧ w'.cell? ⟨z + 1, 0, none⟩ = some (.int .i64 yc) ∧ w'.cell? ⟨z + 1, 1, none⟩ = some (.int .u8 yp)) (first | with_reducible exact ⟨x0, x1, y0, y1⟩ | with_reducible exact ⟨cellDr x0, cellDr x1, cellDr y0, cellDr y1⟩ | with_reducible exact ⟨cellA _ x0, cellA _ x1, cellA _ y0, cellA _ y1⟩ | with_reducible exact ⟨cellDr (cellA _ x0), cellDr (cellA _ x1), cellDr (cellA _ y0), cellDr (cellA _ y1)⟩ | (go_keep; done)) (first | (go_at_call 49; (with_reducible refine (HP.out _).mono ?_); rintro e w9 ⟨rfl, rfl⟩) | (go_at_call 50; (with_reducible refine (HC.out _).mono ?_); rintro e w9 ⟨rfl, rfl⟩) | (go_at_call 48; (with_reducible refine (HOW.out).mono ?_); rintro e w9 ⟨rfl, rfl⟩)) | fail
  all_goals
    go_wp2_with fail
    go_ret
    refine ⟨rfl, ?_⟩
    rw [← HW.out]
    exact ⟨1, #[.cells #[.int .i64 xc, .int .u8 xp, .int .i64 xs, .bool xu, .bool xa] 77, .cells #[.int .i64 yc, .int .u8 yp, .int .i64 ys, .bool yu, .bool ya] 77, .cells #[.int .i64 p, .int .i64 c] 3], by rw [alloc_eq_grow, alloc_eq_grow, alloc_eq_grow, grow_grow, grow_grow]; rfl⟩

end Go.Proofs.Ytnmlaobiljmgaaa
