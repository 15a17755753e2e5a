/-
  A wheel's map of times, and its order: the earlier first, of one time the smaller number.
-/
import Derived.Test.YtnedmmjkhemgjaaClockS
import Derived.Test.YtnedmmjkhemgjaaClockA
import Derived.Maps.OwnSet
import Derived.Maps.Views
import Derived.Maps.RangeWalk
import Derived.BigQuiet
namespace Go.Proofs.Ytnedmmjkhemgjaa
open Go.RowKit Go.Maps

theorem isNaN64_any (x : Int) (w : World) : Calls Try.prog 34 #[.int .i64 x] w fun e w' => e = .returned (.bool false) ∧ w = w' := by
  go_enter Try.func34, Try.ntmps34
  go_wp2
  go_ret
  exact ⟨by simp, rfl⟩

theorem isNaN_any (x : Int) (w : World) : Calls Try.prog 35 #[.int .i64 x] w fun e w' => e = .returned (.bool false) ∧ w = w' := by
  go_enter Try.func35, Try.ntmps35
  go_wp2
  go_ret
  exact ⟨by simp, rfl⟩

/-- Three ways. -/
def cmp3 (x y : Int) : Int := if x < y then -1 else if y < x then 1 else 0

theorem cmp3_lt {x y : Int} (h : x < y) : cmp3 x y = -1 := by unfold cmp3; rw [if_pos h]
theorem cmp3_gt {x y : Int} (h : y < x) : cmp3 x y = 1 := by unfold cmp3; rw [if_neg (by omega), if_pos h]
theorem cmp3_eq {x y : Int} (h : x = y) : cmp3 x y = 0 := by unfold cmp3; rw [if_neg (by omega), if_neg (by omega)]

set_option maxHeartbeats 1000000 in
theorem cmp64_any (x y : Int) (w : World) : Calls Try.prog 22 #[.int .i64 x, .int .i64 y] w fun e w' => e = .returned (.int .i64 (cmp3 x y)) ∧ w = w' := by
  have hn := isNaN64_any
  rcases (show x < y ∨ y < x ∨ x = y by omega) with h | h | h
  · have HH := hid (cmp3_lt h)
    go_enter Try.func22, Try.ntmps22
    go_wp2_with (go_at_call 34; refine (hn _ _).mono ?_; rintro e w' ⟨rfl, rfl⟩)
    go_ret
    exact ⟨by rw [HH.out]; rfl, rfl⟩
  · have HH := hid (cmp3_gt h)
    have h' : ¬ x < y := by omega
    go_enter Try.func22, Try.ntmps22
    go_wp2_with (go_at_call 34; refine (hn _ _).mono ?_; rintro e w' ⟨rfl, rfl⟩)
    go_ret
    exact ⟨by rw [HH.out]; rfl, rfl⟩
  · have HH := hid (cmp3_eq h)
    have h' : ¬ x < y := by omega
    have h'' : ¬ y < x := by omega
    clear h
    go_enter Try.func22, Try.ntmps22
    go_wp2_with (go_at_call 34; refine (hn _ _).mono ?_; rintro e w' ⟨rfl, rfl⟩)
    go_ret
    exact ⟨by rw [HH.out]; rfl, rfl⟩

set_option maxHeartbeats 1000000 in
theorem cmpInt_any (x y : Int) (w : World) : Calls Try.prog 23 #[.int .i64 x, .int .i64 y] w fun e w' => e = .returned (.int .i64 (cmp3 x y)) ∧ w = w' := by
  have hn := isNaN_any
  rcases (show x < y ∨ y < x ∨ x = y by omega) with h | h | h
  · have HH := hid (cmp3_lt h)
    go_enter Try.func23, Try.ntmps23
    go_wp2_with (go_at_call 35; refine (hn _ _).mono ?_; rintro e w' ⟨rfl, rfl⟩)
    go_ret
    exact ⟨by rw [HH.out]; rfl, rfl⟩
  · have HH := hid (cmp3_gt h)
    have h' : ¬ x < y := by omega
    go_enter Try.func23, Try.ntmps23
    go_wp2_with (go_at_call 35; refine (hn _ _).mono ?_; rintro e w' ⟨rfl, rfl⟩)
    go_ret
    exact ⟨by rw [HH.out]; rfl, rfl⟩
  · have HH := hid (cmp3_eq h)
    have h' : ¬ x < y := by omega
    have h'' : ¬ y < x := by omega
    clear h
    go_enter Try.func23, Try.ntmps23
    go_wp2_with (go_at_call 35; refine (hn _ _).mono ?_; rintro e w' ⟨rfl, rfl⟩)
    go_ret
    exact ⟨by rw [HH.out]; rfl, rfl⟩

theorem cfT_ne (T : Int → Int) (x y : Int) (h : cmp3 (T x) (T y) ≠ 0) : cmp3 (T x) (T y) = cfT T x y := by
  unfold cmp3 at *
  unfold cfT ltT
  simp only [Bool.or_eq_true, Bool.and_eq_true, decide_eq_true_eq] at *
  split at h <;> split <;> (try split) <;> (try split) <;> simp at h ⊢ <;> omega
theorem cfT_eq (T : Int → Int) (x y : Int) (h : cmp3 (T x) (T y) = 0) : cmp3 x y = cfT T x y := by
  unfold cmp3 at *
  unfold cfT ltT
  simp only [Bool.or_eq_true, Bool.and_eq_true, decide_eq_true_eq] at *
  have : T x = T y := by split at h <;> (try split at h) <;> omega
  split <;> split <;> (try split) <;> (try split) <;> simp <;> omega

theorem klaw : Keyed Try.prog 3 := int_keyed Try.underlying3
theorem zero64 (w : World) : (zeroValue 2).run Try.prog w = .ok (.int .i64 0) w := by kernel_rfl

/-- A wheel with a map: at which block, whose, and what it reads as. -/
structure WM (w : World) (b m n : Nat) (D : DataW Unit) : Prop where
  cell : w.cell? ⟨b, 0, none⟩ = some (.map (some m))
  own : w.ownsMap Try.prog 3 (plainElem Try.prog 2) m n D

/-- The times that it holds, of these numbers. -/
def Times (D : DataW Unit) (T : Int → Int) (S : List Int) : Prop := ∀ x ∈ S, I64 x ∧ ∀ z, D.atKey (.int .i64 x) z = .lit (.int .i64 (T x))

theorem Keeps.map {S : Nat → Prop} {w w' : World} (h : Keeps S w w') {m n : Nat} {D : DataW Unit} (hs : ¬ S m) (ho : w.ownsMap Try.prog 3 (plainElem Try.prog 2) m n D) : w'.ownsMap Try.prog 3 (plainElem Try.prog 2) m n D := by
  obtain ⟨es, clock, hb, F, hle, hD⟩ := ho
  exact ⟨es, clock, (h.block m (lt_of_block hb) hs).trans hb, F, hle, hD⟩

theorem WM.kept {S : Nat → Prop} {w w' : World} {b m n : Nat} {D : DataW Unit} (h : WM w b m n D) (k : Keeps S w w') (hb : ¬ S b) (hm : ¬ S m) : WM w' b m n D := ⟨k.cell hb h.cell, k.map hm h.own⟩

theorem look_any {w : World} {b m n : Nat} {D : DataW Unit} {T : Int → Int} {S : List Int} (h : WM w b m n D) (hT : Times D T S) {x : Int} (hx : x ∈ S) : (Instr.lookup 47 (.map (some m)) (.int .i64 x) false).run Try.prog w = .ok (.int .i64 (T x)) w := by
  obtain ⟨c, hrun, hat, _⟩ := h.own.lookup_int klaw Try.underlying47 Try.underlying2 (zero64 _) (keyOf_int_mk Try.underlying3 (WalkArith.wf_i64 (hT x hx).1))
  rw [(hT x hx).2] at hat
  simp only [DataW.lit.injEq, Lit.int.injEq, true_and] at hat
  rw [hrun, hat]

set_option maxHeartbeats 4000000 in
theorem order_any {w : World} {b m n : Nat} {D : DataW Unit} {T : Int → Int} {S : List Int} (h : WM w b m n D) (hT : Times D T S) {x y : Int} (hx : x ∈ S) (hy : y ∈ S) :
    Calls Try.prog 19 #[.pointer (some ⟨b, 0, none⟩), .int .i64 x, .int .i64 y] w fun e w' => e = .returned (.int .i64 (cfT T x y)) ∧ ∃ q, w' = w.drewN q := by
  have HC : Hid (∀ q : Nat, Calls Try.prog 22 #[.int .i64 (T x), .int .i64 (T y)] (w.drewN q) fun e w' => e = .returned (.int .i64 (cmp3 (T x) (T y))) ∧ ∃ k, w' = (w.drewN q).drewN k) := hid (fun q => (cmp64_any _ _ _).mono (by rintro e w' ⟨rfl, rfl⟩; exact ⟨rfl, 0, rfl⟩))
  have hcell := h.cell
  have hrun : ∀ q : Nat, (Instr.lookup 47 (.map (some m)) (.int .i64 x) false).run Try.prog (w.drewN q) = .ok (.int .i64 (T x)) (w.drewN q) := fun q => look_any (h.kept ((Keeps.refl No w).drewN q) (fun h => h) (fun h => h)) hT hx
  have hrun2 : ∀ q : Nat, (Instr.lookup 47 (.map (some m)) (.int .i64 y) false).run Try.prog (w.drewN q) = .ok (.int .i64 (T y)) (w.drewN q) := fun q => look_any (h.kept ((Keeps.refl No w).drewN q) (fun h => h) (fun h => h)) hT hy
  have hci := hid (cmpInt_any x y)
  clear h hT hx hy
  by_cases hz : cmp3 (T x) (T y) = 0
  · have HE := hid (cfT_eq T x y hz)
    rw [hz] at HC
    generalize T x = tx at *
    generalize T y = ty at *
    go_enter Try.func19, Try.ntmps19
    go_wp2_with fail
    go_quiet ((go_at_call 22; exact Calls.quiet_of (HC.out _)))
    go_wp2_with (go_at_call 23; refine (hci.out _).mono ?_; rintro e w' ⟨rfl, rfl⟩)
    go_ret
    exact ⟨by rw [HE.out]; rfl, _, rfl⟩
  · have HE := hid (cfT_ne T x y hz)
    rw [HE.out] at HC hz
    generalize T x = tx at *
    generalize T y = ty at *
    generalize cfT T x y = cc at *
    go_enter Try.func19, Try.ntmps19
    go_wp2_with fail
    go_quiet ((go_at_call 22; exact Calls.quiet_of (HC.out _)))
    go_wp2_with fail
    go_ret
    exact ⟨rfl, _, rfl⟩

/-- So the sort may ask it. -/
theorem orders_of {w : World} {b m n g : Nat} {D : DataW Unit} {T : Int → Int} {S : List Int} (h : WM w b m n D) (hT : Times D T S) (hb : b ≠ g) (hm : m ≠ g) : Orders w g b T S :=
  fun _ hk _ _ hx hy => order_any (h.kept hk hb hm) hT hx hy

end Go.Proofs.Ytnedmmjkhemgjaa
