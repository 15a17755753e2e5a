/-
  The document's example: three timers, asked twice.
-/
import Derived.Test.YtnedmmjkhemgjaaClockD
import Derived.Test.YtnedmmjkhemgjaaSame
namespace Go.Proofs.Ytnedmmjkhemgjaa
open Go.RowKit Go.Maps

/-- The example's times. -/
def T3 (x : Int) : Int := if x = 7 then 2 else 9
def D3 : DataW Unit := (((DataW.map []).put (kAt 5) (dAt 9)).put (kAt 3) (dAt 9)).put (kAt 7) (dAt 2)

theorem kAt_key (x : Int) : WideAt.IsKeyLit (kAt x) := trivial

theorem has_put (D : DataW Unit) (hD : IsMap D) (x y : Int) (d : DataW Unit) : has (D.put (kAt x) d) (kAt y) = (decide (y = x) || has D (kAt y)) := by
  by_cases h : y = x
  · subst h; rw [has_put_same hD (kAt_key _)]; simp
  · rw [has_put_other (kAt_ne h)]; simp [h]

theorem has_D3 (x : Int) : has D3 (kAt x) = (decide (x = 7) || (decide (x = 3) || decide (x = 5))) := by
  unfold D3
  rw [has_put _ ((isMap_empty.put _ _).put _ _), has_put _ (isMap_empty.put _ _), has_put _ isMap_empty]
  simp [has]

theorem times_D3 : Times D3 T3 [7, 3, 5] := by
  intro x hx
  have hx' : x = 7 ∨ x = 3 ∨ x = 5 := by simpa using hx
  refine ⟨by unfold I64; omega, fun z => ?_⟩
  unfold D3
  rcases hx' with rfl | rfl | rfl
  · exact atKey_put_same ((isMap_empty.put _ _).put _ _) (kAt_key _) _ _
  · exact (atKey_put_other (kAt_ne (by omega : (3 : Int) ≠ 7)) _ _).trans (atKey_put_same (isMap_empty.put _ _) (kAt_key _) _ _)
  · exact (atKey_put_other (kAt_ne (by omega : (5 : Int) ≠ 7)) _ _).trans ((atKey_put_other (kAt_ne (by omega : (5 : Int) ≠ 3)) _ _).trans (atKey_put_same isMap_empty (kAt_key _) _ _))

/-- In order there is one list of these. -/
theorem one_list (T : Int → Int) {xs ys : List Int} (h1 : xs.Pairwise (fun x y => ltT T x y = true)) (h2 : ys.Pairwise (fun x y => ltT T x y = true)) (h : ∀ x, x ∈ xs ↔ x ∈ ys) : xs = ys := by
  have n1 : xs.Nodup := h1.imp (fun {a b} hab e => by subst e; rw [ltT_iff] at hab; omega)
  have n2 : ys.Nodup := h2.imp (fun {a b} hab e => by subst e; rw [ltT_iff] at hab; omega)
  refine List.Perm.eq_of_pairwise (le := fun x y => ltT T x y = true) (fun a b _ _ h1 h2 => ?_) h1 h2 ((List.perm_ext_iff_of_nodup n1 n2).2 h)
  rw [ltT_iff] at h1 h2; omega

set_option maxHeartbeats 4000000 in
set_option maxRecDepth 100000 in
theorem dues_true (w : World) : Calls Try.prog 5 #[] w fun e w' => e = .returned (.bool true) ∧ Keeps No w w' := by
  go_enter Try.func5, Try.ntmps5
  go_wp2_with fail
  refine (new_any _).mono ?_
  rintro e w1 ⟨rfl, h1, k1⟩
  have s1 : w.heap.size < w1.heap.size := lt_of_block h1
  go_wp2_with fail
  refine (set_first h1 (by unfold I64; omega) (by unfold I64; omega)).mono ?_
  rintro e w2 ⟨rfl, m, hm, h2, k2⟩
  go_wp2_with fail
  refine (set_more h2 (by omega) (by omega) (by unfold I64; omega) (by unfold I64; omega)).mono ?_
  rintro e w3 ⟨rfl, h3, k3⟩
  go_wp2_with fail
  refine (set_more h3 (by omega) (by omega) (by unfold I64; omega) (by unfold I64; omega)).mono ?_
  rintro e w4 ⟨rfl, h4, k4⟩
  go_wp2_with fail
  refine (due_any (D := D3) (T := T3) (S := [7, 3, 5]) 9 h4 (by omega) (by omega) times_D3 (fun x hx => by rw [has_D3] at hx; simpa using hx)).mono ?_
  rintro e w5 ⟨v, rfl, xs, hd⟩
  have hxs : xs = [7, 3, 5] := by
    refine one_list T3 hd.ordered (by decide) fun x => ?_
    rw [hd.iff, has_D3]
    simp [T3]
    split <;> omega
  subst hxs
  go_wp2_with fail
  refine (due_any (T := T3) (S := []) 9 hd.wheel (by omega) (by omega) (fun x hx => by cases hx) (fun x hx => by rw [has_less, has_D3] at hx; simp at hx; omega)).mono ?_
  rintro e w6 ⟨v', rfl, ys, hd'⟩
  have hys : ys = [] := by
    refine List.eq_nil_iff_forall_not_mem.2 fun x hx => ?_
    have := ((hd'.iff x).1 hx).1
    rw [has_less, has_D3] at this
    simp at this; omega
  subst hys
  have hk1 := hd.keeps
  have hk2 := hd'.keeps
  have hr1 : SlI w6 v [7, 3, 5] := (Sl.ofOwn hd.row).keep hk2 (fun k hk h => by have := hd.fresh k hk; have := k4.size; have := h2.own.lt; have := k2.size; have := k3.size; omega)
  obtain ⟨ao, cap, rfl⟩ := (Sl.ofOwn hd'.row).any
  have HR := hid hr1
  have hadd := add_any 5 (-9) 
  have HK : Hid (Keeps No w w6) := hid (((((k1.trans' k2 (fun _ _ h => h) (fun i hi h => by omega)).trans' k3 (fun _ _ h => h) (fun i hi h => by omega)).trans' k4 (fun _ _ h => h) (fun i hi h => by omega)).trans' hk1 (fun _ _ h => h) (fun i hi h => by omega)).trans' hk2 (fun _ _ h => h) (fun i hi h => by omega))
  clear hr1 hd hd' hk1 hk2 h1 h2 h3 h4 k1 k2 k3 k4
  go_wp2_with first
    | (go_at_call 12; refine (msame_true (l := [7, 3, 5]) (HR.out.alloc _) (Sl.new _ _ _ _ _ rfl (by decide))).mono ?_; rintro e w7 ⟨rfl, k7⟩; have HK7 := hid k7; clear k7)
    | (go_at_call 17; refine (hadd _ (by unfold I64; omega) (by unfold I64; omega)).mono ?_; rintro e w8 ⟨rfl, rfl⟩)
  go_ret
  exact ⟨rfl, (HK.out.alloc _).trans HK7.out⟩

end Go.Proofs.Ytnedmmjkhemgjaa
