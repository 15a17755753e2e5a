/-
  The library's sort by a wheel's order: SortFunc.
-/
import Derived.Test.YtnedmmjkhemgjaaSrtA
import Derived.Test.YtnedmmjkhemgjaaSrtP
import Derived.Test.YtnedmmjkhemgjaaSrt8
import Derived.BigQuiet
import Derived.Deep.DeepCutAuto
import Derived.Deep.CutBlock
import Derived.Test.YtnedmmjkhemgjaaBlk
namespace Go.Proofs.Ytnedmmjkhemgjaa
open Go.RowKit
set_option linter.unusedVariables false

set_option maxHeartbeats 4000000 in
set_option maxRecDepth 100000 in
theorem sort_any {w : World} {g cap n b : Nat} {D : Array Int} {T : Int → Int} (h : SR w w g cap n D.toList D) (hn : n ≤ 60) (hnd : D.toList.Nodup) (hc : Orders w g b T D.toList) :
    Calls Try.prog 18 #[.slice (some ⟨g, 0, none⟩) n cap, ordV b] w fun e w' => e = .returned (.tuple #[]) ∧ ∃ E, Hid (SR w w' g cap n D.toList E) ∧ SrtD T 0 n D E := by
  have HI : Hid (∀ l : Int, ∀ q : Nat, Calls Try.prog 20 #[.slice (some ⟨g, 0, none⟩) n cap, .int .i64 0, .int .i64 n, .int .i64 l, ordV b] (w.drewN q) fun e w' => e = .returned (.tuple #[]) ∧ ∃ E, Hid (SR w w' g cap n D.toList E) ∧ SrtD T 0 n D E) :=
    hid (fun l q => pdq_any hc hn (n + 1) (w.drewN q) 0 n D l (by omega) (by omega) (Nat.le_refl _) (h.drewN q) hnd (Or.inl rfl))
  have HL := hid (len_any n)
  clear h hnd hc
  go_enter Try.func18, Try.ntmps18
  go_wp2_with first
    | (go_at_call 21; refine (HL.out _ (by omega) (by omega)).mono ?_; rintro e w' ⟨⟨l, rfl⟩, rfl⟩)
    | (go_at_call 20; (first | refine (HI.out _ 0).mono ?_ | refine (HI.out _ _).mono ?_); rintro e w' ⟨rfl, E, HE, hp⟩)
  go_end0
  exact ⟨rfl, E, HE, hp⟩

theorem sorted_one (T : Int → Int) {D E : Array Int} (hnd : D.toList.Nodup) (h : SrtD T 0 D.size D E) : E.toList = D.toList.mergeSort (fun x y => !ltT T y x) ∧ E.toList.Perm D.toList ∧ E.toList.Pairwise (fun x y => ltT T x y = true) := by
  have hp := perm_list h.1 (Nat.le_refl _)
  refine ⟨Sort.sorted_unique_holds (ltT_swo T) (ltT_total T) D E h.1 h.2, hp, List.pairwise_iff_getElem.2 fun i j hi hj hij => ?_⟩
  have hnr : E.toList.Nodup := hp.nodup_iff.2 hnd
  have hsz : E.size = D.size := h.1.1
  have hs' := h.2 i j (Nat.zero_le _) hij (by simp at hj; omega)
  rw [getElem!_pos E i (by simpa using hi), getElem!_pos E j (by simpa using hj)] at hs'
  have hne : E.toList[i] ≠ E.toList[j] := List.pairwise_iff_getElem.1 hnr i j hi hj hij
  simp only [Array.getElem_toList] at hne ⊢
  cases h : ltT T E[i] E[j] with
  | false => exact absurd (ltT_total T _ _ h hs') hne
  | true => rfl

theorem sorted_pw (T : Int → Int) {xs : List Int} (hnd : xs.Nodup) : (xs.mergeSort (fun x y => !ltT T y x)).Pairwise (fun x y => ltT T x y = true) := by
  have h1 : (xs.mergeSort (fun x y => !ltT T y x)).Pairwise (fun x y => (!ltT T y x) = true) := by
    refine List.pairwise_mergeSort (fun a b c h1 h2 => ?_) (fun a b => ?_) xs
    · simp only [Bool.not_eq_true'] at *
      exact (ltT_swo T).ntrans _ _ _ h2 h1
    · cases h : ltT T b a with
      | false => simp
      | true => simp [(ltT_swo T).asymm h]
  have hn := (List.mergeSort_perm xs (fun x y => !ltT T y x)).nodup_iff.2 hnd
  refine (h1.and hn).imp (fun {x y} h => ?_)
  cases hl : ltT T x y with
  | true => rfl
  | false => exact absurd (ltT_total T x y hl (by simpa using h.1)) h.2

theorem sort_list {w : World} {g cap b : Nat} {T : Int → Int} (xs : List Int) (ho : w.ownsRow 0 3 1 (.slice (some ⟨g, 0, none⟩) xs.length cap) xs.length (xs.map (Value.int .i64))) (hd : xs.length ≤ 60) (hnd : xs.Nodup) (hc : Orders w g b T xs) :
    ∃ ys : List Int, ys.length = xs.length ∧ (∀ x, x ∈ ys ↔ x ∈ xs) ∧ ys.Pairwise (fun x y => ltT T x y = true) ∧
      Calls Try.prog 18 #[.slice (some ⟨g, 0, none⟩) xs.length cap, .func (.func 19) #[.pointer (some ⟨b, 0, none⟩)] #[]] w fun e w' =>
        e = .returned (.tuple #[]) ∧ w'.ownsRow 0 3 1 (.slice (some ⟨g, 0, none⟩) xs.length cap) xs.length (ys.map (Value.int .i64)) ∧ Keeps (fun k => k = g) w w' := by
  have hps : (xs.mergeSort (fun x y => !ltT T y x)).Perm xs := List.mergeSort_perm _ _
  have hR : SR w w g cap xs.length xs.toArray.toList xs.toArray := ⟨by simpa using ho, Keeps.refl _ _, by simp, fun i hi => by rw [getElem!_pos xs.toArray i (by simpa using hi)]; simp⟩
  have hs := sort_any (T := T) hR hd (by simpa using hnd) (by simpa using hc)
  refine ⟨_, hps.length_eq, fun x => hps.mem_iff, sorted_pw T hnd, hs.mono ?_⟩
  · rintro e w' ⟨he, E, HE, hp⟩
    have h1 := (sorted_one T (by simpa using hnd) (by simpa using hp)).1
    have h2 := HE.out.own
    rw [h1] at h2
    exact ⟨he, by simpa using h2, HE.out.keeps⟩

end Go.Proofs.Ytnedmmjkhemgjaa
