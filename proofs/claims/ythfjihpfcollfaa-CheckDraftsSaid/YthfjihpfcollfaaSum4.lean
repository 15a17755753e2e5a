/-
  The document's sums: bits as a list of their own.
-/
import Derived.Test.YthfjihpfcollfaaSum3
namespace Go.Proofs.Ythfjihpfcollfaa
open Go.RowKit

/-- Sixteen bools as cells. -/
def arrF (f : Nat → Bool) : Array Value := ((List.range 16).map (fun i => Value.bool (f i))).toArray

theorem arrF_at (f : Nat → Bool) {i : Nat} (h : i < 16) : (arrF f)[i]? = some (.bool (f i)) := by simp [arrF, h]

def updB (f : Nat → Bool) (i : Nat) (v : Bool) : Nat → Bool := fun j => if j = i then v else f j

theorem arrF_set (f : Nat → Bool) (i : Nat) (v : Bool) : (arrF f).setIfInBounds i (.bool v) = arrF (updB f i v) := by
  apply Array.ext_getElem?
  intro j
  by_cases hj : j < 16
  · rw [arrF_at _ hj, Array.getElem?_setIfInBounds]
    by_cases e : i = j
    · subst e; simp [arrF, hj, updB]
    · rw [if_neg e, arrF_at _ hj]; simp [updB, Ne.symm e]
  · have h1 : (arrF (updB f i v)).size ≤ j := by simp [arrF]; omega
    have h2 : ((arrF f).setIfInBounds i (.bool v)).size ≤ j := by simp [arrF]; omega
    rw [Array.getElem?_eq_none h1, Array.getElem?_eq_none h2]

theorem arrF_congr {f g : Nat → Bool} (h : ∀ i, i < 16 → f i = g i) : arrF f = arrF g := by
  unfold arrF
  congr 1
  apply List.map_congr_left
  intro i hi
  rw [h i (by simpa using hi)]

/-- Bits that were moved up, from the top down to j. -/
def shf (r : BitVec 16) (j : Nat) : Nat → Bool := fun i => if j < i then r.getLsbD (i - 1) else r.getLsbD i

theorem shf_top (r : BitVec 16) : arrF (shf r 15) = arrF r.getLsbD := arrF_congr (fun i hi => by unfold shf; rw [if_neg (by omega)])

theorem shf_next (r : BitVec 16) (j : Nat) : updB (shf r (j + 1)) (j + 1) (shf r (j + 1) j) = shf r j := by
  funext i
  unfold updB shf
  by_cases e : i = j + 1
  · subst e
    rw [if_pos rfl, if_neg (by omega), if_pos (by omega)]; rfl
  · rw [if_neg e]
    by_cases h : j < i
    · rw [if_pos (by omega), if_pos h]
    · rw [if_neg (by omega), if_neg h]

theorem ite_bit (c : Bool) (p : BitVec 16) (i : Nat) : (if c then p else 0#16).getLsbD i = (c && p.getLsbD i) := by cases c <;> simp

set_option maxRecDepth 100000 in
theorem step_plain (r : BitVec 16) (b : Bool) (h : (r.getLsbD 15 ^^ b) = false) : arrF (updB (shf r 0) 0 false) = arrF (mstep r b).getLsbD := by
  apply arrF_congr
  intro i hi
  have hm : r.msb = r.getLsbD 15 := BitVec.msb_eq_getLsbD_last r
  unfold mstep
  rw [hm, h]
  unfold updB shf
  rcases (show i = 0 ∨ i = 1 ∨ i = 2 ∨ i = 3 ∨ i = 4 ∨ i = 5 ∨ i = 6 ∨ i = 7 ∨ i = 8 ∨ i = 9 ∨ i = 10 ∨ i = 11 ∨ i = 12 ∨ i = 13 ∨ i = 14 ∨ i = 15 by omega) with rfl | rfl | rfl | rfl | rfl | rfl | rfl | rfl | rfl | rfl | rfl | rfl | rfl | rfl | rfl | rfl <;> simp

set_option maxRecDepth 100000 in
theorem step_turn (r : BitVec 16) (b : Bool) (h : (r.getLsbD 15 ^^ b) = true) :
    arrF (updB (updB (updB (updB (shf r 0) 0 false) 12 (!(r.getLsbD 11))) 5 (!(r.getLsbD 4))) 0 true) = arrF (mstep r b).getLsbD := by
  apply arrF_congr
  intro i hi
  have hm : r.msb = r.getLsbD 15 := BitVec.msb_eq_getLsbD_last r
  unfold mstep
  rw [hm, h]
  unfold updB shf
  rcases (show i = 0 ∨ i = 1 ∨ i = 2 ∨ i = 3 ∨ i = 4 ∨ i = 5 ∨ i = 6 ∨ i = 7 ∨ i = 8 ∨ i = 9 ∨ i = 10 ∨ i = 11 ∨ i = 12 ∨ i = 13 ∨ i = 14 ∨ i = 15 by omega) with rfl | rfl | rfl | rfl | rfl | rfl | rfl | rfl | rfl | rfl | rfl | rfl | rfl | rfl | rfl | rfl <;> simp

/-- The number that the highest j bits are. -/
def hiN (r : BitVec 16) (j : Nat) : Nat := r.toNat / 2 ^ (16 - j)

theorem hiN_next (r : BitVec 16) {j : Nat} (hj : j < 16) : hiN r (j + 1) = 2 * hiN r j + (if r.getLsbD (15 - j) then 1 else 0) := by
  unfold hiN
  have hb : r.getLsbD (15 - j) = decide (r.toNat / 2 ^ (15 - j) % 2 = 1) := by
    rw [← BitVec.testBit_toNat, Nat.testBit_eq_decide_div_mod_eq]
  rw [hb, show 16 - j = (15 - j) + 1 by omega, show 16 - (j + 1) = 15 - j by omega, Nat.pow_succ, ← Nat.div_div_eq_div_mul]
  by_cases h : r.toNat / 2 ^ (15 - j) % 2 = 1
  · simp [h]; omega
  · simp [h]; omega

theorem hiN_zero (r : BitVec 16) : hiN r 0 = 0 := by unfold hiN; have := r.isLt; omega
theorem hiN_all (r : BitVec 16) : hiN r 16 = r.toNat := by simp [hiN]
theorem hiN_le (r : BitVec 16) (j : Nat) : hiN r j ≤ 65535 := by
  unfold hiN
  have h1 := r.isLt
  have h2 := Nat.div_le_self r.toNat (2 ^ (16 - j))
  omega

theorem arrF_falses : arrF (fun _ => false) = #[.bool false, .bool false, .bool false, .bool false, .bool false, .bool false, .bool false, .bool false, .bool false, .bool false, .bool false, .bool false, .bool false, .bool false, .bool false, .bool false] := rfl

theorem bit_test (x : Int) (i : Nat) : (x / 2 ^ i % 2 == 1) = bt x i := rfl

theorem arr_set {w : World} {g i : Nat} {f : Nat → Bool} {t : TypeId} (h : w.heap[g]? = some (.cells (arrF f) t (0, 0))) (v : Bool) :
    (w.setCell ⟨g, i, none⟩ (.bool v)).heap[g]? = some (.cells (arrF (updB f i v)) t (0, 0)) := by
  rw [heap_setCell_at h, arrF_set]

theorem arr_cell {w : World} {g i : Nat} {f : Nat → Bool} {t : TypeId} (h : w.heap[g]? = some (.cells (arrF f) t (0, 0))) (hi : i < 16) : w.cell? ⟨g, i, none⟩ = some (.bool (f i)) := cell_at h (arrF_at f hi)

end Go.Proofs.Ythfjihpfcollfaa
