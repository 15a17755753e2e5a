/-
  What a store keeps of each signal: plain facts on the samples that came.
-/
import Derived.Test.YtboalfajghkajaaCellM3
import Derived.Test.YtboalfajghkajaaVRing2
namespace Go.Proofs.Ytboalfajghkajaa
open Go.RowKit
set_option linter.unusedVariables false

/-- As many signals as a store has. -/
def clampS (z : Int) : Nat := min z.toNat 8

/-- The samples that a store takes. -/
def takes (n : Nat) (x : SeenD) : Bool := decide (0 ≤ x.sig ∧ x.sig < n)

def vtOf (x : SeenD) : Vt := ⟨x.val, x.at_⟩
/-- The values that a signal keeps. -/
def vals (l : List SeenD) (k : Int) : List Vt := (goodD l k).map vtOf
/-- When a sample came last. -/
def cameD (l : List SeenD) (k : Int) : Int := (lastE l k).elim 0 (·.at_)

theorem vals_len (l : List SeenD) (k : Int) : (vals l k).length ≤ 16 := by unfold vals; rw [List.length_map]; exact goodD_few l k

theorem goodAll_on (l : List SeenD) (x : SeenD) (k : Int) : goodAll (l ++ [x]) k = if ofSig k x then goodAll l k ++ [x] else goodAll l k := by
  unfold goodAll
  rw [List.filter_append]
  by_cases h : ofSig k x = true
  · rw [if_pos h]; simp [List.filter, h]
  · rw [if_neg h]; simp [List.filter, h]

theorem vals_not {l : List SeenD} {x : SeenD} {k : Int} (h : ofSig k x = false) : vals (l ++ [x]) k = vals l k := by
  unfold vals goodD
  rw [goodAll_on, h]
  rfl

theorem vals_room {l : List SeenD} {x : SeenD} {k : Int} (h : ofSig k x = true) (hl : (vals l k).length < 16) : vals (l ++ [x]) k = vals l k ++ [vtOf x] := by
  unfold vals goodD at *
  rw [goodAll_on, if_pos h]
  rw [List.length_map, List.length_drop] at hl
  rw [List.length_append, List.length_singleton, show (goodAll l k).length + 1 - 16 = 0 by omega, show (goodAll l k).length - 16 = 0 by omega]
  simp

theorem vals_full {l : List SeenD} {x : SeenD} {k : Int} (h : ofSig k x = true) (hl : (vals l k).length = 16) : ∃ y t, vals l k = y :: t ∧ t.length + 1 = 16 ∧ vals (l ++ [x]) k = t ++ [vtOf x] := by
  unfold vals goodD at *
  rw [goodAll_on, if_pos h]
  rw [List.length_map, List.length_drop] at hl
  obtain ⟨m, hm⟩ : ∃ m, (goodAll l k).length = m + 16 := ⟨(goodAll l k).length - 16, by omega⟩
  have hlt : m < (goodAll l k).length := by omega
  refine ⟨vtOf ((goodAll l k)[m]), ((goodAll l k).drop (m + 1)).map vtOf, ?_, by simp; omega, ?_⟩
  · rw [show (goodAll l k).length - 16 = m by omega, List.drop_eq_getElem_cons hlt, List.map_cons]
  · rw [List.length_append, List.length_singleton, show (goodAll l k).length + 1 - 16 = m + 1 by omega, List.drop_append_of_le_length (by omega)]
    simp

theorem lastE_on (l : List SeenD) (x : SeenD) (k : Int) : lastE (l ++ [x]) k = if x.sig = k then some x else lastE l k := by
  unfold lastE
  rw [List.filter_append]
  by_cases h : x.sig = k
  · rw [if_pos h]; simp [List.filter, h]
  · have h' : (x.sig == k) = false := by simpa using h
    rw [if_neg h]; simp [List.filter, h']

/-- A signal's cells. -/
structure CellD where
  ring : Option Addr
  came : Int
  bad : Bool
def CellD.zero : CellD := ⟨none, 0, false⟩
def encC (x : CellD) : List Value := [.pointer x.ring, .int .i64 x.came, .bool x.bad]
theorem encC_len (x : CellD) : (encC x).length = 3 := rfl

def cellOf (rb : Nat → Nat) (l : List SeenD) (k : Nat) : CellD := ⟨some ⟨rb k, 0, none⟩, cameD l k, badD l k⟩
def cellsOf (rb : Nat → Nat) (n : Nat) (l : List SeenD) : List CellD := (List.range n).map (cellOf rb l)
theorem cellsOf_len (rb : Nat → Nat) (n : Nat) (l : List SeenD) : (cellsOf rb n l).length = n := by simp [cellsOf]

theorem cellsOf_on (rb : Nat → Nat) (n : Nat) (l : List SeenD) (x : SeenD) (s : Nat) (hs : x.sig = s) : cellsOf rb n (l ++ [x]) = (cellsOf rb n l).set s ⟨some ⟨rb s, 0, none⟩, x.at_, x.bad⟩ := by
  apply List.ext_getElem?
  intro j
  by_cases hj : j < n
  · by_cases he : s = j
    · subst he
      rw [List.getElem?_set_self (by rw [cellsOf_len]; exact hj)]
      simp [cellsOf, cellOf, hj, cameD, badD, lastE_on, hs]
    · rw [List.getElem?_set_ne he]
      have : ¬ x.sig = (j : Int) := by omega
      simp [cellsOf, cellOf, hj, cameD, badD, lastE_on, this]
  · rw [List.getElem?_eq_none (by rw [cellsOf_len]; omega), List.getElem?_eq_none (by rw [List.length_set, cellsOf_len]; omega)]

/-- The three cells of a signal. -/
theorem own_cellC {w : World} {g cap n : Nat} {xs : List CellD} (ho : w.ownsRow 0 66 3 (.slice (some ⟨g, 0, none⟩) n cap) n (xs.flatMap encC)) (hn : n = xs.length) {p : Nat} (hp : p < xs.length) :
    w.cell? ⟨g, p * 3, none⟩ = some (.pointer xs[p].ring) ∧ w.cell? ⟨g, p * 3 + 1, none⟩ = some (.int .i64 xs[p].came) ∧ w.cell? ⟨g, p * 3 + 2, none⟩ = some (.bool xs[p].bad) := by
  subst hn
  refine ⟨?_, ?_, ?_⟩
  · have := getElem?_flatMap_enc (size := 3) encC_len xs p 0 (by omega) hp
    rw [ho.cellAt (p * 3) (by omega)]; simpa [encC] using this
  · have := getElem?_flatMap_enc (size := 3) encC_len xs p 1 (by omega) hp
    rw [ho.cellAt (p * 3 + 1) (by omega)]; simpa [encC] using this
  · have := getElem?_flatMap_enc (size := 3) encC_len xs p 2 (by omega) hp
    rw [ho.cellAt (p * 3 + 2) (by omega)]; simpa [encC] using this

/-- The store at the block sb: n signals, of which the samples l came; F are the blocks that it stands in. -/
def Sto0 (w : World) (sb : Nat) (F : Nat → Prop) (n : Nat) (l : List SeenD) : Prop :=
  ∃ (cb : Nat) (rb : Nat → Nat) (R : Nat → Nat → Prop), n ≤ 8 ∧
    w.heap[sb]? = some (.cells #[.slice (some ⟨cb, 0, none⟩) n n] 60 (0, 0)) ∧
    w.ownsRow 0 66 3 (.slice (some ⟨cb, 0, none⟩) n n) n ((cellsOf rb n l).flatMap encC) ∧ sb ≠ cb ∧
    (∀ k : Nat, k < n → RingV w (rb k) (R k) 16 (vals l k)) ∧ (∀ k, k < n → ¬ R k sb ∧ ¬ R k cb) ∧
    (∀ j k, j < n → k < n → j ≠ k → ∀ i, R j i → ¬ R k i) ∧ (∀ i, F i ↔ i = sb ∨ i = cb ∨ ∃ k, k < n ∧ R k i)

theorem Sto0.keep {S : Nat → Prop} {w w' : World} {sb : Nat} {F : Nat → Prop} {n : Nat} {l : List SeenD} (h : Sto0 w sb F n l) (k : Keeps S w w') (hs : ∀ i, F i → ¬ S i) : Sto0 w' sb F n l := by
  obtain ⟨cb, rb, R, h8, hb, ho, hne, hr, hd, hj, hF⟩ := h
  exact ⟨cb, rb, R, h8, k.heap (hs sb ((hF sb).2 (Or.inl rfl))) hb, k.own ho (fun i hi => hs i ((hF i).2 (Or.inr (Or.inl (by simpa [Value.ownBlock] using hi.symm))))), hne,
    fun j hj' => (hr j hj').keep k (fun i hi => hs i ((hF i).2 (Or.inr (Or.inr ⟨j, hj', hi⟩)))), hd, hj, hF⟩

theorem Sto0.lt {w : World} {sb : Nat} {F : Nat → Prop} {n : Nat} {l : List SeenD} (h : Sto0 w sb F n l) : ∀ i, F i → i < w.heap.size := by
  obtain ⟨cb, rb, R, h8, hb, ho, hne, hr, hd, hj, hF⟩ := h
  intro i hi
  rcases (hF i).1 hi with rfl | rfl | ⟨k, hk, hi⟩
  · exact lt_of_block hb
  · exact (ho.lt i rfl).2
  · exact (hr k hk).lt i hi

end Go.Proofs.Ytboalfajghkajaa
