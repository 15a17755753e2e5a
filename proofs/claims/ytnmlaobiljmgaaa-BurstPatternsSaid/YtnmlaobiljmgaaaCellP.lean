/-
  What is known of signals: samples and when they came, as the document asks of them.
-/
import Derived.Test.YtnmlaobiljmgaaaLib2
namespace Go.Proofs.Ytnmlaobiljmgaaa
open Go.RowKit
set_option linter.unusedVariables false

/-- A sample, and when it came. -/
structure SeenD where
  at_ : Int
  sig : Int
  seq : Int
  val : Int
  bad : Bool

def encSn (x : SeenD) : List Value := [.int .i64 x.at_, .int .i64 x.sig, .int .u8 x.seq, .int .i64 x.val, .bool x.bad]

/-- The samples of a signal that may be. -/
def ofSig (k : Int) (x : SeenD) : Bool := x.sig == k && !x.bad
def goodAll (l : List SeenD) (k : Int) : List SeenD := l.filter (ofSig k)
/-- .. the last sixteen. -/
def goodD (l : List SeenD) (k : Int) : List SeenD := (goodAll l k).drop ((goodAll l k).length - 16)
def valueD (l : List SeenD) (k : Int) : Option SeenD := (goodD l k).getLast?
def oldestD (l : List SeenD) (k : Int) (from_ : Int) : Option SeenD := (goodD l k).find? (fun x => decide (x.at_ ≥ from_))
def lastE (l : List SeenD) (k : Int) : Option SeenD := (l.filter (fun x => x.sig == k)).getLast?
def badD (l : List SeenD) (k : Int) : Bool := (lastE l k).elim false (·.bad)

/-- Where the last one stands; -1: nowhere. -/
def lastI (l : List SeenD) (k : Int) : Nat → Int
  | 0 => -1
  | n + 1 => if (l[n]?).any (fun x => x.sig == k) then (n : Int) else lastI l k n

theorem goodD_few (l : List SeenD) (k : Int) : (goodD l k).length ≤ 16 := by unfold goodD; rw [List.length_drop]; omega

theorem lastI_take (l : List SeenD) (k : Int) : ∀ n, n ≤ l.length → (lastI l k n = -1 ∧ (l.take n).filter (fun x => x.sig == k) = []) ∨ (∃ i : Nat, ∃ x, lastI l k n = i ∧ i < n ∧ l[i]? = some x ∧ ((l.take n).filter (fun x => x.sig == k)).getLast? = some x)
  | 0, _ => Or.inl ⟨rfl, by simp⟩
  | n + 1, h => by
    have hn : n < l.length := by omega
    have hg : l[n]? = some l[n] := List.getElem?_eq_getElem hn
    rw [List.take_succ_eq_append_getElem hn, List.filter_append]
    by_cases hs : (l[n].sig == k) = true
    · right
      refine ⟨n, l[n], ?_, by omega, hg, ?_⟩
      · unfold lastI
        rw [hg, Option.any_some, hs, if_pos rfl]
      · simp [List.filter, hs]
    · have hs' : (l[n].sig == k) = false := by simpa using hs
      have hl : lastI l k (n + 1) = lastI l k n := by
        conv => lhs; unfold lastI
        rw [hg, Option.any_some, hs']
        rfl
      have hf : List.filter (fun x => x.sig == k) [l[n]] = [] := by simp [List.filter, hs']
      rw [hl, hf, List.append_nil]
      rcases lastI_take l k n (by omega) with h1 | ⟨i, x, h1, h2, h3, h4⟩
      · exact Or.inl h1
      · exact Or.inr ⟨i, x, h1, by omega, h3, h4⟩

/-- What the place of the last one says. -/
theorem lastI_all (l : List SeenD) (k : Int) : (lastI l k l.length = -1 ∧ lastE l k = none) ∨ (∃ i : Nat, ∃ x, lastI l k l.length = i ∧ i < l.length ∧ l[i]? = some x ∧ lastE l k = some x) := by
  rcases lastI_take l k l.length (Nat.le_refl _) with ⟨h1, h2⟩ | ⟨i, x, h1, h2, h3, h4⟩
  · rw [List.take_length] at h2
    exact Or.inl ⟨h1, by unfold lastE; rw [h2]; rfl⟩
  · rw [List.take_length] at h4
    exact Or.inr ⟨i, x, h1, h2, h3, h4⟩

/-- The cells of an item. -/
theorem Sl.itemC {α : Type} {size : Nat} {enc : α → List Value} (he : ∀ x, (enc x).length = size) (hsz : 0 < size) {w : World} {xs : List α} {a : Option Addr} {cap : Nat} {n : Nat} (h : Sl w size (.slice a n cap) n (xs.flatMap enc)) {i : Nat} (hi : i < xs.length) {x : α} (hx : xs[i] = x) :
    ∃ g off, a = some ⟨g, off, none⟩ ∧ g < w.heap.size ∧ ∀ j u, (enc x)[j]? = some u → w.cell? ⟨g, off + i * size + j, none⟩ = some u := by
  have hs : ∀ j u, (enc x)[j]? = some u → (xs.flatMap enc)[i * size + j]? = some u := fun j u hu => by
    have hj := (List.getElem?_eq_some_iff.1 hu).1
    rw [he] at hj
    rw [getElem?_flatMap_enc he xs i j hj hi, hx]
    exact hu
  obtain ⟨h1, h2, a', cap', hv, hc, hn, hr⟩ := h
  simp only [Value.slice.injEq] at hv
  obtain ⟨rfl, _, rfl⟩ := hv
  have hpos : 0 < n := by
    rcases Nat.eq_zero_or_pos n with h0 | h0
    · exfalso
      subst h0
      rw [length_flatMap_enc he] at h1
      have : 0 < xs.length * size := Nat.mul_pos (by omega) hsz
      omega
    · exact h0
  obtain ⟨g, off, ha, hg, hr⟩ := hr hpos
  exact ⟨g, off, ha, hg, fun j u hu => by rw [Nat.add_assoc]; exact hr _ _ (hs j u hu)⟩

end Go.Proofs.Ytnmlaobiljmgaaa
