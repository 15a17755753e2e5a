/-
  How slices that came in are read: of integers, of strings, of structs.
-/
import Derived.Test.YtnmlaobiljmgaaaBase
import Derived.ProofKit
import Derived.OpenShut
namespace Go.Proofs.Ytnmlaobiljmgaaa
open Go.ChangeShapes Go.WideShapes Go.ChangeAt Go.RowKit

theorem exists_list {α : Type} {Q : Nat → α → Prop} : ∀ n : Nat, (∀ i, i < n → ∃ y, Q i y) → ∃ l : List α, l.length = n ∧ ∀ i (h : i < l.length), Q i l[i]
  | 0, _ => ⟨[], rfl, fun i h => by simp at h⟩
  | n + 1, h => by
    obtain ⟨l, hl, hq⟩ := exists_list n (fun i hi => h i (by omega))
    obtain ⟨y, hy⟩ := h n (by omega)
    refine ⟨l ++ [y], by simp [hl], fun i hi => ?_⟩
    simp at hi
    by_cases he : i < l.length
    · rw [List.getElem_append_left he]; exact hq i he
    · have : i = n := by omega
      subst this
      rw [List.getElem_append_right (by omega)]; simpa using hy

theorem flatMap_one {α β : Type} (f : α → β) : ∀ l : List α, l.flatMap (fun x => [f x]) = l.map f
  | [] => rfl
  | x :: l => by simp [flatMap_one f l]

section
variable {H : Type} {enc : TypeId × Value → H} {P : Program} {W : World} {T E : TypeId}

/-- A slice that came in: l are its elements, each of 'size' cells that 'dec' can read. -/
theorem argSlice {α : Type} {encE : α → List Value} {good : α → Prop} {size : Nat} (he : ∀ y, (encE y).length = size) (hs : 0 < size) (hT : P.underlying T = some (.slice E)) (hc : P.cellsOf E = size)
    (dec : ∀ n cs x, DataW.trod enc P W 0 (fun _ => true) true n E cs = some x → ∃ y, cs = encE y ∧ good y)
    {a : Option Addr} {len cap : Nat} {d : DataW H} {p : List MemPlace} (h : DataW.Trod enc P W 0 (fun _ => true) true T (Value.slice a len cap) d p) :
    ∃ l : List α, l.length = len ∧ Sl W size (.slice a l.length cap) l.length (l.flatMap encE) ∧ ∀ y ∈ l, good y := by
  obtain ⟨fuel, hf⟩ := h
  rcases DataW.trod_slice hT hf with ⟨h0, _⟩ | ⟨a', len', cap', elems, rest, n, _, h0, _, _, hl, hm, hlen, hel, _, _⟩
  · simp [Value.cells] at h0
    obtain ⟨rfl, rfl, rfl⟩ := h0
    exact ⟨[], rfl, Sl.nil _ _, fun y hy => by simp at hy⟩
  · simp [Value.cells] at h0
    obtain ⟨rfl, rfl, rfl⟩ := h0
    have key : ∀ i, i < len → ∃ y, (∀ k (hk : k < size), W.cell? ((a'.add (i * size)).add k) = (encE y)[k]?) ∧ good y := by
      intro i hi
      have h1 := hel i hi
      rw [hc] at h1
      rw [List.getElem?_eq_getElem (by omega)] at h1
      obtain ⟨cs, h2, h3⟩ := Option.bind_eq_some_iff.1 h1
      obtain ⟨y, rfl, hg⟩ := dec _ _ _ h3
      refine ⟨y, fun k hk => ?_, hg⟩
      have h4 := World.cells?_some h2
      have := h4.2.2 k hk
      exact this
    obtain ⟨l, hll, hq⟩ := exists_list len key
    refine ⟨l, hll, ⟨length_flatMap_enc he l, by omega, some a', cap, rfl, by omega, fun h => (by cases h), fun h0 => ?_⟩, fun y hy => ?_⟩
    · have hz := (hq 0 h0).1 0 hs
      obtain ⟨g, off, sp⟩ := a'
      have hsp : sp = none := by
        simp [Addr.add] at hz
        rw [List.getElem?_eq_getElem (by rw [he]; exact hs)] at hz
        cases sp with
        | none => rfl
        | some s =>
          simp [World.cell?] at hz
          split at hz <;> simp at hz
      subst hsp
      refine ⟨g, off, rfl, ?_, fun j u hu => ?_⟩
      · rw [addr_add, addr_add, List.getElem?_eq_getElem (by rw [he]; exact hs)] at hz
        exact World.block_lt_of_cell? W _ hz
      · have hj := (List.getElem?_eq_some_iff.1 hu).1
        rw [length_flatMap_enc he] at hj
        have hd : j / size < l.length := Nat.div_lt_of_lt_mul (by rw [Nat.mul_comm]; exact hj)
        have hr := Nat.mod_lt j hs
        have hcell := (hq (j / size) hd).1 (j % size) hr
        rw [addr_add, addr_add] at hcell
        have hjj : j / size * size + j % size = j := by rw [Nat.mul_comm]; exact Nat.div_add_mod j size
        rw [← hjj, getElem?_flatMap_enc he l _ _ hr hd] at hu
        rw [← hjj, ← Nat.add_assoc, hcell, hu]
    · obtain ⟨i, hi, rfl⟩ := List.mem_iff_getElem.1 hy
      exact (hq i hi).2

theorem argInts (k : IntKind) (hT : P.underlying T = some (.slice E)) (hE : P.underlying E = some (.int k)) (hc : P.cellsOf E = 1)
    {a : Option Addr} {len cap : Nat} {d : DataW H} {p : List MemPlace} (h : DataW.Trod enc P W 0 (fun _ => true) true T (Value.slice a len cap) d p) :
    ∃ l : List Int, l.length = len ∧ Sl W 1 (.slice a l.length cap) l.length (l.map (Value.int k)) ∧ ∀ n ∈ l, (Lit.int k n).wf = true := by
  obtain ⟨l, h1, h2, h3⟩ := argSlice (encE := fun n => [Value.int k n]) (good := fun n => (Lit.int k n).wf = true) (size := 1) (fun _ => rfl) (by decide) hT hc (fun n cs x hx => by
    obtain ⟨m, rfl, _, hw⟩ := DataW.trod_int hE hx
    exact ⟨m, rfl, hw⟩) h
  refine ⟨l, h1, ?_, h3⟩
  rwa [flatMap_one] at h2

theorem argStrings (hT : P.underlying T = some (.slice E)) (hE : P.underlying E = some .string) (hc : P.cellsOf E = 1)
    {a : Option Addr} {len cap : Nat} {d : DataW H} {p : List MemPlace} (h : DataW.Trod enc P W 0 (fun _ => true) true T (Value.slice a len cap) d p) :
    ∃ l : List ByteArray, l.length = len ∧ Sl W 1 (.slice a l.length cap) l.length (l.map Value.string) ∧ ∀ s ∈ l, s.size ≤ maxLen := by
  obtain ⟨l, h1, h2, h3⟩ := argSlice (encE := fun n => [Value.string n]) (good := fun s : ByteArray => s.size ≤ maxLen) (size := 1) (fun _ => rfl) (by decide) hT hc (fun n cs x hx => by
    obtain ⟨m, rfl, _, hw⟩ := DataW.trod_string hE hx
    exact ⟨m, rfl, hw⟩) h
  refine ⟨l, h1, ?_, h3⟩
  rwa [flatMap_one] at h2

end
end Go.Proofs.Ytnmlaobiljmgaaa
