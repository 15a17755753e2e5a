/-
  Plain facts that need no program of their own: the room that New gives, the last of a list, quiet calls, slices of slices.
-/
import Derived.Test.YtnmlaobiljmgaaaRingPlain
import Derived.Deep.QuietTactic
import Derived.BigQuiet
import Derived.StillTailTactics
import Derived.Deep.RegionWith
import Derived.Deep.RegionHeld3
namespace Go.Proofs.Ytnmlaobiljmgaaa
open Go.RowKit

/-- The room that New(n) gives. -/
def roomOf (n : Int) : Nat := if n < 0 then 0 else if 1024 < n then 1024 else n.toNat

theorem roomOf_le (n : Int) : roomOf n ≤ 1024 := by unfold roomOf; split <;> (try split) <;> omega

/-- The last so many of a list. -/
def lastN {α : Type} (n : Nat) (l : List α) : List α := l.drop (l.length - n)

theorem length_lastN {α : Type} (n : Nat) (l : List α) : (lastN n l).length = min l.length n := by simp [lastN]; omega

theorem lastN_all {α : Type} {n : Nat} {l : List α} (h : l.length ≤ n) : lastN n l = l := by simp [lastN, Nat.sub_eq_zero_of_le h]

theorem lastN_snoc {α : Type} (n : Nat) (l : List α) (x : α) : lastN n (lastN n l ++ [x]) = lastN n (l ++ [x]) := by
  unfold lastN
  by_cases h : l.length - n = 0
  · rw [h, List.drop_zero]
  · have hl : (l.drop (l.length - n)).length = n := by rw [List.length_drop]; omega
    simp only [List.length_append, List.length_singleton, hl]
    rw [show n + 1 - n = 1 by omega]
    rw [List.drop_append, List.drop_append, List.drop_drop, hl]
    congr 2
    · omega
    · by_cases hn : n = 0
      · subst hn; simp
      · rw [show 1 - n = 0 by omega, show l.length + 1 - n - l.length = 0 by omega]

theorem quiet_eq {P : Program} {f : FuncId} {args : Array Value} {w : World} {n : Nat} {v : Value}
    (h : Calls P f args (w.drewN n) fun e w' => e = .returned v ∧ w.drewN n = w') : Calls P f args (w.drewN n) fun e w'' => e = .returned v ∧ ∃ m, w'' = w.drewN m :=
  h.mono fun _ _ ⟨he, hm⟩ => ⟨he, n, hm.symm⟩

/-- A step that wrote nothing old, and then one that wrote a thing. -/
theorem Upd.behind {F F' : Nat → Prop} {w w1 w2 : World} (k : Keeps No w w1) (u : Upd F w1 w2 F') : Upd F w w2 F' :=
  ⟨k.trans' u.keeps (fun _ _ h => h.elim) (fun _ _ h => h), fun i hi => by
    rcases u.fresh i hi with h | h
    · exact Or.inl h
    · exact Or.inr (Nat.le_trans k.size h)⟩

/-- A slice of a slice. -/
theorem Sl.sub {w : World} {size n cap lo hi : Nat} {a : Option Addr} {xs : List Value} (h : Sl w size (.slice a n cap) n xs) (h1 : lo ≤ hi) (h2 : hi ≤ n) :
    Sl w size (.slice (if cap = lo then a else a.map (·.add (lo * size))) (hi - lo) (cap - lo)) (hi - lo) ((xs.drop (lo * size)).take ((hi - lo) * size)) := by
  obtain ⟨e1, e2, a', cap', hv, hc, hn, hx⟩ := h
  simp only [Value.slice.injEq] at hv
  obtain ⟨rfl, _, rfl⟩ := hv
  have hmul : lo * size + (hi - lo) * size ≤ n * size := by rw [← Nat.add_mul]; exact Nat.mul_le_mul_right _ (by omega)
  refine ⟨by rw [List.length_take, List.length_drop, e1]; omega, by omega, _, cap - lo, rfl, by omega, ?_, fun h0 => ?_⟩
  · intro hnone
    rcases a with _ | a
    · obtain ⟨rfl, rfl⟩ := hn rfl; omega
    · split at hnone <;> simp at hnone
  · obtain ⟨g, off, rfl, hg, hx⟩ := hx (by omega)
    rw [if_neg (by omega)]
    refine ⟨g, off + lo * size, ?_, hg, fun j u hu => ?_⟩
    · simp only [Option.map_some, addr_add]
    · rw [List.getElem?_take] at hu
      split at hu
      · rw [List.getElem?_drop] at hu
        rw [Nat.add_assoc]; exact hx _ _ hu
      · cases hu

theorem run_sliceFrom {P : Program} {t e : TypeId} {size n cap lo : Nat} {a : Option Addr} {z : Int} (ht : P.underlying t = some (.slice e)) (hs : (P.info? e).map (·.size) = some size) (hz : z = lo) (h : lo ≤ n) (w : World) :
    (Instr.slice t (.slice a n cap) (some (.int .i64 z)) none none).run P w = .ok (.slice (if cap = lo then a else a.map (·.add (lo * size))) (n - lo) (cap - lo)) w := by
  subst hz
  obtain ⟨i, hi, rfl⟩ : ∃ i, P.info? e = some i ∧ i.size = size := by simpa [Option.map_eq_some_iff] using hs
  have hle : (lo : Int) ≤ n := by omega
  simp [Instr.slice, run_underlying ht, Instr.sliceBounds, run_sliceBound, sizeOf, typeInfo, hi, hle]

theorem run_slice1From {P : Program} {t e : TypeId} {n cap lo : Nat} {a : Option Addr} {z : Int} (ht : P.underlying t = some (.slice e)) (hs : (P.info? e).map (·.size) = some 1) (hz : z = lo) (h : lo ≤ n) (w : World) :
    (Instr.slice t (.slice a n cap) (some (.int .i64 z)) none none).run P w = .ok (.slice (if cap = lo then a else a.map (·.add lo)) (n - lo) (cap - lo)) w := by
  have := run_sliceFrom (size := 1) (cap := cap) (a := a) ht hs hz h w
  rwa [Nat.mul_one] at this


/-- A slice of ints reads the list. -/
abbrev SlI (w : World) (v : Value) (l : List Int) : Prop := Sl w 1 v l.length (l.map (Value.int .i64))

theorem SlI.cellAt {w : World} {ao : Option Addr} {cap : Nat} {l : List Int} (h : SlI w (.slice ao l.length cap) l) {k : Nat} (hk : k < l.length) :
    ∃ g off, ao = some ⟨g, off, none⟩ ∧ g < w.heap.size ∧ w.cell? ⟨g, off + k, none⟩ = some (.int .i64 l[k]) := Sl.cellAt h (by simp [hk])

theorem SlI.from {w : World} {cap lo : Nat} {a : Option Addr} {l : List Int} (h : SlI w (.slice a l.length cap) l) (h1 : lo ≤ l.length) :
    SlI w (.slice (if cap = lo then a else a.map (·.add lo)) (l.length - lo) (cap - lo)) (l.drop lo) := by
  have := Sl.sub h h1 (Nat.le_refl _)
  simp only [Nat.mul_one] at this
  rw [← List.map_drop, List.take_of_length_le (by simp)] at this
  unfold SlI
  rw [List.length_drop]
  exact this

end Go.Proofs.Ytnmlaobiljmgaaa
