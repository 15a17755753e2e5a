/-
  The ring of ints: Force in one word, the newest of a list; a slice cut at its front or its end.
-/
import Derived.Test.YtebodpphimfdoaaRing7
namespace Go.Proofs.Ytebodpphimfdoaa
open Go.RowKit

/-- The last so many of a list. -/
def lastN {α : Type} (n : Nat) (l : List α) : List α := l.drop (l.length - n)

theorem length_lastN {α : Type} (n : Nat) (l : List α) : (lastN n l).length = min l.length n := by simp [lastN]; omega

theorem lastN_all {α : Type} {n : Nat} {l : List α} (h : l.length ≤ n) : lastN n l = l := by simp [lastN, Nat.sub_eq_zero_of_le h]

theorem lastN_snoc {α : Type} (n : Nat) (l : List α) (x : α) : lastN n (lastN n l ++ [x]) = lastN n (l ++ [x]) := by
  unfold lastN
  by_cases h : l.length - n = 0
  · rw [h, List.drop_zero]
  · have hl : (l.drop (l.length - n)).length = n := by rw [List.length_drop]; omega
    simp only [List.length_append, List.length_singleton, hl]
    rw [show n + 1 - n = 1 by omega]
    rw [List.drop_append, List.drop_append, List.drop_drop, hl]
    congr 2
    · omega
    · by_cases hn : n = 0
      · subst hn; simp
      · rw [show 1 - n = 0 by omega, show l.length + 1 - n - l.length = 0 by omega]

theorem iforce_any {w : World} {b room : Nat} {F : Nat → Prop} {l : List Int} (h : RingI w b F room l) (x : Int) :
    Calls Try.prog 22 #[.pointer (some ⟨b, 0, none⟩), .int .i64 x] w fun e w' => ∃ (y : Int) (t : Bool), e = .returned (.tuple #[.int .i64 y, .bool t]) ∧
      ∃ F', RingI w' b F' room (lastN room (l ++ [x])) ∧ Upd F w w' F' := by
  have hc := h.cnt
  by_cases h0 : room = 0
  · subst h0
    refine (iforce_zero h x).mono ?_
    rintro e w' ⟨rfl, rfl⟩
    have hl : l = [] := List.length_eq_zero_iff.1 (by omega)
    subst hl
    exact ⟨x, true, rfl, F, by simpa [lastN] using h, Upd.refl _ _⟩
  · by_cases h1 : l.length < room
    · refine (iforce_room h h1 x).mono ?_
      rintro e w' ⟨rfl, F', h', u⟩
      exact ⟨_, _, rfl, F', by rw [lastN_all (by simp; omega)]; exact h', u⟩
    · match l, h, h1, hc with
      | [], h, h1, hc => simp at h1; omega
      | y :: l, h, h1, hc =>
        simp only [List.length_cons] at h1 hc
        refine (iforce_full h (by omega) x).mono ?_
        rintro e w' ⟨rfl, F', h', u⟩
        refine ⟨_, _, rfl, F', ?_, u⟩
        have : lastN room (y :: l ++ [x]) = l ++ [x] := by
          unfold lastN
          simp only [List.cons_append, List.length_cons, List.length_append, List.length_nil]
          rw [show l.length + (0 + 1) + 1 - room = 1 by omega]; rfl
        rw [this]; exact h'

theorem quiet_eq {P : Program} {f : FuncId} {args : Array Value} {w : World} {n : Nat} {v : Value}
    (h : Calls P f args (w.drewN n) fun e w' => e = .returned v ∧ w.drewN n = w') : Calls P f args (w.drewN n) fun e w'' => e = .returned v ∧ ∃ m, w'' = w.drewN m :=
  h.mono fun _ _ ⟨he, hm⟩ => ⟨he, n, hm.symm⟩

/-- A slice of a slice. -/
theorem Sl.sub {w : World} {size n cap lo hi : Nat} {a : Option Addr} {xs : List Value} (h : Sl w size (.slice a n cap) n xs) (h1 : lo ≤ hi) (h2 : hi ≤ n) :
    Sl w size (.slice (if cap = lo then a else a.map (·.add (lo * size))) (hi - lo) (cap - lo)) (hi - lo) ((xs.drop (lo * size)).take ((hi - lo) * size)) := by
  obtain ⟨e1, e2, a', cap', hv, hc, hn, hx⟩ := h
  simp only [Value.slice.injEq] at hv
  obtain ⟨rfl, _, rfl⟩ := hv
  have hmul : lo * size + (hi - lo) * size ≤ n * size := by rw [← Nat.add_mul]; exact Nat.mul_le_mul_right _ (by omega)
  refine ⟨by rw [List.length_take, List.length_drop, e1]; omega, by omega, _, cap - lo, rfl, by omega, ?_, fun h0 => ?_⟩
  · intro hnone
    rcases a with _ | a
    · obtain ⟨rfl, rfl⟩ := hn rfl; omega
    · split at hnone <;> simp at hnone
  · obtain ⟨g, off, rfl, hg, hx⟩ := hx (by omega)
    rw [if_neg (by omega)]
    refine ⟨g, off + lo * size, ?_, hg, fun j u hu => ?_⟩
    · simp only [Option.map_some, addr_add]
    · rw [List.getElem?_take] at hu
      split at hu
      · rw [List.getElem?_drop] at hu
        rw [Nat.add_assoc]; exact hx _ _ hu
      · cases hu

theorem run_sliceFrom {P : Program} {t e : TypeId} {size n cap lo : Nat} {a : Option Addr} {z : Int} (ht : P.underlying t = some (.slice e)) (hs : (P.info? e).map (·.size) = some size) (hz : z = lo) (h : lo ≤ n) (w : World) :
    (Instr.slice t (.slice a n cap) (some (.int .i64 z)) none none).run P w = .ok (.slice (if cap = lo then a else a.map (·.add (lo * size))) (n - lo) (cap - lo)) w := by
  subst hz
  obtain ⟨i, hi, rfl⟩ : ∃ i, P.info? e = some i ∧ i.size = size := by simpa [Option.map_eq_some_iff] using hs
  have hle : (lo : Int) ≤ n := by omega
  simp [Instr.slice, run_underlying ht, Instr.sliceBounds, run_sliceBound, sizeOf, typeInfo, hi, hle]

theorem run_slice1From {P : Program} {t e : TypeId} {n cap lo : Nat} {a : Option Addr} {z : Int} (ht : P.underlying t = some (.slice e)) (hs : (P.info? e).map (·.size) = some 1) (hz : z = lo) (h : lo ≤ n) (w : World) :
    (Instr.slice t (.slice a n cap) (some (.int .i64 z)) none none).run P w = .ok (.slice (if cap = lo then a else a.map (·.add lo)) (n - lo) (cap - lo)) w := by
  have := run_sliceFrom (size := 1) (cap := cap) (a := a) ht hs hz h w
  rwa [Nat.mul_one] at this

theorem SlI.from {w : World} {cap lo : Nat} {a : Option Addr} {l : List Int} (h : SlI w (.slice a l.length cap) l) (h1 : lo ≤ l.length) :
    SlI w (.slice (if cap = lo then a else a.map (·.add lo)) (l.length - lo) (cap - lo)) (l.drop lo) := by
  have := Sl.sub h h1 (Nat.le_refl _)
  simp only [Nat.mul_one] at this
  rw [← List.map_drop, List.take_of_length_le (by simp)] at this
  unfold SlI
  rw [List.length_drop]
  exact this

end Go.Proofs.Ytebodpphimfdoaa
