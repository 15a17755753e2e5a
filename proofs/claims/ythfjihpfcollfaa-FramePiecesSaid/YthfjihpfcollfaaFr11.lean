/-
  What the laws of layer 8 share, more.
-/
import Derived.Test.YthfjihpfcollfaaFr10
namespace Go.Proofs.Ythfjihpfcollfaa
open Go.RowKit

theorem goodP.keep {w w' : World} {y : Prt} (h : goodP w y) (k : Keeps No w w') : goodP w' y := ⟨h.1.keep k (fun _ _ h => h), h.2⟩

theorem sizes_len : ∀ l : List (List Int), l.length ≤ sizes l
  | [] => Nat.le_refl _
  | m :: l => by have := sizes_len l; simp [sizes]; omega

theorem sizes_take : ∀ (l : List (List Int)) {i : Nat} (h : i < l.length), sizes (l.take (i + 1)) = sizes (l.take i) + (l[i].length + 5)
  | [], _, h => by simp at h
  | m :: l, 0, _ => by simp [sizes]
  | m :: l, i + 1, h => by
    have := sizes_take l (i := i) (by simpa using h)
    simp only [List.take_succ_cons, sizes, List.getElem_cons_succ, this]
    omega

theorem sizes_le : ∀ (l : List (List Int)) (i : Nat), sizes (l.take i) ≤ sizes l
  | [], _ => by simp [sizes]
  | m :: l, 0 => by simp [sizes]
  | m :: l, i + 1 => by have := sizes_le l i; simp [sizes]; exact this

theorem run_make_row0 {P : Program} {t e : TypeId} {z : Value} {size bytes : Nat} (ht : P.underlying t = some (.slice e)) (hi : (P.info? e).map (fun i => (i.zero, i.size, i.bytes)) = some (some z, size, bytes)) (n : Nat) (hb : bytes * n ≤ 281474976710656) (hn : n ≤ 1000000) (w : World) :
    (Instr.makeSlice t (.int .i64 (n : Int)) (.int .i64 (n : Int))).run P w = .ok (.slice (some ⟨w.heap.size, 0, none⟩) n n) (w.alloc (.cells (madeCells z.cells (n * size)) e)) := by
  obtain ⟨i, hi, hz, hs, hb'⟩ : ∃ i, P.info? e = some i ∧ i.zero = some z ∧ i.size = size ∧ i.bytes = bytes := by
    cases h : P.info? e with
    | none => simp [h] at hi
    | some i => simp [h] at hi; exact ⟨i, rfl, hi.1, hi.2.1, hi.2.2⟩
  have := run_make (P := P) (w := w) t e i z ht hi hz .i64 .i64 (n : Int) (n : Int) (by omega) (Int.le_refl _) (by rw [hb', ← Int.natCast_mul]; omega) (by omega)
  rw [this, hs]
  simp

set_option maxRecDepth 100000 in
/-- make([]byte, 50). -/
theorem make50 : ∃ Z : Array Value, Z.toList = (List.replicate 50 (0 : Int)).map (Value.int .u8) ∧ ∀ W : World, (Instr.makeSlice 26 (.int .i64 50) (.int .i64 50)).run Try.prog W = .ok (.slice (some ⟨W.heap.size, 0, none⟩) 50 50) (W.alloc (.cells Z 5)) := by
  refine ⟨madeCells (Value.int .u8 0).cells (50 * 1), ?_, fun W => ?_⟩
  · simp [madeCells, Value.cells]; rfl
  · exact run_make_row0 (P := Try.prog) Try.underlying26 info_byte 50 (by omega) (by omega) W

end Go.Proofs.Ythfjihpfcollfaa
