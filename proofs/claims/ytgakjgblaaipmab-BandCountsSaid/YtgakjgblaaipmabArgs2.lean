/-
  How arrays of three integers that came in are read.
-/
import Derived.Test.YtgakjgblaaipmabArgs
import Derived.Laws.IdiomArrays
namespace Go.Proofs.Ytgakjgblaaipmab
open Go.ChangeShapes Go.WideShapes Go.ChangeAt Go.RowKit

section
variable {H : Type} {enc : TypeId × Value → H} {P : Program} {W : World} {T E : TypeId}

theorem okWide_array {n : Nat} {v : Value} {base : Nat} {r : Reach} (ht : P.underlying T = some (.array n E)) (h : Value.okWide P W r base T v) : ∃ cs, v = .agg cs ∧ cs.size = P.cellsOf T := by
  simp only [Value.okWide, ht] at h
  obtain ⟨cs, h1, h2, _⟩ := h
  exact ⟨cs, h1, h2⟩

theorem argArr3 (k : IntKind) (hT : P.underlying T = some (.array 3 E)) (hE : P.underlying E = some (.int k)) (hc : P.cellsOf E = 1) (hcT : P.cellsOf T = 3) {v : Value} {base : Nat} {r : Reach} (hv : Value.okWide P W r base T v)
    {d : DataW H} {p : List MemPlace} (h : DataW.Trod enc P W 0 (fun _ => true) true T v d p) :
    ∃ a b c : Int, v = .agg #[.int k a, .int k b, .int k c] ∧ (Lit.int k a).wf = true ∧ (Lit.int k b).wf = true ∧ (Lit.int k c).wf = true := by
  obtain ⟨cs, rfl, hs⟩ := okWide_array hT hv
  rw [hcT] at hs
  obtain ⟨l⟩ := cs
  match l, hs with
  | [c0, c1, c2], _ =>
    obtain ⟨fuel, hf⟩ := h
    obtain ⟨y0, y1, y2, n, _, h0, h1, h2⟩ := trod_array3 hT hc hf
    obtain ⟨a, e0, _, w0⟩ := DataW.trod_int hE h0
    obtain ⟨b, e1, _, w1⟩ := DataW.trod_int hE h1
    obtain ⟨c, e2, _, w2⟩ := DataW.trod_int hE h2
    simp at e0 e1 e2
    subst e0 e1 e2
    exact ⟨a, b, c, rfl, w0, w1, w2⟩

end
end Go.Proofs.Ytgakjgblaaipmab
