/-
  How drafts that came in are read.
-/
import Derived.Test.YtoodlhagecannaaBytesPlain
import Derived.Test.YtoodlhagecannaaArgs2
import Derived.Test.YtoodlhagecannaaMake
namespace Go.Proofs.Ytoodlhagecannaa
open Go.ChangeShapes Go.WideShapes Go.ChangeAt Go.RowKit

/-- A slice of bytes within something that came in. -/
theorem argBytes {H : Type} {enc : TypeId × Value → H} {W : World} {n : Nat} {cs : List Value} {x} (h : DataW.trod enc Try.prog W 0 (fun _ => true) true n 23 cs = some x) :
    ∃ v p, cs = [v] ∧ SlB W v p ∧ Bytes p := by
  have hv : ∃ a len cap, cs = [.slice a len cap] := by
    rcases DataW.trod_slice Try.underlying23 h with ⟨h0, _⟩ | ⟨a, len, cap, _, _, _, _, h0, _⟩
    · exact ⟨_, _, _, h0⟩
    · exact ⟨_, _, _, h0⟩
  obtain ⟨a, len, cap, rfl⟩ := hv
  obtain ⟨l, rfl, w0, b0⟩ := argInts .u8 Try.underlying23 Try.underlying5 (by kernel_rfl) (show DataW.Trod enc Try.prog W 0 (fun _ => true) true 23 (Value.slice a len cap) x.1 x.2 from ⟨n, h⟩)
  exact ⟨_, l, rfl, w0, fun y hy => bounds_u8 (b0 y hy)⟩

section
variable {H : Type} {enc : TypeId × Value → H} {W : World}

theorem okWide_struct {P : Program} {T : TypeId} {fs : Array Field} {v : Value} {base : Nat} {r : Reach} (ht : P.underlying T = some (.struct fs)) (h : Value.okWide P W r base T v) : ∃ cs, v = .agg cs ∧ cs.size = P.cellsOf T := by
  simp only [Value.okWide, ht] at h
  obtain ⟨cs, h1, h2, _⟩ := h
  exact ⟨cs, h1, h2⟩

set_option maxRecDepth 100000 in
theorem decLine {n : Nat} {cs : List Value} {x} (h : DataW.trod enc Try.prog W 0 (fun _ => true) true n 71 cs = some x) : ∃ y : LineD × Value, cs = encLine y ∧ SlB W y.2 y.1.stages ∧ OkLine y.1 := by
  obtain ⟨xs, m, _, _, hl, hlen, hf⟩ := DataW.trod_struct Try.underlying71 h
  rw [show Try.prog.cellsOf 71 = 9 by kernel_rfl] at hl
  match cs, hl, xs, hlen with
  | [c0, c1, c2, c3, c4, c5, c6, c7, c8], _, [y0, y1, y2, y3, y4, y5, y6, y7, y8], _ =>
    have h0 : DataW.trod enc Try.prog W 0 (fun _ => true) true m 5 (([c0, c1, c2, c3, c4, c5, c6, c7, c8].drop 0).take (Try.prog.cellsOf 5)) = some y0 := hf 0 _ rfl
    have h1 : DataW.trod enc Try.prog W 0 (fun _ => true) true m 5 (([c0, c1, c2, c3, c4, c5, c6, c7, c8].drop 1).take (Try.prog.cellsOf 5)) = some y1 := hf 1 _ rfl
    have h2 : DataW.trod enc Try.prog W 0 (fun _ => true) true m 5 (([c0, c1, c2, c3, c4, c5, c6, c7, c8].drop 2).take (Try.prog.cellsOf 5)) = some y2 := hf 2 _ rfl
    have h3 : DataW.trod enc Try.prog W 0 (fun _ => true) true m 5 (([c0, c1, c2, c3, c4, c5, c6, c7, c8].drop 3).take (Try.prog.cellsOf 5)) = some y3 := hf 3 _ rfl
    have h4 : DataW.trod enc Try.prog W 0 (fun _ => true) true m 5 (([c0, c1, c2, c3, c4, c5, c6, c7, c8].drop 4).take (Try.prog.cellsOf 5)) = some y4 := hf 4 _ rfl
    have h5 : DataW.trod enc Try.prog W 0 (fun _ => true) true m 5 (([c0, c1, c2, c3, c4, c5, c6, c7, c8].drop 5).take (Try.prog.cellsOf 5)) = some y5 := hf 5 _ rfl
    have h6 : DataW.trod enc Try.prog W 0 (fun _ => true) true m 5 (([c0, c1, c2, c3, c4, c5, c6, c7, c8].drop 6).take (Try.prog.cellsOf 5)) = some y6 := hf 6 _ rfl
    have h7 : DataW.trod enc Try.prog W 0 (fun _ => true) true m 4 (([c0, c1, c2, c3, c4, c5, c6, c7, c8].drop 7).take (Try.prog.cellsOf 4)) = some y7 := hf 7 _ rfl
    have h8 : DataW.trod enc Try.prog W 0 (fun _ => true) true m 23 (([c0, c1, c2, c3, c4, c5, c6, c7, c8].drop 8).take (Try.prog.cellsOf 23)) = some y8 := hf 8 _ rfl
    rw [show Try.prog.cellsOf 5 = 1 by kernel_rfl] at h0 h1 h2 h3 h4 h5 h6
    rw [show Try.prog.cellsOf 4 = 1 by kernel_rfl] at h7
    rw [show Try.prog.cellsOf 23 = 1 by kernel_rfl] at h8
    obtain ⟨a0, e0, _, w0⟩ := DataW.trod_int Try.underlying5 h0
    obtain ⟨a1, e1, _, w1⟩ := DataW.trod_int Try.underlying5 h1
    obtain ⟨a2, e2, _, w2⟩ := DataW.trod_int Try.underlying5 h2
    obtain ⟨a3, e3, _, w3⟩ := DataW.trod_int Try.underlying5 h3
    obtain ⟨a4, e4, _, w4⟩ := DataW.trod_int Try.underlying5 h4
    obtain ⟨a5, e5, _, w5⟩ := DataW.trod_int Try.underlying5 h5
    obtain ⟨a6, e6, _, w6⟩ := DataW.trod_int Try.underlying5 h6
    obtain ⟨b7, e7, _⟩ := DataW.trod_bool Try.underlying4 h7
    obtain ⟨v, p, e8, s8, b8⟩ := argBytes h8
    simp at e0 e1 e2 e3 e4 e5 e6 e7 e8
    exact ⟨(⟨a0, a1, a2, a3, a4, a5, a6, b7, p⟩, v), by simp [e0, e1, e2, e3, e4, e5, e6, e7, e8, encLine], s8, ⟨bounds_u8 w0, bounds_u8 w1, bounds_u8 w2, bounds_u8 w3, bounds_u8 w4, bounds_u8 w5, bounds_u8 w6, b8⟩⟩

theorem trodSlice {T E : TypeId} {n : Nat} {cs : List Value} {x} (hT : Try.prog.underlying T = some (.slice E)) (h : DataW.trod enc Try.prog W 0 (fun _ => true) true n T cs = some x) :
    ∃ a len cap, cs = [.slice a len cap] ∧ DataW.Trod enc Try.prog W 0 (fun _ => true) true T (Value.slice a len cap) x.1 x.2 := by
  have hv : ∃ a len cap, cs = [.slice a len cap] := by
    rcases DataW.trod_slice hT h with ⟨h0, _⟩ | ⟨a, len, cap, _, _, _, _, h0, _⟩
    · exact ⟨_, _, _, h0⟩
    · exact ⟨_, _, _, h0⟩
  obtain ⟨a, len, cap, rfl⟩ := hv
  exact ⟨a, len, cap, rfl, n, h⟩

set_option maxRecDepth 100000 in
/-- A draft that came in. -/
theorem argDraft {v : Value} {base : Nat} {r : Reach} (hv : Value.okWide Try.prog W r base 25 v) {d : DataW H} {p : List MemPlace} (h : DataW.Trod enc Try.prog W 0 (fun _ => true) true 25 v d p) :
    ∃ (rules : List (LineD × Value)) (rv : Value) (slots : List Int) (sv : Value) (ba dr pa of_ : Int) (br : Bool) (lo : Int), v = .agg #[rv, sv, .int .u8 ba, .int .u8 dr, .int .u8 pa, .int .u8 of_, .bool br, .int .u8 lo] ∧
      DraftR W rules rv slots sv ∧ U8 ba ∧ U8 dr ∧ U8 pa ∧ U8 of_ ∧ U8 lo := by
  obtain ⟨cs, rfl, hs⟩ := okWide_struct Try.underlying25 hv
  rw [show Try.prog.cellsOf 25 = 8 by kernel_rfl] at hs
  obtain ⟨l⟩ := cs
  match l, hs with
  | [c0, c1, c2, c3, c4, c5, c6, c7], _ =>
    obtain ⟨fuel, hf⟩ := h
    obtain ⟨xs, m, _, _, _, hlen, hf⟩ := DataW.trod_struct Try.underlying25 hf
    match xs, hlen with
    | [y0, y1, y2, y3, y4, y5, y6, y7], _ =>
      have h0 : DataW.trod enc Try.prog W 0 (fun _ => true) true m 22 (([c0, c1, c2, c3, c4, c5, c6, c7].drop 0).take (Try.prog.cellsOf 22)) = some y0 := hf 0 _ rfl
      have h1 : DataW.trod enc Try.prog W 0 (fun _ => true) true m 23 (([c0, c1, c2, c3, c4, c5, c6, c7].drop 1).take (Try.prog.cellsOf 23)) = some y1 := hf 1 _ rfl
      have h2 : DataW.trod enc Try.prog W 0 (fun _ => true) true m 5 (([c0, c1, c2, c3, c4, c5, c6, c7].drop 2).take (Try.prog.cellsOf 5)) = some y2 := hf 2 _ rfl
      have h3 : DataW.trod enc Try.prog W 0 (fun _ => true) true m 5 (([c0, c1, c2, c3, c4, c5, c6, c7].drop 3).take (Try.prog.cellsOf 5)) = some y3 := hf 3 _ rfl
      have h4 : DataW.trod enc Try.prog W 0 (fun _ => true) true m 5 (([c0, c1, c2, c3, c4, c5, c6, c7].drop 4).take (Try.prog.cellsOf 5)) = some y4 := hf 4 _ rfl
      have h5 : DataW.trod enc Try.prog W 0 (fun _ => true) true m 5 (([c0, c1, c2, c3, c4, c5, c6, c7].drop 5).take (Try.prog.cellsOf 5)) = some y5 := hf 5 _ rfl
      have h6 : DataW.trod enc Try.prog W 0 (fun _ => true) true m 4 (([c0, c1, c2, c3, c4, c5, c6, c7].drop 6).take (Try.prog.cellsOf 4)) = some y6 := hf 6 _ rfl
      have h7 : DataW.trod enc Try.prog W 0 (fun _ => true) true m 5 (([c0, c1, c2, c3, c4, c5, c6, c7].drop 7).take (Try.prog.cellsOf 5)) = some y7 := hf 7 _ rfl
      rw [show Try.prog.cellsOf 22 = 1 by kernel_rfl] at h0
      rw [show Try.prog.cellsOf 23 = 1 by kernel_rfl] at h1
      rw [show Try.prog.cellsOf 5 = 1 by kernel_rfl] at h2 h3 h4 h5 h7
      rw [show Try.prog.cellsOf 4 = 1 by kernel_rfl] at h6
      obtain ⟨a, len, cap, e0, t0⟩ := trodSlice Try.underlying22 h0
      obtain ⟨l, rfl, s0, g0⟩ := argSlice (encE := encLine) (good := fun y => SlB W y.2 y.1.stages ∧ OkLine y.1) (size := 9) (fun _ => rfl) (by decide) Try.underlying22 (by kernel_rfl) (fun n cs x hx => decLine hx) t0
      obtain ⟨v, p, e1, s1, b1⟩ := argBytes h1
      obtain ⟨a2, e2, _, w2⟩ := DataW.trod_int Try.underlying5 h2
      obtain ⟨a3, e3, _, w3⟩ := DataW.trod_int Try.underlying5 h3
      obtain ⟨a4, e4, _, w4⟩ := DataW.trod_int Try.underlying5 h4
      obtain ⟨a5, e5, _, w5⟩ := DataW.trod_int Try.underlying5 h5
      obtain ⟨b6, e6, _⟩ := DataW.trod_bool Try.underlying4 h6
      obtain ⟨a7, e7, _, w7⟩ := DataW.trod_int Try.underlying5 h7
      simp at e0 e1 e2 e3 e4 e5 e6 e7
      exact ⟨l, _, p, v, a2, a3, a4, a5, b6, a7, by simp [e0, e1, e2, e3, e4, e5, e6, e7], ⟨s0, fun x hx => (g0 x hx).1, fun x hx => (g0 x hx).2, s1, b1⟩, bounds_u8 w2, bounds_u8 w3, bounds_u8 w4, bounds_u8 w5, bounds_u8 w7⟩

end
end Go.Proofs.Ytoodlhagecannaa
