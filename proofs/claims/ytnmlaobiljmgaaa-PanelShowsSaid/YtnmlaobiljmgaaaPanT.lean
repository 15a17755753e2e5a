/-
  Ticks that came in.
-/
import Derived.Test.YtnmlaobiljmgaaaPanD
namespace Go.Proofs.Ytnmlaobiljmgaaa
open Go.ChangeShapes Go.WideShapes Go.ChangeAt Go.RowKit
set_option linter.unusedVariables false

structure Tick20 where
  beh : Int
  v : Value
  l : List One20
  p : Int
  o : Int
def encT20 (x : Tick20) : List Value := [.int .u8 x.beh, x.v, .int .u8 x.p, .int .u8 x.o]
def goodT20 (W : World) (y : Tick20) : Prop := Sl W 4 y.v y.l.length (y.l.flatMap encOne) ∧ (∀ x ∈ y.l, goodOne20 x) ∧ (0 ≤ y.beh ∧ y.beh ≤ 255) ∧ (0 ≤ y.p ∧ y.p ≤ 255) ∧ (0 ≤ y.o ∧ y.o ≤ 255)
theorem argOnes {H : Type} {enc : TypeId × Value → H} {W : World} {n : Nat} {cs : List Value} {x} (h : DataW.trod enc Try.prog W 0 (fun _ => true) true n 34 cs = some x) :
    ∃ (v : Value) (l : List One20), cs = [v] ∧ Sl W 4 v l.length (l.flatMap encOne) ∧ ∀ y ∈ l, goodOne20 y := by
  have hv : ∃ a len cap, cs = [.slice a len cap] := by
    rcases DataW.trod_slice Try.underlying34 h with ⟨h0, _⟩ | ⟨a, len, cap, _, _, _, _, h0, _⟩
    · exact ⟨_, _, _, h0⟩
    · exact ⟨_, _, _, h0⟩
  obtain ⟨a, len, cap, rfl⟩ := hv
  obtain ⟨l, rfl, w0, b0⟩ := argSlice (encE := encOne) (good := goodOne20) (size := 4) (fun _ => rfl) (by decide) Try.underlying34 (by kernel_rfl) (fun n cs x hx => decOne hx) (show DataW.Trod enc Try.prog W 0 (fun _ => true) true 34 (Value.slice a len cap) x.1 x.2 from ⟨n, h⟩)
  exact ⟨_, l, rfl, w0, b0⟩
set_option maxRecDepth 100000 in
theorem decT20 {H : Type} {enc : TypeId × Value → H} {W : World} {n : Nat} {cs : List Value} {x} (h : DataW.trod enc Try.prog W 0 (fun _ => true) true n 60 cs = some x) : ∃ y : Tick20, cs = encT20 y ∧ goodT20 W y := by
  obtain ⟨xs, m, _, _, hl, hlen, hf⟩ := DataW.trod_struct Try.underlying60 h
  rw [show Try.prog.cellsOf 60 = 4 by kernel_rfl] at hl
  match cs, hl, xs, hlen with
  | [c0, c1, c2, c3], _, [y0, y1, y2, y3], _ =>
    have h0 : DataW.trod enc Try.prog W 0 (fun _ => true) true m 5 (([c0, c1, c2, c3].drop 0).take (Try.prog.cellsOf 5)) = some y0 := hf 0 _ rfl
    have h1 : DataW.trod enc Try.prog W 0 (fun _ => true) true m 34 (([c0, c1, c2, c3].drop 1).take (Try.prog.cellsOf 34)) = some y1 := hf 1 _ rfl
    have h2 : DataW.trod enc Try.prog W 0 (fun _ => true) true m 5 (([c0, c1, c2, c3].drop 2).take (Try.prog.cellsOf 5)) = some y2 := hf 2 _ rfl
    have h3 : DataW.trod enc Try.prog W 0 (fun _ => true) true m 5 (([c0, c1, c2, c3].drop 3).take (Try.prog.cellsOf 5)) = some y3 := hf 3 _ rfl
    rw [show Try.prog.cellsOf 5 = 1 by kernel_rfl] at h0 h2 h3
    rw [show Try.prog.cellsOf 34 = 1 by kernel_rfl] at h1
    obtain ⟨a, e0, _, w0⟩ := DataW.trod_int Try.underlying5 h0
    obtain ⟨v, p, e1, s1, b1⟩ := argOnes h1
    obtain ⟨b, e2, _, w2⟩ := DataW.trod_int Try.underlying5 h2
    obtain ⟨c, e3, _, w3⟩ := DataW.trod_int Try.underlying5 h3
    simp at e0 e1 e2 e3
    exact ⟨⟨a, v, p, b, c⟩, by simp [e0, e1, e2, e3, encT20], s1, b1, bounds_u8 w0, bounds_u8 w2, bounds_u8 w3⟩

theorem showP_began {p : PanelD} {now : Int} {l : List LightD} {h : HushD} (hp : 0 ≤ p.began ∧ p.began ≤ now) (hn : 0 ≤ now) : 0 ≤ (showP p now l h).began ∧ (showP p now l h).began ≤ now := by
  unfold showP; split
  · exact hp
  · exact ⟨hn, Int.le_refl _⟩

end Go.Proofs.Ytnmlaobiljmgaaa
