/-
  Looks that come in.
-/
import Derived.Test.YtiflpkmknooioaaGateK
import Derived.Test.YtiflpkmknooioaaCellP
import Derived.Test.YtiflpkmknooioaaArgs
import Derived.ProofKit
import Derived.OpenShut
namespace Go.Proofs.Ytiflpkmknooioaa
open Go.ChangeShapes Go.WideShapes Go.ChangeAt Go.RowKit
set_option linter.unusedVariables false

structure LookD where
  in_ : Bool
  out_ : Bool
  behind : Int
def encLook (x : LookD) : List Value := [.bool x.in_, .bool x.out_, .int .u8 x.behind]
theorem encLook_len (x : LookD) : (encLook x).length = 3 := rfl
def goodLookD (x : LookD) : Prop := (Lit.int .u8 x.behind).wf = true

set_option maxRecDepth 100000 in
theorem decLook {H : Type} {enc : TypeId × Value → H} {W : World} {n : Nat} {cs : List Value} {x} (h : DataW.trod enc Try.prog W 0 (fun _ => true) true n 28 cs = some x) : ∃ y : LookD, cs = encLook y ∧ goodLookD y := by
  obtain ⟨xs, m, _, _, hl, hlen, hf⟩ := DataW.trod_struct Try.underlying28 h
  rw [show Try.prog.cellsOf 28 = 3 by kernel_rfl] at hl
  match cs, hl, xs, hlen with
  | [c0, c1, c2], _, [y0, y1, y2], _ =>
    have h0 : DataW.trod enc Try.prog W 0 (fun _ => true) true m 4 (([c0, c1, c2].drop 0).take (Try.prog.cellsOf 4)) = some y0 := hf 0 _ rfl
    have h1 : DataW.trod enc Try.prog W 0 (fun _ => true) true m 4 (([c0, c1, c2].drop 1).take (Try.prog.cellsOf 4)) = some y1 := hf 1 _ rfl
    have h2 : DataW.trod enc Try.prog W 0 (fun _ => true) true m 5 (([c0, c1, c2].drop 2).take (Try.prog.cellsOf 5)) = some y2 := hf 2 _ rfl
    rw [show Try.prog.cellsOf 4 = 1 by kernel_rfl] at h0 h1
    rw [show Try.prog.cellsOf 5 = 1 by kernel_rfl] at h2
    obtain ⟨a0, e0, _⟩ := DataW.trod_bool Try.underlying4 h0
    obtain ⟨a1, e1, _⟩ := DataW.trod_bool Try.underlying4 h1
    obtain ⟨a2, e2, _, w2⟩ := DataW.trod_int Try.underlying5 h2
    simp at e0 e1 e2
    exact ⟨⟨a0, a1, a2⟩, by simp [e0, e1, e2, encLook], w2⟩


end Go.Proofs.Ytiflpkmknooioaa
