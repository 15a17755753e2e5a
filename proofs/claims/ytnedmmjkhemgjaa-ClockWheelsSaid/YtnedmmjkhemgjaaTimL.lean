/-
  What is done with a wheel, as it comes in.
-/
import Derived.Test.YtnedmmjkhemgjaaTimD
import Derived.Test.YtnedmmjkhemgjaaWhl3
import Derived.Test.YtnedmmjkhemgjaaClockE
import Derived.Test.YtnedmmjkhemgjaaCellP
import Derived.Test.YtnedmmjkhemgjaaArgs
import Derived.ProofKit
import Derived.OpenShut
namespace Go.Proofs.Ytnedmmjkhemgjaa
open Go.ChangeShapes Go.WideShapes Go.ChangeAt Go.RowKit
set_option linter.unusedVariables false

structure ActD where
  do_ : Int
  id_ : Int
  at_ : Int
def encAct (x : ActD) : List Value := [.int .u8 x.do_, .int .i64 x.id_, .int .i64 x.at_]
theorem encAct_len (x : ActD) : (encAct x).length = 3 := rfl
def goodActD (x : ActD) : Prop := (Lit.int .u8 x.do_).wf = true ∧ (Lit.int .i64 x.id_).wf = true ∧ (Lit.int .i64 x.at_).wf = true

set_option maxRecDepth 100000 in
theorem decAct {H : Type} {enc : TypeId × Value → H} {W : World} {n : Nat} {cs : List Value} {x} (h : DataW.trod enc Try.prog W 0 (fun _ => true) true n 28 cs = some x) : ∃ y : ActD, cs = encAct y ∧ goodActD y := by
  obtain ⟨xs, m, _, _, hl, hlen, hf⟩ := DataW.trod_struct Try.underlying28 h
  rw [show Try.prog.cellsOf 28 = 3 by kernel_rfl] at hl
  match cs, hl, xs, hlen with
  | [c0, c1, c2], _, [y0, y1, y2], _ =>
    have h0 : DataW.trod enc Try.prog W 0 (fun _ => true) true m 5 (([c0, c1, c2].drop 0).take (Try.prog.cellsOf 5)) = some y0 := hf 0 _ rfl
    have h1 : DataW.trod enc Try.prog W 0 (fun _ => true) true m 3 (([c0, c1, c2].drop 1).take (Try.prog.cellsOf 3)) = some y1 := hf 1 _ rfl
    have h2 : DataW.trod enc Try.prog W 0 (fun _ => true) true m 2 (([c0, c1, c2].drop 2).take (Try.prog.cellsOf 2)) = some y2 := hf 2 _ rfl
    rw [show Try.prog.cellsOf 5 = 1 by kernel_rfl] at h0
    rw [show Try.prog.cellsOf 3 = 1 by kernel_rfl] at h1
    rw [show Try.prog.cellsOf 2 = 1 by kernel_rfl] at h2
    obtain ⟨a0, e0, _, w0⟩ := DataW.trod_int Try.underlying5 h0
    obtain ⟨a1, e1, _, w1⟩ := DataW.trod_int Try.underlying3 h1
    obtain ⟨a2, e2, _, w2⟩ := DataW.trod_int Try.underlying2 h2
    simp at e0 e1 e2
    exact ⟨⟨a0, a1, a2⟩, by simp [e0, e1, e2, encAct], w0, w1, w2⟩


theorem tmod_i64 {x : Int} (h : I64 x) (m : Int) (hm : 0 < m) (hm2 : m ≤ 100) : I64 (x.tmod m) := by
  unfold I64 at *
  have h1 := Int.tmod_lt_of_pos x hm
  have h2 : -m < x.tmod m := by
    have := Int.tmod_lt_of_pos (-x) hm
    rw [Int.neg_tmod] at this
    omega
  omega

end Go.Proofs.Ytnedmmjkhemgjaa
