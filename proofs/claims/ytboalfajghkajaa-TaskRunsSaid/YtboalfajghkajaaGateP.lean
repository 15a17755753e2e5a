/-
  Gates: plain.
-/
import Derived.Test.YtboalfajghkajaaTimeP
namespace Go.Proofs.Ytboalfajghkajaa
open Go.RowKit
set_option linter.unusedVariables false

/-- A gate: is it on, held, since when. -/
structure GateD where
  on : Bool
  hd : Bool
  since : Int

def GateD.zero : GateD := ⟨false, false, 0⟩
def GateD.val (g : GateD) : Value := .agg #[.bool g.on, .bool g.hd, .int .i64 g.since]

/-- What a gate is behind a look. -/
def stepD (g : GateD) (now : Int) (i o : Bool) (d : Int) : GateD :=
  if g.on then (if o then ⟨false, false, 0⟩ else g)
  else if i then (if held (if g.hd then now - g.since else 0) ≥ d then ⟨true, false, 0⟩ else ⟨false, true, if g.hd then g.since else now⟩)
  else ⟨false, false, 0⟩

theorem stepD_i64 {g : GateD} {now : Int} {i o : Bool} {d : Int} (hg : I64 g.since) (hn : I64 now) : I64 (stepD g now i o d).since := by
  have h0 : I64 0 := ⟨by decide, by decide⟩
  obtain ⟨on, h, s⟩ := g
  cases on <;> cases i <;> cases o <;> cases h <;> simp only [stepD, Bool.false_eq_true, if_true, if_false] <;> (try split) <;> first | exact h0 | exact hg | exact hn

/-- Is a value beyond a limit; is it well back? -/
def crossD (k lim back v : Int) : Bool × Bool :=
  if k = 1 then (decide (v > lim), !decide (v > back)) else if k = 2 then (decide (v < lim), !decide (v < back)) else (false, false)

/-- A rule's cells, of which only the kind and the two limits are asked. -/
def ruleV (k lim back : Int) (a1 a4 a5 a6 a7 a8 : Value) : Value := .agg #[.int .u8 k, a1, .int .i64 lim, .int .i64 back, a4, a5, a6, a7, a8]

end Go.Proofs.Ytboalfajghkajaa
