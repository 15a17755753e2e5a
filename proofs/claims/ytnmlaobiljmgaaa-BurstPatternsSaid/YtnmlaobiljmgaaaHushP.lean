/-
  Hushes: plain.
-/
import Derived.Test.YtnmlaobiljmgaaaTimeP
import Derived.Test.YtnmlaobiljmgaaaBlk
namespace Go.Proofs.Ytnmlaobiljmgaaa
open Go.RowKit
set_option linter.unusedVariables false

/-- Until when there is a pause, until when sound is off, the mark. -/
structure HushD where
  til : Int
  off : Int
  mark : Int
def HushD.val (h : HushD) : Value := .agg #[.int .i64 h.til, .int .i64 h.off, .int .u8 h.mark]

def leastI (a b : Int) : Int := if a < b then a else b
def pauseD (h : HushD) (now t most mark : Int) : HushD := if t < 1 then h else ⟨held (now + leastI t most), h.off, mark⟩
def silenceD (h : HushD) (now t most : Int) : HushD := if t < 1 then h else ⟨h.til, held (now + leastI t most), h.mark⟩
def breakD (h : HushD) (now p : Int) : HushD := if now < h.til ∧ h.mark < p then ⟨now, h.off, h.mark⟩ else h
theorem leastI_i64 {a b : Int} (ha : I64 a) (hb : I64 b) : I64 (leastI a b) := by unfold leastI; split; exact ha; exact hb

end Go.Proofs.Ytnmlaobiljmgaaa
