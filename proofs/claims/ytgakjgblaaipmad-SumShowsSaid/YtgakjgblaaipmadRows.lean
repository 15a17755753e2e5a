/-
  No cell of these rows narrows 'for every input' (looked for: loops, veiled, ifaces, maps, wideKeys, modest, calm, conditions, laid).
  DERIVED. THE GIVEN ROWS OF THIS SEAT. 5 by the template 'for every input the law returns true; each argument reads behind the call as it read before'; 0 by the template 'total and deterministic' (their statements: YtgakjgblaaipmadTotals.lean).
  GIVEN WITH THE SEED: the statements are not yours to turn. If you find one false, say at which input.
  Laid BY PROGRAM, IN A SANDBOX (cutbox-rows.mjs): the forced cells as the released guide's own fill.sh prints them over the translation 00282925e9b5e7cd… (all of the seat's roots in one cut). By AI agents, Wed Nov 11 2026. No macro, syntax, notation, axiom, sorry.
-/
import Derived.Test.YtgakjgblaaipmadChecked
import GoSem.Claim
import GoSem.ClaimJoined
import GoSem.ClaimMapViews
import Derived.JoinedTies
import Derived.KernelRfl
namespace Go.Proofs.Ytgakjgblaaipmad
/- THE CELL 'sum', in the pinned program and in every row, IS THE sha256 OF THE DUMP (.gsa) THAT YtgakjgblaaipmadProg.lean LOADS. Nothing in Lean hashes anything: it is a label: what it is worth is what the hold of that sum in a sandbox is worth. -/
noncomputable def Try.pinned : Pinned := { name := "ytgakjgblaaipmad", sum := "00282925e9b5e7cda0e3e5486168c791f217dc10f5a6ed77a38a0d6b91fa00db", checked := Try.checked }
namespace Rows
def none {H : Type} : Left H := { results := [], args := [] }

/-- 'handbelllaw04.SumOf': WHATEVER THE INPUT: true; the input reads as it did. -/
def sumOfSpec : ChangeSpec := { name := "sumOf", fn := fun _ => fun
  | [d] => { results := [.lit (.bool true)], args := [d] }
  | _ => none }
def sumOfRow : OpenClaim := { program := "ytgakjgblaaipmad", sum := "00282925e9b5e7cda0e3e5486168c791f217dc10f5a6ed77a38a0d6b91fa00db", func := "handbell/handbelllaw04.SumOf", spec := "sumOf", apart := false }
def SumOfSaid : Prop := sumOfRow.holds Try.pinned (OpenSpec.ofChange sumOfSpec)

/-- ITS FALSE NEIGHBOUR: 'it returns false'. Refute it at one input. -/
def sumOfWrong : ChangeSpec := { name := "sumOf", fn := fun _ => fun
  | [d] => { results := [.lit (.bool false)], args := [d] }
  | _ => none }
def SumOfWrongFalsely : Prop := sumOfRow.holds Try.pinned (OpenSpec.ofChange sumOfWrong)

/-- 'handbelllaw04.SumBack': WHATEVER THE INPUT: true; the input reads as it did. -/
def sumBackSpec : ChangeSpec := { name := "sumBack", fn := fun _ => fun
  | [d] => { results := [.lit (.bool true)], args := [d] }
  | _ => none }
def sumBackRow : OpenClaim := { program := "ytgakjgblaaipmad", sum := "00282925e9b5e7cda0e3e5486168c791f217dc10f5a6ed77a38a0d6b91fa00db", func := "handbell/handbelllaw04.SumBack", spec := "sumBack", apart := false }
def SumBackSaid : Prop := sumBackRow.holds Try.pinned (OpenSpec.ofChange sumBackSpec)

/-- ITS FALSE NEIGHBOUR: 'it returns false'. Refute it at one input. -/
def sumBackWrong : ChangeSpec := { name := "sumBack", fn := fun _ => fun
  | [d] => { results := [.lit (.bool false)], args := [d] }
  | _ => none }
def SumBackWrongFalsely : Prop := sumBackRow.holds Try.pinned (OpenSpec.ofChange sumBackWrong)

/-- 'handbelllaw04.SumOpens': WHATEVER THE INPUT: true; the input reads as it did. -/
def sumOpensSpec : ChangeSpec := { name := "sumOpens", fn := fun _ => fun
  | [d] => { results := [.lit (.bool true)], args := [d] }
  | _ => none }
def sumOpensRow : OpenClaim := { program := "ytgakjgblaaipmad", sum := "00282925e9b5e7cda0e3e5486168c791f217dc10f5a6ed77a38a0d6b91fa00db", func := "handbell/handbelllaw04.SumOpens", spec := "sumOpens", apart := false }
def SumOpensSaid : Prop := sumOpensRow.holds Try.pinned (OpenSpec.ofChange sumOpensSpec)

/-- ITS FALSE NEIGHBOUR: 'it returns false'. Refute it at one input. -/
def sumOpensWrong : ChangeSpec := { name := "sumOpens", fn := fun _ => fun
  | [d] => { results := [.lit (.bool false)], args := [d] }
  | _ => none }
def SumOpensWrongFalsely : Prop := sumOpensRow.holds Try.pinned (OpenSpec.ofChange sumOpensWrong)

/-- 'handbelllaw04.SumShows': WHATEVER THE INPUT: true; the input reads as it did. -/
def sumShowsSpec : ChangeSpec := { name := "sumShows", fn := fun _ => fun
  | [d1, d2, d3, d4] => { results := [.lit (.bool true)], args := [d1, d2, d3, d4] }
  | _ => none }
def sumShowsRow : OpenClaim := { program := "ytgakjgblaaipmad", sum := "00282925e9b5e7cda0e3e5486168c791f217dc10f5a6ed77a38a0d6b91fa00db", func := "handbell/handbelllaw04.SumShows", spec := "sumShows", apart := false }
def SumShowsSaid : Prop := sumShowsRow.holds Try.pinned (OpenSpec.ofChange sumShowsSpec)

/-- ITS FALSE NEIGHBOUR: 'it returns false'. Refute it at one input. -/
def sumShowsWrong : ChangeSpec := { name := "sumShows", fn := fun _ => fun
  | [d1, d2, d3, d4] => { results := [.lit (.bool false)], args := [d1, d2, d3, d4] }
  | _ => none }
def SumShowsWrongFalsely : Prop := sumShowsRow.holds Try.pinned (OpenSpec.ofChange sumShowsWrong)

/-- 'handbelllaw04.SumClosed': WHATEVER THE INPUT: true; the input reads as it did. -/
def sumClosedSpec : ChangeSpec := { name := "sumClosed", fn := fun _ => fun
  | [d] => { results := [.lit (.bool true)], args := [d] }
  | _ => none }
def sumClosedRow : OpenClaim := { program := "ytgakjgblaaipmad", sum := "00282925e9b5e7cda0e3e5486168c791f217dc10f5a6ed77a38a0d6b91fa00db", func := "handbell/handbelllaw04.SumClosed", spec := "sumClosed", apart := false }
def SumClosedSaid : Prop := sumClosedRow.holds Try.pinned (OpenSpec.ofChange sumClosedSpec)

/-- ITS FALSE NEIGHBOUR: 'it returns false'. Refute it at one input. -/
def sumClosedWrong : ChangeSpec := { name := "sumClosed", fn := fun _ => fun
  | [d] => { results := [.lit (.bool false)], args := [d] }
  | _ => none }
def SumClosedWrongFalsely : Prop := sumClosedRow.holds Try.pinned (OpenSpec.ofChange sumClosedWrong)

/- THE SECOND FORM. 'bulk': how many values and letters a reading holds, each counted each time it is reached (what is shared counts as often as it is met; a slice's spare places count too). A statement '..UptoSaid' is the law's where the arguments, and the package variables that the reading takes, are together of bulk at most 1048576: NARROWER than '..Said'. Prove '..Said' where nothing that the law and all that it calls make is longer than what came in: it says more and counts as full. Else prove '..UptoSaid'. A law counts once. -/
mutual
def uptoBulk {H : Type} : DataW H → Nat
  | .lit (.string bytes) => bytes.length + 1
  | .lit _ => 1
  | .nil => 1
  | .ptr d => uptoBulk d + 1
  | .slice elems spare => uptoBulkAll elems + uptoBulkAll spare + 1
  | .agg parts => uptoBulkAll parts + 1
  | .iface _ d => uptoBulk d + 1
  | .map entries => uptoBulkEntries entries + 1
  | .held _ => 1
def uptoBulkAll {H : Type} : List (DataW H) → Nat
  | [] => 0
  | d :: r => uptoBulk d + uptoBulkAll r
def uptoBulkEntries {H : Type} : List (Lit × DataW H) → Nat
  | [] => 0
  | x :: r => uptoBulkEntry x + uptoBulkEntries r
def uptoBulkEntry {H : Type} : Lit × DataW H → Nat
  | (.string bytes, d) => bytes.length + uptoBulk d + 1
  | (_, d) => uptoBulk d + 1
 end
def uptoSmall : (H : Type) → List (DataW H) → Bool := fun _ ds => decide (uptoBulkAll ds ≤ 1048576)
def OpenSpec.upto (s : _root_.Go.ChangeSpec) : _root_.Go.OpenSpec := { _root_.Go.OpenSpec.ofChange s with cond := some uptoSmall }

/-- 'handbelllaw04.SumOf', WHERE WHAT IT READS IS OF BULK AT MOST 1048576: true; the input reads as it did. -/
def sumOfUptoRow : OpenClaim := { program := "ytgakjgblaaipmad", sum := "00282925e9b5e7cda0e3e5486168c791f217dc10f5a6ed77a38a0d6b91fa00db", func := "handbell/handbelllaw04.SumOf", spec := "sumOf", apart := false, narrowed := true }
def SumOfUptoSaid : Prop := sumOfUptoRow.holds Try.pinned (OpenSpec.upto sumOfSpec)

/-- 'handbelllaw04.SumBack', WHERE WHAT IT READS IS OF BULK AT MOST 1048576: true; the input reads as it did. -/
def sumBackUptoRow : OpenClaim := { program := "ytgakjgblaaipmad", sum := "00282925e9b5e7cda0e3e5486168c791f217dc10f5a6ed77a38a0d6b91fa00db", func := "handbell/handbelllaw04.SumBack", spec := "sumBack", apart := false, narrowed := true }
def SumBackUptoSaid : Prop := sumBackUptoRow.holds Try.pinned (OpenSpec.upto sumBackSpec)

/-- 'handbelllaw04.SumOpens', WHERE WHAT IT READS IS OF BULK AT MOST 1048576: true; the input reads as it did. -/
def sumOpensUptoRow : OpenClaim := { program := "ytgakjgblaaipmad", sum := "00282925e9b5e7cda0e3e5486168c791f217dc10f5a6ed77a38a0d6b91fa00db", func := "handbell/handbelllaw04.SumOpens", spec := "sumOpens", apart := false, narrowed := true }
def SumOpensUptoSaid : Prop := sumOpensUptoRow.holds Try.pinned (OpenSpec.upto sumOpensSpec)

/-- 'handbelllaw04.SumShows', WHERE WHAT IT READS IS OF BULK AT MOST 1048576: true; the input reads as it did. -/
def sumShowsUptoRow : OpenClaim := { program := "ytgakjgblaaipmad", sum := "00282925e9b5e7cda0e3e5486168c791f217dc10f5a6ed77a38a0d6b91fa00db", func := "handbell/handbelllaw04.SumShows", spec := "sumShows", apart := false, narrowed := true }
def SumShowsUptoSaid : Prop := sumShowsUptoRow.holds Try.pinned (OpenSpec.upto sumShowsSpec)

/-- 'handbelllaw04.SumClosed', WHERE WHAT IT READS IS OF BULK AT MOST 1048576: true; the input reads as it did. -/
def sumClosedUptoRow : OpenClaim := { program := "ytgakjgblaaipmad", sum := "00282925e9b5e7cda0e3e5486168c791f217dc10f5a6ed77a38a0d6b91fa00db", func := "handbell/handbelllaw04.SumClosed", spec := "sumClosed", apart := false, narrowed := true }
def SumClosedUptoSaid : Prop := sumClosedUptoRow.holds Try.pinned (OpenSpec.upto sumClosedSpec)

end Rows
end Go.Proofs.Ytgakjgblaaipmad
