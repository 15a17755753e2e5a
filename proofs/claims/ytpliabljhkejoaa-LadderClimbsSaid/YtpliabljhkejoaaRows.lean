/-
  No cell of these rows narrows 'for every input' (looked for: loops, veiled, ifaces, maps, wideKeys, modest, calm, conditions, laid).
  DERIVED. THE GIVEN ROWS OF THIS SEAT. 5 by the template 'for every input the law returns true; each argument reads behind the call as it read before'; 0 by the template 'total and deterministic' (their statements: YtpliabljhkejoaaTotals.lean).
  GIVEN WITH THE SEED: the statements are not yours to turn. If you find one false, say at which input.
  Laid BY PROGRAM, IN A SANDBOX (cutbox-rows.mjs): the forced cells as the released guide's own fill.sh prints them over the translation cddb9d9352b0321c… (all of the seat's roots in one cut). By AI agents, Wed Nov 11 2026. No macro, syntax, notation, axiom, sorry.
-/
import Derived.Test.YtpliabljhkejoaaChecked
import GoSem.Claim
import GoSem.ClaimJoined
import GoSem.ClaimMapViews
import Derived.JoinedTies
import Derived.KernelRfl
namespace Go.Proofs.Ytpliabljhkejoaa
/- THE CELL 'sum', in the pinned program and in every row, IS THE sha256 OF THE DUMP (.gsa) THAT YtpliabljhkejoaaProg.lean LOADS. Nothing in Lean hashes anything: it is a label: what it is worth is what the hold of that sum in a sandbox is worth. -/
noncomputable def Try.pinned : Pinned := { name := "ytpliabljhkejoaa", sum := "cddb9d9352b0321ccc0868775b7966e6aa47802a15ca97310e9d1ec530b885e8", checked := Try.checked }
namespace Rows
def none {H : Type} : Left H := { results := [], args := [] }

/-- 'handbelllaw16.LadderSums': WHATEVER THE INPUT: true; the input reads as it did. -/
def ladderSumsSpec : ChangeSpec := { name := "ladderSums", fn := fun _ => fun
  | [d1, d2, d3, d4] => { results := [.lit (.bool true)], args := [d1, d2, d3, d4] }
  | _ => none }
def ladderSumsRow : OpenClaim := { program := "ytpliabljhkejoaa", sum := "cddb9d9352b0321ccc0868775b7966e6aa47802a15ca97310e9d1ec530b885e8", func := "handbell/handbelllaw16.LadderSums", spec := "ladderSums", apart := false }
def LadderSumsSaid : Prop := ladderSumsRow.holds Try.pinned (OpenSpec.ofChange ladderSumsSpec)

/-- ITS FALSE NEIGHBOUR: 'it returns false'. Refute it at one input. -/
def ladderSumsWrong : ChangeSpec := { name := "ladderSums", fn := fun _ => fun
  | [d1, d2, d3, d4] => { results := [.lit (.bool false)], args := [d1, d2, d3, d4] }
  | _ => none }
def LadderSumsWrongFalsely : Prop := ladderSumsRow.holds Try.pinned (OpenSpec.ofChange ladderSumsWrong)

/-- 'handbelllaw16.LadderReaches': WHATEVER THE INPUT: true; the input reads as it did. -/
def ladderReachesSpec : ChangeSpec := { name := "ladderReaches", fn := fun _ => fun
  | [d1, d2, d3] => { results := [.lit (.bool true)], args := [d1, d2, d3] }
  | _ => none }
def ladderReachesRow : OpenClaim := { program := "ytpliabljhkejoaa", sum := "cddb9d9352b0321ccc0868775b7966e6aa47802a15ca97310e9d1ec530b885e8", func := "handbell/handbelllaw16.LadderReaches", spec := "ladderReaches", apart := false }
def LadderReachesSaid : Prop := ladderReachesRow.holds Try.pinned (OpenSpec.ofChange ladderReachesSpec)

/-- ITS FALSE NEIGHBOUR: 'it returns false'. Refute it at one input. -/
def ladderReachesWrong : ChangeSpec := { name := "ladderReaches", fn := fun _ => fun
  | [d1, d2, d3] => { results := [.lit (.bool false)], args := [d1, d2, d3] }
  | _ => none }
def LadderReachesWrongFalsely : Prop := ladderReachesRow.holds Try.pinned (OpenSpec.ofChange ladderReachesWrong)

/-- 'handbelllaw16.LadderPriorities': WHATEVER THE INPUT: true; the input reads as it did. -/
def ladderPrioritiesSpec : ChangeSpec := { name := "ladderPriorities", fn := fun _ => fun
  | [d1, d2, d3] => { results := [.lit (.bool true)], args := [d1, d2, d3] }
  | _ => none }
def ladderPrioritiesRow : OpenClaim := { program := "ytpliabljhkejoaa", sum := "cddb9d9352b0321ccc0868775b7966e6aa47802a15ca97310e9d1ec530b885e8", func := "handbell/handbelllaw16.LadderPriorities", spec := "ladderPriorities", apart := false }
def LadderPrioritiesSaid : Prop := ladderPrioritiesRow.holds Try.pinned (OpenSpec.ofChange ladderPrioritiesSpec)

/-- ITS FALSE NEIGHBOUR: 'it returns false'. Refute it at one input. -/
def ladderPrioritiesWrong : ChangeSpec := { name := "ladderPriorities", fn := fun _ => fun
  | [d1, d2, d3] => { results := [.lit (.bool false)], args := [d1, d2, d3] }
  | _ => none }
def LadderPrioritiesWrongFalsely : Prop := ladderPrioritiesRow.holds Try.pinned (OpenSpec.ofChange ladderPrioritiesWrong)

/-- 'handbelllaw16.LadderClimbs': WHATEVER THE INPUT: true; the input reads as it did. -/
def ladderClimbsSpec : ChangeSpec := { name := "ladderClimbs", fn := fun _ => fun
  | [d1, d2, d3, d4, d5, d6, d7, d8] => { results := [.lit (.bool true)], args := [d1, d2, d3, d4, d5, d6, d7, d8] }
  | _ => none }
def ladderClimbsRow : OpenClaim := { program := "ytpliabljhkejoaa", sum := "cddb9d9352b0321ccc0868775b7966e6aa47802a15ca97310e9d1ec530b885e8", func := "handbell/handbelllaw16.LadderClimbs", spec := "ladderClimbs", apart := false }
def LadderClimbsSaid : Prop := ladderClimbsRow.holds Try.pinned (OpenSpec.ofChange ladderClimbsSpec)

/-- ITS FALSE NEIGHBOUR: 'it returns false'. Refute it at one input. -/
def ladderClimbsWrong : ChangeSpec := { name := "ladderClimbs", fn := fun _ => fun
  | [d1, d2, d3, d4, d5, d6, d7, d8] => { results := [.lit (.bool false)], args := [d1, d2, d3, d4, d5, d6, d7, d8] }
  | _ => none }
def LadderClimbsWrongFalsely : Prop := ladderClimbsRow.holds Try.pinned (OpenSpec.ofChange ladderClimbsWrong)

/-- 'handbelllaw16.LadderGrows': WHATEVER THE INPUT: true; the input reads as it did. -/
def ladderGrowsSpec : ChangeSpec := { name := "ladderGrows", fn := fun _ => fun
  | [d1, d2, d3] => { results := [.lit (.bool true)], args := [d1, d2, d3] }
  | _ => none }
def ladderGrowsRow : OpenClaim := { program := "ytpliabljhkejoaa", sum := "cddb9d9352b0321ccc0868775b7966e6aa47802a15ca97310e9d1ec530b885e8", func := "handbell/handbelllaw16.LadderGrows", spec := "ladderGrows", apart := false }
def LadderGrowsSaid : Prop := ladderGrowsRow.holds Try.pinned (OpenSpec.ofChange ladderGrowsSpec)

/-- ITS FALSE NEIGHBOUR: 'it returns false'. Refute it at one input. -/
def ladderGrowsWrong : ChangeSpec := { name := "ladderGrows", fn := fun _ => fun
  | [d1, d2, d3] => { results := [.lit (.bool false)], args := [d1, d2, d3] }
  | _ => none }
def LadderGrowsWrongFalsely : Prop := ladderGrowsRow.holds Try.pinned (OpenSpec.ofChange ladderGrowsWrong)

/- THE SECOND FORM. 'bulk': how many values and letters a reading holds, each counted each time it is reached (what is shared counts as often as it is met; a slice's spare places count too). A statement '..UptoSaid' is the law's where the arguments, and the package variables that the reading takes, are together of bulk at most 1048576: NARROWER than '..Said'. Prove '..Said' where nothing that the law and all that it calls make is longer than what came in: it says more and counts as full. Else prove '..UptoSaid'. A law counts once. -/
mutual
def uptoBulk {H : Type} : DataW H → Nat
  | .lit (.string bytes) => bytes.length + 1
  | .lit _ => 1
  | .nil => 1
  | .ptr d => uptoBulk d + 1
  | .slice elems spare => uptoBulkAll elems + uptoBulkAll spare + 1
  | .agg parts => uptoBulkAll parts + 1
  | .iface _ d => uptoBulk d + 1
  | .map entries => uptoBulkEntries entries + 1
  | .held _ => 1
def uptoBulkAll {H : Type} : List (DataW H) → Nat
  | [] => 0
  | d :: r => uptoBulk d + uptoBulkAll r
def uptoBulkEntries {H : Type} : List (Lit × DataW H) → Nat
  | [] => 0
  | x :: r => uptoBulkEntry x + uptoBulkEntries r
def uptoBulkEntry {H : Type} : Lit × DataW H → Nat
  | (.string bytes, d) => bytes.length + uptoBulk d + 1
  | (_, d) => uptoBulk d + 1
 end
def uptoSmall : (H : Type) → List (DataW H) → Bool := fun _ ds => decide (uptoBulkAll ds ≤ 1048576)
def OpenSpec.upto (s : _root_.Go.ChangeSpec) : _root_.Go.OpenSpec := { _root_.Go.OpenSpec.ofChange s with cond := some uptoSmall }

/-- 'handbelllaw16.LadderSums', WHERE WHAT IT READS IS OF BULK AT MOST 1048576: true; the input reads as it did. -/
def ladderSumsUptoRow : OpenClaim := { program := "ytpliabljhkejoaa", sum := "cddb9d9352b0321ccc0868775b7966e6aa47802a15ca97310e9d1ec530b885e8", func := "handbell/handbelllaw16.LadderSums", spec := "ladderSums", apart := false, narrowed := true }
def LadderSumsUptoSaid : Prop := ladderSumsUptoRow.holds Try.pinned (OpenSpec.upto ladderSumsSpec)

/-- 'handbelllaw16.LadderReaches', WHERE WHAT IT READS IS OF BULK AT MOST 1048576: true; the input reads as it did. -/
def ladderReachesUptoRow : OpenClaim := { program := "ytpliabljhkejoaa", sum := "cddb9d9352b0321ccc0868775b7966e6aa47802a15ca97310e9d1ec530b885e8", func := "handbell/handbelllaw16.LadderReaches", spec := "ladderReaches", apart := false, narrowed := true }
def LadderReachesUptoSaid : Prop := ladderReachesUptoRow.holds Try.pinned (OpenSpec.upto ladderReachesSpec)

/-- 'handbelllaw16.LadderPriorities', WHERE WHAT IT READS IS OF BULK AT MOST 1048576: true; the input reads as it did. -/
def ladderPrioritiesUptoRow : OpenClaim := { program := "ytpliabljhkejoaa", sum := "cddb9d9352b0321ccc0868775b7966e6aa47802a15ca97310e9d1ec530b885e8", func := "handbell/handbelllaw16.LadderPriorities", spec := "ladderPriorities", apart := false, narrowed := true }
def LadderPrioritiesUptoSaid : Prop := ladderPrioritiesUptoRow.holds Try.pinned (OpenSpec.upto ladderPrioritiesSpec)

/-- 'handbelllaw16.LadderClimbs', WHERE WHAT IT READS IS OF BULK AT MOST 1048576: true; the input reads as it did. -/
def ladderClimbsUptoRow : OpenClaim := { program := "ytpliabljhkejoaa", sum := "cddb9d9352b0321ccc0868775b7966e6aa47802a15ca97310e9d1ec530b885e8", func := "handbell/handbelllaw16.LadderClimbs", spec := "ladderClimbs", apart := false, narrowed := true }
def LadderClimbsUptoSaid : Prop := ladderClimbsUptoRow.holds Try.pinned (OpenSpec.upto ladderClimbsSpec)

/-- 'handbelllaw16.LadderGrows', WHERE WHAT IT READS IS OF BULK AT MOST 1048576: true; the input reads as it did. -/
def ladderGrowsUptoRow : OpenClaim := { program := "ytpliabljhkejoaa", sum := "cddb9d9352b0321ccc0868775b7966e6aa47802a15ca97310e9d1ec530b885e8", func := "handbell/handbelllaw16.LadderGrows", spec := "ladderGrows", apart := false, narrowed := true }
def LadderGrowsUptoSaid : Prop := ladderGrowsUptoRow.holds Try.pinned (OpenSpec.upto ladderGrowsSpec)

end Rows
end Go.Proofs.Ytpliabljhkejoaa
