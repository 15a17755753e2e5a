/-
  No cell of these rows narrows 'for every input' (looked for: loops, veiled, ifaces, maps, wideKeys, modest, calm, conditions, laid).
  DERIVED. THE GIVEN ROWS OF THIS SEAT. 7 by the template 'for every input the law returns true; each argument reads behind the call as it read before'; 0 by the template 'total and deterministic' (their statements: YtaakmlgkfbpdoaaTotals.lean).
  GIVEN WITH THE SEED: the statements are not yours to turn. If you find one false, say at which input.
  Laid BY PROGRAM, IN A SANDBOX (cutbox-rows.mjs): the forced cells as the released guide's own fill.sh prints them over the translation 5ebeb050c7131827… (all of the seat's roots in one cut). By AI agents, Wed Nov 11 2026. No macro, syntax, notation, axiom, sorry.
-/
import Derived.Test.YtaakmlgkfbpdoaaChecked
import GoSem.Claim
import GoSem.ClaimJoined
import GoSem.ClaimMapViews
import Derived.JoinedTies
import Derived.KernelRfl
namespace Go.Proofs.Ytaakmlgkfbpdoaa
/- THE CELL 'sum', in the pinned program and in every row, IS THE sha256 OF THE DUMP (.gsa) THAT YtaakmlgkfbpdoaaProg.lean LOADS. Nothing in Lean hashes anything: it is a label: what it is worth is what the hold of that sum in a sandbox is worth. -/
noncomputable def Try.pinned : Pinned := { name := "ytaakmlgkfbpdoaa", sum := "5ebeb050c7131827efd2d91b63d893fd105956ae2e0d822d6e823a9805fc6b04", checked := Try.checked }
namespace Rows
def none {H : Type} : Left H := { results := [], args := [] }

/-- 'handbelllaw07.CheckRule': WHATEVER THE INPUT: true; the input reads as it did. -/
def checkRuleSpec : ChangeSpec := { name := "checkRule", fn := fun _ => fun
  | [d1, d2, d3, d4, d5] => { results := [.lit (.bool true)], args := [d1, d2, d3, d4, d5] }
  | _ => none }
def checkRuleRow : OpenClaim := { program := "ytaakmlgkfbpdoaa", sum := "5ebeb050c7131827efd2d91b63d893fd105956ae2e0d822d6e823a9805fc6b04", func := "handbell/handbelllaw07.CheckRule", spec := "checkRule", unfollowed := true, recurses := true, apart := false }
def CheckRuleSaid : Prop := checkRuleRow.holds Try.pinned (OpenSpec.ofChange checkRuleSpec)

/-- ITS FALSE NEIGHBOUR: 'it returns false'. Refute it at one input. -/
def checkRuleWrong : ChangeSpec := { name := "checkRule", fn := fun _ => fun
  | [d1, d2, d3, d4, d5] => { results := [.lit (.bool false)], args := [d1, d2, d3, d4, d5] }
  | _ => none }
def CheckRuleWrongFalsely : Prop := checkRuleRow.holds Try.pinned (OpenSpec.ofChange checkRuleWrong)

/-- 'handbelllaw07.CheckRest': WHATEVER THE INPUT: true; the input reads as it did. -/
def checkRestSpec : ChangeSpec := { name := "checkRest", fn := fun _ => fun
  | [d1, d2, d3, d4] => { results := [.lit (.bool true)], args := [d1, d2, d3, d4] }
  | _ => none }
def checkRestRow : OpenClaim := { program := "ytaakmlgkfbpdoaa", sum := "5ebeb050c7131827efd2d91b63d893fd105956ae2e0d822d6e823a9805fc6b04", func := "handbell/handbelllaw07.CheckRest", spec := "checkRest", unfollowed := true, recurses := true, apart := false }
def CheckRestSaid : Prop := checkRestRow.holds Try.pinned (OpenSpec.ofChange checkRestSpec)

/-- ITS FALSE NEIGHBOUR: 'it returns false'. Refute it at one input. -/
def checkRestWrong : ChangeSpec := { name := "checkRest", fn := fun _ => fun
  | [d1, d2, d3, d4] => { results := [.lit (.bool false)], args := [d1, d2, d3, d4] }
  | _ => none }
def CheckRestWrongFalsely : Prop := checkRestRow.holds Try.pinned (OpenSpec.ofChange checkRestWrong)

/-- 'handbelllaw09.SampleBack': WHATEVER THE INPUT: true; the input reads as it did. -/
def sampleBackSpec : ChangeSpec := { name := "sampleBack", fn := fun _ => fun
  | [d1, d2, d3, d4] => { results := [.lit (.bool true)], args := [d1, d2, d3, d4] }
  | _ => none }
def sampleBackRow : OpenClaim := { program := "ytaakmlgkfbpdoaa", sum := "5ebeb050c7131827efd2d91b63d893fd105956ae2e0d822d6e823a9805fc6b04", func := "handbell/handbelllaw09.SampleBack", spec := "sampleBack", apart := false }
def SampleBackSaid : Prop := sampleBackRow.holds Try.pinned (OpenSpec.ofChange sampleBackSpec)

/-- ITS FALSE NEIGHBOUR: 'it returns false'. Refute it at one input. -/
def sampleBackWrong : ChangeSpec := { name := "sampleBack", fn := fun _ => fun
  | [d1, d2, d3, d4] => { results := [.lit (.bool false)], args := [d1, d2, d3, d4] }
  | _ => none }
def SampleBackWrongFalsely : Prop := sampleBackRow.holds Try.pinned (OpenSpec.ofChange sampleBackWrong)

/-- 'handbelllaw09.SampleReads': WHATEVER THE INPUT: true; the input reads as it did. -/
def sampleReadsSpec : ChangeSpec := { name := "sampleReads", fn := fun _ => fun
  | [d1, d2] => { results := [.lit (.bool true)], args := [d1, d2] }
  | _ => none }
def sampleReadsRow : OpenClaim := { program := "ytaakmlgkfbpdoaa", sum := "5ebeb050c7131827efd2d91b63d893fd105956ae2e0d822d6e823a9805fc6b04", func := "handbell/handbelllaw09.SampleReads", spec := "sampleReads", apart := false }
def SampleReadsSaid : Prop := sampleReadsRow.holds Try.pinned (OpenSpec.ofChange sampleReadsSpec)

/-- ITS FALSE NEIGHBOUR: 'it returns false'. Refute it at one input. -/
def sampleReadsWrong : ChangeSpec := { name := "sampleReads", fn := fun _ => fun
  | [d1, d2] => { results := [.lit (.bool false)], args := [d1, d2] }
  | _ => none }
def SampleReadsWrongFalsely : Prop := sampleReadsRow.holds Try.pinned (OpenSpec.ofChange sampleReadsWrong)

/-- 'handbelllaw09.SampleBytes': WHATEVER THE INPUT: true; the input reads as it did. -/
def sampleBytesSpec : ChangeSpec := { name := "sampleBytes", fn := fun _ => fun
  | [d1, d2, d3, d4] => { results := [.lit (.bool true)], args := [d1, d2, d3, d4] }
  | _ => none }
def sampleBytesRow : OpenClaim := { program := "ytaakmlgkfbpdoaa", sum := "5ebeb050c7131827efd2d91b63d893fd105956ae2e0d822d6e823a9805fc6b04", func := "handbell/handbelllaw09.SampleBytes", spec := "sampleBytes", apart := false }
def SampleBytesSaid : Prop := sampleBytesRow.holds Try.pinned (OpenSpec.ofChange sampleBytesSpec)

/-- ITS FALSE NEIGHBOUR: 'it returns false'. Refute it at one input. -/
def sampleBytesWrong : ChangeSpec := { name := "sampleBytes", fn := fun _ => fun
  | [d1, d2, d3, d4] => { results := [.lit (.bool false)], args := [d1, d2, d3, d4] }
  | _ => none }
def SampleBytesWrongFalsely : Prop := sampleBytesRow.holds Try.pinned (OpenSpec.ofChange sampleBytesWrong)

/-- 'handbelllaw09.SampleTracks': WHATEVER THE INPUT: true; the input reads as it did. -/
def sampleTracksSpec : ChangeSpec := { name := "sampleTracks", fn := fun _ => fun
  | [d1, d2, d3] => { results := [.lit (.bool true)], args := [d1, d2, d3] }
  | _ => none }
def sampleTracksRow : OpenClaim := { program := "ytaakmlgkfbpdoaa", sum := "5ebeb050c7131827efd2d91b63d893fd105956ae2e0d822d6e823a9805fc6b04", func := "handbell/handbelllaw09.SampleTracks", spec := "sampleTracks", apart := false }
def SampleTracksSaid : Prop := sampleTracksRow.holds Try.pinned (OpenSpec.ofChange sampleTracksSpec)

/-- ITS FALSE NEIGHBOUR: 'it returns false'. Refute it at one input. -/
def sampleTracksWrong : ChangeSpec := { name := "sampleTracks", fn := fun _ => fun
  | [d1, d2, d3] => { results := [.lit (.bool false)], args := [d1, d2, d3] }
  | _ => none }
def SampleTracksWrongFalsely : Prop := sampleTracksRow.holds Try.pinned (OpenSpec.ofChange sampleTracksWrong)

/-- 'handbelllaw09.SampleRuns': WHATEVER THE INPUT: true; the input reads as it did. -/
def sampleRunsSpec : ChangeSpec := { name := "sampleRuns", fn := fun _ => fun
  | [d1, d2, d3] => { results := [.lit (.bool true)], args := [d1, d2, d3] }
  | _ => none }
def sampleRunsRow : OpenClaim := { program := "ytaakmlgkfbpdoaa", sum := "5ebeb050c7131827efd2d91b63d893fd105956ae2e0d822d6e823a9805fc6b04", func := "handbell/handbelllaw09.SampleRuns", spec := "sampleRuns", apart := false }
def SampleRunsSaid : Prop := sampleRunsRow.holds Try.pinned (OpenSpec.ofChange sampleRunsSpec)

/-- ITS FALSE NEIGHBOUR: 'it returns false'. Refute it at one input. -/
def sampleRunsWrong : ChangeSpec := { name := "sampleRuns", fn := fun _ => fun
  | [d1, d2, d3] => { results := [.lit (.bool false)], args := [d1, d2, d3] }
  | _ => none }
def SampleRunsWrongFalsely : Prop := sampleRunsRow.holds Try.pinned (OpenSpec.ofChange sampleRunsWrong)

/- THE SECOND FORM. 'bulk': how many values and letters a reading holds, each counted each time it is reached (what is shared counts as often as it is met; a slice's spare places count too). A statement '..UptoSaid' is the law's where the arguments, and the package variables that the reading takes, are together of bulk at most 1048576: NARROWER than '..Said'. Prove '..Said' where nothing that the law and all that it calls make is longer than what came in: it says more and counts as full. Else prove '..UptoSaid'. A law counts once. -/
mutual
def uptoBulk {H : Type} : DataW H → Nat
  | .lit (.string bytes) => bytes.length + 1
  | .lit _ => 1
  | .nil => 1
  | .ptr d => uptoBulk d + 1
  | .slice elems spare => uptoBulkAll elems + uptoBulkAll spare + 1
  | .agg parts => uptoBulkAll parts + 1
  | .iface _ d => uptoBulk d + 1
  | .map entries => uptoBulkEntries entries + 1
  | .held _ => 1
def uptoBulkAll {H : Type} : List (DataW H) → Nat
  | [] => 0
  | d :: r => uptoBulk d + uptoBulkAll r
def uptoBulkEntries {H : Type} : List (Lit × DataW H) → Nat
  | [] => 0
  | x :: r => uptoBulkEntry x + uptoBulkEntries r
def uptoBulkEntry {H : Type} : Lit × DataW H → Nat
  | (.string bytes, d) => bytes.length + uptoBulk d + 1
  | (_, d) => uptoBulk d + 1
 end
def uptoSmall : (H : Type) → List (DataW H) → Bool := fun _ ds => decide (uptoBulkAll ds ≤ 1048576)
def OpenSpec.upto (s : _root_.Go.ChangeSpec) : _root_.Go.OpenSpec := { _root_.Go.OpenSpec.ofChange s with cond := some uptoSmall }

/-- 'handbelllaw07.CheckRule', WHERE WHAT IT READS IS OF BULK AT MOST 1048576: true; the input reads as it did. -/
def checkRuleUptoRow : OpenClaim := { program := "ytaakmlgkfbpdoaa", sum := "5ebeb050c7131827efd2d91b63d893fd105956ae2e0d822d6e823a9805fc6b04", func := "handbell/handbelllaw07.CheckRule", spec := "checkRule", unfollowed := true, recurses := true, apart := false, narrowed := true }
def CheckRuleUptoSaid : Prop := checkRuleUptoRow.holds Try.pinned (OpenSpec.upto checkRuleSpec)

/-- 'handbelllaw07.CheckRest', WHERE WHAT IT READS IS OF BULK AT MOST 1048576: true; the input reads as it did. -/
def checkRestUptoRow : OpenClaim := { program := "ytaakmlgkfbpdoaa", sum := "5ebeb050c7131827efd2d91b63d893fd105956ae2e0d822d6e823a9805fc6b04", func := "handbell/handbelllaw07.CheckRest", spec := "checkRest", unfollowed := true, recurses := true, apart := false, narrowed := true }
def CheckRestUptoSaid : Prop := checkRestUptoRow.holds Try.pinned (OpenSpec.upto checkRestSpec)

/-- 'handbelllaw09.SampleBack', WHERE WHAT IT READS IS OF BULK AT MOST 1048576: true; the input reads as it did. -/
def sampleBackUptoRow : OpenClaim := { program := "ytaakmlgkfbpdoaa", sum := "5ebeb050c7131827efd2d91b63d893fd105956ae2e0d822d6e823a9805fc6b04", func := "handbell/handbelllaw09.SampleBack", spec := "sampleBack", apart := false, narrowed := true }
def SampleBackUptoSaid : Prop := sampleBackUptoRow.holds Try.pinned (OpenSpec.upto sampleBackSpec)

/-- 'handbelllaw09.SampleReads', WHERE WHAT IT READS IS OF BULK AT MOST 1048576: true; the input reads as it did. -/
def sampleReadsUptoRow : OpenClaim := { program := "ytaakmlgkfbpdoaa", sum := "5ebeb050c7131827efd2d91b63d893fd105956ae2e0d822d6e823a9805fc6b04", func := "handbell/handbelllaw09.SampleReads", spec := "sampleReads", apart := false, narrowed := true }
def SampleReadsUptoSaid : Prop := sampleReadsUptoRow.holds Try.pinned (OpenSpec.upto sampleReadsSpec)

/-- 'handbelllaw09.SampleBytes', WHERE WHAT IT READS IS OF BULK AT MOST 1048576: true; the input reads as it did. -/
def sampleBytesUptoRow : OpenClaim := { program := "ytaakmlgkfbpdoaa", sum := "5ebeb050c7131827efd2d91b63d893fd105956ae2e0d822d6e823a9805fc6b04", func := "handbell/handbelllaw09.SampleBytes", spec := "sampleBytes", apart := false, narrowed := true }
def SampleBytesUptoSaid : Prop := sampleBytesUptoRow.holds Try.pinned (OpenSpec.upto sampleBytesSpec)

/-- 'handbelllaw09.SampleTracks', WHERE WHAT IT READS IS OF BULK AT MOST 1048576: true; the input reads as it did. -/
def sampleTracksUptoRow : OpenClaim := { program := "ytaakmlgkfbpdoaa", sum := "5ebeb050c7131827efd2d91b63d893fd105956ae2e0d822d6e823a9805fc6b04", func := "handbell/handbelllaw09.SampleTracks", spec := "sampleTracks", apart := false, narrowed := true }
def SampleTracksUptoSaid : Prop := sampleTracksUptoRow.holds Try.pinned (OpenSpec.upto sampleTracksSpec)

/-- 'handbelllaw09.SampleRuns', WHERE WHAT IT READS IS OF BULK AT MOST 1048576: true; the input reads as it did. -/
def sampleRunsUptoRow : OpenClaim := { program := "ytaakmlgkfbpdoaa", sum := "5ebeb050c7131827efd2d91b63d893fd105956ae2e0d822d6e823a9805fc6b04", func := "handbell/handbelllaw09.SampleRuns", spec := "sampleRuns", apart := false, narrowed := true }
def SampleRunsUptoSaid : Prop := sampleRunsUptoRow.holds Try.pinned (OpenSpec.upto sampleRunsSpec)

end Rows
end Go.Proofs.Ytaakmlgkfbpdoaa
