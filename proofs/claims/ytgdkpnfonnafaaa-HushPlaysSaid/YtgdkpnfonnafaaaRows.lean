/-
  No cell of these rows narrows 'for every input' (looked for: loops, veiled, ifaces, maps, wideKeys, modest, calm, conditions, laid).
  DERIVED. THE GIVEN ROWS OF THIS SEAT. 6 by the template 'for every input the law returns true; each argument reads behind the call as it read before'; 0 by the template 'total and deterministic' (their statements: YtgdkpnfonnafaaaTotals.lean).
  GIVEN WITH THE SEED: the statements are not yours to turn. If you find one false, say at which input.
  Laid BY PROGRAM, IN A SANDBOX (cutbox-rows.mjs): the forced cells as the released guide's own fill.sh prints them over the translation 62723e32e80a1b80… (all of the seat's roots in one cut). By AI agents, Wed Nov 11 2026. No macro, syntax, notation, axiom, sorry.
-/
import Derived.Test.YtgdkpnfonnafaaaChecked
import GoSem.Claim
import GoSem.ClaimJoined
import GoSem.ClaimMapViews
import Derived.JoinedTies
import Derived.KernelRfl
namespace Go.Proofs.Ytgdkpnfonnafaaa
/- THE CELL 'sum', in the pinned program and in every row, IS THE sha256 OF THE DUMP (.gsa) THAT YtgdkpnfonnafaaaProg.lean LOADS. Nothing in Lean hashes anything: it is a label: what it is worth is what the hold of that sum in a sandbox is worth. -/
noncomputable def Try.pinned : Pinned := { name := "ytgdkpnfonnafaaa", sum := "62723e32e80a1b8055d92bf54e5cfa4946db52f5804eefd8b2d8680971084b2e", checked := Try.checked }
namespace Rows
def none {H : Type} : Left H := { results := [], args := [] }

/-- 'handbelllaw17.HushPlays': WHATEVER THE INPUT: true; the input reads as it did. -/
def hushPlaysSpec : ChangeSpec := { name := "hushPlays", fn := fun _ => fun
  | [d1, d2] => { results := [.lit (.bool true)], args := [d1, d2] }
  | _ => none }
def hushPlaysRow : OpenClaim := { program := "ytgdkpnfonnafaaa", sum := "62723e32e80a1b8055d92bf54e5cfa4946db52f5804eefd8b2d8680971084b2e", func := "handbell/handbelllaw17.HushPlays", spec := "hushPlays", apart := false }
def HushPlaysSaid : Prop := hushPlaysRow.holds Try.pinned (OpenSpec.ofChange hushPlaysSpec)

/-- ITS FALSE NEIGHBOUR: 'it returns false'. Refute it at one input. -/
def hushPlaysWrong : ChangeSpec := { name := "hushPlays", fn := fun _ => fun
  | [d1, d2] => { results := [.lit (.bool false)], args := [d1, d2] }
  | _ => none }
def HushPlaysWrongFalsely : Prop := hushPlaysRow.holds Try.pinned (OpenSpec.ofChange hushPlaysWrong)

/-- 'handbelllaw17.HushRaw': WHATEVER THE INPUT: true; the input reads as it did. -/
def hushRawSpec : ChangeSpec := { name := "hushRaw", fn := fun _ => fun
  | [d1, d2, d3, d4, d5, d6, d7] => { results := [.lit (.bool true)], args := [d1, d2, d3, d4, d5, d6, d7] }
  | _ => none }
def hushRawRow : OpenClaim := { program := "ytgdkpnfonnafaaa", sum := "62723e32e80a1b8055d92bf54e5cfa4946db52f5804eefd8b2d8680971084b2e", func := "handbell/handbelllaw17.HushRaw", spec := "hushRaw", apart := false }
def HushRawSaid : Prop := hushRawRow.holds Try.pinned (OpenSpec.ofChange hushRawSpec)

/-- ITS FALSE NEIGHBOUR: 'it returns false'. Refute it at one input. -/
def hushRawWrong : ChangeSpec := { name := "hushRaw", fn := fun _ => fun
  | [d1, d2, d3, d4, d5, d6, d7] => { results := [.lit (.bool false)], args := [d1, d2, d3, d4, d5, d6, d7] }
  | _ => none }
def HushRawWrongFalsely : Prop := hushRawRow.holds Try.pinned (OpenSpec.ofChange hushRawWrong)

/-- 'handbelllaw17.HushEnds': WHATEVER THE INPUT: true; the input reads as it did. -/
def hushEndsSpec : ChangeSpec := { name := "hushEnds", fn := fun _ => fun
  | [d1, d2, d3, d4] => { results := [.lit (.bool true)], args := [d1, d2, d3, d4] }
  | _ => none }
def hushEndsRow : OpenClaim := { program := "ytgdkpnfonnafaaa", sum := "62723e32e80a1b8055d92bf54e5cfa4946db52f5804eefd8b2d8680971084b2e", func := "handbell/handbelllaw17.HushEnds", spec := "hushEnds", apart := false }
def HushEndsSaid : Prop := hushEndsRow.holds Try.pinned (OpenSpec.ofChange hushEndsSpec)

/-- ITS FALSE NEIGHBOUR: 'it returns false'. Refute it at one input. -/
def hushEndsWrong : ChangeSpec := { name := "hushEnds", fn := fun _ => fun
  | [d1, d2, d3, d4] => { results := [.lit (.bool false)], args := [d1, d2, d3, d4] }
  | _ => none }
def HushEndsWrongFalsely : Prop := hushEndsRow.holds Try.pinned (OpenSpec.ofChange hushEndsWrong)

/-- 'handbelllaw17.HushBreaks': WHATEVER THE INPUT: true; the input reads as it did. -/
def hushBreaksSpec : ChangeSpec := { name := "hushBreaks", fn := fun _ => fun
  | [d1, d2, d3, d4] => { results := [.lit (.bool true)], args := [d1, d2, d3, d4] }
  | _ => none }
def hushBreaksRow : OpenClaim := { program := "ytgdkpnfonnafaaa", sum := "62723e32e80a1b8055d92bf54e5cfa4946db52f5804eefd8b2d8680971084b2e", func := "handbell/handbelllaw17.HushBreaks", spec := "hushBreaks", apart := false }
def HushBreaksSaid : Prop := hushBreaksRow.holds Try.pinned (OpenSpec.ofChange hushBreaksSpec)

/-- ITS FALSE NEIGHBOUR: 'it returns false'. Refute it at one input. -/
def hushBreaksWrong : ChangeSpec := { name := "hushBreaks", fn := fun _ => fun
  | [d1, d2, d3, d4] => { results := [.lit (.bool false)], args := [d1, d2, d3, d4] }
  | _ => none }
def HushBreaksWrongFalsely : Prop := hushBreaksRow.holds Try.pinned (OpenSpec.ofChange hushBreaksWrong)

/-- 'handbelllaw17.HushNone': WHATEVER THE INPUT: true; the input reads as it did. -/
def hushNoneSpec : ChangeSpec := { name := "hushNone", fn := fun _ => fun
  | [d1, d2, d3, d4] => { results := [.lit (.bool true)], args := [d1, d2, d3, d4] }
  | _ => none }
def hushNoneRow : OpenClaim := { program := "ytgdkpnfonnafaaa", sum := "62723e32e80a1b8055d92bf54e5cfa4946db52f5804eefd8b2d8680971084b2e", func := "handbell/handbelllaw17.HushNone", spec := "hushNone", apart := false }
def HushNoneSaid : Prop := hushNoneRow.holds Try.pinned (OpenSpec.ofChange hushNoneSpec)

/-- ITS FALSE NEIGHBOUR: 'it returns false'. Refute it at one input. -/
def hushNoneWrong : ChangeSpec := { name := "hushNone", fn := fun _ => fun
  | [d1, d2, d3, d4] => { results := [.lit (.bool false)], args := [d1, d2, d3, d4] }
  | _ => none }
def HushNoneWrongFalsely : Prop := hushNoneRow.holds Try.pinned (OpenSpec.ofChange hushNoneWrong)

/-- 'handbelllaw17.HushAnew': WHATEVER THE INPUT: true; the input reads as it did. -/
def hushAnewSpec : ChangeSpec := { name := "hushAnew", fn := fun _ => fun
  | [d1, d2, d3, d4, d5] => { results := [.lit (.bool true)], args := [d1, d2, d3, d4, d5] }
  | _ => none }
def hushAnewRow : OpenClaim := { program := "ytgdkpnfonnafaaa", sum := "62723e32e80a1b8055d92bf54e5cfa4946db52f5804eefd8b2d8680971084b2e", func := "handbell/handbelllaw17.HushAnew", spec := "hushAnew", apart := false }
def HushAnewSaid : Prop := hushAnewRow.holds Try.pinned (OpenSpec.ofChange hushAnewSpec)

/-- ITS FALSE NEIGHBOUR: 'it returns false'. Refute it at one input. -/
def hushAnewWrong : ChangeSpec := { name := "hushAnew", fn := fun _ => fun
  | [d1, d2, d3, d4, d5] => { results := [.lit (.bool false)], args := [d1, d2, d3, d4, d5] }
  | _ => none }
def HushAnewWrongFalsely : Prop := hushAnewRow.holds Try.pinned (OpenSpec.ofChange hushAnewWrong)

/- THE SECOND FORM. 'bulk': how many values and letters a reading holds, each counted each time it is reached (what is shared counts as often as it is met; a slice's spare places count too). A statement '..UptoSaid' is the law's where the arguments, and the package variables that the reading takes, are together of bulk at most 1048576: NARROWER than '..Said'. Prove '..Said' where nothing that the law and all that it calls make is longer than what came in: it says more and counts as full. Else prove '..UptoSaid'. A law counts once. -/
mutual
def uptoBulk {H : Type} : DataW H → Nat
  | .lit (.string bytes) => bytes.length + 1
  | .lit _ => 1
  | .nil => 1
  | .ptr d => uptoBulk d + 1
  | .slice elems spare => uptoBulkAll elems + uptoBulkAll spare + 1
  | .agg parts => uptoBulkAll parts + 1
  | .iface _ d => uptoBulk d + 1
  | .map entries => uptoBulkEntries entries + 1
  | .held _ => 1
def uptoBulkAll {H : Type} : List (DataW H) → Nat
  | [] => 0
  | d :: r => uptoBulk d + uptoBulkAll r
def uptoBulkEntries {H : Type} : List (Lit × DataW H) → Nat
  | [] => 0
  | x :: r => uptoBulkEntry x + uptoBulkEntries r
def uptoBulkEntry {H : Type} : Lit × DataW H → Nat
  | (.string bytes, d) => bytes.length + uptoBulk d + 1
  | (_, d) => uptoBulk d + 1
 end
def uptoSmall : (H : Type) → List (DataW H) → Bool := fun _ ds => decide (uptoBulkAll ds ≤ 1048576)
def OpenSpec.upto (s : _root_.Go.ChangeSpec) : _root_.Go.OpenSpec := { _root_.Go.OpenSpec.ofChange s with cond := some uptoSmall }

/-- 'handbelllaw17.HushPlays', WHERE WHAT IT READS IS OF BULK AT MOST 1048576: true; the input reads as it did. -/
def hushPlaysUptoRow : OpenClaim := { program := "ytgdkpnfonnafaaa", sum := "62723e32e80a1b8055d92bf54e5cfa4946db52f5804eefd8b2d8680971084b2e", func := "handbell/handbelllaw17.HushPlays", spec := "hushPlays", apart := false, narrowed := true }
def HushPlaysUptoSaid : Prop := hushPlaysUptoRow.holds Try.pinned (OpenSpec.upto hushPlaysSpec)

/-- 'handbelllaw17.HushRaw', WHERE WHAT IT READS IS OF BULK AT MOST 1048576: true; the input reads as it did. -/
def hushRawUptoRow : OpenClaim := { program := "ytgdkpnfonnafaaa", sum := "62723e32e80a1b8055d92bf54e5cfa4946db52f5804eefd8b2d8680971084b2e", func := "handbell/handbelllaw17.HushRaw", spec := "hushRaw", apart := false, narrowed := true }
def HushRawUptoSaid : Prop := hushRawUptoRow.holds Try.pinned (OpenSpec.upto hushRawSpec)

/-- 'handbelllaw17.HushEnds', WHERE WHAT IT READS IS OF BULK AT MOST 1048576: true; the input reads as it did. -/
def hushEndsUptoRow : OpenClaim := { program := "ytgdkpnfonnafaaa", sum := "62723e32e80a1b8055d92bf54e5cfa4946db52f5804eefd8b2d8680971084b2e", func := "handbell/handbelllaw17.HushEnds", spec := "hushEnds", apart := false, narrowed := true }
def HushEndsUptoSaid : Prop := hushEndsUptoRow.holds Try.pinned (OpenSpec.upto hushEndsSpec)

/-- 'handbelllaw17.HushBreaks', WHERE WHAT IT READS IS OF BULK AT MOST 1048576: true; the input reads as it did. -/
def hushBreaksUptoRow : OpenClaim := { program := "ytgdkpnfonnafaaa", sum := "62723e32e80a1b8055d92bf54e5cfa4946db52f5804eefd8b2d8680971084b2e", func := "handbell/handbelllaw17.HushBreaks", spec := "hushBreaks", apart := false, narrowed := true }
def HushBreaksUptoSaid : Prop := hushBreaksUptoRow.holds Try.pinned (OpenSpec.upto hushBreaksSpec)

/-- 'handbelllaw17.HushNone', WHERE WHAT IT READS IS OF BULK AT MOST 1048576: true; the input reads as it did. -/
def hushNoneUptoRow : OpenClaim := { program := "ytgdkpnfonnafaaa", sum := "62723e32e80a1b8055d92bf54e5cfa4946db52f5804eefd8b2d8680971084b2e", func := "handbell/handbelllaw17.HushNone", spec := "hushNone", apart := false, narrowed := true }
def HushNoneUptoSaid : Prop := hushNoneUptoRow.holds Try.pinned (OpenSpec.upto hushNoneSpec)

/-- 'handbelllaw17.HushAnew', WHERE WHAT IT READS IS OF BULK AT MOST 1048576: true; the input reads as it did. -/
def hushAnewUptoRow : OpenClaim := { program := "ytgdkpnfonnafaaa", sum := "62723e32e80a1b8055d92bf54e5cfa4946db52f5804eefd8b2d8680971084b2e", func := "handbell/handbelllaw17.HushAnew", spec := "hushAnew", apart := false, narrowed := true }
def HushAnewUptoSaid : Prop := hushAnewUptoRow.holds Try.pinned (OpenSpec.upto hushAnewSpec)

end Rows
end Go.Proofs.Ytgdkpnfonnafaaa
