/-
  No cell of these rows narrows 'for every input' (looked for: loops, veiled, ifaces, maps, wideKeys, modest, calm, conditions, laid).
  DERIVED. THE GIVEN ROWS OF THIS SEAT. 12 by the template 'for every input the law returns true; each argument reads behind the call as it read before'; 0 by the template 'total and deterministic' (their statements: YtiflpkmknooioaaTotals.lean).
  GIVEN WITH THE SEED: the statements are not yours to turn. If you find one false, say at which input.
  Laid BY PROGRAM, IN A SANDBOX (cutbox-rows.mjs): the forced cells as the released guide's own fill.sh prints them over the translation 827d65412d952b40… (all of the seat's roots in one cut). By AI agents, Wed Nov 11 2026. No macro, syntax, notation, axiom, sorry.
-/
import Derived.Test.YtiflpkmknooioaaChecked
import GoSem.Claim
import GoSem.ClaimJoined
import GoSem.ClaimMapViews
import Derived.JoinedTies
import Derived.KernelRfl
namespace Go.Proofs.Ytiflpkmknooioaa
/- THE CELL 'sum', in the pinned program and in every row, IS THE sha256 OF THE DUMP (.gsa) THAT YtiflpkmknooioaaProg.lean LOADS. Nothing in Lean hashes anything: it is a label: what it is worth is what the hold of that sum in a sandbox is worth. -/
noncomputable def Try.pinned : Pinned := { name := "ytiflpkmknooioaa", sum := "827d65412d952b401d1cc46f8672d49e85555b3a289c485decdd8aba22f8e796", checked := Try.checked }
namespace Rows
def none {H : Type} : Left H := { results := [], args := [] }

/-- 'handbelllaw11.GatePlays': WHATEVER THE INPUT: true; the input reads as it did. -/
def gatePlaysSpec : ChangeSpec := { name := "gatePlays", fn := fun _ => fun
  | [d1, d2] => { results := [.lit (.bool true)], args := [d1, d2] }
  | _ => none }
def gatePlaysRow : OpenClaim := { program := "ytiflpkmknooioaa", sum := "827d65412d952b401d1cc46f8672d49e85555b3a289c485decdd8aba22f8e796", func := "handbell/handbelllaw11.GatePlays", spec := "gatePlays", apart := false }
def GatePlaysSaid : Prop := gatePlaysRow.holds Try.pinned (OpenSpec.ofChange gatePlaysSpec)

/-- ITS FALSE NEIGHBOUR: 'it returns false'. Refute it at one input. -/
def gatePlaysWrong : ChangeSpec := { name := "gatePlays", fn := fun _ => fun
  | [d1, d2] => { results := [.lit (.bool false)], args := [d1, d2] }
  | _ => none }
def GatePlaysWrongFalsely : Prop := gatePlaysRow.holds Try.pinned (OpenSpec.ofChange gatePlaysWrong)

/-- 'handbelllaw11.GateRaw': WHATEVER THE INPUT: true; the input reads as it did. -/
def gateRawSpec : ChangeSpec := { name := "gateRaw", fn := fun _ => fun
  | [d1, d2, d3, d4, d5, d6, d7] => { results := [.lit (.bool true)], args := [d1, d2, d3, d4, d5, d6, d7] }
  | _ => none }
def gateRawRow : OpenClaim := { program := "ytiflpkmknooioaa", sum := "827d65412d952b401d1cc46f8672d49e85555b3a289c485decdd8aba22f8e796", func := "handbell/handbelllaw11.GateRaw", spec := "gateRaw", apart := false }
def GateRawSaid : Prop := gateRawRow.holds Try.pinned (OpenSpec.ofChange gateRawSpec)

/-- ITS FALSE NEIGHBOUR: 'it returns false'. Refute it at one input. -/
def gateRawWrong : ChangeSpec := { name := "gateRaw", fn := fun _ => fun
  | [d1, d2, d3, d4, d5, d6, d7] => { results := [.lit (.bool false)], args := [d1, d2, d3, d4, d5, d6, d7] }
  | _ => none }
def GateRawWrongFalsely : Prop := gateRawRow.holds Try.pinned (OpenSpec.ofChange gateRawWrong)

/-- 'handbelllaw11.GateLasts': WHATEVER THE INPUT: true; the input reads as it did. -/
def gateLastsSpec : ChangeSpec := { name := "gateLasts", fn := fun _ => fun
  | [d1, d2] => { results := [.lit (.bool true)], args := [d1, d2] }
  | _ => none }
def gateLastsRow : OpenClaim := { program := "ytiflpkmknooioaa", sum := "827d65412d952b401d1cc46f8672d49e85555b3a289c485decdd8aba22f8e796", func := "handbell/handbelllaw11.GateLasts", spec := "gateLasts", apart := false }
def GateLastsSaid : Prop := gateLastsRow.holds Try.pinned (OpenSpec.ofChange gateLastsSpec)

/-- ITS FALSE NEIGHBOUR: 'it returns false'. Refute it at one input. -/
def gateLastsWrong : ChangeSpec := { name := "gateLasts", fn := fun _ => fun
  | [d1, d2] => { results := [.lit (.bool false)], args := [d1, d2] }
  | _ => none }
def GateLastsWrongFalsely : Prop := gateLastsRow.holds Try.pinned (OpenSpec.ofChange gateLastsWrong)

/-- 'handbelllaw11.GateCross': WHATEVER THE INPUT: true; the input reads as it did. -/
def gateCrossSpec : ChangeSpec := { name := "gateCross", fn := fun _ => fun
  | [d1, d2, d3, d4] => { results := [.lit (.bool true)], args := [d1, d2, d3, d4] }
  | _ => none }
def gateCrossRow : OpenClaim := { program := "ytiflpkmknooioaa", sum := "827d65412d952b401d1cc46f8672d49e85555b3a289c485decdd8aba22f8e796", func := "handbell/handbelllaw11.GateCross", spec := "gateCross", apart := false }
def GateCrossSaid : Prop := gateCrossRow.holds Try.pinned (OpenSpec.ofChange gateCrossSpec)

/-- ITS FALSE NEIGHBOUR: 'it returns false'. Refute it at one input. -/
def gateCrossWrong : ChangeSpec := { name := "gateCross", fn := fun _ => fun
  | [d1, d2, d3, d4] => { results := [.lit (.bool false)], args := [d1, d2, d3, d4] }
  | _ => none }
def GateCrossWrongFalsely : Prop := gateCrossRow.holds Try.pinned (OpenSpec.ofChange gateCrossWrong)

/-- 'handbelllaw11.GateBack': WHATEVER THE INPUT: true; the input reads as it did. -/
def gateBackSpec : ChangeSpec := { name := "gateBack", fn := fun _ => fun
  | [d1, d2, d3, d4] => { results := [.lit (.bool true)], args := [d1, d2, d3, d4] }
  | _ => none }
def gateBackRow : OpenClaim := { program := "ytiflpkmknooioaa", sum := "827d65412d952b401d1cc46f8672d49e85555b3a289c485decdd8aba22f8e796", func := "handbell/handbelllaw11.GateBack", spec := "gateBack", apart := false }
def GateBackSaid : Prop := gateBackRow.holds Try.pinned (OpenSpec.ofChange gateBackSpec)

/-- ITS FALSE NEIGHBOUR: 'it returns false'. Refute it at one input. -/
def gateBackWrong : ChangeSpec := { name := "gateBack", fn := fun _ => fun
  | [d1, d2, d3, d4] => { results := [.lit (.bool false)], args := [d1, d2, d3, d4] }
  | _ => none }
def GateBackWrongFalsely : Prop := gateBackRow.holds Try.pinned (OpenSpec.ofChange gateBackWrong)

/-- 'handbelllaw11.GateSwings': WHATEVER THE INPUT: true; the input reads as it did. -/
def gateSwingsSpec : ChangeSpec := { name := "gateSwings", fn := fun _ => fun
  | [d1, d2, d3, d4] => { results := [.lit (.bool true)], args := [d1, d2, d3, d4] }
  | _ => none }
def gateSwingsRow : OpenClaim := { program := "ytiflpkmknooioaa", sum := "827d65412d952b401d1cc46f8672d49e85555b3a289c485decdd8aba22f8e796", func := "handbell/handbelllaw11.GateSwings", spec := "gateSwings", apart := false }
def GateSwingsSaid : Prop := gateSwingsRow.holds Try.pinned (OpenSpec.ofChange gateSwingsSpec)

/-- ITS FALSE NEIGHBOUR: 'it returns false'. Refute it at one input. -/
def gateSwingsWrong : ChangeSpec := { name := "gateSwings", fn := fun _ => fun
  | [d1, d2, d3, d4] => { results := [.lit (.bool false)], args := [d1, d2, d3, d4] }
  | _ => none }
def GateSwingsWrongFalsely : Prop := gateSwingsRow.holds Try.pinned (OpenSpec.ofChange gateSwingsWrong)

/-- 'handbelllaw11.GateLonger': WHATEVER THE INPUT: true; the input reads as it did. -/
def gateLongerSpec : ChangeSpec := { name := "gateLonger", fn := fun _ => fun
  | [d1, d2, d3] => { results := [.lit (.bool true)], args := [d1, d2, d3] }
  | _ => none }
def gateLongerRow : OpenClaim := { program := "ytiflpkmknooioaa", sum := "827d65412d952b401d1cc46f8672d49e85555b3a289c485decdd8aba22f8e796", func := "handbell/handbelllaw11.GateLonger", spec := "gateLonger", apart := false }
def GateLongerSaid : Prop := gateLongerRow.holds Try.pinned (OpenSpec.ofChange gateLongerSpec)

/-- ITS FALSE NEIGHBOUR: 'it returns false'. Refute it at one input. -/
def gateLongerWrong : ChangeSpec := { name := "gateLonger", fn := fun _ => fun
  | [d1, d2, d3] => { results := [.lit (.bool false)], args := [d1, d2, d3] }
  | _ => none }
def GateLongerWrongFalsely : Prop := gateLongerRow.holds Try.pinned (OpenSpec.ofChange gateLongerWrong)

/-- 'handbelllaw12.TrendChanges': WHATEVER THE INPUT: true; the input reads as it did. -/
def trendChangesSpec : ChangeSpec := { name := "trendChanges", fn := fun _ => fun
  | [d1, d2, d3, d4] => { results := [.lit (.bool true)], args := [d1, d2, d3, d4] }
  | _ => none }
def trendChangesRow : OpenClaim := { program := "ytiflpkmknooioaa", sum := "827d65412d952b401d1cc46f8672d49e85555b3a289c485decdd8aba22f8e796", func := "handbell/handbelllaw12.TrendChanges", spec := "trendChanges", apart := false }
def TrendChangesSaid : Prop := trendChangesRow.holds Try.pinned (OpenSpec.ofChange trendChangesSpec)

/-- ITS FALSE NEIGHBOUR: 'it returns false'. Refute it at one input. -/
def trendChangesWrong : ChangeSpec := { name := "trendChanges", fn := fun _ => fun
  | [d1, d2, d3, d4] => { results := [.lit (.bool false)], args := [d1, d2, d3, d4] }
  | _ => none }
def TrendChangesWrongFalsely : Prop := trendChangesRow.holds Try.pinned (OpenSpec.ofChange trendChangesWrong)

/-- 'handbelllaw12.TrendCross': WHATEVER THE INPUT: true; the input reads as it did. -/
def trendCrossSpec : ChangeSpec := { name := "trendCross", fn := fun _ => fun
  | [d1, d2, d3, d4] => { results := [.lit (.bool true)], args := [d1, d2, d3, d4] }
  | _ => none }
def trendCrossRow : OpenClaim := { program := "ytiflpkmknooioaa", sum := "827d65412d952b401d1cc46f8672d49e85555b3a289c485decdd8aba22f8e796", func := "handbell/handbelllaw12.TrendCross", spec := "trendCross", apart := false }
def TrendCrossSaid : Prop := trendCrossRow.holds Try.pinned (OpenSpec.ofChange trendCrossSpec)

/-- ITS FALSE NEIGHBOUR: 'it returns false'. Refute it at one input. -/
def trendCrossWrong : ChangeSpec := { name := "trendCross", fn := fun _ => fun
  | [d1, d2, d3, d4] => { results := [.lit (.bool false)], args := [d1, d2, d3, d4] }
  | _ => none }
def TrendCrossWrongFalsely : Prop := trendCrossRow.holds Try.pinned (OpenSpec.ofChange trendCrossWrong)

/-- 'handbelllaw12.TrendTurned': WHATEVER THE INPUT: true; the input reads as it did. -/
def trendTurnedSpec : ChangeSpec := { name := "trendTurned", fn := fun _ => fun
  | [d1, d2, d3] => { results := [.lit (.bool true)], args := [d1, d2, d3] }
  | _ => none }
def trendTurnedRow : OpenClaim := { program := "ytiflpkmknooioaa", sum := "827d65412d952b401d1cc46f8672d49e85555b3a289c485decdd8aba22f8e796", func := "handbell/handbelllaw12.TrendTurned", spec := "trendTurned", apart := false }
def TrendTurnedSaid : Prop := trendTurnedRow.holds Try.pinned (OpenSpec.ofChange trendTurnedSpec)

/-- ITS FALSE NEIGHBOUR: 'it returns false'. Refute it at one input. -/
def trendTurnedWrong : ChangeSpec := { name := "trendTurned", fn := fun _ => fun
  | [d1, d2, d3] => { results := [.lit (.bool false)], args := [d1, d2, d3] }
  | _ => none }
def TrendTurnedWrongFalsely : Prop := trendTurnedRow.holds Try.pinned (OpenSpec.ofChange trendTurnedWrong)

/-- 'handbelllaw12.TrendStill': WHATEVER THE INPUT: true; the input reads as it did. -/
def trendStillSpec : ChangeSpec := { name := "trendStill", fn := fun _ => fun
  | [d1, d2, d3, d4] => { results := [.lit (.bool true)], args := [d1, d2, d3, d4] }
  | _ => none }
def trendStillRow : OpenClaim := { program := "ytiflpkmknooioaa", sum := "827d65412d952b401d1cc46f8672d49e85555b3a289c485decdd8aba22f8e796", func := "handbell/handbelllaw12.TrendStill", spec := "trendStill", apart := false }
def TrendStillSaid : Prop := trendStillRow.holds Try.pinned (OpenSpec.ofChange trendStillSpec)

/-- ITS FALSE NEIGHBOUR: 'it returns false'. Refute it at one input. -/
def trendStillWrong : ChangeSpec := { name := "trendStill", fn := fun _ => fun
  | [d1, d2, d3, d4] => { results := [.lit (.bool false)], args := [d1, d2, d3, d4] }
  | _ => none }
def TrendStillWrongFalsely : Prop := trendStillRow.holds Try.pinned (OpenSpec.ofChange trendStillWrong)

/-- 'handbelllaw12.TrendNone': WHATEVER THE INPUT: true; the input reads as it did. -/
def trendNoneSpec : ChangeSpec := { name := "trendNone", fn := fun _ => fun
  | [d1, d2, d3] => { results := [.lit (.bool true)], args := [d1, d2, d3] }
  | _ => none }
def trendNoneRow : OpenClaim := { program := "ytiflpkmknooioaa", sum := "827d65412d952b401d1cc46f8672d49e85555b3a289c485decdd8aba22f8e796", func := "handbell/handbelllaw12.TrendNone", spec := "trendNone", apart := false }
def TrendNoneSaid : Prop := trendNoneRow.holds Try.pinned (OpenSpec.ofChange trendNoneSpec)

/-- ITS FALSE NEIGHBOUR: 'it returns false'. Refute it at one input. -/
def trendNoneWrong : ChangeSpec := { name := "trendNone", fn := fun _ => fun
  | [d1, d2, d3] => { results := [.lit (.bool false)], args := [d1, d2, d3] }
  | _ => none }
def TrendNoneWrongFalsely : Prop := trendNoneRow.holds Try.pinned (OpenSpec.ofChange trendNoneWrong)

/- THE SECOND FORM. 'bulk': how many values and letters a reading holds, each counted each time it is reached (what is shared counts as often as it is met; a slice's spare places count too). A statement '..UptoSaid' is the law's where the arguments, and the package variables that the reading takes, are together of bulk at most 1048576: NARROWER than '..Said'. Prove '..Said' where nothing that the law and all that it calls make is longer than what came in: it says more and counts as full. Else prove '..UptoSaid'. A law counts once. -/
mutual
def uptoBulk {H : Type} : DataW H → Nat
  | .lit (.string bytes) => bytes.length + 1
  | .lit _ => 1
  | .nil => 1
  | .ptr d => uptoBulk d + 1
  | .slice elems spare => uptoBulkAll elems + uptoBulkAll spare + 1
  | .agg parts => uptoBulkAll parts + 1
  | .iface _ d => uptoBulk d + 1
  | .map entries => uptoBulkEntries entries + 1
  | .held _ => 1
def uptoBulkAll {H : Type} : List (DataW H) → Nat
  | [] => 0
  | d :: r => uptoBulk d + uptoBulkAll r
def uptoBulkEntries {H : Type} : List (Lit × DataW H) → Nat
  | [] => 0
  | x :: r => uptoBulkEntry x + uptoBulkEntries r
def uptoBulkEntry {H : Type} : Lit × DataW H → Nat
  | (.string bytes, d) => bytes.length + uptoBulk d + 1
  | (_, d) => uptoBulk d + 1
 end
def uptoSmall : (H : Type) → List (DataW H) → Bool := fun _ ds => decide (uptoBulkAll ds ≤ 1048576)
def OpenSpec.upto (s : _root_.Go.ChangeSpec) : _root_.Go.OpenSpec := { _root_.Go.OpenSpec.ofChange s with cond := some uptoSmall }

/-- 'handbelllaw11.GatePlays', WHERE WHAT IT READS IS OF BULK AT MOST 1048576: true; the input reads as it did. -/
def gatePlaysUptoRow : OpenClaim := { program := "ytiflpkmknooioaa", sum := "827d65412d952b401d1cc46f8672d49e85555b3a289c485decdd8aba22f8e796", func := "handbell/handbelllaw11.GatePlays", spec := "gatePlays", apart := false, narrowed := true }
def GatePlaysUptoSaid : Prop := gatePlaysUptoRow.holds Try.pinned (OpenSpec.upto gatePlaysSpec)

/-- 'handbelllaw11.GateRaw', WHERE WHAT IT READS IS OF BULK AT MOST 1048576: true; the input reads as it did. -/
def gateRawUptoRow : OpenClaim := { program := "ytiflpkmknooioaa", sum := "827d65412d952b401d1cc46f8672d49e85555b3a289c485decdd8aba22f8e796", func := "handbell/handbelllaw11.GateRaw", spec := "gateRaw", apart := false, narrowed := true }
def GateRawUptoSaid : Prop := gateRawUptoRow.holds Try.pinned (OpenSpec.upto gateRawSpec)

/-- 'handbelllaw11.GateLasts', WHERE WHAT IT READS IS OF BULK AT MOST 1048576: true; the input reads as it did. -/
def gateLastsUptoRow : OpenClaim := { program := "ytiflpkmknooioaa", sum := "827d65412d952b401d1cc46f8672d49e85555b3a289c485decdd8aba22f8e796", func := "handbell/handbelllaw11.GateLasts", spec := "gateLasts", apart := false, narrowed := true }
def GateLastsUptoSaid : Prop := gateLastsUptoRow.holds Try.pinned (OpenSpec.upto gateLastsSpec)

/-- 'handbelllaw11.GateCross', WHERE WHAT IT READS IS OF BULK AT MOST 1048576: true; the input reads as it did. -/
def gateCrossUptoRow : OpenClaim := { program := "ytiflpkmknooioaa", sum := "827d65412d952b401d1cc46f8672d49e85555b3a289c485decdd8aba22f8e796", func := "handbell/handbelllaw11.GateCross", spec := "gateCross", apart := false, narrowed := true }
def GateCrossUptoSaid : Prop := gateCrossUptoRow.holds Try.pinned (OpenSpec.upto gateCrossSpec)

/-- 'handbelllaw11.GateBack', WHERE WHAT IT READS IS OF BULK AT MOST 1048576: true; the input reads as it did. -/
def gateBackUptoRow : OpenClaim := { program := "ytiflpkmknooioaa", sum := "827d65412d952b401d1cc46f8672d49e85555b3a289c485decdd8aba22f8e796", func := "handbell/handbelllaw11.GateBack", spec := "gateBack", apart := false, narrowed := true }
def GateBackUptoSaid : Prop := gateBackUptoRow.holds Try.pinned (OpenSpec.upto gateBackSpec)

/-- 'handbelllaw11.GateSwings', WHERE WHAT IT READS IS OF BULK AT MOST 1048576: true; the input reads as it did. -/
def gateSwingsUptoRow : OpenClaim := { program := "ytiflpkmknooioaa", sum := "827d65412d952b401d1cc46f8672d49e85555b3a289c485decdd8aba22f8e796", func := "handbell/handbelllaw11.GateSwings", spec := "gateSwings", apart := false, narrowed := true }
def GateSwingsUptoSaid : Prop := gateSwingsUptoRow.holds Try.pinned (OpenSpec.upto gateSwingsSpec)

/-- 'handbelllaw11.GateLonger', WHERE WHAT IT READS IS OF BULK AT MOST 1048576: true; the input reads as it did. -/
def gateLongerUptoRow : OpenClaim := { program := "ytiflpkmknooioaa", sum := "827d65412d952b401d1cc46f8672d49e85555b3a289c485decdd8aba22f8e796", func := "handbell/handbelllaw11.GateLonger", spec := "gateLonger", apart := false, narrowed := true }
def GateLongerUptoSaid : Prop := gateLongerUptoRow.holds Try.pinned (OpenSpec.upto gateLongerSpec)

/-- 'handbelllaw12.TrendChanges', WHERE WHAT IT READS IS OF BULK AT MOST 1048576: true; the input reads as it did. -/
def trendChangesUptoRow : OpenClaim := { program := "ytiflpkmknooioaa", sum := "827d65412d952b401d1cc46f8672d49e85555b3a289c485decdd8aba22f8e796", func := "handbell/handbelllaw12.TrendChanges", spec := "trendChanges", apart := false, narrowed := true }
def TrendChangesUptoSaid : Prop := trendChangesUptoRow.holds Try.pinned (OpenSpec.upto trendChangesSpec)

/-- 'handbelllaw12.TrendCross', WHERE WHAT IT READS IS OF BULK AT MOST 1048576: true; the input reads as it did. -/
def trendCrossUptoRow : OpenClaim := { program := "ytiflpkmknooioaa", sum := "827d65412d952b401d1cc46f8672d49e85555b3a289c485decdd8aba22f8e796", func := "handbell/handbelllaw12.TrendCross", spec := "trendCross", apart := false, narrowed := true }
def TrendCrossUptoSaid : Prop := trendCrossUptoRow.holds Try.pinned (OpenSpec.upto trendCrossSpec)

/-- 'handbelllaw12.TrendTurned', WHERE WHAT IT READS IS OF BULK AT MOST 1048576: true; the input reads as it did. -/
def trendTurnedUptoRow : OpenClaim := { program := "ytiflpkmknooioaa", sum := "827d65412d952b401d1cc46f8672d49e85555b3a289c485decdd8aba22f8e796", func := "handbell/handbelllaw12.TrendTurned", spec := "trendTurned", apart := false, narrowed := true }
def TrendTurnedUptoSaid : Prop := trendTurnedUptoRow.holds Try.pinned (OpenSpec.upto trendTurnedSpec)

/-- 'handbelllaw12.TrendStill', WHERE WHAT IT READS IS OF BULK AT MOST 1048576: true; the input reads as it did. -/
def trendStillUptoRow : OpenClaim := { program := "ytiflpkmknooioaa", sum := "827d65412d952b401d1cc46f8672d49e85555b3a289c485decdd8aba22f8e796", func := "handbell/handbelllaw12.TrendStill", spec := "trendStill", apart := false, narrowed := true }
def TrendStillUptoSaid : Prop := trendStillUptoRow.holds Try.pinned (OpenSpec.upto trendStillSpec)

/-- 'handbelllaw12.TrendNone', WHERE WHAT IT READS IS OF BULK AT MOST 1048576: true; the input reads as it did. -/
def trendNoneUptoRow : OpenClaim := { program := "ytiflpkmknooioaa", sum := "827d65412d952b401d1cc46f8672d49e85555b3a289c485decdd8aba22f8e796", func := "handbell/handbelllaw12.TrendNone", spec := "trendNone", apart := false, narrowed := true }
def TrendNoneUptoSaid : Prop := trendNoneUptoRow.holds Try.pinned (OpenSpec.upto trendNoneSpec)

end Rows
end Go.Proofs.Ytiflpkmknooioaa
