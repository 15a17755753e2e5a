/-
  No cell of these rows narrows 'for every input' (looked for: loops, veiled, ifaces, maps, wideKeys, modest, calm, conditions, laid).
  DERIVED. THE GIVEN ROWS OF THIS SEAT. 9 by the template 'for every input the law returns true; each argument reads behind the call as it read before'; 0 by the template 'total and deterministic' (their statements: YtnmlaobiljmgaaaTotals.lean).
  GIVEN WITH THE SEED: the statements are not yours to turn. If you find one false, say at which input.
  Laid BY PROGRAM, IN A SANDBOX (cutbox-rows.mjs): the forced cells as the released guide's own fill.sh prints them over the translation 5c9448dc2a500235… (all of the seat's roots in one cut). By AI agents, Wed Nov 11 2026. No macro, syntax, notation, axiom, sorry.
-/
import Derived.Test.YtnmlaobiljmgaaaChecked
import GoSem.Claim
import GoSem.ClaimJoined
import GoSem.ClaimMapViews
import Derived.JoinedTies
import Derived.KernelRfl
namespace Go.Proofs.Ytnmlaobiljmgaaa
/- THE CELL 'sum', in the pinned program and in every row, IS THE sha256 OF THE DUMP (.gsa) THAT YtnmlaobiljmgaaaProg.lean LOADS. Nothing in Lean hashes anything: it is a label: what it is worth is what the hold of that sum in a sandbox is worth. -/
noncomputable def Try.pinned : Pinned := { name := "ytnmlaobiljmgaaa", sum := "5c9448dc2a5002356d0383c5a91404cffd4fb7084a254575e26a6eb628271117", checked := Try.checked }
namespace Rows
def none {H : Type} : Left H := { results := [], args := [] }

/-- 'handbelllaw19.BurstSounds': WHATEVER THE INPUT: true; the input reads as it did. -/
def burstSoundsSpec : ChangeSpec := { name := "burstSounds", fn := fun _ => fun
  | [d1, d2] => { results := [.lit (.bool true)], args := [d1, d2] }
  | _ => none }
def burstSoundsRow : OpenClaim := { program := "ytnmlaobiljmgaaa", sum := "5c9448dc2a5002356d0383c5a91404cffd4fb7084a254575e26a6eb628271117", func := "handbell/handbelllaw19.BurstSounds", spec := "burstSounds", apart := false }
def BurstSoundsSaid : Prop := burstSoundsRow.holds Try.pinned (OpenSpec.ofChange burstSoundsSpec)

/-- ITS FALSE NEIGHBOUR: 'it returns false'. Refute it at one input. -/
def burstSoundsWrong : ChangeSpec := { name := "burstSounds", fn := fun _ => fun
  | [d1, d2] => { results := [.lit (.bool false)], args := [d1, d2] }
  | _ => none }
def BurstSoundsWrongFalsely : Prop := burstSoundsRow.holds Try.pinned (OpenSpec.ofChange burstSoundsWrong)

/-- 'handbelllaw19.BurstPatterns': WHATEVER THE INPUT: true; the input reads as it did. -/
def burstPatternsSpec : ChangeSpec := { name := "burstPatterns", fn := fun _ => fun
  | [d] => { results := [.lit (.bool true)], args := [d] }
  | _ => none }
def burstPatternsRow : OpenClaim := { program := "ytnmlaobiljmgaaa", sum := "5c9448dc2a5002356d0383c5a91404cffd4fb7084a254575e26a6eb628271117", func := "handbell/handbelllaw19.BurstPatterns", spec := "burstPatterns", inPlace := ["internal/bytealg.CountString", "internal/bytealg.IndexByteString", "internal/bytealg.IndexString"], named := ["internal/bytealg.MaxLen"], apart := false }
def BurstPatternsSaid : Prop := burstPatternsRow.holds Try.pinned (OpenSpec.ofChange burstPatternsSpec)

/-- ITS FALSE NEIGHBOUR: 'it returns false'. Refute it at one input. -/
def burstPatternsWrong : ChangeSpec := { name := "burstPatterns", fn := fun _ => fun
  | [d] => { results := [.lit (.bool false)], args := [d] }
  | _ => none }
def BurstPatternsWrongFalsely : Prop := burstPatternsRow.holds Try.pinned (OpenSpec.ofChange burstPatternsWrong)

/-- 'handbelllaw19.BurstRound': WHATEVER THE INPUT: true; the input reads as it did. -/
def burstRoundSpec : ChangeSpec := { name := "burstRound", fn := fun _ => fun
  | [d1, d2, d3] => { results := [.lit (.bool true)], args := [d1, d2, d3] }
  | _ => none }
def burstRoundRow : OpenClaim := { program := "ytnmlaobiljmgaaa", sum := "5c9448dc2a5002356d0383c5a91404cffd4fb7084a254575e26a6eb628271117", func := "handbell/handbelllaw19.BurstRound", spec := "burstRound", apart := false }
def BurstRoundSaid : Prop := burstRoundRow.holds Try.pinned (OpenSpec.ofChange burstRoundSpec)

/-- ITS FALSE NEIGHBOUR: 'it returns false'. Refute it at one input. -/
def burstRoundWrong : ChangeSpec := { name := "burstRound", fn := fun _ => fun
  | [d1, d2, d3] => { results := [.lit (.bool false)], args := [d1, d2, d3] }
  | _ => none }
def BurstRoundWrongFalsely : Prop := burstRoundRow.holds Try.pinned (OpenSpec.ofChange burstRoundWrong)

/-- 'handbelllaw19.BurstUrgent': WHATEVER THE INPUT: true; the input reads as it did. -/
def burstUrgentSpec : ChangeSpec := { name := "burstUrgent", fn := fun _ => fun
  | [d] => { results := [.lit (.bool true)], args := [d] }
  | _ => none }
def burstUrgentRow : OpenClaim := { program := "ytnmlaobiljmgaaa", sum := "5c9448dc2a5002356d0383c5a91404cffd4fb7084a254575e26a6eb628271117", func := "handbell/handbelllaw19.BurstUrgent", spec := "burstUrgent", inPlace := ["internal/bytealg.CountString", "internal/bytealg.IndexByteString", "internal/bytealg.IndexString"], named := ["internal/bytealg.MaxLen"], apart := false }
def BurstUrgentSaid : Prop := burstUrgentRow.holds Try.pinned (OpenSpec.ofChange burstUrgentSpec)

/-- ITS FALSE NEIGHBOUR: 'it returns false'. Refute it at one input. -/
def burstUrgentWrong : ChangeSpec := { name := "burstUrgent", fn := fun _ => fun
  | [d] => { results := [.lit (.bool false)], args := [d] }
  | _ => none }
def BurstUrgentWrongFalsely : Prop := burstUrgentRow.holds Try.pinned (OpenSpec.ofChange burstUrgentWrong)

/-- 'handbelllaw20.PanelLamps': WHATEVER THE INPUT: true; the input reads as it did. -/
def panelLampsSpec : ChangeSpec := { name := "panelLamps", fn := fun _ => fun
  | [d1, d2] => { results := [.lit (.bool true)], args := [d1, d2] }
  | _ => none }
def panelLampsRow : OpenClaim := { program := "ytnmlaobiljmgaaa", sum := "5c9448dc2a5002356d0383c5a91404cffd4fb7084a254575e26a6eb628271117", func := "handbell/handbelllaw20.PanelLamps", spec := "panelLamps", unfollowed := true, recurses := true, apart := false }
def PanelLampsSaid : Prop := panelLampsRow.holds Try.pinned (OpenSpec.ofChange panelLampsSpec)

/-- ITS FALSE NEIGHBOUR: 'it returns false'. Refute it at one input. -/
def panelLampsWrong : ChangeSpec := { name := "panelLamps", fn := fun _ => fun
  | [d1, d2] => { results := [.lit (.bool false)], args := [d1, d2] }
  | _ => none }
def PanelLampsWrongFalsely : Prop := panelLampsRow.holds Try.pinned (OpenSpec.ofChange panelLampsWrong)

/-- 'handbelllaw20.PanelOrder': WHATEVER THE INPUT: true; the input reads as it did. -/
def panelOrderSpec : ChangeSpec := { name := "panelOrder", fn := fun _ => fun
  | [d1, d2] => { results := [.lit (.bool true)], args := [d1, d2] }
  | _ => none }
def panelOrderRow : OpenClaim := { program := "ytnmlaobiljmgaaa", sum := "5c9448dc2a5002356d0383c5a91404cffd4fb7084a254575e26a6eb628271117", func := "handbell/handbelllaw20.PanelOrder", spec := "panelOrder", unfollowed := true, recurses := true, apart := false }
def PanelOrderSaid : Prop := panelOrderRow.holds Try.pinned (OpenSpec.ofChange panelOrderSpec)

/-- ITS FALSE NEIGHBOUR: 'it returns false'. Refute it at one input. -/
def panelOrderWrong : ChangeSpec := { name := "panelOrder", fn := fun _ => fun
  | [d1, d2] => { results := [.lit (.bool false)], args := [d1, d2] }
  | _ => none }
def PanelOrderWrongFalsely : Prop := panelOrderRow.holds Try.pinned (OpenSpec.ofChange panelOrderWrong)

/-- 'handbelllaw20.PanelShows': WHATEVER THE INPUT: true; the input reads as it did. -/
def panelShowsSpec : ChangeSpec := { name := "panelShows", fn := fun _ => fun
  | [d1, d2] => { results := [.lit (.bool true)], args := [d1, d2] }
  | _ => none }
def panelShowsRow : OpenClaim := { program := "ytnmlaobiljmgaaa", sum := "5c9448dc2a5002356d0383c5a91404cffd4fb7084a254575e26a6eb628271117", func := "handbell/handbelllaw20.PanelShows", spec := "panelShows", unfollowed := true, recurses := true, apart := false }
def PanelShowsSaid : Prop := panelShowsRow.holds Try.pinned (OpenSpec.ofChange panelShowsSpec)

/-- ITS FALSE NEIGHBOUR: 'it returns false'. Refute it at one input. -/
def panelShowsWrong : ChangeSpec := { name := "panelShows", fn := fun _ => fun
  | [d1, d2] => { results := [.lit (.bool false)], args := [d1, d2] }
  | _ => none }
def PanelShowsWrongFalsely : Prop := panelShowsRow.holds Try.pinned (OpenSpec.ofChange panelShowsWrong)

/-- 'handbelllaw20.PanelSilent': WHATEVER THE INPUT: true; the input reads as it did. -/
def panelSilentSpec : ChangeSpec := { name := "panelSilent", fn := fun _ => fun
  | [d1, d2, d3, d4] => { results := [.lit (.bool true)], args := [d1, d2, d3, d4] }
  | _ => none }
def panelSilentRow : OpenClaim := { program := "ytnmlaobiljmgaaa", sum := "5c9448dc2a5002356d0383c5a91404cffd4fb7084a254575e26a6eb628271117", func := "handbell/handbelllaw20.PanelSilent", spec := "panelSilent", unfollowed := true, recurses := true, apart := false }
def PanelSilentSaid : Prop := panelSilentRow.holds Try.pinned (OpenSpec.ofChange panelSilentSpec)

/-- ITS FALSE NEIGHBOUR: 'it returns false'. Refute it at one input. -/
def panelSilentWrong : ChangeSpec := { name := "panelSilent", fn := fun _ => fun
  | [d1, d2, d3, d4] => { results := [.lit (.bool false)], args := [d1, d2, d3, d4] }
  | _ => none }
def PanelSilentWrongFalsely : Prop := panelSilentRow.holds Try.pinned (OpenSpec.ofChange panelSilentWrong)

/-- 'handbelllaw20.PanelBegins': WHATEVER THE INPUT: true; the input reads as it did. -/
def panelBeginsSpec : ChangeSpec := { name := "panelBegins", fn := fun _ => fun
  | [d1, d2, d3] => { results := [.lit (.bool true)], args := [d1, d2, d3] }
  | _ => none }
def panelBeginsRow : OpenClaim := { program := "ytnmlaobiljmgaaa", sum := "5c9448dc2a5002356d0383c5a91404cffd4fb7084a254575e26a6eb628271117", func := "handbell/handbelllaw20.PanelBegins", spec := "panelBegins", unfollowed := true, recurses := true, apart := false }
def PanelBeginsSaid : Prop := panelBeginsRow.holds Try.pinned (OpenSpec.ofChange panelBeginsSpec)

/-- ITS FALSE NEIGHBOUR: 'it returns false'. Refute it at one input. -/
def panelBeginsWrong : ChangeSpec := { name := "panelBegins", fn := fun _ => fun
  | [d1, d2, d3] => { results := [.lit (.bool false)], args := [d1, d2, d3] }
  | _ => none }
def PanelBeginsWrongFalsely : Prop := panelBeginsRow.holds Try.pinned (OpenSpec.ofChange panelBeginsWrong)

/- THE SECOND FORM. 'bulk': how many values and letters a reading holds, each counted each time it is reached (what is shared counts as often as it is met; a slice's spare places count too). A statement '..UptoSaid' is the law's where the arguments, and the package variables that the reading takes, are together of bulk at most 1048576: NARROWER than '..Said'. Prove '..Said' where nothing that the law and all that it calls make is longer than what came in: it says more and counts as full. Else prove '..UptoSaid'. A law counts once. -/
mutual
def uptoBulk {H : Type} : DataW H → Nat
  | .lit (.string bytes) => bytes.length + 1
  | .lit _ => 1
  | .nil => 1
  | .ptr d => uptoBulk d + 1
  | .slice elems spare => uptoBulkAll elems + uptoBulkAll spare + 1
  | .agg parts => uptoBulkAll parts + 1
  | .iface _ d => uptoBulk d + 1
  | .map entries => uptoBulkEntries entries + 1
  | .held _ => 1
def uptoBulkAll {H : Type} : List (DataW H) → Nat
  | [] => 0
  | d :: r => uptoBulk d + uptoBulkAll r
def uptoBulkEntries {H : Type} : List (Lit × DataW H) → Nat
  | [] => 0
  | x :: r => uptoBulkEntry x + uptoBulkEntries r
def uptoBulkEntry {H : Type} : Lit × DataW H → Nat
  | (.string bytes, d) => bytes.length + uptoBulk d + 1
  | (_, d) => uptoBulk d + 1
 end
def uptoSmall : (H : Type) → List (DataW H) → Bool := fun _ ds => decide (uptoBulkAll ds ≤ 1048576)
def OpenSpec.upto (s : _root_.Go.ChangeSpec) : _root_.Go.OpenSpec := { _root_.Go.OpenSpec.ofChange s with cond := some uptoSmall }

/-- 'handbelllaw19.BurstSounds', WHERE WHAT IT READS IS OF BULK AT MOST 1048576: true; the input reads as it did. -/
def burstSoundsUptoRow : OpenClaim := { program := "ytnmlaobiljmgaaa", sum := "5c9448dc2a5002356d0383c5a91404cffd4fb7084a254575e26a6eb628271117", func := "handbell/handbelllaw19.BurstSounds", spec := "burstSounds", apart := false, narrowed := true }
def BurstSoundsUptoSaid : Prop := burstSoundsUptoRow.holds Try.pinned (OpenSpec.upto burstSoundsSpec)

/-- 'handbelllaw19.BurstPatterns', WHERE WHAT IT READS IS OF BULK AT MOST 1048576: true; the input reads as it did. -/
def burstPatternsUptoRow : OpenClaim := { program := "ytnmlaobiljmgaaa", sum := "5c9448dc2a5002356d0383c5a91404cffd4fb7084a254575e26a6eb628271117", func := "handbell/handbelllaw19.BurstPatterns", spec := "burstPatterns", inPlace := ["internal/bytealg.CountString", "internal/bytealg.IndexByteString", "internal/bytealg.IndexString"], named := ["internal/bytealg.MaxLen"], apart := false, narrowed := true }
def BurstPatternsUptoSaid : Prop := burstPatternsUptoRow.holds Try.pinned (OpenSpec.upto burstPatternsSpec)

/-- 'handbelllaw19.BurstRound', WHERE WHAT IT READS IS OF BULK AT MOST 1048576: true; the input reads as it did. -/
def burstRoundUptoRow : OpenClaim := { program := "ytnmlaobiljmgaaa", sum := "5c9448dc2a5002356d0383c5a91404cffd4fb7084a254575e26a6eb628271117", func := "handbell/handbelllaw19.BurstRound", spec := "burstRound", apart := false, narrowed := true }
def BurstRoundUptoSaid : Prop := burstRoundUptoRow.holds Try.pinned (OpenSpec.upto burstRoundSpec)

/-- 'handbelllaw19.BurstUrgent', WHERE WHAT IT READS IS OF BULK AT MOST 1048576: true; the input reads as it did. -/
def burstUrgentUptoRow : OpenClaim := { program := "ytnmlaobiljmgaaa", sum := "5c9448dc2a5002356d0383c5a91404cffd4fb7084a254575e26a6eb628271117", func := "handbell/handbelllaw19.BurstUrgent", spec := "burstUrgent", inPlace := ["internal/bytealg.CountString", "internal/bytealg.IndexByteString", "internal/bytealg.IndexString"], named := ["internal/bytealg.MaxLen"], apart := false, narrowed := true }
def BurstUrgentUptoSaid : Prop := burstUrgentUptoRow.holds Try.pinned (OpenSpec.upto burstUrgentSpec)

/-- 'handbelllaw20.PanelLamps', WHERE WHAT IT READS IS OF BULK AT MOST 1048576: true; the input reads as it did. -/
def panelLampsUptoRow : OpenClaim := { program := "ytnmlaobiljmgaaa", sum := "5c9448dc2a5002356d0383c5a91404cffd4fb7084a254575e26a6eb628271117", func := "handbell/handbelllaw20.PanelLamps", spec := "panelLamps", unfollowed := true, recurses := true, apart := false, narrowed := true }
def PanelLampsUptoSaid : Prop := panelLampsUptoRow.holds Try.pinned (OpenSpec.upto panelLampsSpec)

/-- 'handbelllaw20.PanelOrder', WHERE WHAT IT READS IS OF BULK AT MOST 1048576: true; the input reads as it did. -/
def panelOrderUptoRow : OpenClaim := { program := "ytnmlaobiljmgaaa", sum := "5c9448dc2a5002356d0383c5a91404cffd4fb7084a254575e26a6eb628271117", func := "handbell/handbelllaw20.PanelOrder", spec := "panelOrder", unfollowed := true, recurses := true, apart := false, narrowed := true }
def PanelOrderUptoSaid : Prop := panelOrderUptoRow.holds Try.pinned (OpenSpec.upto panelOrderSpec)

/-- 'handbelllaw20.PanelShows', WHERE WHAT IT READS IS OF BULK AT MOST 1048576: true; the input reads as it did. -/
def panelShowsUptoRow : OpenClaim := { program := "ytnmlaobiljmgaaa", sum := "5c9448dc2a5002356d0383c5a91404cffd4fb7084a254575e26a6eb628271117", func := "handbell/handbelllaw20.PanelShows", spec := "panelShows", unfollowed := true, recurses := true, apart := false, narrowed := true }
def PanelShowsUptoSaid : Prop := panelShowsUptoRow.holds Try.pinned (OpenSpec.upto panelShowsSpec)

/-- 'handbelllaw20.PanelSilent', WHERE WHAT IT READS IS OF BULK AT MOST 1048576: true; the input reads as it did. -/
def panelSilentUptoRow : OpenClaim := { program := "ytnmlaobiljmgaaa", sum := "5c9448dc2a5002356d0383c5a91404cffd4fb7084a254575e26a6eb628271117", func := "handbell/handbelllaw20.PanelSilent", spec := "panelSilent", unfollowed := true, recurses := true, apart := false, narrowed := true }
def PanelSilentUptoSaid : Prop := panelSilentUptoRow.holds Try.pinned (OpenSpec.upto panelSilentSpec)

/-- 'handbelllaw20.PanelBegins', WHERE WHAT IT READS IS OF BULK AT MOST 1048576: true; the input reads as it did. -/
def panelBeginsUptoRow : OpenClaim := { program := "ytnmlaobiljmgaaa", sum := "5c9448dc2a5002356d0383c5a91404cffd4fb7084a254575e26a6eb628271117", func := "handbell/handbelllaw20.PanelBegins", spec := "panelBegins", unfollowed := true, recurses := true, apart := false, narrowed := true }
def PanelBeginsUptoSaid : Prop := panelBeginsUptoRow.holds Try.pinned (OpenSpec.upto panelBeginsSpec)

end Rows
end Go.Proofs.Ytnmlaobiljmgaaa
