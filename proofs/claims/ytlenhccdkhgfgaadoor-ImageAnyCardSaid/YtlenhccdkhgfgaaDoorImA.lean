/-
  A configuration in which a rule and the signals are other ones, of a world in which their rows are.
-/
import Derived.Test.YtlenhccdkhgfgaaDoorRule
import Derived.Test.YtlenhccdkhgfgaaDoorImgQ
namespace Go.Proofs.YtlenhccdkhgfgaaDoor
open Go.RowKit
set_option linter.unusedVariables false

/-- The world's rules are others: their row was written, and nothing else. -/
theorem CfgR.otherRules {w0 w w' : World} {C : Cfg} {csv crv ctv : Value} {gr : Nat} (h : CfgR w C csv crv ctv) (o : MadeOwn w0 w C csv crv ctv) (hg : crv.ownBlock = some gr) (k : Keeps (fun b => b = gr) w w') {L : List (Rul × Value)} (hl : L.length = C.ruls.length)
    (hrow : w'.ownsRow 0 49 9 crv L.length (L.flatMap encRul)) (hst : ∀ x ∈ L, Sl w 2 x.2 x.1.stages.length (x.1.stages.flatMap encStg) ∧ x.2.ownBlock ≠ some gr) :
    CfgR w' ⟨C.sigs, L, C.tab, C.b0, C.b1, C.b2, C.drain, C.pause, C.off, C.brk, C.log⟩ csv crv ctv := by
  obtain ⟨s1, s2, s3, s4⟩ := o.sep1 gr hg
  exact ⟨h.sig.keep k (fun b hb eb => s1 (eb ▸ hb)), Sl.ofOwn hrow, h.tab.keep k (fun b hb eb => s2 (eb ▸ hb)), fun x hx => (hst x hx).1.keep k (fun b hb eb => (hst x hx).2 (eb ▸ hb)), fun y hy => Sl.keep (h.slot y hy) k (fun b hb eb => s4 y hy (eb ▸ hb))⟩

/-- Its signals are others. -/
theorem CfgR.otherSigs {w w' : World} {C : Cfg} {csv crv ctv : Value} {gs : Nat} (h : CfgR w C csv crv ctv) (k : Keeps (fun b => b = gs) w w') {L : List Sig} (hs : Sl w' 2 csv L.length (L.flatMap encSig))
    (h1 : crv.ownBlock ≠ some gs) (h2 : ctv.ownBlock ≠ some gs) (h3 : ∀ x ∈ C.ruls, x.2.ownBlock ≠ some gs) (h4 : ∀ x ∈ C.tab, x.2.ownBlock ≠ some gs) :
    CfgR w' ⟨L, C.ruls, C.tab, C.b0, C.b1, C.b2, C.drain, C.pause, C.off, C.brk, C.log⟩ csv crv ctv :=
  ⟨hs, h.rul.keep k (fun b hb eb => h1 (eb ▸ hb)), h.tab.keep k (fun b hb eb => h2 (eb ▸ hb)), fun x hx => (h.stg x hx).keep k (fun b hb eb => h3 x hx (eb ▸ hb)), fun y hy => Sl.keep (h.slot y hy) k (fun b hb eb => h4 y hy (eb ▸ hb))⟩

end Go.Proofs.YtlenhccdkhgfgaaDoor
