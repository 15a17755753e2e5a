/-
  A number of a rule that Make made is another one; a signal's bound is.
-/
import Derived.Test.YtlenhccdkhgfgaaDoorMake4
namespace Go.Proofs.YtlenhccdkhgfgaaDoor
open Go.RowKit
set_option linter.unusedVariables false

theorem flatMap_set {α : Type} {size : Nat} {enc : α → List Value} (he : ∀ x, (enc x).length = size) : ∀ (xs : List α) (i j : Nat) (y : α) (u : Value) (hi : i < xs.length), j < size → enc y = (enc xs[i]).set j u →
    (xs.flatMap enc).set (i * size + j) u = (xs.set i y).flatMap enc
  | [], i, j, y, u, hi, _, _ => by simp at hi
  | x :: xs, 0, j, y, u, _, hj, hy => by
    simp only [List.flatMap_cons, List.set_cons_zero, Nat.zero_mul, Nat.zero_add]
    rw [List.set_append_left _ _ (by rw [he]; exact hj), hy]
    rfl
  | x :: xs, i + 1, j, y, u, hi, hj, hy => by
    simp at hi
    simp only [List.flatMap_cons, List.set_cons_succ]
    rw [List.set_append_right _ _ (by rw [he, Nat.succ_mul]; omega), he, show (i + 1) * size + j - size = i * size + j by rw [Nat.succ_mul]; omega, flatMap_set he xs i j y u hi hj (by simpa using hy)]

theorem MadeOwn.calm {w0 w w2 : World} {C : Cfg} {csv crv ctv : Value} (o : MadeOwn w0 w C csv crv ctv) (k : Keeps No w w2) : MadeOwn w0 w2 C csv crv ctv :=
  ⟨k.own o.rown (fun _ _ h => h), by obtain ⟨bs, e, h, n⟩ := o.sblk; exact ⟨bs, e, h.keep k (fun h => h), n⟩, o.new, o.sep1, o.sep2⟩

/-- A configuration in which a rule is another one. -/
def withRule (C : Cfg) (i : Nat) (x : Rul × Value) : Cfg := ⟨C.sigs, C.ruls.set i x, C.tab, C.b0, C.b1, C.b2, C.drain, C.pause, C.off, C.brk, C.log⟩

theorem MadeOwn.setRule {w0 w : World} {C : Cfg} {csv crv ctv : Value} {gr cap : Nat} (h : CfgR w C csv crv ctv) (o : MadeOwn w0 w C csv crv ctv) (e : crv = .slice (some ⟨gr, 0, none⟩) C.ruls.length cap) {i j : Nat} (hi : i < C.ruls.length) (hj : j < 9) {u : Value} {x : Rul × Value}
    (hx : encRul x = (encRul C.ruls[i]).set j u) (hst : Sl w 2 x.2 x.1.stages.length (x.1.stages.flatMap encStg)) (hne : x.2.ownBlock ≠ some gr) :
    CfgR (w.setCell ⟨gr, i * 9 + j, none⟩ u) (withRule C i x) csv crv ctv ∧ Keeps (fun k => k = gr) w (w.setCell ⟨gr, i * 9 + j, none⟩ u) := by
  have hg : crv.ownBlock = some gr := by rw [e]; rfl
  have k : Keeps (fun k => k = gr) w (w.setCell ⟨gr, i * 9 + j, none⟩ u) := (Keeps.refl (fun k => k = gr) w).setCell (p := ⟨gr, i * 9 + j, none⟩) (Or.inr rfl) _
  obtain ⟨s1, s2, s3, s4⟩ := o.sep1 gr hg
  have ro := o.rown
  rw [e] at ro
  have ro2 := (ro.stored (i * 9 + j) u).1
  rw [flatMap_set (size := 9) (fun _ => rfl) C.ruls i j x u hi hj hx] at ro2
  refine ⟨⟨h.sig.keep k (fun b hb eb => s1 (eb ▸ hb)), ?_, h.tab.keep k (fun b hb eb => s2 (eb ▸ hb)), ?_, fun y hy => Sl.keep (h.slot y hy) k (fun b hb eb => s4 y hy (eb ▸ hb))⟩, k⟩
  · show Sl _ 9 crv (C.ruls.set i x).length ((C.ruls.set i x).flatMap encRul)
    rw [List.length_set, e]
    exact Sl.ofOwn ro2
  · intro y hy
    rcases List.mem_or_eq_of_mem_set hy with hy | hy
    · exact (h.stg y hy).keep k (fun b hb eb => s3 y hy (eb ▸ hb))
    · subst hy
      exact hst.keep k (fun b hb eb => hne (eb ▸ hb))

/-- A configuration in which signals are other ones. -/
def withSigs (C : Cfg) (l : List Sig) : Cfg := ⟨l, C.ruls, C.tab, C.b0, C.b1, C.b2, C.drain, C.pause, C.off, C.brk, C.log⟩

theorem MadeOwn.setSig {w0 w : World} {C : Cfg} {csv crv ctv : Value} {gs : Nat} (h : CfgR w C csv crv ctv) (o : MadeOwn w0 w C csv crv ctv) (e : csv = .slice (some ⟨gs, 0, none⟩) 3 3) (h3 : C.sigs.length = 3) {i j : Nat} (hi : i < C.sigs.length) (hj : j < 2) {u : Value} {x : Sig}
    (hx : encSig x = (encSig C.sigs[i]).set j u) :
    CfgR (w.setCell ⟨gs, i * 2 + j, none⟩ u) (withSigs C (C.sigs.set i x)) csv crv ctv ∧ Keeps (fun k => k = gs) w (w.setCell ⟨gs, i * 2 + j, none⟩ u) := by
  have hg : csv.ownBlock = some gs := by rw [e]; rfl
  have k : Keeps (fun k => k = gs) w (w.setCell ⟨gs, i * 2 + j, none⟩ u) := (Keeps.refl (fun k => k = gs) w).setCell (p := ⟨gs, i * 2 + j, none⟩) (Or.inr rfl) _
  obtain ⟨t1, t2, t3⟩ := o.sep2 gs hg
  obtain ⟨bs, eb, hb, _⟩ := o.sblk
  rw [e] at eb
  simp only [Value.slice.injEq, Option.some.injEq, Addr.mk.injEq, and_true] at eb
  subst eb
  have hs := h.sig
  rw [e, h3] at hs
  have hcells : C.sigs.flatMap encSig = sigsL := by
    apply List.ext_getElem?
    intro q
    by_cases hq : q < 6
    · have h1 : q < (C.sigs.flatMap encSig).length := by rw [hs.1]; omega
      obtain ⟨g, off, ea, _, c⟩ := Sl.cellAt hs (List.getElem?_eq_getElem h1)
      simp only [Option.some.injEq, Addr.mk.injEq, and_true] at ea
      obtain ⟨rfl, rfl⟩ := ea
      have h2 : q < sigsL.length := hq
      have c2 := hb.cell (List.getElem?_eq_getElem h2)
      rw [Nat.zero_add, c2] at c
      rw [List.getElem?_eq_getElem h1, List.getElem?_eq_getElem h2]
      exact c.symm
    · rw [List.getElem?_eq_none (by rw [hs.1]; omega), List.getElem?_eq_none (by show 6 ≤ q; omega)]
  have hb2 := hb.set (i * 2 + j) u
  rw [← hcells, flatMap_set (size := 2) (fun _ => rfl) C.sigs i j x u hi hj hx] at hb2
  refine ⟨⟨?_, h.rul.keep k (fun b hb eb => (o.sep1 b hb).1 (by rw [hg, eb])), h.tab.keep k (fun b hb eb => t1 (eb ▸ hb)), fun y hy => (h.stg y hy).keep k (fun b hb eb => t2 y hy (eb ▸ hb)), fun y hy => Sl.keep (h.slot y hy) k (fun b hb eb => t3 y hy (eb ▸ hb))⟩, k⟩
  show Sl _ 2 csv (C.sigs.set i x).length ((C.sigs.set i x).flatMap encSig)
  rw [List.length_set, h3, e]
  exact Sl.ofBlkM hb2 (by rw [length_flatMap_enc (size := 2) (fun _ => rfl), List.length_set, h3]) (by unfold maxLen; decide)

end Go.Proofs.YtlenhccdkhgfgaaDoor
