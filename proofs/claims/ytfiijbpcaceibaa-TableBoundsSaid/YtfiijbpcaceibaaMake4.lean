/-
  What Make gives, more: its rows are new, may be written, and stand apart.
-/
import Derived.Test.YtfiijbpcaceibaaMake3
namespace Go.Proofs.Ytfiijbpcaceibaa
open Go.RowKit
set_option linter.unusedVariables false

structure MadeOwn (w w' : World) (C : Cfg) (csv crv ctv : Value) : Prop where
  rown : w'.ownsRow 0 46 9 crv C.ruls.length (C.ruls.flatMap encRul)
  sblk : ∃ bs, csv = .slice (some ⟨bs, 0, none⟩) 3 3 ∧ BlkL w' bs 53 sigsL ∧ w.heap.size ≤ bs
  new : ∀ b, crv.ownBlock = some b → w.heap.size ≤ b
  sep1 : ∀ b, crv.ownBlock = some b → csv.ownBlock ≠ some b ∧ ctv.ownBlock ≠ some b ∧ (∀ x ∈ C.ruls, x.2.ownBlock ≠ some b) ∧ (∀ x ∈ C.tab, x.2.ownBlock ≠ some b)
  sep2 : ∀ b, csv.ownBlock = some b → ctv.ownBlock ≠ some b ∧ (∀ x ∈ C.ruls, x.2.ownBlock ≠ some b) ∧ (∀ x ∈ C.tab, x.2.ownBlock ≠ some b)

def MakePost2 (w : World) (e : Ending) (w' : World) : Prop := ∃ (C : Cfg) (csv crv ctv : Value), e = .returned (C.val csv crv ctv) ∧ CfgR w' C csv crv ctv ∧ Made C ∧ Keeps No w w' ∧ MadeOwn w w' C csv crv ctv

theorem make_own {w wR wz wD w' : World} {dl : List Value} {cra : Option Addr} {crc : Nat} {ctv : Value} {rs : List (Rul × Value)} {ts : List (List Int × Value)} (hK : MkS w wR dl (.slice cra rs.length crc) (.slice none 0 0) rs) (hT : TbS w wR wz (.slice cra rs.length crc) ctv rs.length ts)
    (hD : Keeps (fun b => b = w.heap.size + 1 + 1 + 1) wz wD) (hE : Keeps (fun b => b = w.heap.size + 1) wD w') (b0 b1 b2 dr pa of_ : Int) (br : Bool) (lo : Int) :
    MadeOwn w w' (madeC rs ts b0 b1 b2 dr pa of_ br lo) (.slice (some ⟨w.heap.size + 1 + 1, 0, none⟩) 3 3) (.slice cra rs.length crc) ctv := by
  have h4 := hK.size
  have k1 : Keeps (fun b => b = w.heap.size + 1 + 1 + 1) wR wD := hT.old.trans hD
  have k2 : Keeps (fun b => b = w.heap.size + 1 + 1 + 1 ∨ b = w.heap.size + 1) wR w' := (k1.mono (fun _ _ h => Or.inl h)).trans (hE.mono (fun _ _ h => Or.inr h))
  have hlt : ∀ b, (Value.slice cra rs.length crc).ownBlock = some b → b < wR.heap.size := fun b hb => (hK.own.lt b hb).2
  refine ⟨k2.own hK.own (fun b hb e => by have := hK.new b hb; omega), ⟨_, rfl, hK.s.keep k2 (by omega), by omega⟩, fun b hb => by have := hK.new b hb; omega, fun b hb => ⟨fun h => ?_, fun h => ?_, fun x hx h => ?_, fun x hx h => ?_⟩, fun b hb => ⟨fun h => ?_, fun x hx h => ?_, fun x hx h => ?_⟩⟩
  · have := hK.new b hb
    simp [Value.ownBlock] at h
    omega
  · have a := hlt b hb
    have c := hT.new b h
    omega
  · exact (hK.snew x hx b h).2.2 hb
  · have a := hlt b hb
    have c := (hT.snew x hx b h).1
    omega
  · have c := hT.new b h
    simp [Value.ownBlock] at hb
    omega
  · have c := (hK.snew x hx b h).1
    simp [Value.ownBlock] at hb
    omega
  · have c := (hT.snew x hx b h).1
    simp [Value.ownBlock] at hb
    omega

theorem MakePost2.post {w w' : World} {e : Ending} (h : MakePost2 w e w') : MakePost w e w' := by
  obtain ⟨C, a, b, c, h1, h2, h3, h4, _⟩ := h
  exact ⟨C, a, b, c, h1, h2, h3, h4⟩

end Go.Proofs.Ytfiijbpcaceibaa
