/-
  What Make gives, more: its rows are new, may be written, and stand apart.
-/
import Derived.Test.YtoodlhagecannaaMake3
namespace Go.Proofs.Ytoodlhagecannaa
open Go.RowKit
set_option linter.unusedVariables false

structure MadeOwn (w w' : World) (C : Cfg) (csv crv ctv : Value) : Prop where
  rown : w'.ownsRow 0 68 9 crv C.ruls.length (C.ruls.flatMap encRul)
  sblk : ∃ bs, csv = .slice (some ⟨bs, 0, none⟩) 3 3 ∧ BlkL w' bs 73 sigsL ∧ w.heap.size ≤ bs
  new : ∀ b, crv.ownBlock = some b → w.heap.size ≤ b
  sep1 : ∀ b, crv.ownBlock = some b → csv.ownBlock ≠ some b ∧ ctv.ownBlock ≠ some b ∧ (∀ x ∈ C.ruls, x.2.ownBlock ≠ some b) ∧ (∀ x ∈ C.tab, x.2.ownBlock ≠ some b)
  sep2 : ∀ b, csv.ownBlock = some b → ctv.ownBlock ≠ some b ∧ (∀ x ∈ C.ruls, x.2.ownBlock ≠ some b) ∧ (∀ x ∈ C.tab, x.2.ownBlock ≠ some b)

def MakePost2 (w : World) (e : Ending) (w' : World) : Prop := ∃ (C : Cfg) (csv crv ctv : Value), e = .returned (C.val csv crv ctv) ∧ CfgR w' C csv crv ctv ∧ Made C ∧ Keeps No w w' ∧ MadeOwn w w' C csv crv ctv

/-- The line of a rule's number; its numbers. -/
def lineAt (rules : List (LineD × Value)) (i : Nat) : LineD := (rules.getD i zeroLine).1
def numsD (k limit back span : Int) : Int × Int × Int :=
  if k = 1 then (limit, limit - back % 20, 0) else if k = 2 then (limit, limit + back % 20, 0) else if k = 3 ∨ k = 4 then (1 + limit % 60, back % (1 + limit % 60 + 1), 1 + span % 12) else if k = 5 then (0, 0, 1 + span % 12) else (0, 0, 0)
/-- A rule is as its line says. -/
structure RulLike (x : LineD) (r : Rul) : Prop where
  kind : r.kind = x.kind % 6 + 1
  sig : r.sig = x.sig % 3
  nums : (r.limit, r.back, r.span) = numsD (x.kind % 6 + 1) x.limit x.back x.span
  delay : r.delay = x.delay % 8
  pri : r.pri = x.pri % 3 + 1
  latch : r.latch = x.latch
  none_ : x.stages = [] → r.stages = []
/-- So many rules as lines (one at least), each as its line says. -/
def LikeL (rules : List (LineD × Value)) (rs : List (Rul × Value)) : Prop := rs.length ≤ max 1 rules.length ∧ ∀ (k : Nat) (h : k < rs.length), RulLike (lineAt rules k) rs[k].1
theorem LikeL.nil (rules : List (LineD × Value)) : LikeL rules [] := ⟨by simp, fun k h => by simp at h⟩
theorem LikeL.snoc {rules : List (LineD × Value)} {rs : List (Rul × Value)} {x : Rul × Value} {i : Nat} (h : LikeL rules rs) (hi : rs.length = i) (hlt : i < max 1 rules.length) (hx : RulLike (lineAt rules i) x.1) : LikeL rules (rs ++ [x]) := by
  subst hi
  refine ⟨by rw [List.length_append]; simp only [List.length_singleton]; omega, fun k hk => ?_⟩
  by_cases e : k < rs.length
  · rw [List.getElem_append_left e]; exact h.2 k e
  · have : k = rs.length := by rw [List.length_append] at hk; simp only [List.length_singleton] at hk; omega
    subst this
    simpa using hx
/-- What a configuration has of its draft. -/
structure MadeFrom (C : Cfg) (rules : List (LineD × Value)) (ba dr pa of_ lo : Int) (br : Bool) : Prop where
  like : LikeL rules C.ruls
  num : C.ruls.length = max 1 (min rules.length 8)
  slots : (C.tab.length : Int) = 1 + ba / 16 % 6
  b0 : C.b0 = 1 + ba % 16 % 3
  b1 : C.b1 = 1 + ba % 16 / 2 % 3
  b2 : C.b2 = 1 + ba % 16 / 4 % 4
  drain : C.drain = (entries (C.tab.map (·.1)) : Int) / (C.tab.length : Int) + 1 + dr % 4 / 3 * 2
  pause : C.pause = 1 + pa % 30
  off : C.off = 1 + of_ % 30
  brk : C.brk = br
  log : C.log = 1 + lo % 40
/-- The table is new, and may be written. -/
structure MadeTab (w w' : World) (C : Cfg) (ctv : Value) : Prop where
  town : w'.ownsRow 0 61 1 ctv C.tab.length (C.tab.map (·.2))
  tslot : ∀ x ∈ C.tab, w'.ownsRow 0 3 1 x.2 x.1.length (x.1.map (Value.int .i64))
  tnew : ∀ b, ctv.ownBlock = some b → w.heap.size ≤ b
  tsep : ∀ x ∈ C.tab, ∀ b, x.2.ownBlock = some b → w.heap.size ≤ b ∧ ctv.ownBlock ≠ some b
  tpair : C.tab.Pairwise (fun x y => ∀ b, x.2.ownBlock = some b → y.2.ownBlock ≠ some b)
  tstg : ∀ x ∈ C.ruls, ∀ b, x.2.ownBlock = some b → ctv.ownBlock ≠ some b ∧ ∀ y ∈ C.tab, y.2.ownBlock ≠ some b
theorem make_tab {w wR wz wD w' : World} {dl : List Value} {cra : Option Addr} {crc : Nat} {ctv : Value} {rs : List (Rul × Value)} {ts : List (List Int × Value)} (hK : MkS w wR dl (.slice cra rs.length crc) (.slice none 0 0) rs) (hT : TbS w wR wz (.slice cra rs.length crc) ctv rs.length ts)
    (hD : Keeps (fun b => b = w.heap.size + 1 + 1 + 1) wz wD) (hE : Keeps (fun b => b = w.heap.size + 1) wD w') (b0 b1 b2 dr pa of_ : Int) (br : Bool) (lo : Int) :
    MadeTab w w' (madeC rs ts b0 b1 b2 dr pa of_ br lo) ctv := by
  have h4 := hK.size
  exact ⟨hE.own (hD.own hT.own (fun b hb e => by have := hT.new b hb; omega)) (fun b hb e => by have := hT.new b hb; omega), fun x hx => hE.own (hD.own (hT.slot x hx) (fun b hb e => by have := (hT.snew x hx b hb).1; omega)) (fun b hb e => by have := (hT.snew x hx b hb).1; omega), fun b hb => by have := hT.new b hb; omega, fun x hx b hb => ⟨by have := (hT.snew x hx b hb).1; omega, (hT.snew x hx b hb).2.2⟩, hT.sep, fun x hx b hb => ⟨fun h => by have h1 := hT.new b h; have h2 := (hK.snew x hx b hb).2.1; omega, fun y hy h => by have h1 := (hT.snew y hy b h).1; have h2 := (hK.snew x hx b hb).2.1; omega⟩⟩
def MakePost3 (w : World) (rules : List (LineD × Value)) (ba dr pa of_ lo : Int) (br : Bool) (e : Ending) (w' : World) : Prop := ∃ (C : Cfg) (csv crv ctv : Value), (e = .returned (C.val csv crv ctv) ∧ CfgR w' C csv crv ctv ∧ Made C ∧ Keeps No w w' ∧ MadeOwn w w' C csv crv ctv) ∧ MadeFrom C rules ba dr pa of_ lo br ∧ MadeTab w w' C ctv
theorem MakePost3.two {w : World} {rules : List (LineD × Value)} {ba dr pa of_ lo : Int} {br : Bool} {e : Ending} {w' : World} (h : MakePost3 w rules ba dr pa of_ lo br e w') : MakePost2 w e w' := by
  obtain ⟨C, a, b, c, h, _⟩ := h
  exact ⟨C, a, b, c, h⟩

theorem make_own {w wR wz wD w' : World} {dl : List Value} {cra : Option Addr} {crc : Nat} {ctv : Value} {rs : List (Rul × Value)} {ts : List (List Int × Value)} (hK : MkS w wR dl (.slice cra rs.length crc) (.slice none 0 0) rs) (hT : TbS w wR wz (.slice cra rs.length crc) ctv rs.length ts)
    (hD : Keeps (fun b => b = w.heap.size + 1 + 1 + 1) wz wD) (hE : Keeps (fun b => b = w.heap.size + 1) wD w') (b0 b1 b2 dr pa of_ : Int) (br : Bool) (lo : Int) :
    MadeOwn w w' (madeC rs ts b0 b1 b2 dr pa of_ br lo) (.slice (some ⟨w.heap.size + 1 + 1, 0, none⟩) 3 3) (.slice cra rs.length crc) ctv := by
  have h4 := hK.size
  have k1 : Keeps (fun b => b = w.heap.size + 1 + 1 + 1) wR wD := hT.old.trans hD
  have k2 : Keeps (fun b => b = w.heap.size + 1 + 1 + 1 ∨ b = w.heap.size + 1) wR w' := (k1.mono (fun _ _ h => Or.inl h)).trans (hE.mono (fun _ _ h => Or.inr h))
  have hlt : ∀ b, (Value.slice cra rs.length crc).ownBlock = some b → b < wR.heap.size := fun b hb => (hK.own.lt b hb).2
  refine ⟨k2.own hK.own (fun b hb e => by have := hK.new b hb; omega), ⟨_, rfl, hK.s.keep k2 (by omega), by omega⟩, fun b hb => by have := hK.new b hb; omega, fun b hb => ⟨fun h => ?_, fun h => ?_, fun x hx h => ?_, fun x hx h => ?_⟩, fun b hb => ⟨fun h => ?_, fun x hx h => ?_, fun x hx h => ?_⟩⟩
  · have := hK.new b hb
    simp [Value.ownBlock] at h
    omega
  · have a := hlt b hb
    have c := hT.new b h
    omega
  · exact (hK.snew x hx b h).2.2 hb
  · have a := hlt b hb
    have c := (hT.snew x hx b h).1
    omega
  · have c := hT.new b h
    simp [Value.ownBlock] at hb
    omega
  · have c := (hK.snew x hx b h).1
    simp [Value.ownBlock] at hb
    omega
  · have c := (hT.snew x hx b h).1
    simp [Value.ownBlock] at hb
    omega

theorem MakePost2.post {w w' : World} {e : Ending} (h : MakePost2 w e w') : MakePost w e w' := by
  obtain ⟨C, a, b, c, h1, h2, h3, h4, _⟩ := h
  exact ⟨C, a, b, c, h1, h2, h3, h4⟩

end Go.Proofs.Ytoodlhagecannaa
