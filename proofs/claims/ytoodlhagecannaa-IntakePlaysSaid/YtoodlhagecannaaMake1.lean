/-
  The document's Make: what is laid while it runs; one step each.
-/
import Derived.Test.YtoodlhagecannaaMake
import Derived.OwnWalk
namespace Go.Proofs.Ytoodlhagecannaa
open Go.RowKit

/-- A draft, as it stands in its variable. -/
def draftL (rv sv : Value) (ba dr pa of_ : Int) (br : Bool) (lo : Int) : List Value := [rv, sv, .int .u8 ba, .int .u8 dr, .int .u8 pa, .int .u8 of_, .bool br, .int .u8 lo]

def sigsL : List Value := [.int .i64 (-100), .int .i64 300, .int .i64 0, .int .i64 250, .int .i64 (-2147483648), .int .i64 2147483647]

/-- The configuration's variable while rules and slots are laid. -/
def cfgL (sb : Nat) (crv ctv : Value) : List Value := [.slice (some ⟨sb, 0, none⟩) 3 3, crv, ctv, .int .i64 0, .int .i64 0, .int .i64 0, .int .i64 0, .int .i64 0, .int .i64 0, .bool false, .int .i64 0]

/-- What Make has laid, the slots aside. -/
structure MkS (w wr : World) (dl : List Value) (crv ctv : Value) (rs : List (Rul × Value)) : Prop where
  d : BlkL wr w.heap.size 25 dl
  r : BlkL wr (w.heap.size + 1) 34 zeroCfg
  s : BlkL wr (w.heap.size + 1 + 1) 73 sigsL
  c : BlkL wr (w.heap.size + 1 + 1 + 1) 34 (cfgL (w.heap.size + 1 + 1) crv ctv)
  old : Keeps No w wr
  own : wr.ownsRow 0 68 9 crv rs.length (rs.flatMap encRul)
  new : ∀ b, crv.ownBlock = some b → w.heap.size + 4 ≤ b
  stg : ∀ x ∈ rs, Sl wr 2 x.2 x.1.stages.length (x.1.stages.flatMap encStg)
  snew : ∀ x ∈ rs, ∀ b, x.2.ownBlock = some b → w.heap.size + 4 ≤ b ∧ b < wr.heap.size ∧ crv.ownBlock ≠ some b
  ok : ∀ x ∈ rs, RulOk x.1

theorem MkS.keep {S : Nat → Prop} {w wr wr' : World} {dl : List Value} {crv ctv : Value} {rs : List (Rul × Value)} (h : MkS w wr dl crv ctv rs) (k : Keeps S wr wr') (hS : ∀ b, S b → wr.heap.size ≤ b) : MkS w wr' dl crv ctv rs := by
  have hk : Keeps No wr wr' := k.mono (fun i hi hs => by have := hS i hs; omega)
  exact ⟨h.d.keep hk (fun h => h), h.r.keep hk (fun h => h), h.s.keep hk (fun h => h), h.c.keep hk (fun h => h), h.old.trans hk, hk.own h.own (fun _ _ h => h), h.new, fun x hx => (h.stg x hx).keep hk (fun _ _ h => h), fun x hx b hb => by obtain ⟨a, c, d⟩ := h.snew x hx b hb; exact ⟨a, Nat.lt_of_lt_of_le c k.size, d⟩, h.ok⟩

theorem u8_add {a b : Int} (h0 : 0 ≤ a + b) (h1 : a + b ≤ 255) : IntKind.u8.wrap (a + b) = a + b := by rw [IntKind.wrap_u8]; omega

def zeroLine : LineD × Value := (⟨0, 0, 0, 0, 0, 0, 0, false, []⟩, .slice none 0 0)

theorem okZero : OkLine zeroLine.1 := ⟨⟨by decide, by decide⟩, ⟨by decide, by decide⟩, ⟨by decide, by decide⟩, ⟨by decide, by decide⟩, ⟨by decide, by decide⟩, ⟨by decide, by decide⟩, ⟨by decide, by decide⟩, fun x hx => by simp [zeroLine] at hx⟩


def Stuck (p : Prop) : Prop := p
theorem stuck {p : Prop} (h : Stuck p) : p := h

theorem drawn_keeps (w : World) : Keeps No w w.drew := (Keeps.refl _ _).drew

/-- A rule's variable while its stages are laid: w0 is the world ahead of them. -/
structure StgS (w0 wr : World) (rb : Nat) (r : Rul) (sv : Value) (st : List Stg) : Prop where
  blk : BlkL wr rb 68 (encRul (r, sv))
  own : wr.ownsRow 0 75 2 sv st.length (st.flatMap encStg)
  new : ∀ b, sv.ownBlock = some b → w0.heap.size ≤ b
  old : Keeps (fun b => b = rb) w0 wr

theorem StgS.calm {w0 wr wr' : World} {rb : Nat} {r : Rul} {sv : Value} {st : List Stg} (h : StgS w0 wr rb r sv st) (k : Keeps No wr wr') : StgS w0 wr' rb r sv st :=
  ⟨h.blk.keep k (fun h => h), k.own h.own (fun _ _ h => h), h.new, h.old.trans (k.mono (fun _ _ h => h.elim))⟩

theorem StgS.mid {w0 wr W w2 : World} {rb : Nat} {r : Rul} {sv : Value} {st : List Stg} (h : StgS w0 wr rb r sv st) (hb : rb < w0.heap.size) {S : Nat → Prop} (hk : Keeps S wr W) (hS : ∀ i, S i → wr.heap.size ≤ i) (hk2 : Keeps (Bl sv) W w2) :
    BlkL w2 rb 68 (encRul (r, sv)) := by
  have hs := h.old.size
  exact hk2.heap (fun h' => by have := h.new rb h'; omega) (hk.heap (fun e => by have := hS _ e; omega) h.blk)

theorem StgS.step {w0 wr W w2 : World} {rb : Nat} {r : Rul} {sv v2 : Value} {st : List Stg} {s : Stg} (h : StgS w0 wr rb r sv st) (hb : rb < w0.heap.size) {S : Nat → Prop} (hk : Keeps S wr W) (hS : ∀ i, S i → wr.heap.size ≤ i)
    (ho : w2.ownsRow 0 75 2 v2 (st.length + 1) (st.flatMap encStg ++ encStg s)) (hk2 : Keeps (Bl sv) W w2) (hb2 : ∀ k, v2.ownBlock = some k → sv.ownBlock = some k ∨ W.heap.size ≤ k) :
    StgS w0 (w2.setCell ⟨rb, 8, none⟩ v2) rb r v2 (st ++ [s]) := by
  have hs := h.old.size
  have hs2 := hk.size
  have hnew : ∀ k, v2.ownBlock = some k → w0.heap.size ≤ k := fun k hk' => by
    rcases hb2 k hk' with h' | h'
    · exact h.new k h'
    · omega
  refine ⟨?_, ?_, hnew, ?_⟩
  · have := (h.mid hb hk hS hk2).set 8 v2
    simpa [encRul] using this
  · have := ownsRow_setCell_other (a := ⟨rb, 8, none⟩) ho (fun e => by have := hnew rb e; omega) v2
    rw [List.length_append, List.flatMap_append]
    simpa using this
  · refine Keeps.at ?_
    refine (h.old.trans' hk (fun _ _ h => h) (fun i hi e => by have := hS i e; omega)).trans' hk2 (fun _ _ h => h) (fun i hi h' => by have := h.new i h'; omega)

theorem MkS.size {w wr : World} {dl : List Value} {crv ctv : Value} {rs : List (Rul × Value)} (h : MkS w wr dl crv ctv rs) : w.heap.size + 4 ≤ wr.heap.size := by
  have := h.c.lt; omega

/-- Where old memory, and what is laid, is as it was: only blocks from B on were written. -/
theorem MkS.keepB {S : Nat → Prop} {w wr wr' : World} {dl : List Value} {crv ctv : Value} {rs : List (Rul × Value)} (h : MkS w wr dl crv ctv rs) (k : Keeps S wr wr') (hS : ∀ b, b < wr.heap.size → ¬ S b) : MkS w wr' dl crv ctv rs :=
  MkS.keep (S := No) h (k.mono (fun i hi hs => (hS i hi hs).elim)) (fun _ h => h.elim)

/-- A rule more. -/
theorem MkS.step {S : Nat → Prop} {w wr W w2 : World} {dl : List Value} {crv ctv v2 : Value} {rs : List (Rul × Value)} {x : Rul × Value} (h : MkS w wr dl crv ctv rs) (hk : Keeps S wr W) (hS : ∀ b, b < wr.heap.size → ¬ S b)
    (ho : w2.ownsRow 0 68 9 v2 (rs.length + 1) (rs.flatMap encRul ++ encRul x)) (hk2 : Keeps (Bl crv) W w2) (hb2 : ∀ k, v2.ownBlock = some k → crv.ownBlock = some k ∨ W.heap.size ≤ k)
    (hx : Sl W 2 x.2 x.1.stages.length (x.1.stages.flatMap encStg)) (hn : ∀ b, x.2.ownBlock = some b → wr.heap.size ≤ b ∧ b < W.heap.size) (hok : RulOk x.1) :
    MkS w (w2.setCell ⟨w.heap.size + 1 + 1 + 1, 1, none⟩ v2) dl v2 ctv (rs ++ [x]) := by
  have h4 := h.size
  have hW := h.keepB hk hS
  have hs1 := hk.size
  have hs2 := hk2.size
  have hcl : ∀ b, crv.ownBlock = some b → b < wr.heap.size := fun b hb => (h.own.lt b hb).2
  have hnew : ∀ k, v2.ownBlock = some k → w.heap.size + 4 ≤ k := fun k hk' => by
    rcases hb2 k hk' with h' | h'
    · exact h.new k h'
    · omega
  have kk : ∀ {b : Nat}, b < w.heap.size + 4 → ¬ Bl crv b := fun hb h' => by have := h.new _ h'; omega
  have hset : Keeps (fun b => b = w.heap.size + 1 + 1 + 1) w2 (w2.setCell ⟨w.heap.size + 1 + 1 + 1, 1, none⟩ v2) := (Keeps.refl _ _).at
  have hsn : ∀ y ∈ rs ++ [x], ∀ b, y.2.ownBlock = some b → w.heap.size + 4 ≤ b ∧ b < W.heap.size ∧ crv.ownBlock ≠ some b := fun y hy b hb => by
    rcases List.mem_append.1 hy with hy | hy
    · obtain ⟨a, c, d⟩ := h.snew y hy b hb
      exact ⟨a, by omega, d⟩
    · simp at hy; subst hy
      obtain ⟨a, c⟩ := hn b hb
      exact ⟨by omega, c, fun e => by have := hcl b e; omega⟩
  refine ⟨?_, ?_, ?_, ?_, ?_, ?_, hnew, ?_, ?_, ?_⟩
  · exact (hW.d.keep hk2 (kk (by omega))).keep hset (by omega)
  · exact (hW.r.keep hk2 (kk (by omega))).keep hset (by omega)
  · exact (hW.s.keep hk2 (kk (by omega))).keep hset (by omega)
  · have := (hW.c.keep hk2 (kk (by omega))).set 1 v2
    simpa [cfgL] using this
  · exact (hW.old.trans' hk2 (fun _ _ h => h) (fun i hi h' => by have := h.new i h'; omega)).trans' hset (fun _ _ h => h) (fun i hi e => by omega)
  · have := ownsRow_setCell_other (a := ⟨w.heap.size + 1 + 1 + 1, 1, none⟩) ho (fun e => by have := hnew (w.heap.size + 1 + 1 + 1) e; omega) v2
    rw [List.length_append, List.flatMap_append]
    simpa using this
  · intro y hy
    have hy0 : Sl W 2 y.2 y.1.stages.length (y.1.stages.flatMap encStg) := by
      rcases List.mem_append.1 hy with hy | hy
      · exact hW.stg y hy
      · simp at hy; subst hy; exact hx
    exact (hy0.keep hk2 (fun b hb e => (hsn y hy b hb).2.2 e)).keep hset (fun b hb e => by have := (hsn y hy b hb).1; omega)
  · intro y hy b hb
    obtain ⟨a, c, d⟩ := hsn y hy b hb
    refine ⟨a, by simp; omega, fun e => ?_⟩
    rcases hb2 b e with h' | h'
    · exact d h'
    · omega
  · intro y hy
    rcases List.mem_append.1 hy with hy | hy
    · exact h.ok y hy
    · simp at hy; subst hy; exact hok

theorem MkS.mid {S : Nat → Prop} {w wr W w2 : World} {dl : List Value} {crv ctv : Value} {rs : List (Rul × Value)} (h : MkS w wr dl crv ctv rs) (hk : Keeps S wr W) (hS : ∀ b, b < wr.heap.size → ¬ S b) (hk2 : Keeps (Bl crv) W w2) :
    BlkL w2 (w.heap.size + 1 + 1 + 1) 34 (cfgL (w.heap.size + 1 + 1) crv ctv) :=
  (h.keepB hk hS).c.keep hk2 (fun h' => by have := h.new _ h'; omega)

theorem wait_of {s : Int} (h0 : 0 ≤ s) (h1 : s ≤ 255) : IntKind.i64.wrap (1 + IntKind.i64.wrap ((IntKind.u8.wrap (s.tdiv 2)).tmod 12)) = 1 + s / 2 % 12 := by
  have e1 : s.tdiv 2 = s / 2 := Int.tdiv_eq_ediv_of_nonneg h0
  rw [e1, show IntKind.u8.wrap (s / 2) = s / 2 by rw [IntKind.wrap_u8]; omega, Int.tmod_eq_emod_of_nonneg (by omega), show IntKind.i64.wrap (s / 2 % 12) = s / 2 % 12 by rw [IntKind.wrap_i64]; omega]
  rw [IntKind.wrap_i64]; omega

end Go.Proofs.Ytoodlhagecannaa
