/-
  Events on their way: the document's intake.
-/
import Derived.Test.YtoodlhagecannaaInkD
import Derived.Test.YtoodlhagecannaaCellP
import Derived.Test.YtoodlhagecannaaBlk
import Derived.Test.YtoodlhagecannaaTimeM
import Derived.BigQuiet
import Derived.StillTailTactics
import Derived.Deep.RegionHeld3
import Derived.Deep.DeepCutAuto
import Derived.Deep.CutBlock
namespace Go.Proofs.Ytoodlhagecannaa
open Go.RowKit
set_option linter.unusedVariables false

theorem mputF {w : World} {lv : Value} {l : List (Int × Ev)} (h : SlIt w lv l) (hl : l.length ≤ 1000) (a b c p : Int) (x : Ev) (hp : 1 ≤ p ∧ p ≤ 3) {l' : List (Int × Ev)} {err : Int} (hpf : putF a b c p x l = (l', decide (err = 0))) (he : err = 0 ∨ err = 6) :
    Calls Try.prog 32 #[qval a b c lv, .int .u8 p, x.val] w fun r w' => ∃ lv', r = .returned (.tuple #[qval a b c lv', .int .i64 err]) ∧ SlIt w' lv' l' ∧ Keeps No w w' ∧ ((lv' = lv ∧ l' = l) ∨ ∀ k, lv'.ownBlock = some k → w.heap.size ≤ k) := by
  refine (mput_any h hl a b c p x hp).mono ?_
  rintro r w' ⟨lv', l2, e2, hs, rfl, h1, h2, h3⟩
  obtain ⟨q1, q2⟩ := putF_of hs
  rw [hpf] at q1
  injection q1 with q3 q4
  subst q3
  have : e2 = err := by
    have q5 : (err = 0) ↔ (e2 = 0) := by simpa using q4
    omega
  subst this
  exact ⟨lv', rfl, h1, h2, h3⟩

theorem mtakeF {w : World} {lv : Value} {l : List (Int × Ev)} (h : SlIt w lv l) (hl : l.length ≤ 1000) (a b c : Int) {y : Ev} {p : Int} {ok : Bool} {l' : List (Int × Ev)} (ht : takeF l = if ok then some ((p, y), l') else none) (hn : ok = false → l' = [] ∧ y = Ev.zero ∧ p = 0) :
    Calls Try.prog 29 #[qval a b c lv] w fun e w' => ∃ lv', e = .returned (.tuple #[qval a b c lv', y.val, .int .u8 p, .bool ok]) ∧ SlIt w' lv' l' ∧ Keeps No w w' ∧ ((lv' = lv ∧ l' = l) ∨ ∀ k, lv'.ownBlock = some k → w.heap.size ≤ k) := by
  refine (mtake_all h hl a b c).mono ?_
  rintro e w' ⟨lv', l2, y2, p2, ok2, hT, rfl, h1, h2, h3⟩
  have q := takeF_of hT
  rw [ht] at q
  have hT2 : (ok2 = false → l2 = [] ∧ y2 = Ev.zero ∧ p2 = 0) := fun he => by
    rcases hT with ⟨_, b1, b2, b3, _⟩ | ⟨_, _, _, _, _, e1, _⟩
    · exact ⟨b1, b2, b3⟩
    · rw [e1] at he; cases he
  cases ok <;> cases ok2
  · obtain ⟨rfl, rfl, rfl⟩ := hn rfl
    obtain ⟨rfl, rfl, rfl⟩ := hT2 rfl
    exact ⟨lv', rfl, h1, h2, h3⟩
  · simp at q
  · simp at q
  · simp only [if_true, Option.some.injEq, Prod.mk.injEq] at q
    obtain ⟨⟨rfl, rfl⟩, rfl⟩ := q
    exact ⟨lv', rfl, h1, h2, h3⟩

/-- The document's intake, at b; what was told of each rule, at tb. -/
structure MInk (w : World) (b tb : Nat) (C : Cfg) (sv rv tv lv : Value) (s : InkD) : Prop where
  blk : Bk w b 58 [sv, rv, tv, .int .i64 C.b0, .int .i64 C.b1, .int .i64 C.b2, .int .i64 C.drain, .int .i64 C.pause, .int .i64 C.off, .bool C.brk, .int .i64 C.log, .int .i64 C.b0, .int .i64 C.b1, .int .i64 C.b2, lv, .slice (some ⟨tb, 0, none⟩) s.told.length s.told.length, .int .i64 s.last, .int .i64 (s.refs : Int)]
  items : SlIt w lv s.l
  told : Bk w tb 4 (s.told.map Value.bool)
  ne : b ≠ tb
  own : ∀ k, lv.ownBlock = some k → k ≠ b ∧ k ≠ tb

section
variable {w : World} {b tb : Nat} {C : Cfg} {sv rv tv lv : Value} {s : InkD}

theorem MInk.kept {w' : World} (h : MInk w b tb C sv rv tv lv s) (k : Keeps No w w') : MInk w' b tb C sv rv tv lv s :=
  ⟨h.blk.kept k, h.items.keep k (fun _ _ h => h), h.told.kept k, h.ne, h.own⟩
theorem MInk.keep {S : Nat → Prop} {w' : World} (h : MInk w b tb C sv rv tv lv s) (k : Keeps S w w') (h1 : ¬ S b) (h2 : ¬ S tb) (h3 : 0 < s.l.length → ∀ i, lv.ownBlock = some i → i < w.heap.size → ¬ S i) : MInk w' b tb C sv rv tv lv s :=
  ⟨h.blk.keep k h1, Sl.keep' h.items k h3, h.told.keep k h2, h.ne, h.own⟩

theorem own_len (a : Option Addr) (n m c : Nat) : (Value.slice a n c).ownBlock = (Value.slice a m c).ownBlock := by
  rcases a with _ | ⟨x, y, z⟩
  · cases c <;> rfl
  · first | rfl | (cases z <;> rfl) | (cases y <;> cases z <;> rfl)
/-- .. behind a step. -/
def MInkX (w w' : World) (b tb : Nat) (C : Cfg) (sv rv tv lv : Value) (n0 : Nat) (s : InkD) : Prop := ∃ lv', MInk w' b tb C sv rv tv lv' s ∧ Keeps (fun i => i = b ∨ i = tb) w w' ∧ (0 < s.l.length → ∀ k, lv'.ownBlock = some k → (lv.ownBlock = some k ∧ 0 < n0) ∨ w.heap.size ≤ k)

end
end Go.Proofs.Ytoodlhagecannaa
