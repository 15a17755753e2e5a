/-
  Events on their way: the program's intake: what it is in memory.
-/
import Derived.Test.YtoodlhagecannaaInkD
import Derived.Test.YtoodlhagecannaaCellP
import Derived.Test.YtoodlhagecannaaBlk
import Derived.Test.YtoodlhagecannaaTimeS
import Derived.Test.YtoodlhagecannaaQueue5
import Derived.BigQuiet
import Derived.StillTailTactics
import Derived.Deep.RegionHeld3
import Derived.Deep.DeepCutAuto
import Derived.Deep.CutBlock
namespace Go.Proofs.Ytoodlhagecannaa
open Go.RowKit
set_option linter.unusedVariables false
set_option linter.unusedSimpArgs false

/-- The rules' cells: of each its priority, and what was told of it last. -/
def rulC : List Int → List Bool → List Value
  | p :: ps, t :: ts => .int .u8 p :: .bool t :: rulC ps ts
  | _, _ => []
theorem rulC_len : ∀ (ps : List Int) (ts : List Bool), ts.length = ps.length → (rulC ps ts).length = ps.length * 2
  | [], [], _ => rfl
  | p :: ps, t :: ts, h => by
    have := rulC_len ps ts (by simpa using h)
    simp [rulC, this]; omega
  | [], _ :: _, h => by simp at h
  | _ :: _, [], h => by simp at h
theorem rulC_pri : ∀ (ps : List Int) (ts : List Bool) (k : Nat) (hk : k < ps.length), ts.length = ps.length → (rulC ps ts)[k * 2]? = some (.int .u8 ps[k])
  | p :: ps, t :: ts, 0, _, _ => rfl
  | p :: ps, t :: ts, k + 1, hk, h => by
    rw [show (k + 1) * 2 = k * 2 + 1 + 1 by omega]
    simpa [rulC] using rulC_pri ps ts k (by simpa using hk) (by simpa using h)
  | _ :: _, [], _, _, h => by simp at h
theorem rulC_told : ∀ (ps : List Int) (ts : List Bool) (k : Nat) (hk : k < ts.length), ts.length = ps.length → (rulC ps ts)[k * 2 + 1]? = some (.bool ts[k])
  | p :: ps, t :: ts, 0, _, _ => rfl
  | p :: ps, t :: ts, k + 1, hk, h => by
    rw [show (k + 1) * 2 + 1 = (k * 2 + 1) + 1 + 1 by omega]
    simpa [rulC] using rulC_told ps ts k (by simpa using hk) (by simpa using h)
  | [], _ :: _, _, _, h => by simp at h
theorem rulC_set : ∀ (ps : List Int) (ts : List Bool) (k : Nat) (on : Bool), ts.length = ps.length → (rulC ps ts).set (k * 2 + 1) (.bool on) = rulC ps (ts.set k on)
  | [], [], _, _, _ => rfl
  | p :: ps, t :: ts, 0, _, _ => rfl
  | p :: ps, t :: ts, k + 1, on, h => by
    rw [show (k + 1) * 2 + 1 = (k * 2 + 1) + 1 + 1 by omega]
    simp only [rulC, List.set_cons_succ]
    rw [rulC_set ps ts k on (by simpa using h)]
  | [], _ :: _, _, _, h => by simp at h
  | _ :: _, [], _, _, h => by simp at h
theorem rulC_snoc : ∀ (ps : List Int) (ts : List Bool) (p : Int) (t : Bool), ts.length = ps.length → rulC (ps ++ [p]) (ts ++ [t]) = rulC ps ts ++ [.int .u8 p, .bool t]
  | [], [], _, _, _ => rfl
  | a :: ps, b :: ts, p, t, h => by
    simp only [List.cons_append, rulC]
    rw [rulC_snoc ps ts p t (by simpa using h)]
  | [], _ :: _, _, _, h => by simp at h
  | _ :: _, [], _, _, h => by simp at h

def prisC (C : Cfg) : List Int := C.ruls.map (·.1.pri)
theorem prisC_len (C : Cfg) : (prisC C).length = C.ruls.length := by simp [prisC]
theorem prisC_at {C : Cfg} {k : Nat} (h : k < C.ruls.length) : (prisC C)[k]'(by rw [prisC_len]; exact h) = prioD C (k : Int) := by rw [prioD_at h]; simp [prisC]

structure PInk (w : World) (b qb : Nat) (ru : Value) (F : Nat → Prop) (L : Nat → List Ev) (C : Cfg) (s : InkD) : Prop where
  blk : Bk w b 82 [.pointer (some ⟨qb, 0, none⟩), ru, .int .i64 (C.tab.length : Int), .int .i64 C.drain, .int .i64 (s.refs : Int), .int .i64 s.last]
  q : Holds w qb C.b0 C.b1 C.b2 F L s.l
  row : w.ownsRow 0 84 2 ru s.told.length (rulC (prisC C) s.told)
  ne : ru.ownBlock ≠ some b
  out : ∀ i, F i → i ≠ b ∧ ru.ownBlock ≠ some i

/-- The program's intake, at b; its blocks: F. -/
def PI (w : World) (b : Nat) (F : Nat → Prop) (C : Cfg) (s : InkD) : Prop :=
  ∃ qb ru F0 L, PInk w b qb ru F0 L C s ∧ ∀ i, F i ↔ (i = b ∨ ru.ownBlock = some i ∨ F0 i)

section
variable {w w' : World} {b qb : Nat} {ru : Value} {F : Nat → Prop} {L : Nat → List Ev} {C : Cfg} {s : InkD}
theorem PInk.keep {S : Nat → Prop} (h : PInk w b qb ru F L C s) (k : Keeps S w w') (h1 : ¬ S b) (h2 : ∀ i, ru.ownBlock = some i → ¬ S i) (h3 : ∀ i, F i → ¬ S i) : PInk w' b qb ru F L C s :=
  ⟨h.blk.keep k h1, h.q.keep k h3, k.own h.row h2, h.ne, h.out⟩
theorem PI.keep {S : Nat → Prop} (h : PI w b F C s) (k : Keeps S w w') (hs : ∀ i, F i → ¬ S i) : PI w' b F C s := by
  obtain ⟨qb, ru, F0, L, h, hF⟩ := h
  exact ⟨qb, ru, F0, L, h.keep k (hs _ ((hF b).2 (Or.inl rfl))) (fun i hi => hs i ((hF i).2 (Or.inr (Or.inl hi)))) (fun i hi => hs i ((hF i).2 (Or.inr (Or.inr hi)))), hF⟩
theorem PI.calm (h : PI w b F C s) (k : Keeps No w w') : PI w' b F C s := h.keep k (fun _ _ h => h)
theorem PI.lt (h : PI w b F C s) : ∀ i, F i → i < w.heap.size := by
  obtain ⟨qb, ru, F0, L, h, hF⟩ := h
  intro i hi
  rcases (hF i).1 hi with rfl | h0 | h0
  · exact h.blk.lt
  · exact (h.row.lt _ h0).2
  · exact h.q.q.lt h0
theorem told_atS {l : List Bool} {k : Nat} (hk : k < l.length) : (l.map Value.bool)[k]? = some (.bool l[k]) := by simp [hk]
theorem set_told (l : List Bool) (k : Nat) (on : Bool) : (l.map Value.bool).set k (.bool on) = (l.set k on).map Value.bool := by rw [List.map_set]
theorem putF_no' {a b c p : Int} {x : Ev} {l l' : List (Int × Ev)} (h : putF a b c p x l = (l', false)) : l' = l := by
  unfold putF at h
  split at h
  · cases h
  · split at h
    · cases h
    · injection h with h1 h2; exact h1.symm
end
end Go.Proofs.Ytoodlhagecannaa
