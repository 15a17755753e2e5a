/-
  What CheckMany makes: as many signals, rules and slots as it is told.
-/
import Derived.Test.YthfjihpfcollfaaChk10
import Derived.Test.YthfjihpfcollfaaOwn
namespace Go.Proofs.Ythfjihpfcollfaa
open Go.RowKit

def r0 : Rul := ⟨6, 0, 0, 0, 0, 0, 1, false, []⟩

/-- The four rows: signals, rules, slots, and the numbers of all rules. -/
def mTy : Nat → TypeId
  | 0 => 66
  | 1 => 58
  | 2 => 62
  | _ => 3

def mSz : Nat → Nat
  | 0 => 2
  | 1 => 9
  | _ => 1

def mCells : Nat → Nat → List Value
  | 0, n => (List.replicate n (⟨0, 0⟩ : Sig)).flatMap encSig
  | 1, n => (List.replicate n (r0, Value.slice none 0 0)).flatMap encRul
  | 2, n => List.replicate n (Value.slice none 0 0)
  | _, n => List.map (fun i : Nat => Value.int .i64 (i : Int)) (List.range n)

def mOne : Nat → Nat → List Value
  | 0, _ => encSig ⟨0, 0⟩
  | 1, _ => encRul (r0, Value.slice none 0 0)
  | 2, _ => [.slice none 0 0]
  | _, n => [.int .i64 (n : Int)]

theorem mCells_snoc : ∀ (i n : Nat), mCells i n ++ mOne i n = mCells i (n + 1)
  | 0, n => by simp [mCells, mOne, List.replicate_succ']
  | 1, n => by simp [mCells, mOne, List.replicate_succ']
  | 2, n => by simp [mCells, mOne, List.replicate_succ']
  | _ + 3, n => by simp [mCells, mOne, List.range_succ]


structure CM (w wr : World) (cb : Nat) (v : Nat → Value) (n : Nat → Nat) : Prop where
  blk : BlkL wr cb 51 [v 0, v 1, v 2, .int .i64 1, .int .i64 1, .int .i64 1, .int .i64 33, .int .i64 1, .int .i64 1, .bool false, .int .i64 1]
  rows : ∀ i, i < 4 → wr.ownsRow 0 (mTy i) (mSz i) (v i) (n i) (mCells i (n i))
  new : ∀ i, i < 4 → ∀ k, (v i).ownBlock = some k → w.heap.size ≤ k ∧ k ≠ cb
  sep : ∀ i j, i < 4 → j < 4 → i ≠ j → ∀ k, (v i).ownBlock = some k → (v j).ownBlock ≠ some k
  keep : Keeps No w wr
  cbn : w.heap.size ≤ cb

def upV (v : Nat → Value) (i : Nat) (x : Value) : Nat → Value := fun j => if j = i then x else v j
def upN (n : Nat → Nat) (i x : Nat) : Nat → Nat := fun j => if j = i then x else n j

/-- A row has grown; c's cell of it is written, too, if it is one of c's. -/
theorem CM.grow {w wr w2 w3 : World} {cb : Nat} {v : Nat → Value} {n : Nat → Nat} (h : CM w wr cb v n) {i : Nat} (hi : i < 4) {x : Obj} {v' : Value} (ho : w2.ownsRow 0 (mTy i) (mSz i) v' (n i + 1) (mCells i (n i) ++ mOne i (n i)))
    (k2 : Keeps (Bl (v i)) (wr.alloc x) w2) (hb : ∀ k, v'.ownBlock = some k → (v i).ownBlock = some k ∨ (wr.alloc x).heap.size ≤ k)
    (hw : w3 = if i = 3 then w2 else w2.setCell ⟨cb, i, none⟩ v') : CM w w3 cb (upV v i v') (upN n i (n i + 1)) := by
  have hcb := h.blk.lt
  have hsz : (wr.alloc x).heap.size = wr.heap.size + 1 := by simp
  have k3 : Keeps (Bl (v i)) wr w2 := ((Keeps.refl No wr).alloc x).trans' k2 (fun _ _ h => h.elim) (fun _ _ h => h)
  have hcbi : ¬ Bl (v i) cb := fun e => (h.new i hi cb e).2 rfl
  have hblk2 := h.blk.keep k3 hcbi
  have k4 : Keeps (fun k => k = cb) w2 w3 := by
    rw [hw]
    split
    · exact Keeps.refl _ _
    · exact (Keeps.refl (fun k => k = cb) w2).setCell (p := ⟨cb, i, none⟩) (Or.inr rfl) _
  have hv'n : ∀ k, v'.ownBlock = some k → w.heap.size ≤ k ∧ k ≠ cb := fun k hk => by
    rcases hb k hk with h' | h'
    · exact h.new i hi k h'
    · have := h.keep.size
      exact ⟨by omega, by omega⟩
  have hother : ∀ j, j < 4 → j ≠ i → ∀ k, (v j).ownBlock = some k → v'.ownBlock ≠ some k := fun j hj hji k hk hk' => by
    rcases hb k hk' with h' | h'
    · exact h.sep j i hj hi hji k hk h'
    · have := own_lt (h.rows j hj) k hk
      omega
  refine ⟨?_, ?_, ?_, ?_, ?_, h.cbn⟩
  · match i, hi with
    | 0, _ =>
      rw [hw, if_neg (by decide)]
      exact hblk2.put 0 v' rfl
    | 1, _ =>
      rw [hw, if_neg (by decide)]
      exact hblk2.put 1 v' rfl
    | 2, _ =>
      rw [hw, if_neg (by decide)]
      exact hblk2.put 2 v' rfl
    | 3, _ =>
      rw [hw, if_pos rfl]
      exact hblk2
  · intro j hj
    by_cases e : j = i
    · subst e
      simp only [upV, upN, if_true]
      rw [← mCells_snoc]
      exact k4.own ho (fun k hk e => (hv'n k hk).2 e)
    · simp only [upV, upN, if_neg e]
      exact k4.own (k3.own (h.rows j hj) (fun k hk hB => h.sep j i hj hi e k hk hB)) (fun k hk e' => (h.new j hj k hk).2 e')
  · intro j hj k hk
    by_cases e : j = i
    · subst e
      simp only [upV, if_true] at hk
      exact hv'n k hk
    · simp only [upV, if_neg e] at hk
      exact h.new j hj k hk
  · intro j l hj hl hjl k hk hk'
    by_cases e : j = i
    · subst e
      simp only [upV, if_true] at hk
      simp only [upV, if_neg (Ne.symm hjl)] at hk'
      exact hother l hl (Ne.symm hjl) k hk' hk
    · simp only [upV, if_neg e] at hk
      by_cases e2 : l = i
      · subst e2
        simp only [upV, if_true] at hk'
        exact hother j hj e k hk hk'
      · simp only [upV, if_neg e2] at hk'
        exact h.sep j l hj hl hjl k hk hk'
  · exact (h.keep.trans' k3 (fun _ _ h => h) (fun k hk hB => by have := (h.new i hi k hB).1; omega)).trans' k4 (fun _ _ h => h) (fun k hk e => by have := h.cbn; omega)

theorem CM.start {w w1 : World} (k : Keeps No w w1) : CM w (w1.alloc (.cells #[.slice none 0 0, .slice none 0 0, .slice none 0 0, .int .i64 1, .int .i64 1, .int .i64 1, .int .i64 33, .int .i64 1, .int .i64 1, .bool false, .int .i64 1] 51)) w1.heap.size (fun _ => .slice none 0 0) (fun _ => 0) := by
  refine ⟨heap_alloc_new w1 _, fun i hi => ?_, fun i hi k hk => by simp [Value.ownBlock] at hk, fun i j _ _ _ k hk => by simp [Value.ownBlock] at hk, k.alloc _, k.size⟩
  match i, hi with
  | 0, _ => exact World.ownsRow_nil _ _ _ _
  | 1, _ => exact World.ownsRow_nil _ _ _ _
  | 2, _ => exact World.ownsRow_nil _ _ _ _
  | 3, _ => exact World.ownsRow_nil _ _ _ _

/-- The configuration that is made. -/
def manyC (n1 n2 n3 : Nat) (v3 : Value) : Cfg :=
  ⟨List.replicate n1 ⟨0, 0⟩, List.replicate n2 (r0, .slice none 0 0), ((List.range n2).map (fun i : Nat => (i : Int)), v3) :: List.replicate (n3 - 1) ([], .slice none 0 0), 1, 1, 1, 33, 1, 1, false, 1⟩

theorem many_entries (n1 n2 n3 : Nat) (v3 : Value) : entries ((manyC n1 n2 n3 v3).tab.map (·.1)) = n2 := by
  have h : ∀ k : Nat, ((List.replicate k (([] : List Int), Value.slice none 0 0)).map (·.1)) = List.replicate k [] := fun k => by simp
  have h2 : ∀ k : Nat, entries (List.replicate k ([] : List Int)) = 0 := fun k => by
    induction k with
    | zero => rfl
    | succ k ih => rw [List.replicate_succ]; unfold entries; simp
  have : entries ((manyC n1 n2 n3 v3).tab.map (·.1)) = n2 + entries (List.replicate (n3 - 1) ([] : List Int)) := by
    unfold manyC
    simp only [List.map_cons, h]
    unfold entries
    simp
  rw [this, h2]; rfl

/-- All of it is kept, if there are not too many. -/
theorem many_keeps {n1 n2 n3 : Nat} {v3 : Value} (h1 : 1 ≤ n1) (h2 : n1 ≤ 8) (h3 : 1 ≤ n2) (h4 : n2 ≤ 32) (h5 : 1 ≤ n3) (h6 : n3 ≤ 64) (i : Nat) (hi : i < 17) (b : Nat) (hb : b < placesB (manyC n1 n2 n3 v3) i) : keepB rulP (manyC n1 n2 n3 v3) i b = true := by
  have hs : (manyC n1 n2 n3 v3).sigs.length = n1 := by simp [manyC]
  have hr : (manyC n1 n2 n3 v3).ruls.length = n2 := by simp [manyC]
  have ht : (manyC n1 n2 n3 v3).tab.length = n3 := by simp [manyC]; omega
  have he := many_entries n1 n2 n3 v3
  have hrule : ∀ k, 3 ≤ k → k ≤ 9 → ((manyC n1 n2 n3 v3).ruls[b]?).all (fun x => rulP (manyC n1 n2 n3 v3).sigs.length x.1 k) = true := fun k k1 k2 => by
    rw [hs]
    cases e : (manyC n1 n2 n3 v3).ruls[b]? with
    | none => rfl
    | some x =>
      have hx := List.eq_of_mem_replicate (List.mem_of_getElem? e)
      rw [hx]
      have hsig : inB 0 0 ((n1 : Int) - 1) = true := inB_true.2 ⟨by omega, by omega⟩
      rcases (show k = 3 ∨ k = 4 ∨ k = 5 ∨ k = 6 ∨ k = 7 ∨ k = 8 ∨ k = 9 by omega) with rfl | rfl | rfl | rfl | rfl | rfl | rfl
      · rfl
      · exact hsig
      · rfl
      · rfl
      · rfl
      · rfl
      · rfl
  match i, hi with
  | 0, _ => show inB _ 1 8 = true; rw [hs]; exact inB_true.2 ⟨by omega, by omega⟩
  | 1, _ =>
    show ((manyC n1 n2 n3 v3).sigs[b]?).all sigP = true
    cases e : (manyC n1 n2 n3 v3).sigs[b]? with
    | none => rfl
    | some x =>
      rw [List.eq_of_mem_replicate (List.mem_of_getElem? e)]
      decide
  | 2, _ => show inB _ 1 32 = true; rw [hr]; exact inB_true.2 ⟨by omega, by omega⟩
  | 3, _ => exact hrule 3 (by omega) (by omega)
  | 4, _ => exact hrule 4 (by omega) (by omega)
  | 5, _ => exact hrule 5 (by omega) (by omega)
  | 6, _ => exact hrule 6 (by omega) (by omega)
  | 7, _ => exact hrule 7 (by omega) (by omega)
  | 8, _ => exact hrule 8 (by omega) (by omega)
  | 9, _ => exact hrule 9 (by omega) (by omega)
  | 10, _ => show inB _ 1 64 = true; rw [ht]; exact inB_true.2 ⟨by omega, by omega⟩
  | 11, _ =>
    show ((manyC n1 n2 n3 v3).tab[b]?).all (fun x => slotK (manyC n1 n2 n3 v3).ruls.length x.1) = true
    rw [hr]
    cases e : (manyC n1 n2 n3 v3).tab[b]? with
    | none => rfl
    | some x =>
      rcases List.mem_cons.1 (List.mem_of_getElem? e) with rfl | hx
      · show slotK n2 ((List.range n2).map (fun i : Nat => (i : Int))) = true
        unfold slotK
        rw [Bool.and_eq_true]
        refine ⟨?_, decide_eq_true ?_⟩
        · rw [List.all_eq_true]
          intro y hy
          simp only [List.mem_map, List.mem_range] at hy
          obtain ⟨j, hj, rfl⟩ := hy
          exact inB_true.2 ⟨by omega, by omega⟩
        · refine List.Pairwise.map _ (fun a b hab e => hab (by omega)) List.nodup_range
      · rw [List.eq_of_mem_replicate hx]
        rfl
  | 12, _ =>
    have hb : b < n2 := by rw [← hr]; exact hb
    show standsB _ b = true
    exact standsB_true (l := (List.range n2).map (fun i : Nat => (i : Int))) (by simp [manyC]) (by simp only [List.mem_map, List.mem_range]; exact ⟨b, hb, rfl⟩)
  | 13, _ =>
    have hb : b < 3 := hb
    rcases (show b = 0 ∨ b = 1 ∨ b = 2 by omega) with rfl | rfl | rfl <;> rfl
  | 14, _ =>
    show (inB 33 1 64 && decide ((entries ((manyC n1 n2 n3 v3).tab.map (·.1)) : Int) < 33 * ((manyC n1 n2 n3 v3).tab.length : Int))) = true
    rw [he, ht, decide_eq_true (by omega)]; rfl
  | 15, _ => rfl
  | 16, _ => rfl
  | k + 17, hk => exact absurd hk (by omega)

/-- It may be just if there are not too many. -/
theorem many_right {n1 n2 n3 n a : Nat} {v3 : Value} (h1 : 1 ≤ n1) (h3 : 1 ≤ n2) (h5 : 1 ≤ n3) (h : IsFirst rulP (manyC n1 n2 n3 v3) n a) : ((n : Int) == 0) = (decide (n1 ≤ 8) && (decide (n2 ≤ 32) && decide (n3 ≤ 64))) := by
  have hs : (manyC n1 n2 n3 v3).sigs.length = n1 := by simp [manyC]
  have hr : (manyC n1 n2 n3 v3).ruls.length = n2 := by simp [manyC]
  have ht : (manyC n1 n2 n3 v3).tab.length = n3 := by simp [manyC]; omega
  by_cases hc : n1 ≤ 8 ∧ n2 ≤ 32 ∧ n3 ≤ 64
  · have h0 : IsFirst rulP (manyC n1 n2 n3 v3) 0 0 := Or.inl ⟨rfl, rfl, fun i hi b hb => many_keeps h1 hc.1 h3 hc.2.1 h5 hc.2.2 i hi b hb⟩
    obtain ⟨rfl, _⟩ := h.only h0
    rw [decide_eq_true hc.1, decide_eq_true hc.2.1, decide_eq_true hc.2.2]; rfl
  · have hn : n ≠ 0 := fun e => by
      subst e
      rcases h with ⟨_, _, hk⟩ | ⟨m, hm, _⟩
      · have k0 := hk 0 (by decide) 0 (show 0 < 1 by decide)
        have k2 := hk 2 (by decide) 0 (show 0 < 1 by decide)
        have k10 := hk 10 (by decide) 0 (show 0 < 1 by decide)
        have k0 : inB ((manyC n1 n2 n3 v3).sigs.length : Int) 1 8 = true := k0
        have k2 : inB ((manyC n1 n2 n3 v3).ruls.length : Int) 1 32 = true := k2
        have k10 : inB ((manyC n1 n2 n3 v3).tab.length : Int) 1 64 = true := k10
        rw [hs] at k0
        rw [hr] at k2
        rw [ht] at k10
        have a0 := (inB_true.1 k0).2
        have a2 := (inB_true.1 k2).2
        have a10 := (inB_true.1 k10).2
        omega
      · omega
    have e1 : ((n : Int) == 0) = false := by simp; omega
    rw [e1]
    by_cases x1 : n1 ≤ 8
    · by_cases x2 : n2 ≤ 32
      · rw [decide_eq_false (show ¬ n3 ≤ 64 by omega), Bool.and_false, Bool.and_false]
      · rw [decide_eq_false x2, Bool.false_and, Bool.and_false]
    · rw [decide_eq_false x1, Bool.false_and]

theorem info_sigA : (Try.prog.info? 66).map (fun i => (i.zero, i.size, i.bytes)) = some (some (.agg #[.int .i64 0, .int .i64 0]), 2, 16) := by kernel_rfl

/-- At last the numbers of all rules stand in the first slot. -/
theorem CM.final {w wr : World} {cb : Nat} {v : Nat → Value} {n : Nat → Nat} (h : CM w wr cb v n) (h3 : 1 ≤ n 2) (h4 : n 3 = n 1) {gt : Nat} {ct : Nat} (e : v 2 = .slice (some ⟨gt, 0, none⟩) (n 2) ct) :
    CfgR (wr.setCell ⟨gt, 0, none⟩ (v 3)) (manyC (n 0) (n 1) (n 2) (v 3)) (v 0) (v 1) (v 2) ∧ BlkL (wr.setCell ⟨gt, 0, none⟩ (v 3)) cb 51 [v 0, v 1, v 2, .int .i64 1, .int .i64 1, .int .i64 1, .int .i64 33, .int .i64 1, .int .i64 1, .bool false, .int .i64 1] ∧ Keeps No w (wr.setCell ⟨gt, 0, none⟩ (v 3)) := by
  have hb2 : (v 2).ownBlock = some gt := by rw [e]; rfl
  have hgt := h.new 2 (by decide) gt hb2
  have kg : Keeps (fun k => k = gt) wr (wr.setCell ⟨gt, 0, none⟩ (v 3)) := (Keeps.refl (fun k => k = gt) wr).setCell (p := ⟨gt, 0, none⟩) (Or.inr rfl) _
  have ho : ∀ j, j < 4 → j ≠ 2 → ∀ k, (v j).ownBlock = some k → ¬ k = gt := fun j hj hj2 k hk ek => h.sep j 2 hj (by decide) hj2 k hk (by rw [ek]; exact hb2)
  have r0' := kg.own (h.rows 0 (by decide)) (ho 0 (by decide) (by decide))
  have r1' := kg.own (h.rows 1 (by decide)) (ho 1 (by decide) (by decide))
  have r3' := kg.own (h.rows 3 (by decide)) (ho 3 (by decide) (by decide))
  have r2 := h.rows 2 (by decide)
  rw [e] at r2
  have r2' := (r2.stored 0 (v 3)).1
  have hsl : (manyC (n 0) (n 1) (n 2) (v 3)).sigs.length = n 0 := by simp [manyC]
  have hrl : (manyC (n 0) (n 1) (n 2) (v 3)).ruls.length = n 1 := by simp [manyC]
  have htl : (manyC (n 0) (n 1) (n 2) (v 3)).tab.length = n 2 := by simp [manyC]; omega
  have hset : (mCells 2 (n 2)).set 0 (v 3) = (manyC (n 0) (n 1) (n 2) (v 3)).tab.map (·.2) := by
    obtain ⟨k, hk⟩ : ∃ k, n 2 = k + 1 := ⟨n 2 - 1, by omega⟩
    rw [hk]
    simp [mCells, manyC, List.replicate_succ]
  refine ⟨⟨?_, ?_, ?_, ?_, ?_⟩, h.blk.keep kg (fun ek => hgt.2 ek.symm), h.keep.trans' kg (fun _ _ h => h) (fun k hk ek => by omega)⟩
  · rw [hsl]; exact Sl.ofOwn r0'
  · rw [hrl]; exact Sl.ofOwn r1'
  · rw [htl, ← hset, e]; exact Sl.ofOwn r2'
  · intro x hx
    rw [List.eq_of_mem_replicate hx]
    exact Sl.nil _ _
  · intro x hx
    rcases List.mem_cons.1 hx with rfl | hx
    · have := Sl.ofOwn r3'
      rw [h4] at this
      show Sl _ 1 (v 3) ((List.range (n 1)).map (fun i : Nat => (i : Int))).length (((List.range (n 1)).map (fun i : Nat => (i : Int))).map (Value.int .i64))
      rw [List.length_map, List.length_range, List.map_map]
      exact this
    · rw [List.eq_of_mem_replicate hx]
      exact Sl.nil _ _

end Go.Proofs.Ythfjihpfcollfaa
