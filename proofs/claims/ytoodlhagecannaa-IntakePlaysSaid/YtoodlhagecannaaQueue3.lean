/-
  A queue of bands, more: New, Take, Band, Len.
-/
import Derived.Test.YtoodlhagecannaaQueue2
import Derived.Test.YtoodlhagecannaaLib2
namespace Go.Proofs.Ytoodlhagecannaa
open Go.RowKit

/-- What stands at the priority i of a queue of which the first k bands are made. -/
def pc (bs : Nat → Nat) (k i : Nat) : Value := if i ≤ k then .pointer (some ⟨bs i, 0, none⟩) else .pointer none

/-- A queue of which the first k bands are made. -/
structure NewQ (w0 wr : World) (qb : Nat) (R : Nat → Int) (k : Nat) (bs : Nat → Nat) : Prop where
  blk : wr.heap[qb]? = some (.cells #[pc bs k 1, pc bs k 2, pc bs k 3] 101 (0, 0))
  ring : ∀ i, 1 ≤ i → i ≤ k → RingE wr (bs i) (fun j => j = bs i) (roomOf (R i)) []
  up : ∀ i, 1 ≤ i → i ≤ k → qb < bs i
  inj : ∀ i j, 1 ≤ i → i < j → j ≤ k → bs i < bs j
  new : w0.heap.size ≤ qb
  old : Keeps No w0 wr

theorem NewQ.step {w0 wr w1 w2 : World} {qb k : Nat} {R : Nat → Int} {bs : Nat → Nat} (h : NewQ w0 wr qb R k bs) {nb : Nat} (hnb : wr.heap.size = nb)
    (r : RingE w1 nb (fun j => j = nb) (roomOf (R (k + 1))) []) (k1 : Keeps No wr w1) (k2 : Keeps (fun j => j = qb) w1 w2)
    (hb : w2.heap[qb]? = some (.cells #[pc (upd bs (k + 1) nb) (k + 1) 1, pc (upd bs (k + 1) nb) (k + 1) 2, pc (upd bs (k + 1) nb) (k + 1) 3] 101 (0, 0))) :
    NewQ w0 w2 qb R (k + 1) (upd bs (k + 1) nb) := by
  have hq : qb < wr.heap.size := lt_of_block h.blk
  have hbs : ∀ i, 1 ≤ i → i ≤ k → bs i < wr.heap.size := fun i a b => RingG.lt (h.ring i a b) _ rfl
  refine ⟨hb, fun i a b => ?_, fun i a b => ?_, fun i j a b c => ?_, h.new, h.old.trans' (k1.trans' k2 (fun _ _ h => h.elim) (fun _ _ h => h)) (fun _ _ h => h) (fun i hi e => ?_)⟩
  · by_cases e : i = k + 1
    · subst e; rw [upd_at]; exact RingG.keep r k2 (fun j hj e => by omega)
    · rw [upd_ne _ _ e]
      exact RingG.keep (RingG.keep (h.ring i a (by omega)) k1 (fun _ _ h => h)) k2 (fun j hj e => by have := h.up i a (by omega); omega)
  · by_cases e : i = k + 1
    · subst e; rw [upd_at]; omega
    · rw [upd_ne _ _ e]; exact h.up i a (by omega)
  · rw [upd_ne _ _ (show i ≠ k + 1 by omega)]
    by_cases e : j = k + 1
    · subst e; rw [upd_at, ← hnb]; exact hbs i a (by omega)
    · rw [upd_ne _ _ e]; exact h.inj i j a b (by omega)
  · have := h.new; omega

theorem NewQ.all {w0 wr : World} {qb : Nat} {R : Nat → Int} {bs : Nat → Nat} (h : NewQ w0 wr qb R 3 bs) :
    ∃ F, QueueE wr qb F (fun i => roomOf (R i)) (fun _ => []) ∧ (∀ i, F i → w0.heap.size ≤ i) ∧ Keeps No w0 wr := by
  refine ⟨QBl qb (fun i j => j = bs i), ⟨bs, fun i j => j = bs i, ⟨h.blk, fun i a b => h.ring i a b, fun i a b e => ?_, fun i j a b c d e k hk hk' => ?_⟩, fun _ => Iff.rfl⟩, fun i hi => ?_, h.old⟩
  · have := h.up i a b; omega
  · rcases Nat.lt_or_gt_of_ne e with e | e
    · have := h.inj i j a e d; omega
    · have := h.inj j i c e b; omega
  · have hn := h.new
    rcases hi with rfl | ⟨j, a, b, rfl⟩
    · exact hn
    · have := h.up j a b; omega

set_option maxHeartbeats 2000000 in
set_option maxRecDepth 100000 in
theorem qnew_any (a b c : Int) (w : World) :
    Calls Try.prog 27 #[.agg #[.int .i64 a, .int .i64 b, .int .i64 c]] w fun e w' => ∃ qb, e = .returned (.pointer (some ⟨qb, 0, none⟩)) ∧
      ∃ F, QueueE w' qb F (fun i => roomOf (if i = 1 then a else if i = 2 then b else c)) (fun _ => []) ∧ (∀ i, F i → w.heap.size ≤ i) ∧ Keeps No w w' := by
  obtain ⟨w1, hw1⟩ : ∃ w1, w1 = (w.alloc (.cells #[.int .i64 a, .int .i64 b, .int .i64 c] 32)).alloc (.cells #[.pointer none, .pointer none, .pointer none] 101) := ⟨_, rfl⟩
  have h1 : NewQ w w1 (w.heap.size + 1) (fun i => if i = 1 then a else if i = 2 then b else c) 0 (fun _ => 0) := by
    refine ⟨?_, fun i a b => by omega, fun i a b => by omega, fun i j a b c => by omega, by omega, ?_⟩
    · rw [hw1]; exact heap_alloc_at (by simp) _
    · rw [hw1]; exact ((Keeps.refl No _).alloc _).alloc _
  have hr : w1.heap[w.heap.size]? = some (.cells #[.int .i64 a, .int .i64 b, .int .i64 c] 32 (0, 0)) := by
    rw [hw1]; exact heapA _ (heap_alloc_new w _)
  have hk1 : Keeps No w w1 := h1.old
  have a0 := cell_at (i := 0) hr rfl
  have a1 := cell_at (i := 1) hr rfl
  have a2 := cell_at (i := 2) hr rfl
  have H1 := hid h1
  have HW1 := hid hw1
  clear h1 hw1 hr hk1
  go_enter Try.func27, Try.ntmps27
  go_wp2
  rw [← HW1.out]
  go_loopw [9] (fun v9 wr => ∃ (k : Nat) (bs : Nat → Nat), k ≤ 3 ∧ v9 = .int .i64 k ∧ Hid (NewQ w wr (w.heap.size + 1) (fun i => if i = 1 then a else if i = 2 then b else c) k bs)) (fun v9 _ => 3 - (intOf v9).toNat)
  case atStart => exact ⟨0, _, by omega, rfl, H1⟩
  case round =>
    obtain ⟨k, bs, hk, rfl, HQ⟩ := hrel
    have hblk := HQ.out.blk
    rcases (show k = 0 ∨ k = 1 ∨ k = 2 ∨ k = 3 by omega) with rfl | rfl | rfl | rfl
    · simp only [pc, Nat.reduceLeDiff, if_false] at hblk
      have HB := hid hblk
      clear hblk
      have hidx : ∀ w, (Instr.index 32 (.agg #[.int .i64 a, .int .i64 b, .int .i64 c]) (.int .i64 0)).run Try.prog w = .ok (.int .i64 a) w := fun w => run_index_arr1 (i := 0) Try.underlying32 Try.isAgg3 Try.sizeOf3 rfl (by decide) rfl w
      go_wp2_with fail
      go_region_with (go_at_call 37; refine (enew_any _ _).mono ?_; rintro e w2 ⟨rfl, r2, k2⟩; have hb2 := k2.heap (fun h => h) HB.out; have q0 := cell_at (i := 0) hb2 rfl; have f0 := free_at (i := 0) hb2; have HB2 := hid hb2; have R2 := hid r2; have K2 := hid k2; clear r2 k2 hb2)
      all_goals
        go_wp2
        go_roundw
        case rel =>
          refine ⟨1, _, by omega, rfl, hid (HQ.out.step (nb := wr.heap.size) rfl R2.out ((Keeps.refl No _).drew.trans K2.out) ?_ ?_)⟩
          · repeat' (first | with_reducible exact Keeps.refl _ _ | with_reducible refine Keeps.drewN ?_ _ | with_reducible refine Keeps.drew ?_ | with_reducible refine Keeps.setCell ?_ ?_ _ | exact Or.inr rfl)
          · have hb2 := HB2.out
            simp [World.setCell, Array.getElem?_modify, hb2, pc, upd]
        case measure => simp [intOf]
    · simp only [pc, Nat.reduceLeDiff, if_true, if_false] at hblk
      have HB := hid hblk
      clear hblk
      have hidx : ∀ w, (Instr.index 32 (.agg #[.int .i64 a, .int .i64 b, .int .i64 c]) (.int .i64 1)).run Try.prog w = .ok (.int .i64 b) w := fun w => run_index_arr1 (i := 1) Try.underlying32 Try.isAgg3 Try.sizeOf3 rfl (by decide) rfl w
      go_wp2_with fail
      go_region_with (go_at_call 37; refine (enew_any _ _).mono ?_; rintro e w2 ⟨rfl, r2, k2⟩; have hb2 := k2.heap (fun h => h) HB.out; have q0 := cell_at (i := 1) hb2 rfl; have f0 := free_at (i := 1) hb2; have HB2 := hid hb2; have R2 := hid r2; have K2 := hid k2; clear r2 k2 hb2)
      all_goals
        go_wp2
        go_roundw
        case rel =>
          refine ⟨2, _, by omega, rfl, hid (HQ.out.step (nb := wr.heap.size) rfl R2.out ((Keeps.refl No _).drew.trans K2.out) ?_ ?_)⟩
          · repeat' (first | with_reducible exact Keeps.refl _ _ | with_reducible refine Keeps.drewN ?_ _ | with_reducible refine Keeps.drew ?_ | with_reducible refine Keeps.setCell ?_ ?_ _ | exact Or.inr rfl)
          · have hb2 := HB2.out
            simp [World.setCell, Array.getElem?_modify, hb2, pc, upd]
        case measure => simp [intOf]
    · simp only [pc, Nat.reduceLeDiff, if_true, if_false] at hblk
      have HB := hid hblk
      clear hblk
      have hidx : ∀ w, (Instr.index 32 (.agg #[.int .i64 a, .int .i64 b, .int .i64 c]) (.int .i64 2)).run Try.prog w = .ok (.int .i64 c) w := fun w => run_index_arr1 (i := 2) Try.underlying32 Try.isAgg3 Try.sizeOf3 rfl (by decide) rfl w
      go_wp2_with fail
      go_region_with (go_at_call 37; refine (enew_any _ _).mono ?_; rintro e w2 ⟨rfl, r2, k2⟩; have hb2 := k2.heap (fun h => h) HB.out; have q0 := cell_at (i := 2) hb2 rfl; have f0 := free_at (i := 2) hb2; have HB2 := hid hb2; have R2 := hid r2; have K2 := hid k2; clear r2 k2 hb2)
      all_goals
        go_wp2
        go_roundw
        case rel =>
          refine ⟨3, _, by omega, rfl, hid (HQ.out.step (nb := wr.heap.size) rfl R2.out ((Keeps.refl No _).drew.trans K2.out) ?_ ?_)⟩
          · repeat' (first | with_reducible exact Keeps.refl _ _ | with_reducible refine Keeps.drewN ?_ _ | with_reducible refine Keeps.drew ?_ | with_reducible refine Keeps.setCell ?_ ?_ _ | exact Or.inr rfl)
          · have hb2 := HB2.out
            simp [World.setCell, Array.getElem?_modify, hb2, pc, upd]
        case measure => simp [intOf]
    · clear hblk
      go_wp2
      go_ret
      exact ⟨_, rfl, HQ.out.all⟩

section
variable {w : World} {qb : Nat} {R : Nat → Nat} {L : Nat → List Ev} {F : Nat → Prop}

set_option maxHeartbeats 400000 in
set_option maxRecDepth 100000 in
theorem qall_ok (h : QueueE w qb F R L) {p : Int} {i : Nat} (hp : p = i) (h1 : 1 ≤ i) (h2 : i ≤ 3) :
    Calls Try.prog 35 #[.pointer (some ⟨qb, 0, none⟩), .int .u8 p] w fun e w' => ∃ v', e = .returned v' ∧ w'.ownsRow 0 64 3 v' (L i).length ((L i).flatMap encE) ∧ Keeps No w w' ∧ ∀ k, v'.ownBlock = some k → w.heap.size ≤ k := by
  obtain ⟨bs, Fs, h, hF⟩ := h
  have hb := qband_ok h hp h1 h2
  have ha := eall_any (h.ring i h1 h2)
  clear h hp hF
  go_enter Try.func35, Try.ntmps35
  go_wp2_with (first | (go_at_call 38; refine hb.mono ?_; rintro e w' ⟨rfl, rfl⟩) | (go_at_call 44; refine ha.mono ?_; rintro e w2 ⟨v2, rfl, hq⟩; have HQ := hid hq; clear hq))
  go_ret
  exact ⟨_, rfl, HQ.out⟩

set_option maxHeartbeats 400000 in
set_option maxRecDepth 100000 in
theorem qall_none (q : Nat) (p : Int) (w : World) (hp : p < 1 ∨ 3 < p) :
    Calls Try.prog 35 #[.pointer (some ⟨q, 0, none⟩), .int .u8 p] w fun e w' => ∃ a c, e = .returned (.slice a 0 c) ∧ Keeps No w w' := by
  have hb := qband_none q p w hp
  clear hp
  go_enter Try.func35, Try.ntmps35
  go_wp2_with (first | (go_at_call 38; refine hb.mono ?_; rintro e w' ⟨rfl, rfl⟩) | (go_at_call 44; refine (eall_nil _).mono ?_; rintro e w2 ⟨a2, c2, rfl, hq⟩; have HQ := hid hq; clear hq))
  go_ret
  exact ⟨_, _, rfl, HQ.out⟩

end

end Go.Proofs.Ytoodlhagecannaa
