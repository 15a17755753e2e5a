/-
  The document's answers for layer 2: Put, more: the band's room, what is put.
-/
import Derived.Test.YtoodlhagecannaaM5
namespace Go.Proofs.Ytoodlhagecannaa
open Go.RowKit

theorem info_itemP : (Try.prog.info? 107).map (fun i => (i.zero, i.size, i.bytes)) = some (some (.agg #[.int .u8 0, .int .i64 0, .bool false, .int .i64 0]), 4, 32) := by kernel_rfl

def StuckM (p : Prop) : Prop := p
theorem stuckM {p : Prop} (h : StuckM p) : p := h

/-- What Put has laid so far, in the variable at b3. -/
structure PutR (w4 wr : World) (b3 : Nat) (a b c : Int) (lv : Value) (l : List (Int × Ev)) : Prop where
  blk : wr.heap[b3]? = some (.cells #[.int .i64 a, .int .i64 b, .int .i64 c, lv] 55 (0, 0))
  own : wr.ownsRow 0 107 4 lv l.length (l.flatMap encI)
  new : ∀ k, lv.ownBlock = some k → w4.heap.size ≤ k
  old : Keeps (fun k => k = b3) w4 wr

theorem PutR.calm {w4 wr W : World} {b3 : Nat} {a b c : Int} {lv : Value} {l : List (Int × Ev)} (h : PutR w4 wr b3 a b c lv l) (hk : Keeps No wr W) : PutR w4 W b3 a b c lv l :=
  ⟨hk.heap (fun h => h) h.blk, hk.own h.own (fun _ _ h => h), h.new, h.old.trans' hk (fun _ _ h => h) (fun _ _ h => h.elim)⟩

theorem PutR.mid {w4 wr W w2 : World} {b3 : Nat} {a b c : Int} {lv : Value} {l : List (Int × Ev)} (h : PutR w4 wr b3 a b c lv l) (hb : b3 < w4.heap.size) (hk : Keeps (fun k => k = wr.heap.size) wr W) (hk2 : Keeps (Bl lv) W w2) :
    w2.heap[b3]? = some (.cells #[.int .i64 a, .int .i64 b, .int .i64 c, lv] 55 (0, 0)) := by
  have hs := h.old.size
  exact hk2.heap (fun h' => by have := h.new b3 (by simpa [Bl] using h'); omega) (hk.heap (by omega) h.blk)

theorem PutR.step {w4 wr W w2 : World} {b3 : Nat} {a b c : Int} {lv v2 : Value} {l : List (Int × Ev)} {y : Int × Ev} (h : PutR w4 wr b3 a b c lv l) (hb : b3 < w4.heap.size) (hk : Keeps (fun k => k = wr.heap.size) wr W)
    (ho : w2.ownsRow 0 107 4 v2 (l.length + 1) (l.flatMap encI ++ encI y)) (hk2 : Keeps (Bl lv) W w2) (hb2 : ∀ k, v2.ownBlock = some k → lv.ownBlock = some k ∨ W.heap.size ≤ k) :
    PutR w4 (w2.setCell ⟨b3, 3, none⟩ v2) b3 a b c v2 (l ++ [y]) := by
  have hs := h.old.size
  have hs2 := hk.size
  have hnew : ∀ k, v2.ownBlock = some k → w4.heap.size ≤ k := fun k hk' => by
    rcases hb2 k hk' with h' | h'
    · exact h.new k h'
    · omega
  refine ⟨?_, ?_, hnew, ?_⟩
  · have := heap_setCell_at (i := 3) (v := v2) (h.mid hb hk hk2)
    simpa using this
  · have := ownsRow_setCell_other (a := ⟨b3, 3, none⟩) ho (fun e => by have := hnew b3 e; omega) v2
    rw [List.length_append, List.flatMap_append]
    simpa using this
  · refine Keeps.at ?_
    refine (h.old.trans' hk (fun _ _ h => h) (fun i hi e => by omega)).trans' hk2 (fun _ _ h => h) (fun i hi h' => by have := h.new i (by simpa [Bl] using h'); omega)

def rmP (a b c p : Int) : Int := if (if p = 1 then a else if p = 2 then b else c) > 1024 then 1024 else (if p = 1 then a else if p = 2 then b else c)

/-- What Put answers. -/
def PutS (a b c p : Int) (x : Ev) (l l' : List (Int × Ev)) (err : Int) : Prop :=
  (fnd p x l = true ∧ err = 0 ∧ l' = putL p x l) ∨ (fnd p x l = false ∧ ((bandL p l).length : Int) < rmP a b c p ∧ err = 0 ∧ l' = l ++ [(p, x)]) ∨ (fnd p x l = false ∧ rmP a b c p ≤ ((bandL p l).length : Int) ∧ err = 6 ∧ l' = l)

section
variable {w : World} {lv : Value} {l : List (Int × Ev)}

set_option maxHeartbeats 8000000 in
set_option maxRecDepth 100000 in
theorem mput_any (h : SlIt w lv l) (hl : l.length ≤ 1000) (a b c p : Int) (x : Ev) (hp : 1 ≤ p ∧ p ≤ 3) :
    Calls Try.prog 32 #[qval a b c lv, .int .u8 p, x.val] w fun r w' => ∃ lv' l' err, PutS a b c p x l l' err ∧ r = .returned (.tuple #[qval a b c lv', .int .i64 err]) ∧ SlIt w' lv' l' ∧ Keeps No w w' ∧ ((lv' = lv ∧ l' = l) ∨ ∀ k, lv'.ownBlock = some k → w.heap.size ≤ k) := by
  have hband := fun w' (k : Keeps No w w') => mband_any (w := w') (Sl.keep h k (fun _ _ h => h)) hl a b c p
  simp only [qval] at hband
  obtain ⟨ao, cap, rfl⟩ := h.any
  obtain ⟨xr, xo, xa⟩ := x
  obtain ⟨hp0, hp1⟩ := hp
  obtain ⟨i0, hi, hz0, hz1, hz2⟩ := info_parts info_itemP
  have HI := hid hi
  have H := hid h
  have HBD := hid hband
  have d0 : decide (p < 1) = false := decide_eq_false (by omega)
  have d1 : decide (p > 3) = false := decide_eq_false (by omega)
  obtain ⟨w4, hw4⟩ : ∃ w4, w4 = ((((w.alloc (.cells #[.int .i64 a, .int .i64 b, .int .i64 c, .slice ao l.length cap] 55)).alloc (.cells #[.int .i64 xr, .bool xo, .int .i64 xa] 64)).alloc (.cells #[.int .i64 0, .int .i64 0, .int .i64 0, .slice none 0 0] 55)).alloc (.cells #[.int .i64 a, .int .i64 b, .int .i64 c, .slice none 0 0] 55)) := ⟨_, rfl⟩
  have hk4 : Keeps No w w4 := by rw [hw4]; exact ((((Keeps.refl No _).alloc _).alloc _).alloc _).alloc _
  have hs4 : w4.heap.size = w.heap.size + 1 + 1 + 1 + 1 := by rw [hw4]; simp
  have hq0 : w4.heap[w.heap.size]? = some (.cells #[.int .i64 a, .int .i64 b, .int .i64 c, .slice ao l.length cap] 55 (0, 0)) := by rw [hw4]; exact heapA _ (heapA _ (heapA _ (heap_alloc_new w _)))
  have hq1 : w4.heap[w.heap.size + 1]? = some (.cells #[.int .i64 xr, .bool xo, .int .i64 xa] 64 (0, 0)) := by rw [hw4]; exact heapA _ (heapA _ (heap_alloc_at (by simp) _))
  have hq2 : w4.heap[w.heap.size + 1 + 1]? = some (.cells #[.int .i64 0, .int .i64 0, .int .i64 0, .slice none 0 0] 55 (0, 0)) := by rw [hw4]; exact heapA _ (heap_alloc_at (by simp) _)
  have hq3 : w4.heap[w.heap.size + 1 + 1 + 1]? = some (.cells #[.int .i64 a, .int .i64 b, .int .i64 c, .slice none 0 0] 55 (0, 0)) := by rw [hw4]; exact heap_alloc_at (by simp) _
  have HK4 := hid hk4
  have HQ0 := hid hq0
  have HQ1 := hid hq1
  have HQ2 := hid hq2
  have HS4 := hid hs4
  have HP0 : Hid (PutR w4 w4 (w.heap.size + 1 + 1 + 1) a b c (.slice none 0 0) (putL p ⟨xr, xo, xa⟩ (l.take 0))) := hid ⟨hq3, World.ownsRow_nil _ _ _ _, fun k hk => by simp [Value.ownBlock] at hk, Keeps.refl _ _⟩
  have HW4 := hid hw4
  unfold Ev.val qval
  clear h hi hband hk4 hs4 hq0 hq1 hq2 hq3 hw4
  go_enter Try.func32, Try.ntmps32
  go_wp2_with fail
  rw [← HW4.out]
  clear HW4
  go_loopw [9, 10] (fun v9 v10 wr => ∃ (k : Nat) (lv : Value), k ≤ l.length ∧ v10 = .int .i64 k ∧ Hid (v9 = .bool (fnd p ⟨xr, xo, xa⟩ (l.take k))) ∧ (∃ f, v9 = .bool f) ∧ Hid (PutR w4 wr (w.heap.size + 1 + 1 + 1) a b c lv (putL p ⟨xr, xo, xa⟩ (l.take k)))) (fun _ v10 _ => l.length - (intOf v10).toNat)
  case atStart => exact ⟨0, _, Nat.zero_le _, rfl, hid rfl, ⟨_, rfl⟩, HP0⟩
  case round =>
    obtain ⟨k, lv, hk, rfl, HFN, ⟨fb, rfl⟩, HP⟩ := hrel
    clear HP0
    have hs4 := HS4.out
    have hso := HP.out.old.size
    have hb0 := HP.out.old.heap (b := w.heap.size) (by omega) HQ0.out
    have hb1 := HP.out.old.heap (b := w.heap.size + 1) (by omega) HQ1.out
    have hb2 := HP.out.old.heap (b := w.heap.size + 1 + 1) (by omega) HQ2.out
    have l0 : w.heap.size < wr.heap.size := by omega
    have l1 : w.heap.size + 1 < wr.heap.size := by omega
    have l2 : w.heap.size + 1 + 1 < wr.heap.size := by omega
    have l3 : w.heap.size + 1 + 1 + 1 < wr.heap.size := by omega
    have HKN : Hid (Keeps No w wr) := hid (HK4.out.trans' HP.out.old (fun _ _ h => h) (fun i hi e => by omega))
    clear hs4 hso
    have q3 := cell_at (i := 3) hb0 rfl
    have e0 := cell_at (i := 0) hb1 rfl
    have e1 := cell_at (i := 1) hb1 rfl
    have e2 := cell_at (i := 2) hb1 rfl
    have o3 := cell_at (i := 3) HP.out.blk rfl
    simp at q3 e0 e1 e2 o3
    have hpl : (putL p ⟨xr, xo, xa⟩ (l.take k)).length ≤ 1000 := by rw [putL_len, List.length_take]; omega
    obtain ⟨al, cl, rfl⟩ := own_any HP.out.own
    by_cases hlt : k < l.length
    · have HPT := hid (putL_take p ⟨xr, xo, xa⟩ l hlt)
      have HFT := hid (fnd_take p ⟨xr, xo, xa⟩ l hlt)
      obtain ⟨g, off, rfl, hg, c0, c1, c2, c3⟩ := SlIt.at (Sl.keep H.out HKN.out (fun _ _ h => h)) hlt
      obtain ⟨⟨yp, yr, yo, ya⟩, hy⟩ : ∃ y, l[k] = y := ⟨_, rfl⟩
      rw [hy] at c0 c1 c2 c3 HPT HFT
      simp only at c0 c1 c2 c3 HPT HFT
      have hcase : (yp == p) = true ∧ (yr == xr) = true ∨ ((yp == p) = false ∨ ((yp == p) = true ∧ (yr == xr) = false)) := by
        cases yp == p <;> cases yr == xr <;> simp
      have HB0 := hid hb0
      clear hy hb0 hb1 hb2
      rcases hcase with ⟨t1, t2⟩ | t1 | ⟨t1, t2⟩
      · have hpt : putL p ⟨xr, xo, xa⟩ (l.take (k + 1)) = putL p ⟨xr, xo, xa⟩ (l.take k) ++ [(yp, ⟨xr, xo, xa⟩)] := by rw [HPT.out, if_pos (by simpa using And.intro t1 t2)]
        have hft : fnd p ⟨xr, xo, xa⟩ (l.take (k + 1)) = true := by rw [HFT.out, t1, t2]; simp
        have HPT2 := hid hpt
        have HFT2 := hid hft
        clear hpt hft HPT HFT
        go_wp2_with (at_builtin; refine stuckM ?_)
        unfold StuckM
        refine wpl_append rfl _ _ 53 rfl 107 i0 (.agg #[.int .u8 0, .int .i64 0, .bool false, .int .i64 0]) 4 32 Try.underlying53 HI.out hz0 hz1 hz2 rfl (by decide) (.slice al (putL p ⟨xr, xo, xa⟩ (l.take k)).length cl) (.slice (some ⟨wr.heap.size + 1, 0, none⟩) 1 1) (putL p ⟨xr, xo, xa⟩ (l.take k)).length 1 ((putL p ⟨xr, xo, xa⟩ (l.take k)).flatMap encI) (encI (yp, ⟨xr, xo, xa⟩)) rfl rfl ?k00 ?k01 ?k02 ?k03 ?k04 ?_
        case k00 =>
          refine Keeps.own (S := fun k => k = wr.heap.size) (w := wr) ?_ HP.out.own (fun i hi e => by have := (HP.out.own.lt i hi).2; omega)
          repeat' (first | with_reducible exact Keeps.refl _ _ | with_reducible refine Keeps.alloc ?_ _ | with_reducible refine Keeps.setCell ?_ ?_ _ | exact Or.inr rfl)
        case k01 => exact Sl.newAt (by simp) #[.int .u8 yp, .int .i64 xr, .bool xo, .int .i64 xa] _ 4 1 rfl (by decide)
        case k02 => intro u hu; simp [encI, encE] at hu; rcases hu with rfl | rfl | rfl | rfl <;> rfl
        case k03 => unfold maxLen; omega
        case k04 => omega
        intro v2 w2 ho2 hk2 hb2
        obtain ⟨a2, c2, rfl⟩ := own_any ho2
        have hS := HP.out.step (y := (yp, ⟨xr, xo, xa⟩)) (by have := HS4.out; omega) (by repeat' (first | with_reducible exact Keeps.refl _ _ | with_reducible refine Keeps.alloc ?_ _ | with_reducible refine Keeps.setCell ?_ ?_ _ | exact Or.inr rfl)) ho2 hk2 hb2
        have hm := HP.out.mid (by have := HS4.out; omega) (by repeat' (first | with_reducible exact Keeps.refl _ _ | with_reducible refine Keeps.alloc ?_ _ | with_reducible refine Keeps.setCell ?_ ?_ _ | exact Or.inr rfl)) hk2
        have t3 := cell_at (i := 3) hm rfl
        have f3 := free_at (i := 3) hm
        have HS := hid hS
        clear ho2 hk2 hb2 hS hm HP HB0 HKN
        go_wp2_with fail
        go_roundw
        case rel => exact ⟨k + 1, _, by omega, by go_num, hid (by rw [HFT2.out]), ⟨_, rfl⟩, hid (by rw [HPT2.out]; exact HS.out)⟩
        case measure => simp [intOf]; omega
      · have hpt : putL p ⟨xr, xo, xa⟩ (l.take (k + 1)) = putL p ⟨xr, xo, xa⟩ (l.take k) ++ [(yp, ⟨yr, yo, ya⟩)] := by rw [HPT.out, if_neg (by simp at t1; simp [t1])]
        have hft : fnd p ⟨xr, xo, xa⟩ (l.take (k + 1)) = fnd p ⟨xr, xo, xa⟩ (l.take k) := by rw [HFT.out, t1]; simp
        have HPT2 := hid hpt
        have HFT2 := hid hft
        clear hpt hft HPT HFT
        go_wp2_with (at_builtin; refine stuckM ?_)
        unfold StuckM
        refine wpl_append rfl _ _ 53 rfl 107 i0 (.agg #[.int .u8 0, .int .i64 0, .bool false, .int .i64 0]) 4 32 Try.underlying53 HI.out hz0 hz1 hz2 rfl (by decide) (.slice al (putL p ⟨xr, xo, xa⟩ (l.take k)).length cl) (.slice (some ⟨wr.heap.size + 1, 0, none⟩) 1 1) (putL p ⟨xr, xo, xa⟩ (l.take k)).length 1 ((putL p ⟨xr, xo, xa⟩ (l.take k)).flatMap encI) (encI (yp, ⟨yr, yo, ya⟩)) rfl rfl ?k10 ?k11 ?k12 ?k13 ?k14 ?_
        case k10 =>
          refine Keeps.own (S := fun k => k = wr.heap.size) (w := wr) ?_ HP.out.own (fun i hi e => by have := (HP.out.own.lt i hi).2; omega)
          repeat' (first | with_reducible exact Keeps.refl _ _ | with_reducible refine Keeps.alloc ?_ _ | with_reducible refine Keeps.setCell ?_ ?_ _ | exact Or.inr rfl)
        case k11 => exact Sl.newAt (by simp) #[.int .u8 yp, .int .i64 yr, .bool yo, .int .i64 ya] _ 4 1 rfl (by decide)
        case k12 => intro u hu; simp [encI, encE] at hu; rcases hu with rfl | rfl | rfl | rfl <;> rfl
        case k13 => unfold maxLen; omega
        case k14 => omega
        intro v2 w2 ho2 hk2 hb2
        obtain ⟨a2, c2, rfl⟩ := own_any ho2
        have hS := HP.out.step (y := (yp, ⟨yr, yo, ya⟩)) (by have := HS4.out; omega) (by repeat' (first | with_reducible exact Keeps.refl _ _ | with_reducible refine Keeps.alloc ?_ _ | with_reducible refine Keeps.setCell ?_ ?_ _ | exact Or.inr rfl)) ho2 hk2 hb2
        have hm := HP.out.mid (by have := HS4.out; omega) (by repeat' (first | with_reducible exact Keeps.refl _ _ | with_reducible refine Keeps.alloc ?_ _ | with_reducible refine Keeps.setCell ?_ ?_ _ | exact Or.inr rfl)) hk2
        have t3 := cell_at (i := 3) hm rfl
        have f3 := free_at (i := 3) hm
        have HS := hid hS
        clear ho2 hk2 hb2 hS hm HP HB0 HKN
        go_wp2_with fail
        go_roundw
        case rel => exact ⟨k + 1, _, by omega, by go_num, hid (by rw [HFT2.out]; exact HFN.out), ⟨_, rfl⟩, hid (by rw [HPT2.out]; exact HS.out)⟩
        case measure => simp [intOf]; omega
      · have hpt : putL p ⟨xr, xo, xa⟩ (l.take (k + 1)) = putL p ⟨xr, xo, xa⟩ (l.take k) ++ [(yp, ⟨yr, yo, ya⟩)] := by rw [HPT.out, if_neg (by simp at t1 t2; simp [t1, t2])]
        have hft : fnd p ⟨xr, xo, xa⟩ (l.take (k + 1)) = fnd p ⟨xr, xo, xa⟩ (l.take k) := by rw [HFT.out, t1, t2]; simp
        have HPT2 := hid hpt
        have HFT2 := hid hft
        clear hpt hft HPT HFT
        go_wp2_with (at_builtin; refine stuckM ?_)
        unfold StuckM
        refine wpl_append rfl _ _ 53 rfl 107 i0 (.agg #[.int .u8 0, .int .i64 0, .bool false, .int .i64 0]) 4 32 Try.underlying53 HI.out hz0 hz1 hz2 rfl (by decide) (.slice al (putL p ⟨xr, xo, xa⟩ (l.take k)).length cl) (.slice (some ⟨wr.heap.size + 1, 0, none⟩) 1 1) (putL p ⟨xr, xo, xa⟩ (l.take k)).length 1 ((putL p ⟨xr, xo, xa⟩ (l.take k)).flatMap encI) (encI (yp, ⟨yr, yo, ya⟩)) rfl rfl ?k20 ?k21 ?k22 ?k23 ?k24 ?_
        case k20 =>
          refine Keeps.own (S := fun k => k = wr.heap.size) (w := wr) ?_ HP.out.own (fun i hi e => by have := (HP.out.own.lt i hi).2; omega)
          repeat' (first | with_reducible exact Keeps.refl _ _ | with_reducible refine Keeps.alloc ?_ _ | with_reducible refine Keeps.setCell ?_ ?_ _ | exact Or.inr rfl)
        case k21 => exact Sl.newAt (by simp) #[.int .u8 yp, .int .i64 yr, .bool yo, .int .i64 ya] _ 4 1 rfl (by decide)
        case k22 => intro u hu; simp [encI, encE] at hu; rcases hu with rfl | rfl | rfl | rfl <;> rfl
        case k23 => unfold maxLen; omega
        case k24 => omega
        intro v2 w2 ho2 hk2 hb2
        obtain ⟨a2, c2, rfl⟩ := own_any ho2
        have hS := HP.out.step (y := (yp, ⟨yr, yo, ya⟩)) (by have := HS4.out; omega) (by repeat' (first | with_reducible exact Keeps.refl _ _ | with_reducible refine Keeps.alloc ?_ _ | with_reducible refine Keeps.setCell ?_ ?_ _ | exact Or.inr rfl)) ho2 hk2 hb2
        have hm := HP.out.mid (by have := HS4.out; omega) (by repeat' (first | with_reducible exact Keeps.refl _ _ | with_reducible refine Keeps.alloc ?_ _ | with_reducible refine Keeps.setCell ?_ ?_ _ | exact Or.inr rfl)) hk2
        have t3 := cell_at (i := 3) hm rfl
        have f3 := free_at (i := 3) hm
        have HS := hid hS
        clear ho2 hk2 hb2 hS hm HP HB0 HKN
        go_wp2_with fail
        go_roundw
        case rel => exact ⟨k + 1, _, by omega, by go_num, hid (by rw [HFT2.out]; exact HFN.out), ⟨_, rfl⟩, hid (by rw [HPT2.out]; exact HS.out)⟩
        case measure => simp [intOf]; omega
    · have HKE := hid (show k = l.length by omega)
      have HB0 := hid hb0
      have HB1 := hid hb1
      have HB2 := hid hb2
      have r0 := cell_at (i := 0) hb2 rfl
      have r1 := cell_at (i := 1) hb2 rfl
      have r2 := cell_at (i := 2) hb2 rfl
      have r3 := cell_at (i := 3) hb2 rfl
      have g0 := free_at (i := 0) hb2
      have g1 := free_at (i := 1) hb2
      have g2 := free_at (i := 2) hb2
      have g3 := free_at (i := 3) hb2
      have o0 := cell_at (i := 0) HP.out.blk rfl
      have o1 := cell_at (i := 1) HP.out.blk rfl
      have o2 := cell_at (i := 2) HP.out.blk rfl
      have z0 := cell_at (i := 0) hb0 rfl
      have z1 := cell_at (i := 1) hb0 rfl
      have z2 := cell_at (i := 2) hb0 rfl
      simp at r0 r1 r2 r3 o0 o1 o2 z0 z1 z2
      clear hb0 hb1 hb2
      rcases hfb : fb with _ | _
      · subst hfb
        have hfn := HFN.out
        rw [HKE.out, List.take_length] at hfn
        have hf : fnd p ⟨xr, xo, xa⟩ l = false := by simpa using hfn.symm
        have hP := HP.out
        rw [HKE.out, List.take_length, putL_none hf] at hP
        have hpe : putL p ⟨xr, xo, xa⟩ (l.take k) = l := by rw [HKE.out, List.take_length, putL_none hf]
        rw [hpe] at o3
        have HF := hid hf
        have HP2 := hid hP
        clear hfn hf hP HP HFN hpe
        obtain ⟨rm, hrm⟩ : ∃ rm, (if p = 1 then a else if p = 2 then b else c) = rm := ⟨_, rfl⟩
        have hroom : ∃ z, z = rmP a b c p ∧ ((decide (rm > 1024) = true ∧ 1024 = z) ∨ (decide (rm > 1024) = false ∧ rm = z)) := by
          refine ⟨_, rfl, ?_⟩
          unfold rmP
          rw [hrm]
          by_cases h : rm > 1024
          · exact Or.inl ⟨decide_eq_true h, by rw [if_pos h]⟩
          · exact Or.inr ⟨decide_eq_false h, by rw [if_neg h]⟩
        obtain ⟨z, hz, hzc⟩ := hroom
        have hrc : (1 = p ∧ a = rm) ∨ (2 = p ∧ b = rm) ∨ (3 = p ∧ c = rm) := by
          rcases (show p = 1 ∨ p = 2 ∨ p = 3 by omega) with rfl | rfl | rfl
          · exact Or.inl ⟨rfl, hrm⟩
          · exact Or.inr (Or.inl ⟨rfl, hrm⟩)
          · exact Or.inr (Or.inr ⟨rfl, hrm⟩)
        have HZ := hid hz
        clear hz hrm hp0 hp1
        have hcmp : decide (((bandL p l).length : Int) ≥ z) = true ∨ decide (((bandL p l).length : Int) ≥ z) = false := by
          cases decide (((bandL p l).length : Int) ≥ z) <;> simp
        have hble := bandL_le p l
        rcases hrc with ⟨rfl, rfl⟩ | ⟨rfl, rfl⟩ | ⟨rfl, rfl⟩
        all_goals
          rcases hzc with ⟨hg1024, rfl⟩ | ⟨hg1024, rfl⟩
          all_goals
            go_wp2_with fail
            clear r0 r1 r2 r3 g0 g1 g2 g3 o0 o1 o2 o3 z0 z1 z2 q3 e0 e1 e2
            refine (HBD.out _ HKN.out).mono ?_
            rintro e w5 ⟨v5, rfl, ho5, hk5, hn5⟩
            obtain ⟨a5, c5, rfl⟩ := own_any ho5
            have hs4 := HS4.out
            have HKN5 := hid (HKN.out.trans hk5)
            have HP5 := hid (HP2.out.calm hk5)
            have hb0 := hk5.heap (fun h => h) HB0.out
            have hb1 := hk5.heap (fun h => h) HB1.out
            have hb2 := hk5.heap (fun h => h) HB2.out
            have q0 := cell_at (i := 0) hb0 rfl
            have q1 := cell_at (i := 1) hb0 rfl
            have q2 := cell_at (i := 2) hb0 rfl
            have q3 := cell_at (i := 3) hb0 rfl
            have e0 := cell_at (i := 0) hb1 rfl
            have e1 := cell_at (i := 1) hb1 rfl
            have e2 := cell_at (i := 2) hb1 rfl
            have o3 := cell_at (i := 3) HP5.out.blk rfl
            simp at q0 q1 q2 q3 e0 e1 e2 o3
            have m0 : w.heap.size < w5.heap.size := lt_of_block hb0
            have m1 : w.heap.size + 1 < w5.heap.size := lt_of_block hb1
            have m2 : w.heap.size + 1 + 1 < w5.heap.size := lt_of_block hb2
            have m3 : w.heap.size + 1 + 1 + 1 < w5.heap.size := lt_of_block HP5.out.blk
            have HB5 := hid hb2
            clear ho5 hk5 hn5 hb0 hb1 hb2 l0 l1 l2 l3
            rcases hcmp with hc | hc
            · have r0 := cell_at (i := 0) HB5.out rfl
              have r1 := cell_at (i := 1) HB5.out rfl
              have r2 := cell_at (i := 2) HB5.out rfl
              have r3 := cell_at (i := 3) HB5.out rfl
              have g0 := free_at (i := 0) HB5.out
              have g1 := free_at (i := 1) HB5.out
              have g2 := free_at (i := 2) HB5.out
              have g3 := free_at (i := 3) HB5.out
              simp at r0 r1 r2 r3
              go_wp2_with fail
              refine bodyPost_ret (v := .tuple #[.agg #[.int .i64 a, .int .i64 b, .int .i64 c, .slice ao l.length cap], .int .i64 6]) (by simp [results, Try.results32, go_sem, r0, r1, r2, r3]) rfl ?_
              refine ⟨.slice ao l.length cap, l, 6, Or.inr (Or.inr ⟨HF.out, by have := HZ.out; have := of_decide_eq_true hc; omega, rfl, rfl⟩), rfl, ?_, ?_, Or.inl ⟨rfl, rfl⟩⟩
              · refine Sl.keep (S := No) H.out ?_ (fun _ _ h => h)
                exact HKN5.out.trans' (S' := fun k => k = w.heap.size + 1 + 1) (by repeat' (first | with_reducible exact Keeps.refl _ _ | with_reducible refine Keeps.drewN ?_ _ | with_reducible refine Keeps.drew ?_ | with_reducible refine Keeps.alloc ?_ _ | with_reducible refine Keeps.setCell ?_ ?_ _ | exact Or.inr rfl)) (fun _ _ h => h) (fun i hi e => by omega)
              · exact HKN5.out.trans' (S' := fun k => k = w.heap.size + 1 + 1) (by repeat' (first | with_reducible exact Keeps.refl _ _ | with_reducible refine Keeps.drewN ?_ _ | with_reducible refine Keeps.drew ?_ | with_reducible refine Keeps.alloc ?_ _ | with_reducible refine Keeps.setCell ?_ ?_ _ | exact Or.inr rfl)) (fun _ _ h => h) (fun i hi e => by omega)
            · go_wp2_with (at_builtin; refine stuckM ?_)
              unfold StuckM
              refine wpl_append rfl _ _ 53 rfl 107 i0 (.agg #[.int .u8 0, .int .i64 0, .bool false, .int .i64 0]) 4 32 Try.underlying53 HI.out hz0 hz1 hz2 rfl (by decide) (.slice al l.length cl) (.slice (some ⟨w5.heap.size, 0, none⟩) 1 1) l.length 1 (l.flatMap encI) (encI (_, ⟨xr, xo, xa⟩)) rfl rfl (HP5.out.own.alloc _) (Sl.new _ #[.int .u8 _, .int .i64 xr, .bool xo, .int .i64 xa] _ 4 1 rfl (by decide)) (by intro u hu; simp [encI, encE] at hu; rcases hu with rfl | rfl | rfl | rfl <;> rfl) (by unfold maxLen; omega) (by omega) ?_
              intro v2 w2 ho2 hk2 hb2
              obtain ⟨a2, c2, rfl⟩ := own_any ho2
              have hS := HP5.out.step (y := (_, ⟨xr, xo, xa⟩)) (by omega) (by repeat' (first | with_reducible exact Keeps.refl _ _ | with_reducible refine Keeps.drewN ?_ _ | with_reducible refine Keeps.drew ?_ | with_reducible refine Keeps.alloc ?_ _ | with_reducible refine Keeps.setCell ?_ ?_ _ | exact Or.inr rfl)) ho2 hk2 hb2
              have hm := HP5.out.mid (by omega) (by repeat' (first | with_reducible exact Keeps.refl _ _ | with_reducible refine Keeps.drewN ?_ _ | with_reducible refine Keeps.drew ?_ | with_reducible refine Keeps.alloc ?_ _ | with_reducible refine Keeps.setCell ?_ ?_ _ | exact Or.inr rfl)) hk2
              have hr := hk2.heap (b := w.heap.size + 1 + 1) (fun h => by have := HP5.out.new _ (by simpa [Bl] using h); omega) (heapA _ HB5.out)
              have t0 := cell_at (i := 0) hm rfl
              have t1 := cell_at (i := 1) hm rfl
              have t2 := cell_at (i := 2) hm rfl
              have t3 := cell_at (i := 3) hm rfl
              have f3 := free_at (i := 3) hm
              have r0 := cell_at (i := 0) hr rfl
              have r1 := cell_at (i := 1) hr rfl
              have r2 := cell_at (i := 2) hr rfl
              have r3 := cell_at (i := 3) hr rfl
              have g0 := free_at (i := 0) hr
              have g1 := free_at (i := 1) hr
              have g2 := free_at (i := 2) hr
              have g3 := free_at (i := 3) hr
              simp at t0 t1 t2 t3 r0 r1 r2 r3
              have HK2 := hid (HKN5.out.trans' (((Keeps.refl No _).alloc _).trans' hk2 (T := Bl (.slice al l.length cl)) (fun _ _ h => h.elim) (fun _ _ h => h)) (fun _ _ h => h) (fun i hi h => by have := HP5.out.new i (by simpa [Bl] using h); omega))
              have HS := hid hS
              clear ho2 hk2 hb2 hS hm hr q0 q1 q2 q3 e0 e1 e2 o3
              go_wp2_with fail
              refine bodyPost_ret (v := .tuple #[.agg #[.int .i64 a, .int .i64 b, .int .i64 c, .slice a2 (l.length + 1) c2], .int .i64 0]) (by simp [results, Try.results32, go_sem, r0, r1, r2, r3]) rfl ?_
              refine ⟨.slice a2 (l.length + 1) c2, _, 0, Or.inr (Or.inl ⟨HF.out, by have := HZ.out; have := of_decide_eq_false hc; omega, rfl, rfl⟩), rfl, ?_, ?_, Or.inr (fun k hk => by have := HS.out.new k hk; omega)⟩
              · have hSl := Sl.ofOwn HS.out.own
                rw [List.length_append] at hSl
                unfold SlIt
                rw [List.length_append]
                refine Sl.keep (S := fun k => k = w.heap.size + 1 + 1) hSl (by repeat' (first | with_reducible exact Keeps.refl _ _ | with_reducible refine Keeps.drewN ?_ _ | with_reducible refine Keeps.drew ?_ | with_reducible refine Keeps.alloc ?_ _ | with_reducible refine Keeps.setCell ?_ ?_ _ | exact Or.inr rfl)) (fun k hk e => by have := HS.out.new k hk; omega)
              · refine HK2.out.trans' (S' := fun k => k = w.heap.size + 1 + 1 ∨ k = w.heap.size + 1 + 1 + 1) ?_ (fun _ _ h => h) (fun i hi e => by omega)
                repeat' (first | with_reducible exact Keeps.refl _ _ | with_reducible refine Keeps.setCell ?_ ?_ _ | exact Or.inr (Or.inl rfl) | exact Or.inr (Or.inr rfl))
      · subst hfb
        have hfn := HFN.out
        rw [HKE.out, List.take_length] at hfn
        have HFN2 := hid hfn
        clear hfn
        have hP := HP.out
        rw [HKE.out, List.take_length] at hP
        have hf : fnd p ⟨xr, xo, xa⟩ l = true := by have := HFN2.out; simpa using this.symm
        have HP2 := hid hP
        have HF := hid hf
        have hpe : putL p ⟨xr, xo, xa⟩ (l.take k) = putL p ⟨xr, xo, xa⟩ l := by rw [HKE.out, List.take_length]
        rw [hpe] at o3
        clear hP hf hpe HFN HFN2 HP
        go_wp2_with fail
        refine bodyPost_ret (v := .tuple #[.agg #[.int .i64 a, .int .i64 b, .int .i64 c, .slice al (putL p ⟨xr, xo, xa⟩ l).length cl], .int .i64 0]) (by simp [results, Try.results32, go_sem, r0, r1, r2, r3]) rfl ?_
        have hs4 := HS4.out
        refine ⟨.slice al (putL p ⟨xr, xo, xa⟩ l).length cl, _, 0, Or.inl ⟨HF.out, rfl, rfl⟩, rfl, ?_, ?_, Or.inr (fun k hk => by have := HP2.out.new k hk; omega)⟩
        · refine Sl.keep (S := fun k => k = w.heap.size + 1 + 1) (Sl.ofOwn HP2.out.own) (by repeat' (first | with_reducible exact Keeps.refl _ _ | with_reducible refine Keeps.drewN ?_ _ | with_reducible refine Keeps.drew ?_ | with_reducible refine Keeps.alloc ?_ _ | with_reducible refine Keeps.setCell ?_ ?_ _ | exact Or.inr rfl)) (fun k hk e => ?_)
          have := HP2.out.new k hk; omega
        · have hKK := HKN.out
          exact hKK.trans' (S' := fun k => k = w.heap.size + 1 + 1) (by repeat' (first | with_reducible exact Keeps.refl _ _ | with_reducible refine Keeps.drewN ?_ _ | with_reducible refine Keeps.drew ?_ | with_reducible refine Keeps.alloc ?_ _ | with_reducible refine Keeps.setCell ?_ ?_ _ | exact Or.inr rfl)) (fun _ _ h => h) (fun i hi e => by omega)

end

end Go.Proofs.Ytoodlhagecannaa
