/-
  The ring of events, more: Pop, At, Set, All.
-/
import Derived.Test.YtoodlhagecannaaERing
namespace Go.Proofs.Ytoodlhagecannaa
open Go.RowKit

set_option maxHeartbeats 1000000 in
set_option maxRecDepth 100000 in
theorem epop_none {w : World} {b room : Nat} {F : Nat → Prop} (h : RingE w b F room []) :
    Calls Try.prog 39 #[.pointer (some ⟨b, 0, none⟩)] w fun e w' => e = .returned (.tuple #[.agg #[.int .i64 0, .bool false, .int .i64 0], .bool false]) ∧ Keeps No w w' := by
  have c2 := RingE.len_cell h
  have hlt : b < w.heap.size := World.block_lt_of_cell? w _ c2
  clear h
  go_enter Try.func39, Try.ntmps39
  go_wp2_with (go_at_call 45; refine (elen_any _ _ _ (cellA _ (cellA _ c2))).mono ?_; rintro e w' ⟨rfl, rfl⟩)
  go_returns
  refine ⟨rfl, ?_⟩
  repeat' (first | with_reducible exact Keeps.refl _ _ | with_reducible assumption | with_reducible refine Keeps.drewN ?_ _ | with_reducible refine Keeps.drew ?_ | with_reducible refine Keeps.alloc ?_ _ | with_reducible refine Keeps.setCell ?_ ?_ _ | exact Or.inl (by simp) | exact Or.inl (by simp; omega) | exact Or.inl (by omega))

theorem epop_nil (w : World) :
    Calls Try.prog 39 #[.pointer none] w fun e w' => e = .returned (.tuple #[.agg #[.int .i64 0, .bool false, .int .i64 0], .bool false]) ∧ Keeps No w w' := by
  go_enter Try.func39, Try.ntmps39
  go_wp2_with (go_at_call 45; refine (elen_nil _).mono ?_; rintro e w' ⟨rfl, rfl⟩)
  go_returns
  refine ⟨rfl, ?_⟩
  repeat' (first | with_reducible exact Keeps.refl _ _ | with_reducible assumption | with_reducible refine Keeps.drewN ?_ _ | with_reducible refine Keeps.drew ?_ | with_reducible refine Keeps.alloc ?_ _ | with_reducible refine Keeps.setCell ?_ ?_ _ | exact Or.inl (by simp) | exact Or.inl (by simp; omega) | exact Or.inl (by omega))

set_option maxHeartbeats 1000000 in
set_option maxRecDepth 100000 in
theorem epop_ok {w : World} {b room : Nat} {F : Nat → Prop} {y : Ev} {l : List Ev} (h : RingE w b F room (y :: l)) :
    Calls Try.prog 39 #[.pointer (some ⟨b, 0, none⟩)] w fun e w' => e = .returned (.tuple #[y.val, .bool true]) ∧
      ∃ F', RingE w' b F' room l ∧ Upd F w w' F' := by
  obtain ⟨first, v, xs, hb, ho, hne, hF, hok⟩ := h
  obtain ⟨yr, yo, ya⟩ := y
  unfold Ev.val
  have c0 := cell_at (i := 0) hb rfl
  have c1 := cell_at (i := 1) hb rfl
  have c2 := cell_at (i := 2) hb rfl
  have c3 := cell_at (i := 3) hb rfl
  have f1 := free_at (i := 1) hb
  have f2 := free_at (i := 2) hb
  have hrm := hok.rm
  have hcn := hok.cnt
  have hfr := hok.fr
  simp only [List.length_cons] at hcn
  have hpx : first < xs.length ∧ xs[first]? = some ⟨yr, yo, ya⟩ := by
    have h1 := hok.place_lt (i := 0) (by simp)
    have h2 := hok.ats 0 (by simp)
    have h3 := mod_room (a := first + 0) (room := room) (by omega)
    rw [h3, if_pos (by omega)] at h1 h2
    exact ⟨h1, by simpa using h2⟩
  obtain ⟨hp, hy⟩ := hpx
  obtain ⟨g, cap, rfl⟩ := own_some ho (by omega)
  have hgb : ¬ g = b := by simpa [Value.ownBlock] using hne
  have hbg : ¬ b = g := fun e => hgb e.symm
  have hbl : b < w.heap.size := lt_of_block hb
  have hbl1 : b < w.heap.size + 1 := by omega
  have hbl2 : b < w.heap.size + 2 := by omega
  have hgl : g < w.heap.size := (ho.lt g rfl).2
  have hgl1 : g < w.heap.size + 1 := by omega
  have hgl2 : g < w.heap.size + 2 := by omega
  have hcc := own_cellE ho rfl hp
  rw [List.getElem?_eq_getElem hp] at hy
  simp only [Option.some.injEq] at hy
  rw [hy] at hcc
  obtain ⟨hc0, hc1, hc2⟩ := hcc
  have hf0 := ho.frozenAt (first * 3)
  have hf1 := ho.frozenAt (first * 3 + 1)
  have hf2 := ho.frozenAt (first * 3 + 2)
  obtain ⟨q, hq⟩ : ∃ q, (first + 1) % room = q := ⟨_, rfl⟩
  have HQ := hid hq
  have HO := hid ho
  have HK := hid hok
  have HF := hid hF
  have HN := hid hne
  have HB := hid hb
  have hl0 : ((l.length : Int) + 1 == 0) = false := by rw [beq_eq_false_iff_ne]; omega
  clear ho hne hok hF hq hy hb
  go_enter Try.func39, Try.ntmps39
  go_wp2_with (go_at_call 45; refine (elen_any _ _ _ (cellA _ (cellA _ c2))).mono ?_; rintro e w' ⟨rfl, rfl⟩)
  go_region
  all_goals go_wp2
  all_goals go_region
  all_goals go_wp2_with fail
  have hn0 : ∀ o : Nat, (⟨g, o, none⟩ : Addr) ≠ ⟨b, 1, none⟩ := fun o e => hgb (by simpa using congrArg Addr.block e)
  have hn1 : ∀ o : Nat, (⟨g, o, none⟩ : Addr) ≠ ⟨b, 0, none⟩ := fun o e => hgb (by simpa using congrArg Addr.block e)
  refine (eplace_nat b first 1 room q _ (cellDr (cellDr (cellA _ (cellA _ (cellA _ (cellS (hn0 _) (cellS (hn0 _) (cellS (hn0 _) c1)))))))) (cellDr (cellDr (cellA _ (cellA _ (cellA _ (cellS (hn1 _) (cellS (hn1 _) (cellS (hn1 _) c0)))))))) (by omega) (by omega) (by omega) (by omega) HQ).mono ?_
  rintro e w4 ⟨rfl, hw4⟩
  have HW4 := hid hw4
  clear hn0 hn1 hw4
  have hb4 : w4.heap[b]? = some (.cells #[.int .i64 room, .int .i64 first, .int .i64 (l.length + 1 : Nat), .slice (some ⟨g, 0, none⟩) xs.length cap] 114 (0, 0)) := by
    obtain ⟨n, rfl⟩ := HW4.out
    rw [heap_drewN, heap_drew, heap_drew]
    refine heapA _ (heapA _ (heapA _ ?_))
    rw [Below.heap_setCell _ _ _ _ hbg, Below.heap_setCell _ _ _ _ hbg, Below.heap_setCell _ _ _ _ hbg]
    exact HB.out
  have hr4 : w4.heap[w.heap.size]? = some (.cells #[.int .i64 0, .bool false, .int .i64 0] 64 (0, 0)) := by
    obtain ⟨n, rfl⟩ := HW4.out
    rw [heap_drewN, heap_drew, heap_drew]
    refine heapA _ (heapA _ ?_)
    exact heap_alloc_at (by simp) _
  have hi4 : w4.heap[w.heap.size + 1 + 1]? = some (.cells #[.int .i64 yr, .bool yo, .int .i64 ya] 64 (0, 0)) := by
    obtain ⟨n, rfl⟩ := HW4.out
    rw [heap_drewN, heap_drew, heap_drew]
    exact heap_alloc_at (by simp) _
  have ho4 : w4.ownsRow 0 64 3 (.slice (some ⟨g, 0, none⟩) xs.length cap) (xs.set first Ev.zero).length ((xs.set first Ev.zero).flatMap encE) := by
    obtain ⟨n, rfl⟩ := HW4.out
    refine own_drewN (World.ownsRow.drew (World.ownsRow.drew (World.ownsRow.alloc (World.ownsRow.alloc (World.ownsRow.alloc ?_ _) _) _))) n
    exact own_store encE_len HO.out hp Ev.zero
  have hk4 : Keeps F w w4 := by
    obtain ⟨n, rfl⟩ := HW4.out
    repeat' (first | with_reducible exact Keeps.refl _ _ | with_reducible refine Keeps.drewN ?_ _ | with_reducible refine Keeps.drew ?_ | with_reducible refine Keeps.alloc ?_ _ | with_reducible refine Keeps.setCell ?_ ?_ _ | exact Or.inr ((HF.out _).2 (Or.inl rfl)) | exact Or.inr ((HF.out _).2 (Or.inr rfl)))
  have k1 := cell_at (i := 1) hb4 rfl
  have k2 := cell_at (i := 2) hb4 rfl
  have g1 := free_at (i := 1) hb4
  have g2 := free_at (i := 2) hb4
  have r0 := cell_at (i := 0) hr4 rfl
  have r1 := cell_at (i := 1) hr4 rfl
  have r2 := cell_at (i := 2) hr4 rfl
  have s0 := free_at (i := 0) hr4
  have s1 := free_at (i := 1) hr4
  have s2 := free_at (i := 2) hr4
  have i0 := cell_at (i := 0) hi4 rfl
  have i1 := cell_at (i := 1) hi4 rfl
  have i2 := cell_at (i := 2) hi4 rfl
  have hne1 : ¬ b = w.heap.size := by omega
  have hne2 : ¬ w.heap.size = b := by omega
  have hne3 : ¬ b = w.heap.size + 1 + 1 := by omega
  have hne4 : ¬ w.heap.size + 1 + 1 = b := by omega
  have HB4 := hid hb4
  have HO4 := hid ho4
  have HK4 := hid hk4
  clear hb4 hr4 hi4 ho4 hk4 HW4 c0 c1 c2 c3 f1 f2 hc0 hc1 hc2 hf0 hf1 hf2
  go_wp2_with fail
  refine bodyPost_ret (v := .tuple #[.agg #[.int .i64 yr, .bool yo, .int .i64 ya], .bool true]) (by simp [results, Try.results39, go_sem, r0, r1, r2]) rfl ?_
  refine ⟨rfl, ?_⟩
  have hq0 := HQ.out
  refine RingG.close (first := q) (v := .slice (some ⟨g, 0, none⟩) xs.length cap) (xs := xs.set first Ev.zero) ?_ ?_ HN.out (hq0 ▸ HK.out.pop Ev.zero) ?_ ((HF.out b).2 (Or.inl rfl)) (fun k hk => Or.inl ((HF.out k).2 (Or.inr hk)))
  · have hb4 := HB4.out
    simp [World.setCell, Array.getElem?_modify, hb4, hne2]
  · have h := HO4.out
    have hnr : (Value.slice (some ⟨g, 0, none⟩) xs.length cap).ownBlock ≠ some w.heap.size := by simp [Value.ownBlock]; omega
    simp only [List.length_set] at h ⊢
    repeat' (first | with_reducible exact h | with_reducible refine ownsRow_setCell_other ?_ HN.out _ | with_reducible refine ownsRow_setCell_other ?_ hnr _)
  · have hk4 := HK4.out
    repeat' (first | with_reducible exact hk4 | with_reducible refine Keeps.setCell ?_ ?_ _ | exact Or.inr ((HF.out _).2 (Or.inl rfl)) | exact Or.inl (Nat.le_refl _))

end Go.Proofs.Ytoodlhagecannaa
