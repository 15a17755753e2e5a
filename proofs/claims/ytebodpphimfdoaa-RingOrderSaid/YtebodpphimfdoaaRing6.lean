/-
  The document's answers for layer 1, more: Force; and the document's example.
-/
import Derived.Test.YtebodpphimfdoaaRing5
namespace Go.Proofs.Ytebodpphimfdoaa
open Go.RowKit

set_option maxHeartbeats 400000 in
set_option maxRecDepth 100000 in
theorem mforce_zero {w : World} {lv : Value} {l : List Int} (h : SlI w lv l) (x : Int) :
    Calls Try.prog 21 #[.agg #[.int .i64 0, lv], .int .i64 x] w fun e w' => e = .returned (.tuple #[.agg #[.int .i64 0, lv], .int .i64 x, .bool true]) ∧ Keeps No w w' := by
  obtain ⟨ao, cap, rfl⟩ := h.any
  clear h
  go_enter Try.func21, Try.ntmps21
  go_wp2_with fail
  go_returns
  refine ⟨rfl, ?_⟩
  repeat' (first | with_reducible exact Keeps.refl _ _ | with_reducible assumption | with_reducible refine Keeps.drewN ?_ _ | with_reducible refine Keeps.drew ?_ | with_reducible refine Keeps.alloc ?_ _ | with_reducible refine Keeps.setCell ?_ ?_ _ | exact Or.inl (by simp) | exact Or.inl (by simp; omega) | exact Or.inl (by omega))

set_option maxHeartbeats 400000 in
set_option maxRecDepth 100000 in
theorem mforce_room {w : World} {lv : Value} {room : Nat} {l : List Int} (h : SlI w lv l) (hc : l.length < room) (hr : room ≤ 1024) (x : Int) :
    Calls Try.prog 21 #[.agg #[.int .i64 room, lv], .int .i64 x] w fun e w' => ∃ lv', e = .returned (.tuple #[.agg #[.int .i64 room, lv'], .int .i64 0, .bool false]) ∧ SlI w' lv' (l ++ [x]) ∧ Keeps No w w' ∧ (∀ k, lv'.ownBlock = some k → w.heap.size ≤ k) := by
  obtain ⟨ao, cap, rfl⟩ := h.any
  have hr0 : ((room : Int) == 0) = false := by rw [beq_eq_false_iff_ne]; omega
  have hr1 : ((l.length : Int) == (room : Int)) = false := by rw [beq_eq_false_iff_ne]; omega
  have H := hid h
  clear h
  go_enter Try.func21, Try.ntmps21
  go_wp2_with fail
  refine (mpush_ok ((H.out.alloc _).alloc _) hc hr x).mono ?_
  rintro e w1 ⟨lv', rfl, hs, hk, hb⟩
  obtain ⟨ao', cap', rfl⟩ := hs.any
  have hsz := hk.size
  simp at hsz
  have h0 : w1.heap[w.heap.size]? = _ := hk.heap (fun h => h) (heapA _ (heap_alloc_new _ _))
  have h1 : w1.heap[w.heap.size + 1]? = _ := hk.heap (fun h => h) (show _ = some (.cells #[.int .i64 0, .slice none 0 0] 28 (0, 0)) by rw [show w.heap.size + 1 = (w.alloc (.cells #[.int .i64 room, .slice ao l.length cap] 28)).heap.size by simp]; exact heap_alloc_new _ _)
  have a0 := cell_at (i := 0) h0 rfl
  have a1 := cell_at (i := 1) h0 rfl
  have b0 := cell_at (i := 0) h1 rfl
  have b1 := cell_at (i := 1) h1 rfl
  have fa0 := free_at (i := 0) h0
  have fa1 := free_at (i := 1) h0
  have fb0 := free_at (i := 0) h1
  have fb1 := free_at (i := 1) h1
  have HS := hid hs
  have HK := hid hk
  have HB := hid hb
  clear hs hk hb h0 h1
  go_wp2_with fail
  refine bodyPost_ret (v := .tuple #[.agg #[.int .i64 room, .slice ao' (l ++ [x]).length cap'], .int .i64 0, .bool false]) (by simp [results, Try.results21, go_sem, b0, b1]) rfl ?_
  have hb := HB.out
  simp only [World.size_alloc] at hb
  have hs := HS.out
  have hk : Keeps No w w1 := (((Keeps.refl _ _).alloc _).alloc _).trans HK.out
  refine ⟨_, rfl, ?_, ?_, fun k h => by have := hb k h; omega⟩
  · refine Sl.keep (S := fun k => k = w.heap.size ∨ k = w.heap.size + 1) hs ?_ (fun k h => by have := hb k h; omega)
    have hrefl := Keeps.refl (fun k => k = w.heap.size ∨ k = w.heap.size + 1) w1
    repeat' (first | with_reducible exact hrefl | with_reducible refine Keeps.setCell ?_ ?_ _ | exact Or.inr (Or.inl rfl) | exact Or.inr (Or.inr rfl))
  · repeat' (first | with_reducible exact Keeps.refl _ _ | with_reducible assumption | with_reducible refine Keeps.drewN ?_ _ | with_reducible refine Keeps.drew ?_ | with_reducible refine Keeps.alloc ?_ _ | with_reducible refine Keeps.setCell ?_ ?_ _ | exact Or.inl (by simp) | exact Or.inl (by simp; omega) | exact Or.inl (by omega))

set_option maxHeartbeats 400000 in
set_option maxRecDepth 100000 in
theorem mforce_full {w : World} {lv : Value} {room : Nat} {y : Int} {l : List Int} (h : SlI w lv (y :: l)) (hc : l.length + 1 = room) (hr : room ≤ 1024) (x : Int) :
    Calls Try.prog 21 #[.agg #[.int .i64 room, lv], .int .i64 x] w fun e w' => ∃ lv', e = .returned (.tuple #[.agg #[.int .i64 room, lv'], .int .i64 y, .bool true]) ∧ SlI w' lv' (l ++ [x]) ∧ Keeps No w w' ∧ (∀ k, lv'.ownBlock = some k → w.heap.size ≤ k) := by
  obtain ⟨ao, cap, rfl⟩ := h.any
  have hr0 : ((room : Int) == 0) = false := by rw [beq_eq_false_iff_ne]; omega
  have hr1 : ((l.length : Int) + 1 == (room : Int)) = true := by rw [beq_iff_eq]; omega
  have hlr : l.length < room := by omega
  have hgo := h.lt (by simp)
  have H := hid h
  have HG := hid hgo
  clear h hc hgo
  simp only [List.length_cons] at H HG ⊢
  go_enter Try.func21, Try.ntmps21
  go_wp2_with fail
  refine (mpop_ok ((H.out.alloc _).alloc _)).mono ?_
  rintro e w1 ⟨lv1, rfl, hs, hob, hk⟩
  obtain ⟨ao1, cap1, rfl⟩ := hs.any
  have hsz := hk.size
  simp at hsz
  have h0 : w1.heap[w.heap.size]? = _ := hk.heap (fun h => h) (heapA _ (heap_alloc_new _ _))
  have h1 : w1.heap[w.heap.size + 1]? = _ := hk.heap (fun h => h) (show _ = some (.cells #[.int .i64 0, .slice none 0 0] 28 (0, 0)) by rw [show w.heap.size + 1 = (w.alloc (.cells #[.int .i64 room, .slice ao (l.length + 1) cap] 28)).heap.size by simp]; exact heap_alloc_new _ _)
  have a0 := cell_at (i := 0) h0 rfl
  have a1 := cell_at (i := 1) h0 rfl
  have b0 := cell_at (i := 0) h1 rfl
  have b1 := cell_at (i := 1) h1 rfl
  have fa0 := free_at (i := 0) h0
  have fa1 := free_at (i := 1) h0
  have fb0 := free_at (i := 0) h1
  have fb1 := free_at (i := 1) h1
  have HS := hid (Sl.keep hs hk (fun _ _ h => h))
  have HK := hid hk
  have HO := hid hob
  have H0 := hid h0
  have H1 := hid h1
  have hx : SlI ((w1.setCell ⟨w.heap.size, 0, none⟩ (.int .i64 room)).setCell ⟨w.heap.size, 1, none⟩ (.slice ao1 l.length cap1)) (.slice ao1 l.length cap1) l := by
    refine Sl.keep (S := fun k => k = w.heap.size) HS.out (by have hrefl := Keeps.refl (fun k => k = w.heap.size) w1; repeat' (first | with_reducible exact hrefl | with_reducible refine Keeps.setCell ?_ ?_ _ | exact Or.inr rfl)) (fun k h e => by rw [hob] at h; have := HG.out k h; omega)
  have HX := hid hx
  have hy0 : ((w1.setCell ⟨w.heap.size, 0, none⟩ (.int .i64 room)).setCell ⟨w.heap.size, 1, none⟩ (.slice ao1 l.length cap1)).heap[w.heap.size]? = some (.cells #[.int .i64 room, .slice ao1 l.length cap1] 28 (0, 0)) := by
    simp [World.setCell, Array.getElem?_modify, h0]
  have hy1 : ((w1.setCell ⟨w.heap.size, 0, none⟩ (.int .i64 room)).setCell ⟨w.heap.size, 1, none⟩ (.slice ao1 l.length cap1)).heap[w.heap.size + 1]? = some (.cells #[.int .i64 0, .slice none 0 0] 28 (0, 0)) := by
    simp [World.setCell, Array.getElem?_modify, h1]
  have HY0 := hid hy0
  have HY1 := hid hy1
  clear hs hk hob h0 h1 hx hy0 hy1
  go_wp2_with fail
  refine (mpush_ok HX.out hlr hr x).mono ?_
  rintro e w2 ⟨lv', rfl, hs, hk, hb⟩
  obtain ⟨ao', cap', rfl⟩ := hs.any
  have hsz2 := hk.size
  simp at hsz2
  clear a0 a1 b0 b1 fa0 fa1 fb0 fb1
  have h0 : w2.heap[w.heap.size]? = _ := hk.heap (fun h => h) HY0.out
  have h1 : w2.heap[w.heap.size + 1]? = _ := hk.heap (fun h => h) HY1.out
  have a0 := cell_at (i := 0) h0 rfl
  have a1 := cell_at (i := 1) h0 rfl
  have b0 := cell_at (i := 0) h1 rfl
  have b1 := cell_at (i := 1) h1 rfl
  have fa0 := free_at (i := 0) h0
  have fa1 := free_at (i := 1) h0
  have fb0 := free_at (i := 0) h1
  have fb1 := free_at (i := 1) h1
  have HS2 := hid hs
  have HK2 := hid hk
  have HB2 := hid hb
  clear hs hk hb h0 h1
  go_wp2_with fail
  refine bodyPost_ret (v := .tuple #[.agg #[.int .i64 room, .slice ao' (l ++ [x]).length cap'], .int .i64 y, .bool true]) (by simp [results, Try.results21, go_sem, b0, b1]) rfl ?_
  have hb : ∀ k, (Value.slice ao' (l ++ [x]).length cap').ownBlock = some k → w.heap.size + 1 < k := fun k hk => by
    have := HB2.out k hk
    simp at this
    omega
  have hs := HS2.out
  have hk : Keeps No w w1 := (((Keeps.refl _ _).alloc _).alloc _).trans HK.out
  have hk' : Keeps No w w2 := ((hk.setCell (p := ⟨w.heap.size, 0, none⟩) (Or.inl (Nat.le_refl _)) _).setCell (p := ⟨w.heap.size, 1, none⟩) (Or.inl (Nat.le_refl _)) _).trans HK2.out
  refine ⟨_, rfl, ?_, ?_, fun k h => by have := hb k h; omega⟩
  · refine Sl.keep (S := fun k => k = w.heap.size ∨ k = w.heap.size + 1) hs ?_ (fun k h => by have := hb k h; omega)
    have hrefl := Keeps.refl (fun k => k = w.heap.size ∨ k = w.heap.size + 1) w2
    repeat' (first | with_reducible exact hrefl | with_reducible refine Keeps.setCell ?_ ?_ _ | exact Or.inr (Or.inl rfl) | exact Or.inr (Or.inr rfl))
  · repeat' (first | with_reducible exact hk' | with_reducible refine Keeps.setCell ?_ ?_ _ | exact Or.inl (by simp) | exact Or.inl (by simp; omega) | exact Or.inl (by omega))

end Go.Proofs.Ytebodpphimfdoaa
