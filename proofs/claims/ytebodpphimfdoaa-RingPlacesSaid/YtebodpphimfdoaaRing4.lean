/-
  What a nil ring answers; and the document's answers for layer 1, as they are computed.
-/
import Derived.Test.YtebodpphimfdoaaRing3
namespace Go.Proofs.Ytebodpphimfdoaa
open Go.RowKit

set_option maxHeartbeats 400000 in
set_option maxRecDepth 100000 in
theorem ihas_nil (i : Int) (w : World) :
    Calls Try.prog 45 #[.pointer none, .int .i64 i] w fun e w' => e = .returned (.bool false) ∧ w = w' := by
  by_cases h : 0 ≤ i
  · have h0 : decide (i < 0) = false := by simp; omega
    go_enter Try.func45, Try.ntmps45
    go_wp2_with (go_at_call 24; refine (ilen_nil _).mono ?_; rintro e w' ⟨rfl, rfl⟩)
    go_ret
    exact ⟨rfl, rfl⟩
  · go_enter Try.func45, Try.ntmps45
    go_wp2
    go_ret
    exact ⟨rfl, rfl⟩

set_option maxHeartbeats 400000 in
set_option maxRecDepth 100000 in
theorem ipush_nil (x : Int) (w : World) :
    Calls Try.prog 18 #[.pointer none, .int .i64 x] w fun e w' => e = .returned (.bool false) ∧ w = w' := by
  go_enter Try.func18, Try.ntmps18
  go_wp2_with (first | (go_at_call 24; refine (ilen_nil _).mono ?_; rintro e w' ⟨rfl, rfl⟩) | (go_at_call 27; refine (icap_nil _).mono ?_; rintro e w' ⟨rfl, rfl⟩) | (go_at_call 45; refine (ihas_nil _ _).mono ?_; rintro e w' ⟨rfl, rfl⟩))
  go_ret
  exact ⟨rfl, rfl⟩

set_option maxHeartbeats 400000 in
set_option maxRecDepth 100000 in
theorem ipop_nil (w : World) :
    Calls Try.prog 20 #[.pointer none] w fun e w' => e = .returned (.tuple #[.int .i64 0, .bool false]) ∧ w = w' := by
  go_enter Try.func20, Try.ntmps20
  go_wp2_with (first | (go_at_call 24; refine (ilen_nil _).mono ?_; rintro e w' ⟨rfl, rfl⟩) | (go_at_call 27; refine (icap_nil _).mono ?_; rintro e w' ⟨rfl, rfl⟩) | (go_at_call 45; refine (ihas_nil _ _).mono ?_; rintro e w' ⟨rfl, rfl⟩))
  go_ret2
  exact ⟨rfl, rfl⟩

set_option maxHeartbeats 400000 in
set_option maxRecDepth 100000 in
theorem iforce_nil (x : Int) (w : World) :
    Calls Try.prog 22 #[.pointer none, .int .i64 x] w fun e w' => e = .returned (.tuple #[.int .i64 0, .bool false]) ∧ w = w' := by
  go_enter Try.func22, Try.ntmps22
  go_wp2_with (first | (go_at_call 24; refine (ilen_nil _).mono ?_; rintro e w' ⟨rfl, rfl⟩) | (go_at_call 27; refine (icap_nil _).mono ?_; rintro e w' ⟨rfl, rfl⟩) | (go_at_call 45; refine (ihas_nil _ _).mono ?_; rintro e w' ⟨rfl, rfl⟩))
  go_ret2
  exact ⟨rfl, rfl⟩

set_option maxHeartbeats 400000 in
set_option maxRecDepth 100000 in
theorem iat_nil (i : Int) (w : World) :
    Calls Try.prog 28 #[.pointer none, .int .i64 i] w fun e w' => e = .returned (.tuple #[.int .i64 0, .bool false]) ∧ w = w' := by
  go_enter Try.func28, Try.ntmps28
  go_wp2_with (first | (go_at_call 24; refine (ilen_nil _).mono ?_; rintro e w' ⟨rfl, rfl⟩) | (go_at_call 27; refine (icap_nil _).mono ?_; rintro e w' ⟨rfl, rfl⟩) | (go_at_call 45; refine (ihas_nil _ _).mono ?_; rintro e w' ⟨rfl, rfl⟩))
  go_ret2
  exact ⟨rfl, rfl⟩

set_option maxHeartbeats 400000 in
set_option maxRecDepth 100000 in
theorem iset_nil (i x : Int) (w : World) :
    Calls Try.prog 23 #[.pointer none, .int .i64 i, .int .i64 x] w fun e w' => e = .returned (.bool false) ∧ w = w' := by
  go_enter Try.func23, Try.ntmps23
  go_wp2_with (first | (go_at_call 24; refine (ilen_nil _).mono ?_; rintro e w' ⟨rfl, rfl⟩) | (go_at_call 27; refine (icap_nil _).mono ?_; rintro e w' ⟨rfl, rfl⟩) | (go_at_call 45; refine (ihas_nil _ _).mono ?_; rintro e w' ⟨rfl, rfl⟩))
  go_ret
  exact ⟨rfl, rfl⟩

set_option maxHeartbeats 400000 in
set_option maxRecDepth 100000 in
theorem iall_nil (w : World) :
    Calls Try.prog 26 #[.pointer none] w fun e w' => ∃ a c, e = .returned (.slice a 0 c) ∧ Keeps No w w' := by
  obtain ⟨i0, hi, hz0, hz1, hz2⟩ := info_parts info_int
  go_enter Try.func26, Try.ntmps26
  go_wp2_with (first | (go_at_call 24; refine (ilen_nil _).mono ?_; rintro e w' ⟨rfl, rfl⟩) | (at_make; refine wpList_make_full _ rfl _ _ 26 rfl 0 3 i0 (.int .i64 0) 1 Try.underlying26 hi hz0 hz1 _ _ _ _ 0 rfl rfl rfl rfl ?c1 ?c2 ?c3 ?_))
  case c1 => omega
  case c2 => unfold maxLen; omega
  case c3 => omega
  intro w1 hown hgrow
  have hk1 : Keeps No w w1 := (Keeps.refl _ _).grown hgrow (fun k h => by cases h)
  clear hown hgrow
  go_wp2_with (go_at_call 24; refine (ilen_nil _).mono ?_; rintro e w' ⟨rfl, rfl⟩)
  refine wp_loop_rounds 1 ?_
  rw [rounds_succ]
  go_wp2
  go_ret
  exact ⟨_, _, rfl, hk1⟩

/-- A slice of ints that reads as l. -/
abbrev SlI (w : World) (v : Value) (l : List Int) : Prop := Sl w 1 v l.length (l.map (Value.int .i64))

theorem SlI.cellAt {w : World} {ao : Option Addr} {cap : Nat} {l : List Int} (h : SlI w (.slice ao l.length cap) l) {k : Nat} (hk : k < l.length) :
    ∃ g off, ao = some ⟨g, off, none⟩ ∧ g < w.heap.size ∧ w.cell? ⟨g, off + k, none⟩ = some (.int .i64 l[k]) := Sl.cellAt h (by simp [hk])

set_option maxHeartbeats 400000 in
set_option maxRecDepth 100000 in
theorem mnew_any (n : Int) (w : World) :
    Calls Try.prog 16 #[.int .i64 n] w fun e w' => e = .returned (.agg #[.int .i64 (roomOf n), .slice none 0 0]) ∧ Keeps No w w' := by
  have key : ∀ (r : Int) (e : Ending) (w' : World), r = roomOf n → e = .returned (.agg #[.int .i64 r, .slice none 0 0]) → Keeps No w w' → e = .returned (.agg #[.int .i64 (roomOf n), .slice none 0 0]) ∧ Keeps No w w' := by
    rintro r e w' rfl he hk; exact ⟨he, hk⟩
  have er : roomOf n = if n < 0 then 0 else if 1024 < n then 1024 else n.toNat := rfl
  have K := hid key
  clear key
  rcases (show n < 0 ∨ (0 ≤ n ∧ n ≤ 1024) ∨ 1024 < n by omega) with h | ⟨h, h'⟩ | h
  · rw [if_pos h] at er
    have ER := hid er
    clear er
    go_enter Try.func16, Try.ntmps16
    go_wp2
    go_returns
    refine K.out 0 _ _ (by rw [ER.out]; rfl) rfl ?_
    repeat' (first | with_reducible exact Keeps.refl _ _ | with_reducible assumption | with_reducible refine Keeps.drewN ?_ _ | with_reducible refine Keeps.drew ?_ | with_reducible refine Keeps.alloc ?_ _ | with_reducible refine Keeps.setCell ?_ ?_ _ | exact Or.inl (by simp) | exact Or.inl (by simp; omega) | exact Or.inl (by omega))
  · rw [if_neg (by omega), if_neg (by omega)] at er
    have ER := hid er
    clear er
    go_enter Try.func16, Try.ntmps16
    go_wp2
    go_returns
    refine K.out n _ _ (by rw [ER.out]; omega) rfl ?_
    repeat' (first | with_reducible exact Keeps.refl _ _ | with_reducible assumption | with_reducible refine Keeps.drewN ?_ _ | with_reducible refine Keeps.drew ?_ | with_reducible refine Keeps.alloc ?_ _ | with_reducible refine Keeps.setCell ?_ ?_ _ | exact Or.inl (by simp) | exact Or.inl (by simp; omega) | exact Or.inl (by omega))
  · rw [if_neg (by omega), if_pos h] at er
    have ER := hid er
    clear er
    go_enter Try.func16, Try.ntmps16
    go_wp2
    go_returns
    refine K.out 1024 _ _ (by rw [ER.out]; rfl) rfl ?_
    repeat' (first | with_reducible exact Keeps.refl _ _ | with_reducible assumption | with_reducible refine Keeps.drewN ?_ _ | with_reducible refine Keeps.drew ?_ | with_reducible refine Keeps.alloc ?_ _ | with_reducible refine Keeps.setCell ?_ ?_ _ | exact Or.inl (by simp) | exact Or.inl (by simp; omega) | exact Or.inl (by omega))

set_option maxHeartbeats 400000 in
set_option maxRecDepth 100000 in
theorem mpush_full {w : World} {lv : Value} {l : List Int} {room : Nat} (h : SlI w lv l) (hc : l.length = room) (x : Int) :
    Calls Try.prog 17 #[.agg #[.int .i64 room, lv], .int .i64 x] w fun e w' => e = .returned (.tuple #[.agg #[.int .i64 room, lv], .bool false]) ∧ Keeps No w w' := by
  obtain ⟨ao, cap, rfl⟩ := h.any
  clear h
  subst hc
  go_enter Try.func17, Try.ntmps17
  go_wp2
  go_returns
  refine ⟨rfl, ?_⟩
  repeat' (first | with_reducible exact Keeps.refl _ _ | with_reducible assumption | with_reducible refine Keeps.drewN ?_ _ | with_reducible refine Keeps.drew ?_ | with_reducible refine Keeps.alloc ?_ _ | with_reducible refine Keeps.setCell ?_ ?_ _ | exact Or.inl (by simp) | exact Or.inl (by simp; omega) | exact Or.inl (by omega))

set_option maxHeartbeats 400000 in
set_option maxRecDepth 100000 in
theorem mpush_ok {w : World} {lv : Value} {l : List Int} {room : Nat} (h : SlI w lv l) (hc : l.length < room) (hr : room ≤ 1024) (x : Int) :
    Calls Try.prog 17 #[.agg #[.int .i64 room, lv], .int .i64 x] w fun e w' => ∃ lv', e = .returned (.tuple #[.agg #[.int .i64 room, lv'], .bool true]) ∧ SlI w' lv' (l ++ [x]) ∧ Keeps No w w' ∧ (∀ k, lv'.ownBlock = some k → w.heap.size ≤ k) := by
  obtain ⟨ao, cap, rfl⟩ := h.any
  obtain ⟨i0, hi, hz0, hz1, hz2⟩ := info_parts info_int
  have H := hid h
  have HI := hid hi
  clear h hi
  go_enter Try.func17, Try.ntmps17
  go_wp2_with (at_builtin; refine wpl_append rfl _ _ 26 rfl 3 i0 (.int .i64 0) 1 8 Try.underlying26 HI.out hz0 hz1 hz2 rfl (by decide) _ _ _ _ _ _ rfl rfl (World.ownsRow_nil _ _ _ _) ((H.out.alloc _).alloc _) ?c2 ?c3 ?c4 ?_)
  case c2 => intro u hu; simp at hu; obtain ⟨_, _, rfl⟩ := hu; rfl
  case c3 => unfold maxLen; omega
  case c4 => omega
  intro v1 w1 hown hk1 hbl
  have HW := hid hown
  have HK1 := hid hk1
  have HB := hid hbl
  have hrb : w1.heap[w.heap.size + 1]? = some (.cells #[.int .i64 0, .slice none 0 0] 28 (0, 0)) := hk1.heap (fun h => by simp [Bl, Value.ownBlock] at h) (by rw [show w.heap.size + 1 = (w.alloc (.cells #[.int .i64 room, .slice ao l.length cap] 28)).heap.size by simp]; exact heap_alloc_new _ _)
  have hra : w1.heap[w.heap.size]? = some (.cells #[.int .i64 room, .slice ao l.length cap] 28 (0, 0)) := hk1.heap (fun h => by simp [Bl, Value.ownBlock] at h) (heapA _ (heap_alloc_new _ _))
  have a0 := cell_at (i := 0) hra rfl
  have HRB := hid hrb
  have HRA := hid hra
  have hsz0 : w.heap.size < w1.heap.size := lt_of_block hra
  have hsz : w.heap.size + 1 < w1.heap.size := lt_of_block hrb
  clear hown hk1 hbl hra hrb
  go_wp2
  go_region_law (refine step_append rfl (.tmp 20) (.tmp 22) 26 rfl 3 i0 (.int .i64 0) 1 8 Try.underlying26 HI.out hz0 hz1 hz2 rfl (by decide) v1 _ _ _ _ _ rfl rfl (HW.out.alloc _) (Sl.one _ _ _) (by intro u hu; simp at hu; subst hu; rfl) (by unfold maxLen; omega) (by omega) ?_; intro v2 w2 hown2 hk2 hbl2; obtain ⟨g2, cap2, rfl⟩ := own_some hown2 (by omega); have hr2 := hk2.heap (fun h => by have := HB.out _ h; simp [Value.ownBlock] at this; omega) (heapA _ HRB.out); have hra2 := hk2.heap (fun h => by have := HB.out _ h; simp [Value.ownBlock] at this; omega) (heapA _ HRA.out); have s0 := cell_at (i := 0) hra2 rfl; have q0 := cell_at (i := 0) hr2 rfl; have q1 := cell_at (i := 1) hr2 rfl; have e0 := free_at (i := 0) hr2; have e1 := free_at (i := 1) hr2; have HR2 := hid hr2; have HW2 := hid hown2; have HK2 := hid hk2; have HB2 := hid hbl2; clear hown2 hk2 hbl2 hr2 hra2)
  all_goals
    go_wp2
    refine bodyPost_ret (v := .tuple #[.agg #[.int .i64 room, .slice (some ⟨g2, 0, none⟩) (l.length + 1) cap2], .bool true]) (by simp [results, Try.results17, go_sem, q0, q1]) rfl ?_
    have hg2 : ∀ k, k = g2 → w.heap.size + 1 < k := fun k hk => by
      subst hk
      rcases HB2.out _ rfl with h | h
      · have := HB.out _ h; simp [Value.ownBlock] at this; omega
      · simp at h; omega
    refine ⟨.slice (some ⟨g2, 0, none⟩) (l.length + 1) cap2, rfl, ?_, ?_, ?_⟩
    · have h1 := Sl.ofOwn HW2.out
      rw [show List.map (Value.int .i64) l ++ [Value.int .i64 x] = (l ++ [x]).map (Value.int .i64) by simp, show l.length + 1 = (l ++ [x]).length by simp] at h1
      rw [show l.length + 1 = (l ++ [x]).length by simp]
      refine h1.keep (S := fun k => k = w.heap.size + 1) ?_ (fun k hk h => by simp [Value.ownBlock] at hk; have := hg2 k hk.symm; omega)
      have hrefl := Keeps.refl (fun k => k = w.heap.size + 1) w2
      repeat' (first | with_reducible exact hrefl | with_reducible refine Keeps.setCell ?_ ?_ _ | exact Or.inr rfl)
    · have hk1 := HK1.out
      have hk2 := HK2.out
      have hk3 : Keeps No w w1 := (((Keeps.refl _ _).alloc _).alloc _).trans' hk1 (fun _ _ h => h) (fun i hi h => by simp [Bl, Value.ownBlock] at h)
      have hk4 : Keeps No w w2 := (((hk3.alloc _).drew)).trans' hk2 (fun _ _ h => h) (fun i hi h => by have := HB.out _ h; simp [Value.ownBlock] at this; omega)
      repeat' (first | with_reducible exact hk4 | with_reducible refine Keeps.setCell ?_ ?_ _ | exact Or.inl (by simp))
    · intro k hk
      simp [Value.ownBlock] at hk
      have := hg2 k hk.symm; omega

end Go.Proofs.Ytebodpphimfdoaa
