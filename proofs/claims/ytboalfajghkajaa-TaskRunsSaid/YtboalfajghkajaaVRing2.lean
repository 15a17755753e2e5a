/-
  The ring of values: Force.
-/
import Derived.Test.YtboalfajghkajaaVRing
import Derived.Test.YtboalfajghkajaaLib
import Derived.Deep.RegionWith
namespace Go.Proofs.Ytboalfajghkajaa
open Go.RowKit

set_option maxHeartbeats 1000000 in
set_option maxRecDepth 100000 in
theorem vforce_room {w : World} {b room : Nat} {F : Nat → Prop} {l : List Vt} (h : RingV w b F room l) (hc : l.length < room) (x : Vt) :
    Calls Try.prog 21 #[.pointer (some ⟨b, 0, none⟩), x.val] w fun e w' => e = .returned (.tuple #[.agg #[.int .i64 0, .int .i64 0], .bool false]) ∧
      ∃ F', RingV w' b F' room (l ++ [x]) ∧ Upd F w w' F' := by
  have c0 := RingV.room_cell h
  have hbl : b < w.heap.size := World.block_lt_of_cell? w _ c0
  have hr : ((room : Int) == 0) = false := by rw [beq_eq_false_iff_ne]; omega
  have H := hid h
  have HC := hid hc
  obtain ⟨xr, xa⟩ := x
  unfold Vt.val
  have c0' := cellA (.cells #[.int .i64 0, .int .i64 0] 64) (cellA (.cells #[.int .i64 0, .int .i64 0] 64) (cellA (.cells #[.int .i64 xr, .int .i64 xa] 64) c0))
  clear h hc c0
  go_enter Try.func21, Try.ntmps21
  go_wp2_with fail
  obtain ⟨W, hW⟩ : ∃ W, ((w.alloc (.cells #[.int .i64 xr, .int .i64 xa] 64)).alloc (.cells #[.int .i64 0, .int .i64 0] 64)).alloc (.cells #[.int .i64 0, .int .i64 0] 64) = W := ⟨_, rfl⟩
  have kW : Keeps No w W := by rw [← hW]; repeat' (first | with_reducible exact Keeps.refl _ _ | with_reducible assumption | with_reducible refine Keeps.drewN ?_ _ | with_reducible refine Keeps.drew ?_ | with_reducible refine Keeps.alloc ?_ _ | with_reducible refine Keeps.setCell ?_ ?_ _ | exact Or.inl (by simp) | exact Or.inl (by simp; omega) | exact Or.inl (by omega))
  have r1 : W.heap[w.heap.size + 1]? = some (.cells #[.int .i64 0, .int .i64 0] 64 (0, 0)) := by rw [← hW]; exact heapA _ (heap_alloc_at (by simp) _)
  have r2 : W.heap[w.heap.size + 1 + 1]? = some (.cells #[.int .i64 0, .int .i64 0] 64 (0, 0)) := by rw [← hW]; exact heap_alloc_at (by simp) _
  rw [hW] at c0' ⊢
  have HW := hid hW
  clear hW
  refine (vpush_ok (RingG.keep H.out kW (fun _ _ h => h)) HC.out ⟨xr, xa⟩).mono ?_
  rintro e w4 ⟨rfl, F4, h4, u4⟩
  have r1' := u4.keeps.heap (fun h => by have := RingG.lt H.out _ h; omega) r1
  have r2' := u4.keeps.heap (fun h => by have := RingG.lt H.out _ h; omega) r2
  have d0 := cell_at (i := 0) r2' rfl
  have d1 := cell_at (i := 1) r2' rfl
  have d2 := cell_at (i := 0) r1' rfl
  have d3 := cell_at (i := 1) r1' rfl
  have f0 := free_at (i := 0) r1'
  have f1 := free_at (i := 1) r1'
  have hlt4 : w.heap.size + 1 < w4.heap.size := lt_of_block r1'
  have hres : ∃ F', RingV ((w4.setCell ⟨w.heap.size + 1, 0, none⟩ (.int .i64 0)).setCell ⟨w.heap.size + 1, 1, none⟩ (.int .i64 0)) b F' room (l ++ [⟨xr, xa⟩]) ∧ Upd F w ((w4.setCell ⟨w.heap.size + 1, 0, none⟩ (.int .i64 0)).setCell ⟨w.heap.size + 1, 1, none⟩ (.int .i64 0)) F' := by
    have kk : Keeps (fun k => k = w.heap.size + 1) w4 ((w4.setCell ⟨w.heap.size + 1, 0, none⟩ (.int .i64 0)).setCell ⟨w.heap.size + 1, 1, none⟩ (.int .i64 0)) := Keeps.setCell (S := fun k => k = w.heap.size + 1) (p := ⟨w.heap.size + 1, 1, none⟩) (Keeps.setCell (S := fun k => k = w.heap.size + 1) (p := ⟨w.heap.size + 1, 0, none⟩) (Keeps.refl _ _) (Or.inr rfl) _) (Or.inr rfl) _
    have hn : ¬ F4 (w.heap.size + 1) := u4.out (lt_of_block r1) (fun h => by have := RingG.lt H.out _ h; omega)
    exact ⟨F4, RingG.keep h4 kk (fun i hi e => by subst e; exact hn hi), ⟨(kW.no.trans u4.keeps).trans' kk (fun _ _ h => h) (fun i hi e => by omega), fun k hk => (u4.fresh k hk).imp id (fun h => Nat.le_trans kW.size h)⟩⟩
  have HRES := hid hres
  clear hres h4 u4 r1 r2 r1' r2' kW
  go_wp2_with fail
  refine bodyPost_ret (v := .tuple #[.agg #[.int .i64 0, .int .i64 0], .bool false]) (by simp [results, Try.results21, go_sem, d2, d3]) rfl ?_
  exact ⟨rfl, HRES.out⟩

set_option maxHeartbeats 1000000 in
set_option maxRecDepth 100000 in
theorem vforce_full {w : World} {b room : Nat} {F : Nat → Prop} {y : Vt} {l : List Vt} (h : RingV w b F room (y :: l)) (hc : l.length + 1 = room) (x : Vt) :
    Calls Try.prog 21 #[.pointer (some ⟨b, 0, none⟩), x.val] w fun e w' => e = .returned (.tuple #[y.val, .bool true]) ∧
      ∃ F', RingV w' b F' room (l ++ [x]) ∧ Upd F w w' F' := by
  have c0 := RingV.room_cell h
  have hbl : b < w.heap.size := World.block_lt_of_cell? w _ c0
  have hr : ((room : Int) == 0) = false := by rw [beq_eq_false_iff_ne]; omega
  have H := hid h
  have HC := hid hc
  obtain ⟨xr, xa⟩ := x
  obtain ⟨yr, ya⟩ := y
  unfold Vt.val
  have c0' := cellA (.cells #[.int .i64 0, .int .i64 0] 64) (cellA (.cells #[.int .i64 0, .int .i64 0] 64) (cellA (.cells #[.int .i64 xr, .int .i64 xa] 64) c0))
  clear h hc c0
  go_enter Try.func21, Try.ntmps21
  go_wp2_with fail
  obtain ⟨W, hW⟩ : ∃ W, ((w.alloc (.cells #[.int .i64 xr, .int .i64 xa] 64)).alloc (.cells #[.int .i64 0, .int .i64 0] 64)).alloc (.cells #[.int .i64 0, .int .i64 0] 64) = W := ⟨_, rfl⟩
  have kW : Keeps No w W := by rw [← hW]; repeat' (first | with_reducible exact Keeps.refl _ _ | with_reducible assumption | with_reducible refine Keeps.drewN ?_ _ | with_reducible refine Keeps.drew ?_ | with_reducible refine Keeps.alloc ?_ _ | with_reducible refine Keeps.setCell ?_ ?_ _ | exact Or.inl (by simp) | exact Or.inl (by simp; omega) | exact Or.inl (by omega))
  have r0 : W.heap[w.heap.size]? = some (.cells #[.int .i64 xr, .int .i64 xa] 64 (0, 0)) := by rw [← hW]; exact heapA _ (heapA _ (heap_alloc_at rfl _))
  have r1 : W.heap[w.heap.size + 1]? = some (.cells #[.int .i64 0, .int .i64 0] 64 (0, 0)) := by rw [← hW]; exact heapA _ (heap_alloc_at (by simp) _)
  rw [hW] at c0' ⊢
  have HW := hid hW
  have KW := hid kW
  clear hW
  have h1 := RingG.keep H.out kW (fun _ _ h => h)
  refine (vpush_full h1 (by simpa using HC.out) ⟨xr, xa⟩).mono ?_
  rintro e w2 ⟨rfl, k2⟩
  have H2 := hid (RingG.keep h1 k2 (fun _ _ h => h))
  have R0 := hid (k2.heap (fun h => h) r0)
  have R1 := hid (k2.heap (fun h => h) r1)
  have K2 := hid (kW.trans k2)
  clear h1 k2 r0 r1 kW
  go_wp2_with fail
  have hpop := vpop_ok H2.out
  unfold Vt.val at hpop
  refine hpop.mono ?_
  rintro e w3 ⟨rfl, F3, h3, u3⟩
  have H3 := hid h3
  have hF : ∀ i, F i → i < w.heap.size := RingG.lt H.out
  have r0' := u3.keeps.heap (fun h => by have := hF _ h; omega) R0.out
  have r1' := u3.keeps.heap (fun h => by have := hF _ h; omega) R1.out
  have hn0 : ¬ F3 w.heap.size := u3.out (lt_of_block R0.out) (fun h => by have := hF _ h; omega)
  have hn1 : ¬ F3 (w.heap.size + 1) := u3.out (lt_of_block R1.out) (fun h => by have := hF _ h; omega)
  have HU3 : Hid (Upd F w w3 F3) := hid ⟨K2.out.no.trans u3.keeps, fun k hk => (u3.fresh k hk).imp id (fun h => Nat.le_trans K2.out.size h)⟩
  have d0 := cellA (.cells #[.int .i64 yr, .int .i64 ya] 64) (cell_at (i := 0) (v := .int .i64 xr) r0' rfl)
  have d1 := cellA (.cells #[.int .i64 yr, .int .i64 ya] 64) (cell_at (i := 1) (v := .int .i64 xa) r0' rfl)
  have R0' := hid r0'
  have R1' := hid r1'
  clear h3 u3 r0' r1' R0 R1 H2 K2 hF
  go_wp2_with fail
  obtain ⟨W4, hW4⟩ : ∃ W4, w3.alloc (.cells #[.int .i64 yr, .int .i64 ya] 64) = W4 := ⟨_, rfl⟩
  have k4 : Keeps No w3 W4 := by rw [← hW4]; repeat' (first | with_reducible exact Keeps.refl _ _ | with_reducible assumption | with_reducible refine Keeps.drewN ?_ _ | with_reducible refine Keeps.drew ?_ | with_reducible refine Keeps.alloc ?_ _ | with_reducible refine Keeps.setCell ?_ ?_ _ | exact Or.inl (by simp) | exact Or.inl (by simp; omega) | exact Or.inl (by omega))
  obtain ⟨sz, hsz⟩ : ∃ sz, w3.heap.size = sz := ⟨_, rfl⟩
  have r4 : W4.heap[sz]? = some (.cells #[.int .i64 yr, .int .i64 ya] 64 (0, 0)) := by rw [← hW4]; exact heap_alloc_at hsz _
  have r1'' := k4.heap (fun h => h) R1'.out
  rw [hW4, hsz]
  have h4 := RingG.keep H3.out k4 (fun _ _ h => h)
  have hlt3 := RingG.lt H3.out
  refine (vpush_ok h4 (by have := HC.out; omega) ⟨xr, xa⟩).mono ?_
  rintro e w5 ⟨rfl, F5, h5, u5⟩
  have r1f := u5.keeps.heap hn1 r1''
  have r4f := u5.keeps.heap (fun h => by have := hlt3 _ h; omega) r4
  have d2 := cell_at (i := 0) r1f rfl
  have d3 := cell_at (i := 1) r1f rfl
  have f0 := free_at (i := 0) r1f
  have f1 := free_at (i := 1) r1f
  have e0 := cell_at (i := 0) r4f rfl
  have e1 := cell_at (i := 1) r4f rfl
  have hlt5 : w.heap.size + 1 < w5.heap.size := lt_of_block r1f
  have hne : ¬ sz = w.heap.size + 1 := by have := lt_of_block R1'.out; omega
  have hne' : ¬ w.heap.size + 1 = sz := fun e => hne e.symm
  have hres : ∃ F', RingV ((w5.setCell ⟨w.heap.size + 1, 0, none⟩ (.int .i64 yr)).setCell ⟨w.heap.size + 1, 1, none⟩ (.int .i64 ya)) b F' room (l ++ [⟨xr, xa⟩]) ∧ Upd F w ((w5.setCell ⟨w.heap.size + 1, 0, none⟩ (.int .i64 yr)).setCell ⟨w.heap.size + 1, 1, none⟩ (.int .i64 ya)) F' := by
    have kk : Keeps (fun k => k = w.heap.size + 1) w5 ((w5.setCell ⟨w.heap.size + 1, 0, none⟩ (.int .i64 yr)).setCell ⟨w.heap.size + 1, 1, none⟩ (.int .i64 ya)) := Keeps.setCell (S := fun k => k = w.heap.size + 1) (p := ⟨w.heap.size + 1, 1, none⟩) (Keeps.setCell (S := fun k => k = w.heap.size + 1) (p := ⟨w.heap.size + 1, 0, none⟩) (Keeps.refl _ _) (Or.inr rfl) _) (Or.inr rfl) _
    have hn : ¬ F5 (w.heap.size + 1) := u5.out (lt_of_block r1'') hn1
    have hu : Upd F w w5 F5 := HU3.out.trans ⟨k4.no.trans u5.keeps, fun k hk => (u5.fresh k hk).imp id (fun h => Nat.le_trans k4.size h)⟩
    exact ⟨F5, RingG.keep h5 kk (fun i hi e => by subst e; exact hn hi), ⟨hu.keeps.trans' kk (fun _ _ h => h) (fun i hi e => by omega), hu.fresh⟩⟩
  have HRES := hid hres
  clear hres h4 h5 u5 r1f r4f r1'' r4 k4 hlt3 hn0 hn1 d0 d1
  go_wp2_with fail
  refine bodyPost_ret (v := .tuple #[.agg #[.int .i64 yr, .int .i64 ya], .bool true]) (by simp [results, Try.results21, go_sem, d2, d3]) rfl ?_
  exact ⟨rfl, HRES.out⟩

end Go.Proofs.Ytboalfajghkajaa
