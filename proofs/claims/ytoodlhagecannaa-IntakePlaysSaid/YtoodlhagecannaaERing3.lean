/-
  The ring of events, more: At, Set.
-/
import Derived.Test.YtoodlhagecannaaERing2
import Derived.Deep.RegionWith
namespace Go.Proofs.Ytoodlhagecannaa
open Go.RowKit

theorem RingE.item {w : World} {b room : Nat} {F : Nat → Prop} {l : List Ev} (h : RingE w b F room l) {i : Nat} (hi : i < l.length) : ∃ first p g n cap : Nat,
    w.cell? ⟨b, 1, none⟩ = some (.int .i64 first) ∧ w.cell? ⟨b, 3, none⟩ = some (.slice (some ⟨g, 0, none⟩) n cap) ∧ Hid ((first + i) % room = p) ∧ p < n ∧ first ≤ 1024 ∧
    (w.cell? ⟨g, p * 3, none⟩ = some (.int .i64 l[i].rule) ∧ w.cell? ⟨g, p * 3 + 1, none⟩ = some (.bool l[i].on) ∧ w.cell? ⟨g, p * 3 + 2, none⟩ = some (.int .i64 l[i].at_)) ∧ F g ∧ n ≤ 1024 := by
  obtain ⟨first, v, xs, hb, ho, hne, hF, hok⟩ := h
  have hp := hok.place_lt hi
  have hat := hok.ats i hi
  have hfr := hok.fr
  have hrm := hok.rm
  have hxl := hok.len
  rw [List.getElem?_eq_getElem hp, List.getElem?_eq_getElem hi] at hat
  obtain ⟨g, cap, rfl⟩ := own_some ho (by omega)
  refine ⟨first, _, g, xs.length, cap, cell_at (i := 1) hb rfl, cell_at (i := 3) hb rfl, hid rfl, hp, by omega, ?_, (hF g).2 (Or.inr rfl), by omega⟩
  have h3 := own_cellE ho rfl hp
  simp at hat; rw [hat] at h3
  exact h3

set_option maxHeartbeats 1000000 in
set_option maxRecDepth 100000 in
theorem eat_ok {w : World} {b room : Nat} {F : Nat → Prop} {l : List Ev} (h : RingE w b F room l) {i : Nat} (hi : i < l.length) :
    Calls Try.prog 47 #[.pointer (some ⟨b, 0, none⟩), .int .i64 i] w fun e w' => e = .returned (.tuple #[l[i].val, .bool true]) ∧ Keeps No w w' := by
  obtain ⟨first, p, g, n, cap, c1, c3, HP, hp, hf, hcc, hFg, hn⟩ := RingE.item h hi
  have c0 := RingE.room_cell h
  have c2 := RingE.len_cell h
  have hcn := RingG.cnt h
  obtain ⟨y, hy⟩ : ∃ y, l[i] = y := ⟨_, rfl⟩
  rw [hy] at hcc ⊢
  obtain ⟨yr, yo, ya⟩ := y
  unfold Ev.val
  obtain ⟨hc0, hc1, hc2⟩ := hcc
  have hbl : b < w.heap.size := World.block_lt_of_cell? w _ c0
  have hgl : g < w.heap.size := World.block_lt_of_cell? w _ hc0
  have hh := ehas_any b l.length i (w.alloc (.cells #[.int .i64 0, .bool false, .int .i64 0] 64)) (cellA _ c2) true (hid (by simp [hi]))
  clear hy h hFg
  obtain ⟨hcn1, hcn2⟩ := hcn
  go_enter Try.func47, Try.ntmps47
  go_wp2_with (go_at_call 50; refine hh.mono ?_; rintro e w' ⟨rfl, rfl⟩)
  go_region_with (go_at_call 46; refine (eplace_nat b first i room p _ (by exact cellDr (cellA _ c1)) (by exact cellDr (cellA _ c0)) (by omega) (by omega) (by omega) (by omega) HP).mono ?_; rintro e w' ⟨rfl, n', rfl⟩)
  all_goals
    go_wp2_with fail
    refine bodyPost_ret (v := .tuple #[.agg #[.int .i64 yr, .bool yo, .int .i64 ya], .bool true]) (by simp [results, Try.results47, go_sem]) rfl ?_
    refine ⟨rfl, ?_⟩
    repeat' (first | with_reducible exact Keeps.refl _ _ | with_reducible assumption | with_reducible refine Keeps.drewN ?_ _ | with_reducible refine Keeps.drew ?_ | with_reducible refine Keeps.alloc ?_ _ | with_reducible refine Keeps.setCell ?_ ?_ _ | exact Or.inl (by simp) | exact Or.inl (by simp; omega) | exact Or.inl (by omega))

set_option maxHeartbeats 1000000 in
set_option maxRecDepth 100000 in
theorem eset_ok {w : World} {b room : Nat} {F : Nat → Prop} {l : List Ev} (h : RingE w b F room l) {i : Nat} (hi : i < l.length) (x : Ev) :
    Calls Try.prog 48 #[.pointer (some ⟨b, 0, none⟩), .int .i64 i, x.val] w fun e w' => e = .returned (.bool true) ∧ ∃ F', RingE w' b F' room (l.set i x) ∧ Upd F w w' F' := by
  obtain ⟨first, v, xs, hb, ho, hne, hF, hok⟩ := h
  obtain ⟨xr, xo, xa⟩ := x
  unfold Ev.val
  have hrm := hok.rm
  have hcn := hok.cnt
  have hfr := hok.fr
  obtain ⟨p, hp0⟩ : ∃ p, (first + i) % room = p := ⟨_, rfl⟩
  have hp := hok.place_lt hi
  rw [hp0] at hp
  have hxl := hok.len
  obtain ⟨g, cap, rfl⟩ := own_some ho (by omega)
  have hgb : ¬ g = b := by simpa [Value.ownBlock] using hne
  have hbl : b < w.heap.size := lt_of_block hb
  have hgl : g < w.heap.size := (ho.lt g rfl).2
  have HB := hid (heapA (.cells #[.int .i64 xr, .bool xo, .int .i64 xa] 64) hb)
  have HO := hid (ho.alloc (.cells #[.int .i64 xr, .bool xo, .int .i64 xa] 64))
  have c0 := cell_at (i := 0) HB.out rfl
  have c1 := cell_at (i := 1) HB.out rfl
  have c2 := cell_at (i := 2) HB.out rfl
  have c3 := cell_at (i := 3) HB.out rfl
  obtain ⟨hc0, hc1, hc2⟩ := own_cellE HO.out rfl hp
  have hf0 := HO.out.frozenAt (p * 3)
  have hf1 := HO.out.frozenAt (p * 3 + 1)
  have hf2 := HO.out.frozenAt (p * 3 + 2)
  have HP := hid hp0
  have hh := ehas_any b l.length i _ c2 true (hid (by simp [hi]))
  have HK := hid hok
  have HF := hid hF
  have HN := hid hne
  clear ho hne hF hok hp0 hb
  go_enter Try.func48, Try.ntmps48
  go_wp2_with (go_at_call 50; refine hh.mono ?_; rintro e w' ⟨rfl, rfl⟩)
  go_region_with (go_at_call 46; refine (eplace_nat b first i room p _ (by exact cellDr c1) (by exact cellDr c0) (by omega) (by omega) (by omega) (by omega) HP).mono ?_; rintro e w' ⟨rfl, n', rfl⟩)
  all_goals
    go_wp2_with fail
    go_ret
    refine ⟨rfl, ?_⟩
    have hp0 := HP.out
    refine RingG.close (first := first) (v := .slice (some ⟨g, 0, none⟩) xs.length cap) (xs := xs.set p ⟨xr, xo, xa⟩) ?_ ?_ HN.out ?_ ?_ ((HF.out b).2 (Or.inl rfl)) (fun k hk => Or.inl ((HF.out k).2 (Or.inr hk)))
    · have hb := HB.out
      simp [World.setCell, Array.getElem?_modify, hgb, hb]
    · have := own_store encE_len (own_drewN HO.out 0) hp ⟨xr, xo, xa⟩
      simp only [encE, World.setCells, List.length_set, Nat.add_assoc, Nat.reduceAdd] at this ⊢
      exact this
    · rw [← hp0]; exact HK.out.set hi _
    · repeat' (first | with_reducible exact Keeps.refl _ _ | with_reducible refine Keeps.drewN ?_ _ | with_reducible refine Keeps.drew ?_ | with_reducible refine Keeps.alloc ?_ _ | with_reducible refine Keeps.setCell ?_ ?_ _ | exact Or.inr ((HF.out _).2 (Or.inl rfl)) | exact Or.inr ((HF.out _).2 (Or.inr rfl)))

end Go.Proofs.Ytoodlhagecannaa
