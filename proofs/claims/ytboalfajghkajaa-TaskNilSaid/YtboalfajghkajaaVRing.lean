/-
  The ring of values: New, Len, Cap, Push, Pop, At.
-/
import Derived.Test.YtboalfajghkajaaRows
import Derived.Test.YtboalfajghkajaaLib
import Derived.Deep.RegionWith
namespace Go.Proofs.Ytboalfajghkajaa
open Go.RowKit

/-- A value, and when it came. -/
structure Vt where
  is_ : Int
  at_ : Int

def Vt.zero : Vt := ⟨0, 0⟩
def Vt.val (x : Vt) : Value := .agg #[.int .i64 x.is_, .int .i64 x.at_]
def encV (x : Vt) : List Value := [.int .i64 x.is_, .int .i64 x.at_]
theorem encV_len (x : Vt) : (encV x).length = 2 := rfl

/-- The ring at block b holds the list l and has so much room; F are the blocks that it stands in. -/
abbrev RingV := RingG (α := Vt) 85 64 2 encV

/-- The three cells of the item at the place p. -/
theorem own_cellV {w : World} {g cap n : Nat} {xs : List Vt} (ho : w.ownsRow 0 64 2 (.slice (some ⟨g, 0, none⟩) n cap) n (xs.flatMap encV)) (hn : n = xs.length) {p : Nat} (hp : p < xs.length) :
    w.cell? ⟨g, p * 2, none⟩ = some (.int .i64 xs[p].is_) ∧ w.cell? ⟨g, p * 2 + 1, none⟩ = some (.int .i64 xs[p].at_) := by
  subst hn
  refine ⟨?_, ?_⟩
  · have := getElem?_flatMap_enc (size := 2) encV_len xs p 0 (by omega) hp
    rw [ho.cellAt (p * 2) (by omega)]; simpa [encV] using this
  · have := getElem?_flatMap_enc (size := 2) encV_len xs p 1 (by omega) hp
    rw [ho.cellAt (p * 2 + 1) (by omega)]; simpa [encV] using this

set_option maxHeartbeats 1000000 in
set_option maxRecDepth 100000 in
theorem vlen_any (b : Nat) (c : Int) (w : World) (hc : w.cell? ⟨b, 2, none⟩ = some (.int .i64 c)) :
    Calls Try.prog 45 #[.pointer (some ⟨b, 0, none⟩)] w fun e w' => e = .returned (.int .i64 c) ∧ w = w' := by
  go_enter Try.func45, Try.ntmps45
  go_wp2
  go_ret
  exact ⟨rfl, rfl⟩

set_option maxHeartbeats 1000000 in
set_option maxRecDepth 100000 in
theorem vlen_nil (w : World) :
    Calls Try.prog 45 #[.pointer none] w fun e w' => e = .returned (.int .i64 0) ∧ w = w' := by
  go_enter Try.func45, Try.ntmps45
  go_wp2
  go_ret
  exact ⟨rfl, rfl⟩

set_option maxHeartbeats 1000000 in
set_option maxRecDepth 100000 in
theorem vcap_any (b : Nat) (c : Int) (w : World) (hc : w.cell? ⟨b, 0, none⟩ = some (.int .i64 c)) :
    Calls Try.prog 46 #[.pointer (some ⟨b, 0, none⟩)] w fun e w' => e = .returned (.int .i64 c) ∧ w = w' := by
  go_enter Try.func46, Try.ntmps46
  go_wp2
  go_ret
  exact ⟨rfl, rfl⟩

set_option maxHeartbeats 1000000 in
set_option maxRecDepth 100000 in
theorem vcap_nil (w : World) :
    Calls Try.prog 46 #[.pointer none] w fun e w' => e = .returned (.int .i64 0) ∧ w = w' := by
  go_enter Try.func46, Try.ntmps46
  go_wp2
  go_ret
  exact ⟨rfl, rfl⟩

set_option maxHeartbeats 1000000 in
set_option maxRecDepth 100000 in
theorem vplace_any (b : Nat) (f i r : Int) (w : World) (hf : w.cell? ⟨b, 1, none⟩ = some (.int .i64 f)) (hr : w.cell? ⟨b, 0, none⟩ = some (.int .i64 r))
   (h0 : 0 ≤ f) (h1 : f ≤ 1024) (h2 : 0 ≤ i) (h3 : i ≤ 1024) (h4 : 1 ≤ r) (h5 : r ≤ 1024)  :
    Calls Try.prog 47 #[.pointer (some ⟨b, 0, none⟩), .int .i64 i] w fun e w' => e = .returned (.int .i64 ((f + i) % r)) ∧ ∃ n, w' = w.drewN n := by
  go_enter Try.func47, Try.ntmps47
  go_wp2
  go_quiet (fail)
  go_wp2
  go_ret
  exact ⟨rfl, _, rfl⟩

/-- The place, as a number of its own. -/
theorem vplace_nat (b f i r p : Nat) (w : World) (hf : w.cell? ⟨b, 1, none⟩ = some (.int .i64 f)) (hr : w.cell? ⟨b, 0, none⟩ = some (.int .i64 r)) (h1 : f ≤ 1024) (h3 : i ≤ 1024) (h4 : 1 ≤ r) (h5 : r ≤ 1024) (hp : Hid ((f + i) % r = p)) :
    Calls Try.prog 47 #[.pointer (some ⟨b, 0, none⟩), .int .i64 i] w fun e w' => e = .returned (.int .i64 p) ∧ ∃ n, w' = w.drewN n := by
  refine (vplace_any b f i r w hf hr (by omega) (by omega) (by omega) (by omega) (by omega) (by omega)).mono ?_
  rintro e w' ⟨rfl, h⟩
  have e := hp.out
  exact ⟨by rw [← e]; simp, h⟩

set_option maxHeartbeats 1000000 in
set_option maxRecDepth 100000 in
theorem vnew_any (n : Int) (w : World) :
    Calls Try.prog 19 #[.int .i64 n] w fun e w' => e = .returned (.pointer (some ⟨w.heap.size, 0, none⟩)) ∧ RingV w' w.heap.size (fun k => k = w.heap.size) (roomOf n) [] ∧ Keeps No w w' := by
  have key : ∀ r : Nat, r = roomOf n → RingV (w.alloc (.cells #[.int .i64 r, .int .i64 0, .int .i64 0, .slice none 0 0] 85)) w.heap.size (fun k => k = w.heap.size) (roomOf n) [] := by
    rintro r rfl; exact RingG.new w (roomOf_le n)
  have K := hid key
  have hk : Keeps No w (w.alloc (.cells #[.int .i64 (roomOf n), .int .i64 0, .int .i64 0, .slice none 0 0] 85)) := (Keeps.refl _ _).alloc _
  have HK := hid hk
  clear key hk
  rcases (show n < 0 ∨ (0 ≤ n ∧ n ≤ 1024) ∨ 1024 < n by omega) with h | ⟨h, h'⟩ | h
  · have er : roomOf n = 0 := by simp [roomOf, h]
    rw [er] at HK
    have ER := hid er
    clear er
    go_enter Try.func19, Try.ntmps19
    go_wp2
    go_ret
    exact ⟨rfl, K.out 0 ER.out.symm, HK.out⟩
  · have er : (roomOf n : Int) = n := by unfold roomOf; rw [if_neg (by omega), if_neg (by omega)]; omega
    obtain ⟨m, rfl⟩ := Int.eq_ofNat_of_zero_le h
    have er' : roomOf (m : Int) = m := by omega
    rw [er'] at HK
    have ER := hid er'
    clear er er'
    go_enter Try.func19, Try.ntmps19
    go_wp2
    go_ret
    exact ⟨rfl, K.out m ER.out.symm, HK.out⟩
  · have er : roomOf n = 1024 := by unfold roomOf; rw [if_neg (by omega), if_pos h]
    rw [er] at HK
    have ER := hid er
    clear er
    go_enter Try.func19, Try.ntmps19
    go_wp2
    go_ret
    exact ⟨rfl, K.out 1024 ER.out.symm, HK.out⟩

theorem RingV.room_cell {w : World} {b room : Nat} {F : Nat → Prop} {l : List Vt} (h : RingV w b F room l) : w.cell? ⟨b, 0, none⟩ = some (.int .i64 room) := by
  obtain ⟨first, v, xs, hb, ho, hne, hF, hok⟩ := h
  exact cell_at (i := 0) hb rfl

theorem RingV.len_cell {w : World} {b room : Nat} {F : Nat → Prop} {l : List Vt} (h : RingV w b F room l) : w.cell? ⟨b, 2, none⟩ = some (.int .i64 l.length) := by
  obtain ⟨first, v, xs, hb, ho, hne, hF, hok⟩ := h
  exact cell_at (i := 2) hb rfl

set_option maxHeartbeats 1000000 in
set_option maxRecDepth 100000 in
theorem vhas_any (b : Nat) (c i : Int) (w : World) (hc : w.cell? ⟨b, 2, none⟩ = some (.int .i64 c)) (t : Bool) (ht : Hid (t = decide (0 ≤ i ∧ i < c))) :
    Calls Try.prog 50 #[.pointer (some ⟨b, 0, none⟩), .int .i64 i] w fun e w' => e = .returned (.bool t) ∧ w = w' := by
  by_cases h0 : 0 ≤ i
  · by_cases h1 : i < c
    · have hd : t = true := by rw [ht.out]; simp [h0, h1]
      subst hd
      clear ht
      go_enter Try.func50, Try.ntmps50
      go_wp2_with (go_at_call 45; refine (vlen_any _ _ _ hc).mono ?_; rintro e w' ⟨rfl, rfl⟩)
      go_ret
      exact ⟨rfl, rfl⟩
    · have hd : t = false := by rw [ht.out]; simp [h1]
      have hd1 : decide (i < c) = false := by simpa using h1
      subst hd
      clear ht
      go_enter Try.func50, Try.ntmps50
      go_wp2_with (go_at_call 45; refine (vlen_any _ _ _ hc).mono ?_; rintro e w' ⟨rfl, rfl⟩)
      go_ret
      exact ⟨rfl, rfl⟩
  · have hd : t = false := by rw [ht.out]; simp [h0]
    subst hd
    clear ht
    go_enter Try.func50, Try.ntmps50
    go_wp2
    go_ret
    exact ⟨rfl, rfl⟩

theorem info_val : (Try.prog.info? 64).map (fun i => (i.zero, i.size, i.bytes)) = some (some (.agg #[.int .i64 0, .int .i64 0]), 2, 16) := by kernel_rfl

set_option maxHeartbeats 1000000 in
set_option maxRecDepth 100000 in
theorem vpush_full {w : World} {b room : Nat} {F : Nat → Prop} {l : List Vt} (h : RingV w b F room l) (hc : l.length = room) (x : Vt) :
    Calls Try.prog 34 #[.pointer (some ⟨b, 0, none⟩), x.val] w fun e w' => e = .returned (.bool false) ∧ Keeps No w w' := by
  have c0 := RingV.room_cell h
  have c2 := RingV.len_cell h
  have hlt : b < w.heap.size := World.block_lt_of_cell? w _ c0
  obtain ⟨xr, xa⟩ := x
  unfold Vt.val
  subst hc
  clear h
  go_enter Try.func34, Try.ntmps34
  go_wp2_with (first | (go_at_call 45; refine (vlen_any _ _ _ (by simpa [World.cell?_alloc_lt, hlt] using c2)).mono ?_; rintro e w' ⟨rfl, rfl⟩) | (go_at_call 46; refine (vcap_any _ _ _ (by simpa [World.cell?_alloc_lt, hlt] using c0)).mono ?_; rintro e w' ⟨rfl, rfl⟩))
  go_ret
  exact ⟨rfl, (Keeps.refl _ _).alloc _⟩

set_option maxHeartbeats 1000000 in
set_option maxRecDepth 100000 in
theorem vpush_ok {w : World} {b room : Nat} {F : Nat → Prop} {l : List Vt} (h : RingV w b F room l) (hc : l.length < room) (x : Vt) :
    Calls Try.prog 34 #[.pointer (some ⟨b, 0, none⟩), x.val] w fun e w' => e = .returned (.bool true) ∧
      ∃ F', RingV w' b F' room (l ++ [x]) ∧ Upd F w w' F' := by
  obtain ⟨first, v, xs, hb, ho, hne, hF, hok⟩ := h
  have hrm := hok.rm
  have hfr := hok.fr
  have hxl := hok.len
  have hlt := lt_of_block hb
  obtain ⟨p, hp0⟩ : ∃ p, (first + l.length) % room = p := ⟨_, rfl⟩
  obtain ⟨xr, xa⟩ := x
  unfold Vt.val
  have HB := hid (heapA (.cells #[.int .i64 xr, .int .i64 xa] 64) hb)
  have c0 := cell_at (i := 0) HB.out rfl
  have c1 := cell_at (i := 1) HB.out rfl
  have c2 := cell_at (i := 2) HB.out rfl
  have c3 := cell_at (i := 3) HB.out rfl
  have f2 := free_at (i := 2) HB.out
  have f3 := free_at (i := 3) HB.out
  have hnl : ¬ ((l.length : Int) = (room : Int)) := by omega
  have hn0 : ((l.length : Int) == (room : Int)) = false := by simpa using hnl
  by_cases hp : p < xs.length
  · obtain ⟨g, cap, rfl⟩ := own_some ho (by omega)
    have hgb : ¬ g = b := by simpa [Value.ownBlock] using hne
    have hbg : ¬ b = g := fun e => hgb e.symm
    have hgl : g < w.heap.size := (ho.lt g rfl).2
    have HO := hid (ho.alloc (.cells #[.int .i64 xr, .int .i64 xa] 64))
    obtain ⟨hc0, hc1⟩ := own_cellV HO.out rfl hp
    have hf0 := HO.out.frozenAt (p * 2)
    have hf1 := HO.out.frozenAt (p * 2 + 1)
    have HP := hid hp0
    have HK := hid hok
    have HF := hid hF
    have HN := hid hne
    clear ho hne hok hF hp0 hb
    go_enter Try.func34, Try.ntmps34
    go_wp2_with (first | (go_at_call 45; refine (vlen_any _ _ _ c2).mono ?_; rintro e w' ⟨rfl, rfl⟩) | (go_at_call 46; refine (vcap_any _ _ _ c0).mono ?_; rintro e w' ⟨rfl, rfl⟩) | (go_at_call 47; refine (vplace_nat _ _ _ _ _ _ c1 c0 (by omega) (by omega) (by omega) (by omega) HP).mono ?_; rintro e w' ⟨rfl, n, rfl⟩))
    go_region
    all_goals
      go_wp2
      go_ret
      refine ⟨rfl, ?_⟩
      have hp0 := HP.out
      refine RingG.close (first := first) (v := .slice (some ⟨g, 0, none⟩) xs.length cap) (xs := xs.set p ⟨xr, xa⟩) ?_ ?_ HN.out ?_ ?_ ((HF.out b).2 (Or.inl rfl)) (fun k hk => Or.inl ((HF.out k).2 (Or.inr hk)))
      · have hb := HB.out
        simp [World.setCell, Array.getElem?_modify, hgb, hb]
      · have := own_store encV_len (own_drewN HO.out 0) hp ⟨xr, xa⟩
        simp only [encV, World.setCells, List.length_set, Nat.add_assoc, Nat.reduceAdd] at this ⊢
        exact ownsRow_setCell_other this HN.out _
      · rw [← hp0]; exact HK.out.push_in hc (by omega) _
      · repeat' (first | with_reducible exact Keeps.refl _ _ | with_reducible refine Keeps.drewN ?_ _ | with_reducible refine Keeps.drew ?_ | with_reducible refine Keeps.alloc ?_ _ | with_reducible refine Keeps.setCell ?_ ?_ _ | exact Or.inr ((HF.out _).2 (Or.inl rfl)) | exact Or.inr ((HF.out _).2 (Or.inr rfl)))
  · have hpx : p = xs.length := by rw [← hp0]; exact hok.place_new hc (by omega)
    subst hpx
    obtain ⟨ao, cap, rfl⟩ := own_any ho
    obtain ⟨i0, hi, hz0, hz1, hz2⟩ := info_parts info_val
    have HO := hid (ho.alloc (.cells #[.int .i64 xr, .int .i64 xa] 64))
    have HI := hid hi
    have HK := hid hok
    have HF := hid hF
    have HP := hid hp0
    have HN := hid hne
    clear ho hne hok hF hp0 hi hb
    go_enter Try.func34, Try.ntmps34
    go_wp2_with (first | (go_at_call 45; refine (vlen_any _ _ _ c2).mono ?_; rintro e w' ⟨rfl, rfl⟩) | (go_at_call 46; refine (vcap_any _ _ _ c0).mono ?_; rintro e w' ⟨rfl, rfl⟩) | (go_at_call 47; refine (vplace_nat _ _ _ _ _ _ c1 c0 (by omega) (by omega) (by omega) (by omega) HP).mono ?_; rintro e w' ⟨rfl, n, rfl⟩))
    go_region_law (refine step_append rfl (.tmp 35) (.tmp 37) 83 rfl 64 i0 (.agg #[.int .i64 0, .int .i64 0]) 2 16 Try.underlying83 HI.out hz0 hz1 hz2 rfl (by decide) _ _ _ _ _ _ rfl rfl ((own_drewN HO.out n).alloc _) (Sl.newAt (by simp) _ _ _ _ rfl (by decide)) (by intro u hu; simp at hu; rcases hu with rfl | rfl <;> rfl) (by unfold maxLen; omega) (by omega) ?_; intro v2 w2 hown2 hk2 hbl2; obtain ⟨g2, cap2, rfl⟩ := own_some hown2 (by omega); have hr2 := hk2.heap (fun h => HN.out h) (heapA _ HB.out); have s3 := cell_at (i := 3) hr2 rfl; have s2 := cell_at (i := 2) hr2 rfl; have e2 := free_at (i := 2) hr2; have e3 := free_at (i := 3) hr2; have HR2 := hid hr2; have HW2 := hid hown2; have HK2 := hid hk2; have HB2 := hid hbl2; clear hown2 hk2 hbl2 hr2)
    all_goals
      go_wp2
      go_ret
      refine ⟨rfl, ?_⟩
      have hp0 := HP.out
      have hgb : ¬ g2 = b := fun e => by
        rcases HB2.out b (by simp [Value.ownBlock, e]) with h | h
        · exact HN.out h
        · have h1 : w.heap.size + 1 ≤ b := by simpa using Nat.le_trans (by simp) h
          omega
      refine RingG.close (first := first) (v := .slice (some ⟨g2, 0, none⟩) (xs.length + 1) cap2) (xs := xs ++ [⟨xr, xa⟩]) ?_ ?_ (by simpa [Value.ownBlock] using hgb) ?_ ?_ ((HF.out b).2 (Or.inl rfl)) ?_
      · have hb1 := HR2.out
        simp [World.setCell, Array.getElem?_modify, hb1]
      · have := HW2.out
        rw [show [Value.int .i64 xr, .int .i64 xa] = encV (⟨xr, xa⟩ : Vt) from rfl, show xs.flatMap encV ++ encV (⟨xr, xa⟩ : Vt) = (xs ++ [(⟨xr, xa⟩ : Vt)]).flatMap encV by simp] at this
        rw [show (xs ++ [(⟨xr, xa⟩ : Vt)]).length = xs.length + 1 by simp]
        exact ownsRow_setCell_other (ownsRow_setCell_other this (by simpa [Value.ownBlock] using hgb) _) (by simpa [Value.ownBlock] using hgb) _
      · exact HK.out.push_on hc (by rw [hp0]; omega) _
      · have hk2 : Keeps F w w2 := ((((Keeps.refl _ _).alloc _).drewN _).alloc _).trans' (HK2.out) (fun _ _ h => h) (fun k _ hk => (HF.out k).2 (Or.inr hk))
        repeat' (first | with_reducible exact hk2 | with_reducible refine Keeps.setCell ?_ ?_ _ | exact Or.inr ((HF.out _).2 (Or.inl rfl)))
      · intro k hk
        rcases HB2.out k hk with h | h
        · exact Or.inl ((HF.out k).2 (Or.inr h))
        · right
          have h1 : w.heap.size + 1 ≤ k := by simpa using Nat.le_trans (by simp) h
          omega



set_option maxHeartbeats 1000000 in
set_option maxRecDepth 100000 in
theorem vpop_none {w : World} {b room : Nat} {F : Nat → Prop} (h : RingV w b F room []) :
    Calls Try.prog 35 #[.pointer (some ⟨b, 0, none⟩)] w fun e w' => e = .returned (.tuple #[.agg #[.int .i64 0, .int .i64 0], .bool false]) ∧ Keeps No w w' := by
  have c2 := RingV.len_cell h
  have hlt : b < w.heap.size := World.block_lt_of_cell? w _ c2
  clear h
  go_enter Try.func35, Try.ntmps35
  go_wp2_with (go_at_call 45; refine (vlen_any _ _ _ (cellA _ (cellA _ c2))).mono ?_; rintro e w' ⟨rfl, rfl⟩)
  go_returns
  refine ⟨rfl, ?_⟩
  repeat' (first | with_reducible exact Keeps.refl _ _ | with_reducible assumption | with_reducible refine Keeps.drewN ?_ _ | with_reducible refine Keeps.drew ?_ | with_reducible refine Keeps.alloc ?_ _ | with_reducible refine Keeps.setCell ?_ ?_ _ | exact Or.inl (by simp) | exact Or.inl (by simp; omega) | exact Or.inl (by omega))

theorem vpop_nil (w : World) :
    Calls Try.prog 35 #[.pointer none] w fun e w' => e = .returned (.tuple #[.agg #[.int .i64 0, .int .i64 0], .bool false]) ∧ Keeps No w w' := by
  go_enter Try.func35, Try.ntmps35
  go_wp2_with (go_at_call 45; refine (vlen_nil _).mono ?_; rintro e w' ⟨rfl, rfl⟩)
  go_returns
  refine ⟨rfl, ?_⟩
  repeat' (first | with_reducible exact Keeps.refl _ _ | with_reducible assumption | with_reducible refine Keeps.drewN ?_ _ | with_reducible refine Keeps.drew ?_ | with_reducible refine Keeps.alloc ?_ _ | with_reducible refine Keeps.setCell ?_ ?_ _ | exact Or.inl (by simp) | exact Or.inl (by simp; omega) | exact Or.inl (by omega))

set_option maxHeartbeats 1000000 in
set_option maxRecDepth 100000 in
theorem vpop_ok {w : World} {b room : Nat} {F : Nat → Prop} {y : Vt} {l : List Vt} (h : RingV w b F room (y :: l)) :
    Calls Try.prog 35 #[.pointer (some ⟨b, 0, none⟩)] w fun e w' => e = .returned (.tuple #[y.val, .bool true]) ∧
      ∃ F', RingV w' b F' room l ∧ Upd F w w' F' := by
  obtain ⟨first, v, xs, hb, ho, hne, hF, hok⟩ := h
  obtain ⟨yr, ya⟩ := y
  unfold Vt.val
  have c0 := cell_at (i := 0) hb rfl
  have c1 := cell_at (i := 1) hb rfl
  have c2 := cell_at (i := 2) hb rfl
  have c3 := cell_at (i := 3) hb rfl
  have f1 := free_at (i := 1) hb
  have f2 := free_at (i := 2) hb
  have hrm := hok.rm
  have hcn := hok.cnt
  have hfr := hok.fr
  simp only [List.length_cons] at hcn
  have hpx : first < xs.length ∧ xs[first]? = some ⟨yr, ya⟩ := by
    have h1 := hok.place_lt (i := 0) (by simp)
    have h2 := hok.ats 0 (by simp)
    have h3 := mod_room (a := first + 0) (room := room) (by omega)
    rw [h3, if_pos (by omega)] at h1 h2
    exact ⟨h1, by simpa using h2⟩
  obtain ⟨hp, hy⟩ := hpx
  obtain ⟨g, cap, rfl⟩ := own_some ho (by omega)
  have hgb : ¬ g = b := by simpa [Value.ownBlock] using hne
  have hbg : ¬ b = g := fun e => hgb e.symm
  have hbl : b < w.heap.size := lt_of_block hb
  have hbl1 : b < w.heap.size + 1 := by omega
  have hbl2 : b < w.heap.size + 2 := by omega
  have hgl : g < w.heap.size := (ho.lt g rfl).2
  have hgl1 : g < w.heap.size + 1 := by omega
  have hgl2 : g < w.heap.size + 2 := by omega
  have hcc := own_cellV ho rfl hp
  rw [List.getElem?_eq_getElem hp] at hy
  simp only [Option.some.injEq] at hy
  rw [hy] at hcc
  obtain ⟨hc0, hc1⟩ := hcc
  have hf0 := ho.frozenAt (first * 2)
  have hf1 := ho.frozenAt (first * 2 + 1)
  obtain ⟨q, hq⟩ : ∃ q, (first + 1) % room = q := ⟨_, rfl⟩
  have HQ := hid hq
  have HO := hid ho
  have HK := hid hok
  have HF := hid hF
  have HN := hid hne
  have HB := hid hb
  have hl0 : ((l.length : Int) + 1 == 0) = false := by rw [beq_eq_false_iff_ne]; omega
  clear ho hne hok hF hq hy hb
  go_enter Try.func35, Try.ntmps35
  go_wp2_with (go_at_call 45; refine (vlen_any _ _ _ (cellA _ (cellA _ c2))).mono ?_; rintro e w' ⟨rfl, rfl⟩)
  go_region
  all_goals go_wp2
  all_goals go_region
  all_goals go_wp2_with fail
  have hn0 : ∀ o : Nat, (⟨g, o, none⟩ : Addr) ≠ ⟨b, 1, none⟩ := fun o e => hgb (by simpa using congrArg Addr.block e)
  have hn1 : ∀ o : Nat, (⟨g, o, none⟩ : Addr) ≠ ⟨b, 0, none⟩ := fun o e => hgb (by simpa using congrArg Addr.block e)
  refine (vplace_nat b first 1 room q _ (cellDr (cellDr (cellA _ (cellA _ (cellA _ (cellS (hn0 _) (cellS (hn0 _) c1))))))) (cellDr (cellDr (cellA _ (cellA _ (cellA _ (cellS (hn1 _) (cellS (hn1 _) c0))))))) (by omega) (by omega) (by omega) (by omega) HQ).mono ?_
  rintro e w4 ⟨rfl, hw4⟩
  have HW4 := hid hw4
  clear hn0 hn1 hw4
  have hb4 : w4.heap[b]? = some (.cells #[.int .i64 room, .int .i64 first, .int .i64 (l.length + 1 : Nat), .slice (some ⟨g, 0, none⟩) xs.length cap] 85 (0, 0)) := by
    obtain ⟨n, rfl⟩ := HW4.out
    rw [heap_drewN, heap_drew, heap_drew]
    refine heapA _ (heapA _ (heapA _ ?_))
    rw [Below.heap_setCell _ _ _ _ hbg, Below.heap_setCell _ _ _ _ hbg]
    exact HB.out
  have hr4 : w4.heap[w.heap.size]? = some (.cells #[.int .i64 0, .int .i64 0] 64 (0, 0)) := by
    obtain ⟨n, rfl⟩ := HW4.out
    rw [heap_drewN, heap_drew, heap_drew]
    refine heapA _ (heapA _ ?_)
    exact heap_alloc_at (by simp) _
  have hi4 : w4.heap[w.heap.size + 1 + 1]? = some (.cells #[.int .i64 yr, .int .i64 ya] 64 (0, 0)) := by
    obtain ⟨n, rfl⟩ := HW4.out
    rw [heap_drewN, heap_drew, heap_drew]
    exact heap_alloc_at (by simp) _
  have ho4 : w4.ownsRow 0 64 2 (.slice (some ⟨g, 0, none⟩) xs.length cap) (xs.set first Vt.zero).length ((xs.set first Vt.zero).flatMap encV) := by
    obtain ⟨n, rfl⟩ := HW4.out
    refine own_drewN (World.ownsRow.drew (World.ownsRow.drew (World.ownsRow.alloc (World.ownsRow.alloc (World.ownsRow.alloc ?_ _) _) _))) n
    exact own_store encV_len HO.out hp Vt.zero
  have hk4 : Keeps F w w4 := by
    obtain ⟨n, rfl⟩ := HW4.out
    repeat' (first | with_reducible exact Keeps.refl _ _ | with_reducible refine Keeps.drewN ?_ _ | with_reducible refine Keeps.drew ?_ | with_reducible refine Keeps.alloc ?_ _ | with_reducible refine Keeps.setCell ?_ ?_ _ | exact Or.inr ((HF.out _).2 (Or.inl rfl)) | exact Or.inr ((HF.out _).2 (Or.inr rfl)))
  have k1 := cell_at (i := 1) hb4 rfl
  have k2 := cell_at (i := 2) hb4 rfl
  have g1 := free_at (i := 1) hb4
  have g2 := free_at (i := 2) hb4
  have r0 := cell_at (i := 0) hr4 rfl
  have r1 := cell_at (i := 1) hr4 rfl
  have s0 := free_at (i := 0) hr4
  have s1 := free_at (i := 1) hr4
  have i0 := cell_at (i := 0) hi4 rfl
  have i1 := cell_at (i := 1) hi4 rfl
  have hne1 : ¬ b = w.heap.size := by omega
  have hne2 : ¬ w.heap.size = b := by omega
  have hne3 : ¬ b = w.heap.size + 1 + 1 := by omega
  have hne4 : ¬ w.heap.size + 1 + 1 = b := by omega
  have HB4 := hid hb4
  have HO4 := hid ho4
  have HK4 := hid hk4
  clear hb4 hr4 hi4 ho4 hk4 HW4 c0 c1 c2 c3 f1 f2 hc0 hc1 hf0 hf1
  go_wp2_with fail
  refine bodyPost_ret (v := .tuple #[.agg #[.int .i64 yr, .int .i64 ya], .bool true]) (by simp [results, Try.results35, go_sem, r0, r1]) rfl ?_
  refine ⟨rfl, ?_⟩
  have hq0 := HQ.out
  refine RingG.close (first := q) (v := .slice (some ⟨g, 0, none⟩) xs.length cap) (xs := xs.set first Vt.zero) ?_ ?_ HN.out (hq0 ▸ HK.out.pop Vt.zero) ?_ ((HF.out b).2 (Or.inl rfl)) (fun k hk => Or.inl ((HF.out k).2 (Or.inr hk)))
  · have hb4 := HB4.out
    simp [World.setCell, Array.getElem?_modify, hb4, hne2]
  · have h := HO4.out
    have hnr : (Value.slice (some ⟨g, 0, none⟩) xs.length cap).ownBlock ≠ some w.heap.size := by simp [Value.ownBlock]; omega
    simp only [List.length_set] at h ⊢
    repeat' (first | with_reducible exact h | with_reducible refine ownsRow_setCell_other ?_ HN.out _ | with_reducible refine ownsRow_setCell_other ?_ hnr _)
  · have hk4 := HK4.out
    repeat' (first | with_reducible exact hk4 | with_reducible refine Keeps.setCell ?_ ?_ _ | exact Or.inr ((HF.out _).2 (Or.inl rfl)) | exact Or.inl (Nat.le_refl _))



theorem RingV.item {w : World} {b room : Nat} {F : Nat → Prop} {l : List Vt} (h : RingV w b F room l) {i : Nat} (hi : i < l.length) : ∃ first p g n cap : Nat,
    w.cell? ⟨b, 1, none⟩ = some (.int .i64 first) ∧ w.cell? ⟨b, 3, none⟩ = some (.slice (some ⟨g, 0, none⟩) n cap) ∧ Hid ((first + i) % room = p) ∧ p < n ∧ first ≤ 1024 ∧
    (w.cell? ⟨g, p * 2, none⟩ = some (.int .i64 l[i].is_) ∧ w.cell? ⟨g, p * 2 + 1, none⟩ = some (.int .i64 l[i].at_)) ∧ F g ∧ n ≤ 1024 := by
  obtain ⟨first, v, xs, hb, ho, hne, hF, hok⟩ := h
  have hp := hok.place_lt hi
  have hat := hok.ats i hi
  have hfr := hok.fr
  have hrm := hok.rm
  have hxl := hok.len
  rw [List.getElem?_eq_getElem hp, List.getElem?_eq_getElem hi] at hat
  obtain ⟨g, cap, rfl⟩ := own_some ho (by omega)
  refine ⟨first, _, g, xs.length, cap, cell_at (i := 1) hb rfl, cell_at (i := 3) hb rfl, hid rfl, hp, by omega, ?_, (hF g).2 (Or.inr rfl), by omega⟩
  have h3 := own_cellV ho rfl hp
  simp at hat; rw [hat] at h3
  exact h3

set_option maxHeartbeats 1000000 in
set_option maxRecDepth 100000 in
theorem vat_ok {w : World} {b room : Nat} {F : Nat → Prop} {l : List Vt} (h : RingV w b F room l) {i : Nat} (hi : i < l.length) :
    Calls Try.prog 48 #[.pointer (some ⟨b, 0, none⟩), .int .i64 i] w fun e w' => e = .returned (.tuple #[l[i].val, .bool true]) ∧ Keeps No w w' := by
  obtain ⟨first, p, g, n, cap, c1, c3, HP, hp, hf, hcc, hFg, hn⟩ := RingV.item h hi
  have c0 := RingV.room_cell h
  have c2 := RingV.len_cell h
  have hcn := RingG.cnt h
  obtain ⟨y, hy⟩ : ∃ y, l[i] = y := ⟨_, rfl⟩
  rw [hy] at hcc ⊢
  obtain ⟨yr, ya⟩ := y
  unfold Vt.val
  obtain ⟨hc0, hc1⟩ := hcc
  have hbl : b < w.heap.size := World.block_lt_of_cell? w _ c0
  have hgl : g < w.heap.size := World.block_lt_of_cell? w _ hc0
  have hh := vhas_any b l.length i (w.alloc (.cells #[.int .i64 0, .int .i64 0] 64)) (cellA _ c2) true (hid (by simp [hi]))
  clear hy h hFg
  obtain ⟨hcn1, hcn2⟩ := hcn
  go_enter Try.func48, Try.ntmps48
  go_wp2_with (go_at_call 50; refine hh.mono ?_; rintro e w' ⟨rfl, rfl⟩)
  go_region_with (go_at_call 47; refine (vplace_nat b first i room p _ (by exact cellDr (cellA _ c1)) (by exact cellDr (cellA _ c0)) (by omega) (by omega) (by omega) (by omega) HP).mono ?_; rintro e w' ⟨rfl, n', rfl⟩)
  all_goals
    go_wp2_with fail
    refine bodyPost_ret (v := .tuple #[.agg #[.int .i64 yr, .int .i64 ya], .bool true]) (by simp [results, Try.results48, go_sem]) rfl ?_
    refine ⟨rfl, ?_⟩
    repeat' (first | with_reducible exact Keeps.refl _ _ | with_reducible assumption | with_reducible refine Keeps.drewN ?_ _ | with_reducible refine Keeps.drew ?_ | with_reducible refine Keeps.alloc ?_ _ | with_reducible refine Keeps.setCell ?_ ?_ _ | exact Or.inl (by simp) | exact Or.inl (by simp; omega) | exact Or.inl (by omega))

set_option maxHeartbeats 1000000 in
set_option maxRecDepth 100000 in
theorem vat_none {w : World} {b room : Nat} {F : Nat → Prop} {l : List Vt} (h : RingV w b F room l) (i : Int) (hi : ¬ (0 ≤ i ∧ i < l.length)) :
    Calls Try.prog 48 #[.pointer (some ⟨b, 0, none⟩), .int .i64 i] w fun e w' => e = .returned (.tuple #[.agg #[.int .i64 0, .int .i64 0], .bool false]) ∧ Keeps No w w' := by
  have c2 := RingV.len_cell h
  have hbl : b < w.heap.size := World.block_lt_of_cell? w _ c2
  have hh := vhas_any b l.length i (w.alloc (.cells #[.int .i64 0, .int .i64 0] 64)) (cellA _ c2) false (hid (by simpa using hi))
  clear h hi
  go_enter Try.func48, Try.ntmps48
  go_wp2_with (go_at_call 50; refine hh.mono ?_; rintro e w' ⟨rfl, rfl⟩)
  go_returns
  refine ⟨rfl, ?_⟩
  repeat' (first | with_reducible exact Keeps.refl _ _ | with_reducible assumption | with_reducible refine Keeps.drewN ?_ _ | with_reducible refine Keeps.drew ?_ | with_reducible refine Keeps.alloc ?_ _ | with_reducible refine Keeps.setCell ?_ ?_ _ | exact Or.inl (by simp) | exact Or.inl (by simp; omega) | exact Or.inl (by omega))

end Go.Proofs.Ytboalfajghkajaa
