/-
  The ring of events: New, Len, Cap, Push, Pop, At, Set, All.
-/
import Derived.Test.YtoodlhagecannaaRows
import Derived.Test.YtoodlhagecannaaLib
namespace Go.Proofs.Ytoodlhagecannaa
open Go.RowKit

/-- An event: its rule, whether it begins, when. -/
structure Ev where
  rule : Int
  on : Bool
  at_ : Int

def Ev.zero : Ev := ⟨0, false, 0⟩
def Ev.val (x : Ev) : Value := .agg #[.int .i64 x.rule, .bool x.on, .int .i64 x.at_]
def encE (x : Ev) : List Value := [.int .i64 x.rule, .bool x.on, .int .i64 x.at_]
theorem encE_len (x : Ev) : (encE x).length = 3 := rfl

/-- The ring at block b holds the list l and has so much room; F are the blocks that it stands in. -/
abbrev RingE := RingG (α := Ev) 114 64 3 encE

/-- The three cells of the item at the place p. -/
theorem own_cellE {w : World} {g cap n : Nat} {xs : List Ev} (ho : w.ownsRow 0 64 3 (.slice (some ⟨g, 0, none⟩) n cap) n (xs.flatMap encE)) (hn : n = xs.length) {p : Nat} (hp : p < xs.length) :
    w.cell? ⟨g, p * 3, none⟩ = some (.int .i64 xs[p].rule) ∧ w.cell? ⟨g, p * 3 + 1, none⟩ = some (.bool xs[p].on) ∧ w.cell? ⟨g, p * 3 + 2, none⟩ = some (.int .i64 xs[p].at_) := by
  subst hn
  refine ⟨?_, ?_, ?_⟩
  · have := getElem?_flatMap_enc (size := 3) encE_len xs p 0 (by omega) hp
    rw [ho.cellAt (p * 3) (by omega)]; simpa [encE] using this
  · have := getElem?_flatMap_enc (size := 3) encE_len xs p 1 (by omega) hp
    rw [ho.cellAt (p * 3 + 1) (by omega)]; simpa [encE] using this
  · have := getElem?_flatMap_enc (size := 3) encE_len xs p 2 (by omega) hp
    rw [ho.cellAt (p * 3 + 2) (by omega)]; simpa [encE] using this

set_option maxHeartbeats 1000000 in
set_option maxRecDepth 100000 in
theorem elen_any (b : Nat) (c : Int) (w : World) (hc : w.cell? ⟨b, 2, none⟩ = some (.int .i64 c)) :
    Calls Try.prog 45 #[.pointer (some ⟨b, 0, none⟩)] w fun e w' => e = .returned (.int .i64 c) ∧ w = w' := by
  go_enter Try.func45, Try.ntmps45
  go_wp2
  go_ret
  exact ⟨rfl, rfl⟩

set_option maxHeartbeats 1000000 in
set_option maxRecDepth 100000 in
theorem elen_nil (w : World) :
    Calls Try.prog 45 #[.pointer none] w fun e w' => e = .returned (.int .i64 0) ∧ w = w' := by
  go_enter Try.func45, Try.ntmps45
  go_wp2
  go_ret
  exact ⟨rfl, rfl⟩

set_option maxHeartbeats 1000000 in
set_option maxRecDepth 100000 in
theorem ecap_any (b : Nat) (c : Int) (w : World) (hc : w.cell? ⟨b, 0, none⟩ = some (.int .i64 c)) :
    Calls Try.prog 49 #[.pointer (some ⟨b, 0, none⟩)] w fun e w' => e = .returned (.int .i64 c) ∧ w = w' := by
  go_enter Try.func49, Try.ntmps49
  go_wp2
  go_ret
  exact ⟨rfl, rfl⟩

set_option maxHeartbeats 1000000 in
set_option maxRecDepth 100000 in
theorem ecap_nil (w : World) :
    Calls Try.prog 49 #[.pointer none] w fun e w' => e = .returned (.int .i64 0) ∧ w = w' := by
  go_enter Try.func49, Try.ntmps49
  go_wp2
  go_ret
  exact ⟨rfl, rfl⟩

set_option maxHeartbeats 1000000 in
set_option maxRecDepth 100000 in
theorem eplace_any (b : Nat) (f i r : Int) (w : World) (hf : w.cell? ⟨b, 1, none⟩ = some (.int .i64 f)) (hr : w.cell? ⟨b, 0, none⟩ = some (.int .i64 r))
   (h0 : 0 ≤ f) (h1 : f ≤ 1024) (h2 : 0 ≤ i) (h3 : i ≤ 1024) (h4 : 1 ≤ r) (h5 : r ≤ 1024)  :
    Calls Try.prog 46 #[.pointer (some ⟨b, 0, none⟩), .int .i64 i] w fun e w' => e = .returned (.int .i64 ((f + i) % r)) ∧ ∃ n, w' = w.drewN n := by
  go_enter Try.func46, Try.ntmps46
  go_wp2
  go_quiet (fail)
  go_wp2
  go_ret
  exact ⟨rfl, _, rfl⟩

/-- The place, as a number of its own. -/
theorem eplace_nat (b f i r p : Nat) (w : World) (hf : w.cell? ⟨b, 1, none⟩ = some (.int .i64 f)) (hr : w.cell? ⟨b, 0, none⟩ = some (.int .i64 r)) (h1 : f ≤ 1024) (h3 : i ≤ 1024) (h4 : 1 ≤ r) (h5 : r ≤ 1024) (hp : Hid ((f + i) % r = p)) :
    Calls Try.prog 46 #[.pointer (some ⟨b, 0, none⟩), .int .i64 i] w fun e w' => e = .returned (.int .i64 p) ∧ ∃ n, w' = w.drewN n := by
  refine (eplace_any b f i r w hf hr (by omega) (by omega) (by omega) (by omega) (by omega) (by omega)).mono ?_
  rintro e w' ⟨rfl, h⟩
  have e := hp.out
  exact ⟨by rw [← e]; simp, h⟩

set_option maxHeartbeats 1000000 in
set_option maxRecDepth 100000 in
theorem enew_any (n : Int) (w : World) :
    Calls Try.prog 37 #[.int .i64 n] w fun e w' => e = .returned (.pointer (some ⟨w.heap.size, 0, none⟩)) ∧ RingE w' w.heap.size (fun k => k = w.heap.size) (roomOf n) [] ∧ Keeps No w w' := by
  have key : ∀ r : Nat, r = roomOf n → RingE (w.alloc (.cells #[.int .i64 r, .int .i64 0, .int .i64 0, .slice none 0 0] 114)) w.heap.size (fun k => k = w.heap.size) (roomOf n) [] := by
    rintro r rfl; exact RingG.new w (roomOf_le n)
  have K := hid key
  have hk : Keeps No w (w.alloc (.cells #[.int .i64 (roomOf n), .int .i64 0, .int .i64 0, .slice none 0 0] 114)) := (Keeps.refl _ _).alloc _
  have HK := hid hk
  clear key hk
  rcases (show n < 0 ∨ (0 ≤ n ∧ n ≤ 1024) ∨ 1024 < n by omega) with h | ⟨h, h'⟩ | h
  · have er : roomOf n = 0 := by simp [roomOf, h]
    rw [er] at HK
    have ER := hid er
    clear er
    go_enter Try.func37, Try.ntmps37
    go_wp2
    go_ret
    exact ⟨rfl, K.out 0 ER.out.symm, HK.out⟩
  · have er : (roomOf n : Int) = n := by unfold roomOf; rw [if_neg (by omega), if_neg (by omega)]; omega
    obtain ⟨m, rfl⟩ := Int.eq_ofNat_of_zero_le h
    have er' : roomOf (m : Int) = m := by omega
    rw [er'] at HK
    have ER := hid er'
    clear er er'
    go_enter Try.func37, Try.ntmps37
    go_wp2
    go_ret
    exact ⟨rfl, K.out m ER.out.symm, HK.out⟩
  · have er : roomOf n = 1024 := by unfold roomOf; rw [if_neg (by omega), if_pos h]
    rw [er] at HK
    have ER := hid er
    clear er
    go_enter Try.func37, Try.ntmps37
    go_wp2
    go_ret
    exact ⟨rfl, K.out 1024 ER.out.symm, HK.out⟩

theorem RingE.room_cell {w : World} {b room : Nat} {F : Nat → Prop} {l : List Ev} (h : RingE w b F room l) : w.cell? ⟨b, 0, none⟩ = some (.int .i64 room) := by
  obtain ⟨first, v, xs, hb, ho, hne, hF, hok⟩ := h
  exact cell_at (i := 0) hb rfl

theorem RingE.len_cell {w : World} {b room : Nat} {F : Nat → Prop} {l : List Ev} (h : RingE w b F room l) : w.cell? ⟨b, 2, none⟩ = some (.int .i64 l.length) := by
  obtain ⟨first, v, xs, hb, ho, hne, hF, hok⟩ := h
  exact cell_at (i := 2) hb rfl

set_option maxHeartbeats 1000000 in
set_option maxRecDepth 100000 in
theorem ehas_any (b : Nat) (c i : Int) (w : World) (hc : w.cell? ⟨b, 2, none⟩ = some (.int .i64 c)) (t : Bool) (ht : Hid (t = decide (0 ≤ i ∧ i < c))) :
    Calls Try.prog 50 #[.pointer (some ⟨b, 0, none⟩), .int .i64 i] w fun e w' => e = .returned (.bool t) ∧ w = w' := by
  by_cases h0 : 0 ≤ i
  · by_cases h1 : i < c
    · have hd : t = true := by rw [ht.out]; simp [h0, h1]
      subst hd
      clear ht
      go_enter Try.func50, Try.ntmps50
      go_wp2_with (go_at_call 45; refine (elen_any _ _ _ hc).mono ?_; rintro e w' ⟨rfl, rfl⟩)
      go_ret
      exact ⟨rfl, rfl⟩
    · have hd : t = false := by rw [ht.out]; simp [h1]
      have hd1 : decide (i < c) = false := by simpa using h1
      subst hd
      clear ht
      go_enter Try.func50, Try.ntmps50
      go_wp2_with (go_at_call 45; refine (elen_any _ _ _ hc).mono ?_; rintro e w' ⟨rfl, rfl⟩)
      go_ret
      exact ⟨rfl, rfl⟩
  · have hd : t = false := by rw [ht.out]; simp [h0]
    subst hd
    clear ht
    go_enter Try.func50, Try.ntmps50
    go_wp2
    go_ret
    exact ⟨rfl, rfl⟩

theorem info_ev : (Try.prog.info? 64).map (fun i => (i.zero, i.size, i.bytes)) = some (some (.agg #[.int .i64 0, .bool false, .int .i64 0]), 3, 24) := by kernel_rfl

set_option maxHeartbeats 1000000 in
set_option maxRecDepth 100000 in
theorem epush_full {w : World} {b room : Nat} {F : Nat → Prop} {l : List Ev} (h : RingE w b F room l) (hc : l.length = room) (x : Ev) :
    Calls Try.prog 42 #[.pointer (some ⟨b, 0, none⟩), x.val] w fun e w' => e = .returned (.bool false) ∧ Keeps No w w' := by
  have c0 := RingE.room_cell h
  have c2 := RingE.len_cell h
  have hlt : b < w.heap.size := World.block_lt_of_cell? w _ c0
  obtain ⟨xr, xo, xa⟩ := x
  unfold Ev.val
  subst hc
  clear h
  go_enter Try.func42, Try.ntmps42
  go_wp2_with (first | (go_at_call 45; refine (elen_any _ _ _ (by simpa [World.cell?_alloc_lt, hlt] using c2)).mono ?_; rintro e w' ⟨rfl, rfl⟩) | (go_at_call 49; refine (ecap_any _ _ _ (by simpa [World.cell?_alloc_lt, hlt] using c0)).mono ?_; rintro e w' ⟨rfl, rfl⟩))
  go_ret
  exact ⟨rfl, (Keeps.refl _ _).alloc _⟩

set_option maxHeartbeats 1000000 in
set_option maxRecDepth 100000 in
theorem epush_ok {w : World} {b room : Nat} {F : Nat → Prop} {l : List Ev} (h : RingE w b F room l) (hc : l.length < room) (x : Ev) :
    Calls Try.prog 42 #[.pointer (some ⟨b, 0, none⟩), x.val] w fun e w' => e = .returned (.bool true) ∧
      ∃ F', RingE w' b F' room (l ++ [x]) ∧ Upd F w w' F' := by
  obtain ⟨first, v, xs, hb, ho, hne, hF, hok⟩ := h
  have hrm := hok.rm
  have hfr := hok.fr
  have hxl := hok.len
  have hlt := lt_of_block hb
  obtain ⟨p, hp0⟩ : ∃ p, (first + l.length) % room = p := ⟨_, rfl⟩
  obtain ⟨xr, xo, xa⟩ := x
  unfold Ev.val
  have HB := hid (heapA (.cells #[.int .i64 xr, .bool xo, .int .i64 xa] 64) hb)
  have c0 := cell_at (i := 0) HB.out rfl
  have c1 := cell_at (i := 1) HB.out rfl
  have c2 := cell_at (i := 2) HB.out rfl
  have c3 := cell_at (i := 3) HB.out rfl
  have f2 := free_at (i := 2) HB.out
  have f3 := free_at (i := 3) HB.out
  have hnl : ¬ ((l.length : Int) = (room : Int)) := by omega
  have hn0 : ((l.length : Int) == (room : Int)) = false := by simpa using hnl
  by_cases hp : p < xs.length
  · obtain ⟨g, cap, rfl⟩ := own_some ho (by omega)
    have hgb : ¬ g = b := by simpa [Value.ownBlock] using hne
    have hbg : ¬ b = g := fun e => hgb e.symm
    have hgl : g < w.heap.size := (ho.lt g rfl).2
    have HO := hid (ho.alloc (.cells #[.int .i64 xr, .bool xo, .int .i64 xa] 64))
    obtain ⟨hc0, hc1, hc2⟩ := own_cellE HO.out rfl hp
    have hf0 := HO.out.frozenAt (p * 3)
    have hf1 := HO.out.frozenAt (p * 3 + 1)
    have hf2 := HO.out.frozenAt (p * 3 + 2)
    have HP := hid hp0
    have HK := hid hok
    have HF := hid hF
    have HN := hid hne
    clear ho hne hok hF hp0 hb
    go_enter Try.func42, Try.ntmps42
    go_wp2_with (first | (go_at_call 45; refine (elen_any _ _ _ c2).mono ?_; rintro e w' ⟨rfl, rfl⟩) | (go_at_call 49; refine (ecap_any _ _ _ c0).mono ?_; rintro e w' ⟨rfl, rfl⟩) | (go_at_call 46; refine (eplace_nat _ _ _ _ _ _ c1 c0 (by omega) (by omega) (by omega) (by omega) HP).mono ?_; rintro e w' ⟨rfl, n, rfl⟩))
    go_region
    all_goals
      go_wp2
      go_ret
      refine ⟨rfl, ?_⟩
      have hp0 := HP.out
      refine RingG.close (first := first) (v := .slice (some ⟨g, 0, none⟩) xs.length cap) (xs := xs.set p ⟨xr, xo, xa⟩) ?_ ?_ HN.out ?_ ?_ ((HF.out b).2 (Or.inl rfl)) (fun k hk => Or.inl ((HF.out k).2 (Or.inr hk)))
      · have hb := HB.out
        simp [World.setCell, Array.getElem?_modify, hgb, hb]
      · have := own_store encE_len (own_drewN HO.out 0) hp ⟨xr, xo, xa⟩
        simp only [encE, World.setCells, List.length_set, Nat.add_assoc, Nat.reduceAdd] at this ⊢
        exact ownsRow_setCell_other this HN.out _
      · rw [← hp0]; exact HK.out.push_in hc (by omega) _
      · repeat' (first | with_reducible exact Keeps.refl _ _ | with_reducible refine Keeps.drewN ?_ _ | with_reducible refine Keeps.drew ?_ | with_reducible refine Keeps.alloc ?_ _ | with_reducible refine Keeps.setCell ?_ ?_ _ | exact Or.inr ((HF.out _).2 (Or.inl rfl)) | exact Or.inr ((HF.out _).2 (Or.inr rfl)))
  · have hpx : p = xs.length := by rw [← hp0]; exact hok.place_new hc (by omega)
    subst hpx
    obtain ⟨ao, cap, rfl⟩ := own_any ho
    obtain ⟨i0, hi, hz0, hz1, hz2⟩ := info_parts info_ev
    have HO := hid (ho.alloc (.cells #[.int .i64 xr, .bool xo, .int .i64 xa] 64))
    have HI := hid hi
    have HK := hid hok
    have HF := hid hF
    have HP := hid hp0
    have HN := hid hne
    clear ho hne hok hF hp0 hi hb
    go_enter Try.func42, Try.ntmps42
    go_wp2_with (first | (go_at_call 45; refine (elen_any _ _ _ c2).mono ?_; rintro e w' ⟨rfl, rfl⟩) | (go_at_call 49; refine (ecap_any _ _ _ c0).mono ?_; rintro e w' ⟨rfl, rfl⟩) | (go_at_call 46; refine (eplace_nat _ _ _ _ _ _ c1 c0 (by omega) (by omega) (by omega) (by omega) HP).mono ?_; rintro e w' ⟨rfl, n, rfl⟩))
    go_region_law (refine step_append rfl (.tmp 35) (.tmp 37) 43 rfl 64 i0 (.agg #[.int .i64 0, .bool false, .int .i64 0]) 3 24 Try.underlying43 HI.out hz0 hz1 hz2 rfl (by decide) _ _ _ _ _ _ rfl rfl ((own_drewN HO.out n).alloc _) (Sl.newAt (by simp) _ _ _ _ rfl (by decide)) (by intro u hu; simp at hu; rcases hu with rfl | rfl | rfl <;> rfl) (by unfold maxLen; omega) (by omega) ?_; intro v2 w2 hown2 hk2 hbl2; obtain ⟨g2, cap2, rfl⟩ := own_some hown2 (by omega); have hr2 := hk2.heap (fun h => HN.out h) (heapA _ HB.out); have s3 := cell_at (i := 3) hr2 rfl; have s2 := cell_at (i := 2) hr2 rfl; have e2 := free_at (i := 2) hr2; have e3 := free_at (i := 3) hr2; have HR2 := hid hr2; have HW2 := hid hown2; have HK2 := hid hk2; have HB2 := hid hbl2; clear hown2 hk2 hbl2 hr2)
    all_goals
      go_wp2
      go_ret
      refine ⟨rfl, ?_⟩
      have hp0 := HP.out
      have hgb : ¬ g2 = b := fun e => by
        rcases HB2.out b (by simp [Value.ownBlock, e]) with h | h
        · exact HN.out h
        · have h1 : w.heap.size + 1 ≤ b := by simpa using Nat.le_trans (by simp) h
          omega
      refine RingG.close (first := first) (v := .slice (some ⟨g2, 0, none⟩) (xs.length + 1) cap2) (xs := xs ++ [⟨xr, xo, xa⟩]) ?_ ?_ (by simpa [Value.ownBlock] using hgb) ?_ ?_ ((HF.out b).2 (Or.inl rfl)) ?_
      · have hb1 := HR2.out
        simp [World.setCell, Array.getElem?_modify, hb1]
      · have := HW2.out
        rw [show [Value.int .i64 xr, .bool xo, .int .i64 xa] = encE (⟨xr, xo, xa⟩ : Ev) from rfl, show xs.flatMap encE ++ encE (⟨xr, xo, xa⟩ : Ev) = (xs ++ [(⟨xr, xo, xa⟩ : Ev)]).flatMap encE by simp] at this
        rw [show (xs ++ [(⟨xr, xo, xa⟩ : Ev)]).length = xs.length + 1 by simp]
        exact ownsRow_setCell_other (ownsRow_setCell_other this (by simpa [Value.ownBlock] using hgb) _) (by simpa [Value.ownBlock] using hgb) _
      · exact HK.out.push_on hc (by rw [hp0]; omega) _
      · have hk2 : Keeps F w w2 := ((((Keeps.refl _ _).alloc _).drewN _).alloc _).trans' (HK2.out) (fun _ _ h => h) (fun k _ hk => (HF.out k).2 (Or.inr hk))
        repeat' (first | with_reducible exact hk2 | with_reducible refine Keeps.setCell ?_ ?_ _ | exact Or.inr ((HF.out _).2 (Or.inl rfl)))
      · intro k hk
        rcases HB2.out k hk with h | h
        · exact Or.inl ((HF.out k).2 (Or.inr h))
        · right
          have h1 : w.heap.size + 1 ≤ k := by simpa using Nat.le_trans (by simp) h
          omega

end Go.Proofs.Ytoodlhagecannaa
