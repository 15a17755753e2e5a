/-
  The ring of strings: New, Len, Cap, Push, All.
-/
import Derived.Test.YtebodpphimfdoaaRing8
namespace Go.Proofs.Ytebodpphimfdoaa
open Go.RowKit

/-- An int's cell. -/
def encS (x : ByteArray) : List Value := [.string x]
theorem encS_len (x : ByteArray) : (encS x).length = 1 := rfl
theorem encS_map (xs : List ByteArray) : xs.flatMap encS = xs.map Value.string := by
  induction xs with
  | nil => rfl
  | cons x xs ih => simp [encS, ih]

/-- The ring at block b holds the list l and has so much room; F are the blocks that it stands in. -/
abbrev RingS := RingG (α := ByteArray) 89 9 1 encS

theorem own_cellS {w : World} {g cap n : Nat} {xs : List ByteArray} (ho : w.ownsRow 0 9 1 (.slice (some ⟨g, 0, none⟩) n cap) n (xs.flatMap encS)) (hn : n = xs.length) {p : Nat} (hp : p < xs.length) : w.cell? ⟨g, p, none⟩ = some (.string xs[p]) := by
  subst hn
  rw [ho.cellAt p (by omega), encS_map]; simp [hp]

set_option maxHeartbeats 400000 in
set_option maxRecDepth 100000 in
theorem slen_any (b : Nat) (c : Int) (w : World) (hc : w.cell? ⟨b, 2, none⟩ = some (.int .i64 c)) :
    Calls Try.prog 30 #[.pointer (some ⟨b, 0, none⟩)] w fun e w' => e = .returned (.int .i64 c) ∧ w = w' := by
  go_enter Try.func30, Try.ntmps30
  go_wp2
  go_ret
  exact ⟨rfl, rfl⟩

set_option maxHeartbeats 400000 in
set_option maxRecDepth 100000 in
theorem scap_any (b : Nat) (c : Int) (w : World) (hc : w.cell? ⟨b, 0, none⟩ = some (.int .i64 c)) :
    Calls Try.prog 31 #[.pointer (some ⟨b, 0, none⟩)] w fun e w' => e = .returned (.int .i64 c) ∧ w = w' := by
  go_enter Try.func31, Try.ntmps31
  go_wp2
  go_ret
  exact ⟨rfl, rfl⟩

set_option maxHeartbeats 400000 in
set_option maxRecDepth 100000 in
theorem splace_any (b : Nat) (f i r : Int) (w : World) (hf : w.cell? ⟨b, 1, none⟩ = some (.int .i64 f)) (hr : w.cell? ⟨b, 0, none⟩ = some (.int .i64 r))
   (h0 : 0 ≤ f) (h1 : f ≤ 1024) (h2 : 0 ≤ i) (h3 : i ≤ 1024) (h4 : 1 ≤ r) (h5 : r ≤ 1024)  :
    Calls Try.prog 46 #[.pointer (some ⟨b, 0, none⟩), .int .i64 i] w fun e w' => e = .returned (.int .i64 ((f + i) % r)) ∧ ∃ n, w' = w.drewN n := by
  go_enter Try.func46, Try.ntmps46
  go_wp2
  go_quiet (fail)
  go_wp2
  go_ret
  exact ⟨rfl, _, rfl⟩

/-- The place, as a number of its own. -/
theorem splace_nat (b f i r p : Nat) (w : World) (hf : w.cell? ⟨b, 1, none⟩ = some (.int .i64 f)) (hr : w.cell? ⟨b, 0, none⟩ = some (.int .i64 r)) (h1 : f ≤ 1024) (h3 : i ≤ 1024) (h4 : 1 ≤ r) (h5 : r ≤ 1024) (hp : Hid ((f + i) % r = p)) :
    Calls Try.prog 46 #[.pointer (some ⟨b, 0, none⟩), .int .i64 i] w fun e w' => e = .returned (.int .i64 p) ∧ ∃ n, w' = w.drewN n := by
  refine (splace_any b f i r w hf hr (by omega) (by omega) (by omega) (by omega) (by omega) (by omega)).mono ?_
  rintro e w' ⟨rfl, h⟩
  have e := hp.out
  exact ⟨by rw [← e]; simp, h⟩

theorem info_str : (Try.prog.info? 9).map (fun i => (i.zero, i.size, i.bytes)) = some (some (.string ByteArray.empty), 1, 16) := by kernel_rfl

set_option maxHeartbeats 400000 in
set_option maxRecDepth 100000 in
theorem spush_full {w : World} {b room : Nat} {F : Nat → Prop} {l : List ByteArray} (h : RingS w b F room l) (hc : l.length = room) (x : ByteArray) :
    Calls Try.prog 32 #[.pointer (some ⟨b, 0, none⟩), .string x] w fun e w' => e = .returned (.bool false) ∧ w = w' := by
  obtain ⟨first, v, xs, hb, ho, hne, hF, hok⟩ := h
  subst hc
  have c0 := cell_at (i := 0) hb rfl
  have c2 := cell_at (i := 2) hb rfl
  clear ho hF hok
  go_enter Try.func32, Try.ntmps32
  go_wp2_with (first | (go_at_call 30; refine (slen_any _ _ _ c2).mono ?_; rintro e w' ⟨rfl, rfl⟩) | (go_at_call 31; refine (scap_any _ _ _ c0).mono ?_; rintro e w' ⟨rfl, rfl⟩))
  go_ret
  exact ⟨rfl, rfl⟩

set_option maxHeartbeats 400000 in
set_option maxRecDepth 100000 in
theorem spush_ok {w : World} {b room : Nat} {F : Nat → Prop} {l : List ByteArray} (h : RingS w b F room l) (hc : l.length < room) (x : ByteArray) :
    Calls Try.prog 32 #[.pointer (some ⟨b, 0, none⟩), .string x] w fun e w' => e = .returned (.bool true) ∧
      ∃ F', RingS w' b F' room (l ++ [x]) ∧ Upd F w w' F' := by
  obtain ⟨first, v, xs, hb, ho, hne, hF, hok⟩ := h
  have c0 := cell_at (i := 0) hb rfl
  have c1 := cell_at (i := 1) hb rfl
  have c2 := cell_at (i := 2) hb rfl
  have c3 := cell_at (i := 3) hb rfl
  have f2 := free_at (i := 2) hb
  have f3 := free_at (i := 3) hb
  have hrm := hok.rm
  have hfr := hok.fr
  have hxl := hok.len
  have hlt := lt_of_block hb
  obtain ⟨p, hp0⟩ : ∃ p, (first + l.length) % room = p := ⟨_, rfl⟩
  by_cases hp : p < xs.length
  · obtain ⟨g, cap, rfl⟩ : ∃ g cap, v = .slice (some ⟨g, 0, none⟩) xs.length cap := by
      rcases ho.2 with ⟨_, h0⟩ | ⟨g, cap, cur, rfl, _⟩
      · omega
      · exact ⟨g, cap, rfl⟩
    have hgb : ¬ g = b := by simpa [Value.ownBlock] using hne
    have hbg : ¬ b = g := fun e => hgb e.symm
    have hcell := own_cellS ho rfl hp
    have hfree := ho.frozenAt p
    have HP := hid hp0
    clear hp0
    have hnl : ¬ ((l.length : Int) = (room : Int)) := by omega
    have hn0 : ((l.length : Int) == (room : Int)) = false := by simpa using hnl
    have HO := hid ho
    have HK := hid hok
    have HF := hid hF
    have HN := hid hne
    clear ho hne hok hF
    go_enter Try.func32, Try.ntmps32
    go_wp2_with (first | (go_at_call 30; refine (slen_any _ _ _ c2).mono ?_; rintro e w' ⟨rfl, rfl⟩) | (go_at_call 31; refine (scap_any _ _ _ c0).mono ?_; rintro e w' ⟨rfl, rfl⟩) | (go_at_call 46; refine (splace_nat _ _ _ _ _ _ c1 c0 (by omega) (by omega) (by omega) (by omega) HP).mono ?_; rintro e w' ⟨rfl, n, rfl⟩))
    go_ret
    refine ⟨rfl, ?_⟩
    have hp0 := HP.out
    refine RingG.close (first := first) (v := .slice (some ⟨g, 0, none⟩) xs.length cap) (xs := xs.set p x) ?_ ?_ HN.out ?_ ?_ ((HF.out b).2 (Or.inl rfl)) (fun k hk => Or.inl ((HF.out k).2 (Or.inr hk)))
    · simp [World.setCell, Array.getElem?_modify, hgb, hb]
    · have := own_store encS_len (own_drewN HO.out n) hp x
      simp only [encS, World.setCells, Nat.mul_one, List.length_set] at this ⊢
      exact ownsRow_setCell_other this HN.out _
    · rw [← hp0]; exact HK.out.push_in hc (by omega) x
    · exact (((Keeps.refl _ _).drewN n).setCell (Or.inr ((HF.out g).2 (Or.inr rfl))) _).setCell (Or.inr ((HF.out b).2 (Or.inl rfl))) _
  · have hnl : ¬ ((l.length : Int) = (room : Int)) := by omega
    have hn0 : ((l.length : Int) == (room : Int)) = false := by simpa using hnl
    have hpx : p = xs.length := by rw [← hp0]; exact hok.place_new hc (by omega)
    subst hpx
    obtain ⟨ao, cap, rfl⟩ := own_any ho
    obtain ⟨i0, hi, hz0, hz1, hz2⟩ := info_parts info_str
    have HO := hid ho
    have HK := hid hok
    have HF := hid hF
    have HP := hid hp0
    have HN := hid hne
    clear ho hne hok hF hp0
    go_enter Try.func32, Try.ntmps32
    go_wp2_with (first | (go_at_call 30; refine (slen_any _ _ _ c2).mono ?_; rintro e w' ⟨rfl, rfl⟩) | (go_at_call 31; refine (scap_any _ _ _ c0).mono ?_; rintro e w' ⟨rfl, rfl⟩) | (go_at_call 46; refine (splace_nat _ _ _ _ _ _ c1 c0 (by omega) (by omega) (by omega) (by omega) HP).mono ?_; rintro e w' ⟨rfl, n, rfl⟩) | (at_builtin; refine wpl_append rfl _ _ 49 rfl 9 i0 (.string ByteArray.empty) 1 16 Try.underlying49 hi hz0 hz1 hz2 rfl (by decide) _ _ _ _ _ _ rfl rfl ((own_drewN HO.out _).alloc _) (Sl.one _ _ _) ?c2 ?c3 ?c4 ?_))
    case c2 => intro u hu; simp at hu; subst hu; rfl
    case c3 => unfold maxLen; omega
    case c4 => omega
    intro v' w1 hown hgrow hbl
    obtain ⟨g', cap', rfl⟩ := own_some hown (by omega)
    have hb1 : w1.heap[b]? = _ := hgrow.heap (fun e => HN.out e) (heapA _ hb)
    have d2 := cell_at (i := 2) hb1 rfl
    have d3 := cell_at (i := 3) hb1 rfl
    have e2 := free_at (i := 2) hb1
    have e3 := free_at (i := 3) hb1
    have HW := hid hown
    have HG := hid hgrow
    have HB := hid hbl
    clear hown hgrow hbl
    go_wp2
    go_ret
    refine ⟨rfl, ?_⟩
    have hp0 := HP.out
    have hgb : ¬ g' = b := fun e => by
      rcases HB.out b (by simp [Value.ownBlock, e]) with h | h
      · exact HN.out h
      · omega
    refine RingG.close (first := first) (v := .slice (some ⟨g', 0, none⟩) (xs.length + 1) cap') (xs := xs ++ [x]) ?_ ?_ (by simpa [Value.ownBlock] using hgb) ?_ ?_ ((HF.out b).2 (Or.inl rfl)) ?_
    · simp [World.setCell, Array.getElem?_modify, hb1]
    · have := HW.out
      rw [show xs.flatMap encS ++ [Value.string x] = (xs ++ [x]).flatMap encS by simp [encS]] at this
      rw [show (xs ++ [x]).length = xs.length + 1 by simp]
      exact ownsRow_setCell_other (ownsRow_setCell_other this (by simpa [Value.ownBlock] using hgb) _) (by simpa [Value.ownBlock] using hgb) _
    · exact HK.out.push_on hc (by rw [hp0]; omega) x
    · exact (((((Keeps.refl _ _).drewN n).alloc _).trans (HG.out.mono (fun k _ hk => (HF.out k).2 (Or.inr hk)))).setCell (Or.inr ((HF.out b).2 (Or.inl rfl))) _).setCell (Or.inr ((HF.out b).2 (Or.inl rfl))) _
    · intro k hk
      rcases HB.out k hk with h | h
      · exact Or.inl ((HF.out k).2 (Or.inr h))
      · right; omega

set_option maxHeartbeats 400000 in
set_option maxRecDepth 100000 in
theorem snew_any (n : Int) (w : World) :
    Calls Try.prog 29 #[.int .i64 n] w fun e w' => e = .returned (.pointer (some ⟨w.heap.size, 0, none⟩)) ∧ RingS w' w.heap.size (fun k => k = w.heap.size) (roomOf n) [] ∧ Keeps No w w' := by
  have key : ∀ r : Nat, r = roomOf n → RingS (w.alloc (.cells #[.int .i64 r, .int .i64 0, .int .i64 0, .slice none 0 0] 89)) w.heap.size (fun k => k = w.heap.size) (roomOf n) [] := by
    rintro r rfl; exact RingG.new w (roomOf_le n)
  have K := hid key
  have hk : Keeps No w (w.alloc (.cells #[.int .i64 (roomOf n), .int .i64 0, .int .i64 0, .slice none 0 0] 89)) := (Keeps.refl _ _).alloc _
  have HK := hid hk
  clear key hk
  rcases (show n < 0 ∨ (0 ≤ n ∧ n ≤ 1024) ∨ 1024 < n by omega) with h | ⟨h, h'⟩ | h
  · have er : roomOf n = 0 := by simp [roomOf, h]
    rw [er] at HK
    have ER := hid er
    clear er
    go_enter Try.func29, Try.ntmps29
    go_wp2
    go_ret
    exact ⟨rfl, K.out 0 ER.out.symm, HK.out⟩
  · have er : (roomOf n : Int) = n := by unfold roomOf; rw [if_neg (by omega), if_neg (by omega)]; omega
    obtain ⟨m, rfl⟩ := Int.eq_ofNat_of_zero_le h
    have er' : roomOf (m : Int) = m := by omega
    rw [er'] at HK
    have ER := hid er'
    clear er er'
    go_enter Try.func29, Try.ntmps29
    go_wp2
    go_ret
    exact ⟨rfl, K.out m ER.out.symm, HK.out⟩
  · have er : roomOf n = 1024 := by unfold roomOf; rw [if_neg (by omega), if_pos h]
    rw [er] at HK
    have ER := hid er
    clear er
    go_enter Try.func29, Try.ntmps29
    go_wp2
    go_ret
    exact ⟨rfl, K.out 1024 ER.out.symm, HK.out⟩

theorem RingS.room_cell {w : World} {b room : Nat} {F : Nat → Prop} {l : List ByteArray} (h : RingS w b F room l) : w.cell? ⟨b, 0, none⟩ = some (.int .i64 room) := by
  obtain ⟨first, v, xs, hb, ho, hne, hF, hok⟩ := h
  exact cell_at (i := 0) hb rfl

theorem RingS.len_cell {w : World} {b room : Nat} {F : Nat → Prop} {l : List ByteArray} (h : RingS w b F room l) : w.cell? ⟨b, 2, none⟩ = some (.int .i64 l.length) := by
  obtain ⟨first, v, xs, hb, ho, hne, hF, hok⟩ := h
  exact cell_at (i := 2) hb rfl

theorem RingS.item {w : World} {b room : Nat} {F : Nat → Prop} {l : List ByteArray} (h : RingS w b F room l) {i : Nat} (hi : i < l.length) : ∃ first p g n cap : Nat,
    w.cell? ⟨b, 1, none⟩ = some (.int .i64 first) ∧ w.cell? ⟨b, 3, none⟩ = some (.slice (some ⟨g, 0, none⟩) n cap) ∧ Hid ((first + i) % room = p) ∧ p < n ∧ first ≤ 1024 ∧ w.cell? ⟨g, p, none⟩ = some (.string l[i]) ∧ F g := by
  obtain ⟨first, v, xs, hb, ho, hne, hF, hok⟩ := h
  have hp := hok.place_lt hi
  have hat := hok.ats i hi
  have hfr := hok.fr
  have hrm := hok.rm
  rw [List.getElem?_eq_getElem hp, List.getElem?_eq_getElem hi] at hat
  obtain ⟨g, cap, rfl⟩ := own_some ho (by omega)
  refine ⟨first, _, g, xs.length, cap, cell_at (i := 1) hb rfl, cell_at (i := 3) hb rfl, hid rfl, hp, by omega, ?_, (hF g).2 (Or.inr rfl)⟩
  rw [own_cellS ho rfl hp]; simp at hat; rw [hat]

set_option maxHeartbeats 400000 in
set_option maxRecDepth 100000 in
theorem sall_any {w : World} {b room : Nat} {F : Nat → Prop} {l : List ByteArray} (h : RingS w b F room l) :
    Calls Try.prog 33 #[.pointer (some ⟨b, 0, none⟩)] w fun e w' => ∃ v', e = .returned v' ∧ w'.ownsRow 0 9 1 v' l.length (l.map Value.string) ∧ Keeps No w w' ∧ ∀ k, v'.ownBlock = some k → w.heap.size ≤ k := by
  have c2 := h.len_cell
  have hcn := h.cnt
  obtain ⟨i0, hi, hz0, hz1, hz2⟩ := info_parts info_str
  have H := hid h
  clear h
  go_enter Try.func33, Try.ntmps33
  go_wp2_with (first | (go_at_call 30; refine (slen_any _ _ _ c2).mono ?_; rintro e w' ⟨rfl, rfl⟩) | (at_make; refine wpList_make_full _ rfl _ _ 49 rfl 0 9 i0 (.string ByteArray.empty) 1 Try.underlying49 hi hz0 hz1 _ _ _ _ l.length rfl rfl rfl rfl ?c1 ?c2 ?c3 ?_))
  case c1 => rw [hz2]; omega
  case c2 => unfold maxLen; omega
  case c3 => omega
  intro w1 hown hgrow
  have hk1 : Keeps No w w1 := (Keeps.refl _ _).grown hgrow (fun k h => by cases h)
  have H1 := hid (RingG.keep H.out hk1 (fun _ _ h => h))
  have d2 := RingS.len_cell H1.out
  have HW := hid hown
  have HK1 := hid hk1
  clear hown hgrow hk1
  go_wp2_with (go_at_call 30; refine (slen_any _ _ _ d2).mono ?_; rintro e w' ⟨rfl, rfl⟩)
  have HW2 := HW.out
  rw [toList_madeCells_one] at HW2
  have HW3 := hid HW2
  clear HW HW2 c2 d2
  have hfin : ∀ (e : Ending) (w' : World) (g : Nat), e = .returned (.slice (some ⟨w.heap.size, 0, none⟩) l.length l.length) → w'.ownsRow 0 9 1 (.slice (some ⟨w.heap.size, 0, none⟩) l.length l.length) l.length (l.map Value.string) → Keeps (fun i => i = w.heap.size) w1 w' →
      ∃ v', e = .returned v' ∧ w'.ownsRow 0 9 1 v' l.length (l.map Value.string) ∧ Keeps No w w' ∧ ∀ k, v'.ownBlock = some k → w.heap.size ≤ k := by
    intro e w' _ he ho hk
    exact ⟨_, he, ho, HK1.out.trans' hk (fun _ _ h => h) (fun i hi h => by omega), fun k hk => by simp [Value.ownBlock] at hk; omega⟩
  have HFIN := hid hfin
  clear hfin
  go_loopw [10] (fun v10 wr => ∃ k : Nat, k ≤ l.length ∧ v10 = .int .i64 k ∧ Hid (wr.ownsRow 0 9 1 (.slice (some ⟨w.heap.size, 0, none⟩) l.length l.length) l.length (filled Value.string (.string ByteArray.empty) l k)) ∧ Hid (Keeps (fun i => i = w.heap.size) w1 wr)) (fun v10 _ => l.length - (intOf v10).toNat)
  case atStart => exact ⟨0, Nat.zero_le _, rfl, hid (by rw [filled_zero]; exact HW3.out), hid (Keeps.refl _ _)⟩
  case round =>
    obtain ⟨k, hk, rfl, HO, HK⟩ := hrel
    by_cases hlt : k < l.length
    · have H2 : Hid (RingS wr b F room l) := hid (RingG.keep H1.out HK.out (fun i hi e => by have := RingG.lt H.out i hi; omega))
      obtain ⟨first, p, g, n, cap, c1, c3, HP, hp, hf, hcell, hFg⟩ := RingS.item H2.out hlt
      obtain ⟨y, hy⟩ : ∃ y, l[k] = y := ⟨_, rfl⟩
      rw [hy] at hcell
      have HY := hid hy
      clear hy
      have c0 := RingS.room_cell H2.out
      have hgs : ¬ g = w.heap.size := fun e => by have := RingG.lt H.out g hFg; omega
      have hbs : ¬ b = w.heap.size := fun e => by
        obtain ⟨first, v, xs, hb, _⟩ := H.out
        have := lt_of_block hb; omega
      have hfree := HO.out.frozenAt k
      have htgt : wr.cell? ⟨w.heap.size, k, none⟩ = some (.string ByteArray.empty) := by
        rw [HO.out.cellAt k (by omega), filled_get _ _ _ hlt]
      clear hFg
      go_wp2
      go_region_with (go_at_call 46; refine (splace_nat b first k room p _ (by exact c1) (by exact c0) (by omega) (by omega) (by omega) (by omega) HP).mono ?_; rintro e w' ⟨rfl, n, rfl⟩)
      all_goals
        go_wp2
        go_roundw
        case rel =>
          refine ⟨k + 1, by omega, by go_num, hid ?_, hid ?_⟩
          · rw [← filled_set _ _ _ hlt, HY.out]
            exact ((own_drewN HO.out 0).stored k _).1
          · have hk := HK.out
            repeat' (first | with_reducible exact hk | with_reducible refine Keeps.drewN ?_ _ | with_reducible refine Keeps.drew ?_ | with_reducible refine Keeps.alloc ?_ _ | with_reducible refine Keeps.setCell ?_ ?_ _ | exact Or.inr rfl)
        case measure => simp [intOf]; omega
    · have hkl : k = l.length := by omega
      subst hkl
      have hfo := HO.out
      rw [filled_all] at hfo
      have HFO := hid hfo
      clear hfo
      go_wp2
      go_ret
      exact HFIN.out _ _ 0 rfl HFO.out HK.out

end Go.Proofs.Ytebodpphimfdoaa
