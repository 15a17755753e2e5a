/-
  The ring of ints: what each of its functions does to a ring that holds a list, said of the list.
-/
import Derived.Test.YtebodpphimfdoaaRows
import Derived.Test.YtebodpphimfdoaaRingPlain
import Derived.Deep.QuietTactic
import Derived.BigQuiet
import Derived.StillTailTactics
namespace Go.Proofs.Ytebodpphimfdoaa
open Go.RowKit

/-- An int's cell. -/
def encI (x : Int) : List Value := [.int .i64 x]
theorem encI_len (x : Int) : (encI x).length = 1 := rfl
theorem encI_map (xs : List Int) : xs.flatMap encI = xs.map (Value.int .i64) := by
  induction xs with
  | nil => rfl
  | cons x xs ih => simp [encI, ih]

/-- The ring at block b holds the list l and has so much room; F are the blocks that it stands in. -/
abbrev RingI := RingG (α := Int) 86 3 1 encI

theorem own_cellI {w : World} {g cap n : Nat} {xs : List Int} (ho : w.ownsRow 0 3 1 (.slice (some ⟨g, 0, none⟩) n cap) n (xs.flatMap encI)) (hn : n = xs.length) {p : Nat} (hp : p < xs.length) : w.cell? ⟨g, p, none⟩ = some (.int .i64 xs[p]) := by
  subst hn
  rw [ho.cellAt p (by omega), encI_map]; simp [hp]

set_option maxHeartbeats 400000 in
theorem ilen_any (b : Nat) (c : Int) (w : World) (hc : w.cell? ⟨b, 2, none⟩ = some (.int .i64 c)) :
    Calls Try.prog 24 #[.pointer (some ⟨b, 0, none⟩)] w fun e w' => e = .returned (.int .i64 c) ∧ w = w' := by
  go_enter Try.func24, Try.ntmps24
  go_wp2
  go_ret
  exact ⟨rfl, rfl⟩

set_option maxHeartbeats 400000 in
theorem ilen_nil (w : World) :
    Calls Try.prog 24 #[.pointer none] w fun e w' => e = .returned (.int .i64 0) ∧ w = w' := by
  go_enter Try.func24, Try.ntmps24
  go_wp2
  go_ret
  exact ⟨rfl, rfl⟩

set_option maxHeartbeats 400000 in
theorem icap_any (b : Nat) (c : Int) (w : World) (hc : w.cell? ⟨b, 0, none⟩ = some (.int .i64 c)) :
    Calls Try.prog 27 #[.pointer (some ⟨b, 0, none⟩)] w fun e w' => e = .returned (.int .i64 c) ∧ w = w' := by
  go_enter Try.func27, Try.ntmps27
  go_wp2
  go_ret
  exact ⟨rfl, rfl⟩

set_option maxHeartbeats 400000 in
theorem icap_nil (w : World) :
    Calls Try.prog 27 #[.pointer none] w fun e w' => e = .returned (.int .i64 0) ∧ w = w' := by
  go_enter Try.func27, Try.ntmps27
  go_wp2
  go_ret
  exact ⟨rfl, rfl⟩

set_option maxHeartbeats 400000 in
theorem iplace_any (b : Nat) (f i r : Int) (w : World) (hf : w.cell? ⟨b, 1, none⟩ = some (.int .i64 f)) (hr : w.cell? ⟨b, 0, none⟩ = some (.int .i64 r))
   (h0 : 0 ≤ f) (h1 : f ≤ 1024) (h2 : 0 ≤ i) (h3 : i ≤ 1024) (h4 : 1 ≤ r) (h5 : r ≤ 1024)  :
    Calls Try.prog 44 #[.pointer (some ⟨b, 0, none⟩), .int .i64 i] w fun e w' => e = .returned (.int .i64 ((f + i) % r)) ∧ ∃ n, w' = w.drewN n := by
  go_enter Try.func44, Try.ntmps44
  go_wp2
  go_quiet (fail)
  go_wp2
  go_ret
  exact ⟨rfl, _, rfl⟩

/-- The place, as a number of its own. -/
theorem iplace_nat (b f i r p : Nat) (w : World) (hf : w.cell? ⟨b, 1, none⟩ = some (.int .i64 f)) (hr : w.cell? ⟨b, 0, none⟩ = some (.int .i64 r)) (h1 : f ≤ 1024) (h3 : i ≤ 1024) (h4 : 1 ≤ r) (h5 : r ≤ 1024) (hp : Hid ((f + i) % r = p)) :
    Calls Try.prog 44 #[.pointer (some ⟨b, 0, none⟩), .int .i64 i] w fun e w' => e = .returned (.int .i64 p) ∧ ∃ n, w' = w.drewN n := by
  refine (iplace_any b f i r w hf hr (by omega) (by omega) (by omega) (by omega) (by omega) (by omega)).mono ?_
  rintro e w' ⟨rfl, h⟩
  have e := hp.out
  exact ⟨by rw [← e]; simp, h⟩

theorem info_int : (Try.prog.info? 3).map (fun i => (i.zero, i.size, i.bytes)) = some (some (.int .i64 0), 1, 8) := by kernel_rfl

set_option maxHeartbeats 400000 in
theorem ipush_full {w : World} {b room : Nat} {F : Nat → Prop} {l : List Int} (h : RingI w b F room l) (hc : l.length = room) (x : Int) :
    Calls Try.prog 18 #[.pointer (some ⟨b, 0, none⟩), .int .i64 x] w fun e w' => e = .returned (.bool false) ∧ w = w' := by
  obtain ⟨first, v, xs, hb, ho, hne, hF, hok⟩ := h
  subst hc
  have c0 := cell_at (i := 0) hb rfl
  have c2 := cell_at (i := 2) hb rfl
  clear ho hF hok
  go_enter Try.func18, Try.ntmps18
  go_wp2_with (first | (go_at_call 24; refine (ilen_any _ _ _ c2).mono ?_; rintro e w' ⟨rfl, rfl⟩) | (go_at_call 27; refine (icap_any _ _ _ c0).mono ?_; rintro e w' ⟨rfl, rfl⟩))
  go_ret
  exact ⟨rfl, rfl⟩

set_option maxHeartbeats 400000 in
theorem ipush_ok {w : World} {b room : Nat} {F : Nat → Prop} {l : List Int} (h : RingI w b F room l) (hc : l.length < room) (x : Int) :
    Calls Try.prog 18 #[.pointer (some ⟨b, 0, none⟩), .int .i64 x] w fun e w' => e = .returned (.bool true) ∧
      ∃ F', RingI w' b F' room (l ++ [x]) ∧ Upd F w w' F' := by
  obtain ⟨first, v, xs, hb, ho, hne, hF, hok⟩ := h
  have c0 := cell_at (i := 0) hb rfl
  have c1 := cell_at (i := 1) hb rfl
  have c2 := cell_at (i := 2) hb rfl
  have c3 := cell_at (i := 3) hb rfl
  have f2 := free_at (i := 2) hb
  have f3 := free_at (i := 3) hb
  have hrm := hok.rm
  have hfr := hok.fr
  have hxl := hok.len
  have hlt := lt_of_block hb
  obtain ⟨p, hp0⟩ : ∃ p, (first + l.length) % room = p := ⟨_, rfl⟩
  by_cases hp : p < xs.length
  · obtain ⟨g, cap, rfl⟩ : ∃ g cap, v = .slice (some ⟨g, 0, none⟩) xs.length cap := by
      rcases ho.2 with ⟨_, h0⟩ | ⟨g, cap, cur, rfl, _⟩
      · omega
      · exact ⟨g, cap, rfl⟩
    have hgb : ¬ g = b := by simpa [Value.ownBlock] using hne
    have hbg : ¬ b = g := fun e => hgb e.symm
    have hcell := own_cellI ho rfl hp
    have hfree := ho.frozenAt p
    have HP := hid hp0
    clear hp0
    have hnl : ¬ ((l.length : Int) = (room : Int)) := by omega
    have hn0 : ((l.length : Int) == (room : Int)) = false := by simpa using hnl
    have HO := hid ho
    have HK := hid hok
    have HF := hid hF
    have HN := hid hne
    clear ho hne hok hF
    go_enter Try.func18, Try.ntmps18
    go_wp2_with (first | (go_at_call 24; refine (ilen_any _ _ _ c2).mono ?_; rintro e w' ⟨rfl, rfl⟩) | (go_at_call 27; refine (icap_any _ _ _ c0).mono ?_; rintro e w' ⟨rfl, rfl⟩) | (go_at_call 44; refine (iplace_nat _ _ _ _ _ _ c1 c0 (by omega) (by omega) (by omega) (by omega) HP).mono ?_; rintro e w' ⟨rfl, n, rfl⟩))
    go_ret
    refine ⟨rfl, ?_⟩
    have hp0 := HP.out
    refine RingG.close (first := first) (v := .slice (some ⟨g, 0, none⟩) xs.length cap) (xs := xs.set p x) ?_ ?_ HN.out ?_ ?_ ((HF.out b).2 (Or.inl rfl)) (fun k hk => Or.inl ((HF.out k).2 (Or.inr hk)))
    · simp [World.setCell, Array.getElem?_modify, hgb, hb]
    · have := own_store encI_len (own_drewN HO.out n) hp x
      simp only [encI, World.setCells, Nat.mul_one, List.length_set] at this ⊢
      exact ownsRow_setCell_other this HN.out _
    · rw [← hp0]; exact HK.out.push_in hc (by omega) x
    · exact (((Keeps.refl _ _).drewN n).setCell (Or.inr ((HF.out g).2 (Or.inr rfl))) _).setCell (Or.inr ((HF.out b).2 (Or.inl rfl))) _
  · have hnl : ¬ ((l.length : Int) = (room : Int)) := by omega
    have hn0 : ((l.length : Int) == (room : Int)) = false := by simpa using hnl
    have hpx : p = xs.length := by rw [← hp0]; exact hok.place_new hc (by omega)
    subst hpx
    obtain ⟨ao, cap, rfl⟩ := own_any ho
    obtain ⟨i0, hi, hz0, hz1, hz2⟩ := info_parts info_int
    have HO := hid ho
    have HK := hid hok
    have HF := hid hF
    have HP := hid hp0
    have HN := hid hne
    clear ho hne hok hF hp0
    go_enter Try.func18, Try.ntmps18
    go_wp2_with (first | (go_at_call 24; refine (ilen_any _ _ _ c2).mono ?_; rintro e w' ⟨rfl, rfl⟩) | (go_at_call 27; refine (icap_any _ _ _ c0).mono ?_; rintro e w' ⟨rfl, rfl⟩) | (go_at_call 44; refine (iplace_nat _ _ _ _ _ _ c1 c0 (by omega) (by omega) (by omega) (by omega) HP).mono ?_; rintro e w' ⟨rfl, n, rfl⟩) | (at_builtin; refine wpl_append rfl _ _ 26 rfl 3 i0 (.int .i64 0) 1 8 Try.underlying26 hi hz0 hz1 hz2 rfl (by decide) _ _ _ _ _ _ rfl rfl ((own_drewN HO.out _).alloc _) (Sl.one _ _ _) ?c2 ?c3 ?c4 ?_))
    case c2 => intro u hu; simp at hu; subst hu; rfl
    case c3 => unfold maxLen; omega
    case c4 => omega
    intro v' w1 hown hgrow hbl
    obtain ⟨g', cap', rfl⟩ := own_some hown (by omega)
    have hb1 : w1.heap[b]? = _ := hgrow.heap (fun e => HN.out e) (heapA _ hb)
    have d2 := cell_at (i := 2) hb1 rfl
    have d3 := cell_at (i := 3) hb1 rfl
    have e2 := free_at (i := 2) hb1
    have e3 := free_at (i := 3) hb1
    have HW := hid hown
    have HG := hid hgrow
    have HB := hid hbl
    clear hown hgrow hbl
    go_wp2
    go_ret
    refine ⟨rfl, ?_⟩
    have hp0 := HP.out
    have hgb : ¬ g' = b := fun e => by
      rcases HB.out b (by simp [Value.ownBlock, e]) with h | h
      · exact HN.out h
      · omega
    refine RingG.close (first := first) (v := .slice (some ⟨g', 0, none⟩) (xs.length + 1) cap') (xs := xs ++ [x]) ?_ ?_ (by simpa [Value.ownBlock] using hgb) ?_ ?_ ((HF.out b).2 (Or.inl rfl)) ?_
    · simp [World.setCell, Array.getElem?_modify, hb1]
    · have := HW.out
      rw [show xs.flatMap encI ++ [Value.int .i64 x] = (xs ++ [x]).flatMap encI by simp [encI]] at this
      rw [show (xs ++ [x]).length = xs.length + 1 by simp]
      exact ownsRow_setCell_other (ownsRow_setCell_other this (by simpa [Value.ownBlock] using hgb) _) (by simpa [Value.ownBlock] using hgb) _
    · exact HK.out.push_on hc (by rw [hp0]; omega) x
    · exact (((((Keeps.refl _ _).drewN n).alloc _).trans (HG.out.mono (fun k _ hk => (HF.out k).2 (Or.inr hk)))).setCell (Or.inr ((HF.out b).2 (Or.inl rfl))) _).setCell (Or.inr ((HF.out b).2 (Or.inl rfl))) _
    · intro k hk
      rcases HB.out k hk with h | h
      · exact Or.inl ((HF.out k).2 (Or.inr h))
      · right; omega

set_option maxHeartbeats 400000 in
theorem ipop_none {w : World} {b room : Nat} {F : Nat → Prop} (h : RingI w b F room []) :
    Calls Try.prog 20 #[.pointer (some ⟨b, 0, none⟩)] w fun e w' => e = .returned (.tuple #[.int .i64 0, .bool false]) ∧ w = w' := by
  obtain ⟨first, v, xs, hb, ho, hne, hF, hok⟩ := h
  have c2 := cell_at (i := 2) hb rfl
  clear ho hne hF hok
  go_enter Try.func20, Try.ntmps20
  go_wp2_with (go_at_call 24; refine (ilen_any _ _ _ c2).mono ?_; rintro e w' ⟨rfl, rfl⟩)
  go_ret2
  exact ⟨rfl, rfl⟩

set_option maxHeartbeats 400000 in
theorem ipop_ok {w : World} {b room : Nat} {F : Nat → Prop} {y : Int} {l : List Int} (h : RingI w b F room (y :: l)) :
    Calls Try.prog 20 #[.pointer (some ⟨b, 0, none⟩)] w fun e w' => e = .returned (.tuple #[.int .i64 y, .bool true]) ∧
      ∃ F', RingI w' b F' room l ∧ Upd F w w' F' := by
  obtain ⟨first, v, xs, hb, ho, hne, hF, hok⟩ := h
  have c0 := cell_at (i := 0) hb rfl
  have c1 := cell_at (i := 1) hb rfl
  have c2 := cell_at (i := 2) hb rfl
  have c3 := cell_at (i := 3) hb rfl
  have f1 := free_at (i := 1) hb
  have f2 := free_at (i := 2) hb
  have hrm := hok.rm
  have hcn := hok.cnt
  have hfr := hok.fr
  simp only [List.length_cons] at hcn
  have hpx : first < xs.length ∧ xs[first]? = some y := by
    have h1 := hok.place_lt (i := 0) (by simp)
    have h2 := hok.ats 0 (by simp)
    have h3 := mod_room (a := first + 0) (room := room) (by omega)
    rw [h3, if_pos (by omega)] at h1 h2
    exact ⟨h1, by simpa using h2⟩
  obtain ⟨hp, hy⟩ := hpx
  obtain ⟨g, cap, rfl⟩ := own_some ho (by omega)
  have hgb : ¬ g = b := by simpa [Value.ownBlock] using hne
  have hbg : ¬ b = g := fun e => hgb e.symm
  have hcell : w.cell? ⟨g, first, none⟩ = some (.int .i64 y) := by rw [own_cellI ho rfl hp]; rw [List.getElem?_eq_getElem hp] at hy; simp at hy; rw [hy]
  have hfree := ho.frozenAt first
  obtain ⟨q, hq⟩ : ∃ q, (first + 1) % room = q := ⟨_, rfl⟩
  have HQ := hid hq
  have HO := hid ho
  have HK := hid hok
  have HF := hid hF
  have HN := hid hne
  have K1 : Hid (∀ m, ((w.drewN m).setCell ⟨g, first, none⟩ (.int .i64 0)).cell? ⟨b, 1, none⟩ = some (.int .i64 first)) := hid (fun m => by rw [World.cell?_setCell_other _ _ _ _ (by simp)]; exact c1)
  have K0 : Hid (∀ m, ((w.drewN m).setCell ⟨g, first, none⟩ (.int .i64 0)).cell? ⟨b, 0, none⟩ = some (.int .i64 room)) := hid (fun m => by rw [World.cell?_setCell_other _ _ _ _ (by simp)]; exact c0)
  have hl0 : ((l.length : Int) + 1 == 0) = false := by rw [beq_eq_false_iff_ne]; omega
  clear ho hne hok hF hq hy
  go_enter Try.func20, Try.ntmps20
  go_wp2_with (go_at_call 24; refine (ilen_any _ _ _ c2).mono ?_; rintro e w' ⟨rfl, rfl⟩)
  go_quiet (fail)
  go_wp2
  go_region
  go_wp2_with (go_at_call 44; refine (iplace_nat b first 1 room q _ (K1.out _) (K0.out _) (by omega) (by omega) (by omega) (by omega) HQ).mono ?_; rintro e w' ⟨rfl, n, rfl⟩)
  go_ret2
  refine ⟨rfl, ?_⟩
  have hq0 := HQ.out
  refine RingG.close (first := q) (v := .slice (some ⟨g, 0, none⟩) xs.length cap) (xs := xs.set first 0) ?_ ?_ HN.out (hq0 ▸ HK.out.pop 0) ?_ ((HF.out b).2 (Or.inl rfl)) (fun k hk => Or.inl ((HF.out k).2 (Or.inr hk)))
  · simp [World.setCell, Array.getElem?_modify, hgb, hb]
  · have := own_store encI_len (own_drewN HO.out 0) hp 0
    simp only [encI, World.setCells, Nat.mul_one, List.length_set] at this ⊢
    exact ownsRow_setCell_other (ownsRow_setCell_other this HN.out _) HN.out _
  · repeat' (first | with_reducible exact Keeps.refl _ _ | with_reducible refine Keeps.drewN ?_ _ | with_reducible refine Keeps.drew ?_ | with_reducible refine Keeps.alloc ?_ _ | with_reducible refine Keeps.setCell ?_ ?_ _ | exact Or.inr ((HF.out _).2 (Or.inl rfl)) | exact Or.inr ((HF.out _).2 (Or.inr rfl)))


end Go.Proofs.Ytebodpphimfdoaa
