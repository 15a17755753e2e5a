/-
  The ring of ints, more: At, Set, All.
-/
import Derived.Test.YtebodpphimfdoaaRing2
import Derived.Deep.RegionWith
namespace Go.Proofs.Ytebodpphimfdoaa
open Go.RowKit

set_option maxHeartbeats 400000 in
theorem ihas_any (b : Nat) (c i : Int) (w : World) (hc : w.cell? ⟨b, 2, none⟩ = some (.int .i64 c)) (t : Bool) (ht : Hid (t = decide (0 ≤ i ∧ i < c))) :
    Calls Try.prog 45 #[.pointer (some ⟨b, 0, none⟩), .int .i64 i] w fun e w' => e = .returned (.bool t) ∧ w = w' := by
  by_cases h0 : 0 ≤ i
  · by_cases h1 : i < c
    · have hd : t = true := by rw [ht.out]; simp [h0, h1]
      subst hd
      clear ht
      go_enter Try.func45, Try.ntmps45
      go_wp2_with (go_at_call 24; refine (ilen_any _ _ _ hc).mono ?_; rintro e w' ⟨rfl, rfl⟩)
      go_ret
      exact ⟨rfl, rfl⟩
    · have hd : t = false := by rw [ht.out]; simp [h1]
      have hd1 : decide (i < c) = false := by simpa using h1
      subst hd
      clear ht
      go_enter Try.func45, Try.ntmps45
      go_wp2_with (go_at_call 24; refine (ilen_any _ _ _ hc).mono ?_; rintro e w' ⟨rfl, rfl⟩)
      go_ret
      exact ⟨rfl, rfl⟩
  · have hd : t = false := by rw [ht.out]; simp [h0]
    subst hd
    clear ht
    go_enter Try.func45, Try.ntmps45
    go_wp2
    go_ret
    exact ⟨rfl, rfl⟩

set_option maxHeartbeats 400000 in
theorem iat_ok {w : World} {b room : Nat} {F : Nat → Prop} {l : List Int} (h : RingI w b F room l) {i : Nat} (hi : i < l.length) :
    Calls Try.prog 28 #[.pointer (some ⟨b, 0, none⟩), .int .i64 i] w fun e w' => e = .returned (.tuple #[.int .i64 l[i], .bool true]) ∧ ∃ n, w' = w.drewN n := by
  obtain ⟨first, v, xs, hb, ho, hne, hF, hok⟩ := h
  have c0 := cell_at (i := 0) hb rfl
  have c1 := cell_at (i := 1) hb rfl
  have c2 := cell_at (i := 2) hb rfl
  have c3 := cell_at (i := 3) hb rfl
  have hrm := hok.rm
  have hcn := hok.cnt
  have hfr := hok.fr
  obtain ⟨p, hp0⟩ : ∃ p, (first + i) % room = p := ⟨_, rfl⟩
  have hp := hok.place_lt hi
  have hat := hok.ats i hi
  rw [hp0] at hp hat
  rw [List.getElem?_eq_getElem hp, List.getElem?_eq_getElem hi] at hat
  obtain ⟨g, cap, rfl⟩ := own_some ho (by omega)
  obtain ⟨y, hy⟩ : ∃ y, l[i] = y := ⟨_, rfl⟩
  have hcell : w.cell? ⟨g, p, none⟩ = some (.int .i64 y) := by rw [own_cellI ho rfl hp]; simp at hat; rw [hat, hy]
  rw [hy]
  have HP := hid hp0
  have hh := ihas_any b l.length i w c2 true (hid (by simp [hi]))
  clear ho hne hF hok hat hp0 hy
  go_enter Try.func28, Try.ntmps28
  go_wp2_with (go_at_call 45; refine hh.mono ?_; rintro e w' ⟨rfl, rfl⟩)
  go_quiet ((go_at_call 44; exact Calls.quiet_of (iplace_nat b first i room p _ c1 c0 (by omega) (by omega) (by omega) (by omega) HP)))
  go_wp2
  go_ret2
  exact ⟨rfl, _, rfl⟩

set_option maxHeartbeats 400000 in
theorem iat_none {w : World} {b room : Nat} {F : Nat → Prop} {l : List Int} (h : RingI w b F room l) {i : Int} (hi : i < 0 ∨ (l.length : Int) ≤ i) :
    Calls Try.prog 28 #[.pointer (some ⟨b, 0, none⟩), .int .i64 i] w fun e w' => e = .returned (.tuple #[.int .i64 0, .bool false]) ∧ w = w' := by
  have c2 := h.len_cell
  have hh := ihas_any b l.length i w c2 false (hid (by simp; omega))
  clear h hi
  go_enter Try.func28, Try.ntmps28
  go_wp2_with (go_at_call 45; refine hh.mono ?_; rintro e w' ⟨rfl, rfl⟩)
  go_ret2
  exact ⟨rfl, rfl⟩

set_option maxHeartbeats 400000 in
theorem iset_none {w : World} {b room : Nat} {F : Nat → Prop} {l : List Int} (h : RingI w b F room l) {i : Int} (hi : i < 0 ∨ (l.length : Int) ≤ i) (x : Int) :
    Calls Try.prog 23 #[.pointer (some ⟨b, 0, none⟩), .int .i64 i, .int .i64 x] w fun e w' => e = .returned (.bool false) ∧ w = w' := by
  have c2 := h.len_cell
  have hh := ihas_any b l.length i w c2 false (hid (by simp; omega))
  clear h hi
  go_enter Try.func23, Try.ntmps23
  go_wp2_with (go_at_call 45; refine hh.mono ?_; rintro e w' ⟨rfl, rfl⟩)
  go_ret
  exact ⟨rfl, rfl⟩

set_option maxHeartbeats 400000 in
theorem iset_ok {w : World} {b room : Nat} {F : Nat → Prop} {l : List Int} (h : RingI w b F room l) {i : Nat} (hi : i < l.length) (x : Int) :
    Calls Try.prog 23 #[.pointer (some ⟨b, 0, none⟩), .int .i64 i, .int .i64 x] w fun e w' => e = .returned (.bool true) ∧ ∃ F', RingI w' b F' room (l.set i x) ∧ Upd F w w' F' := by
  obtain ⟨first, v, xs, hb, ho, hne, hF, hok⟩ := h
  have c0 := cell_at (i := 0) hb rfl
  have c1 := cell_at (i := 1) hb rfl
  have c2 := cell_at (i := 2) hb rfl
  have c3 := cell_at (i := 3) hb rfl
  have hrm := hok.rm
  have hcn := hok.cnt
  have hfr := hok.fr
  obtain ⟨p, hp0⟩ : ∃ p, (first + i) % room = p := ⟨_, rfl⟩
  have hp := hok.place_lt hi
  rw [hp0] at hp
  obtain ⟨g, cap, rfl⟩ := own_some ho (by omega)
  have hgb : ¬ g = b := by simpa [Value.ownBlock] using hne
  have hcell := own_cellI ho rfl hp
  have hfree := ho.frozenAt p
  have HP := hid hp0
  have hh := ihas_any b l.length i w c2 true (hid (by simp [hi]))
  have HO := hid ho
  have HK := hid hok
  have HF := hid hF
  have HN := hid hne
  clear ho hne hF hok hp0
  go_enter Try.func23, Try.ntmps23
  go_wp2_with (go_at_call 45; refine hh.mono ?_; rintro e w' ⟨rfl, rfl⟩)
  go_region_with ((go_at_call 44; refine (iplace_nat b first i room p _ (by exact c1) (by exact c0) (by omega) (by omega) (by omega) (by omega) HP).mono ?_; rintro e w' ⟨rfl, n, rfl⟩))
  all_goals
    go_wp2
    go_ret
    refine ⟨rfl, ?_⟩
    have hp0 := HP.out
    refine RingG.close (first := first) (v := .slice (some ⟨g, 0, none⟩) xs.length cap) (xs := xs.set p x) ?_ ?_ HN.out (hp0 ▸ HK.out.set hi x) ?_ ((HF.out b).2 (Or.inl rfl)) (fun k hk => Or.inl ((HF.out k).2 (Or.inr hk)))
    · simp [World.setCell, Array.getElem?_modify, hgb, hb]
    · have := own_store encI_len (own_drewN HO.out 0) hp x
      simp only [encI, World.setCells, Nat.mul_one, List.length_set] at this ⊢
      exact this
    · repeat' (first | with_reducible exact Keeps.refl _ _ | with_reducible refine Keeps.drewN ?_ _ | with_reducible refine Keeps.drew ?_ | with_reducible refine Keeps.alloc ?_ _ | with_reducible refine Keeps.setCell ?_ ?_ _ | exact Or.inr ((HF.out _).2 (Or.inl rfl)) | exact Or.inr ((HF.out _).2 (Or.inr rfl)))

theorem RingI.item {w : World} {b room : Nat} {F : Nat → Prop} {l : List Int} (h : RingI w b F room l) {i : Nat} (hi : i < l.length) : ∃ first p g n cap : Nat,
    w.cell? ⟨b, 1, none⟩ = some (.int .i64 first) ∧ w.cell? ⟨b, 3, none⟩ = some (.slice (some ⟨g, 0, none⟩) n cap) ∧ Hid ((first + i) % room = p) ∧ p < n ∧ first ≤ 1024 ∧ w.cell? ⟨g, p, none⟩ = some (.int .i64 l[i]) ∧ F g := by
  obtain ⟨first, v, xs, hb, ho, hne, hF, hok⟩ := h
  have hp := hok.place_lt hi
  have hat := hok.ats i hi
  have hfr := hok.fr
  have hrm := hok.rm
  rw [List.getElem?_eq_getElem hp, List.getElem?_eq_getElem hi] at hat
  obtain ⟨g, cap, rfl⟩ := own_some ho (by omega)
  refine ⟨first, _, g, xs.length, cap, cell_at (i := 1) hb rfl, cell_at (i := 3) hb rfl, hid rfl, hp, by omega, ?_, (hF g).2 (Or.inr rfl)⟩
  rw [own_cellI ho rfl hp]; simp at hat; rw [hat]

set_option maxHeartbeats 400000 in
theorem iall_any {w : World} {b room : Nat} {F : Nat → Prop} {l : List Int} (h : RingI w b F room l) :
    Calls Try.prog 26 #[.pointer (some ⟨b, 0, none⟩)] w fun e w' => ∃ v', e = .returned v' ∧ w'.ownsRow 0 3 1 v' l.length (l.map (Value.int .i64)) ∧ Keeps No w w' ∧ ∀ k, v'.ownBlock = some k → w.heap.size ≤ k := by
  have c2 := h.len_cell
  have hcn := h.cnt
  obtain ⟨i0, hi, hz0, hz1, hz2⟩ := info_parts info_int
  have H := hid h
  clear h
  go_enter Try.func26, Try.ntmps26
  go_wp2_with (first | (go_at_call 24; refine (ilen_any _ _ _ c2).mono ?_; rintro e w' ⟨rfl, rfl⟩) | (at_make; refine wpList_make_full _ rfl _ _ 26 rfl 0 3 i0 (.int .i64 0) 1 Try.underlying26 hi hz0 hz1 _ _ _ _ l.length rfl rfl rfl rfl ?c1 ?c2 ?c3 ?_))
  case c1 => rw [hz2]; omega
  case c2 => unfold maxLen; omega
  case c3 => omega
  intro w1 hown hgrow
  have hk1 : Keeps No w w1 := (Keeps.refl _ _).grown hgrow (fun k h => by cases h)
  have H1 := hid (RingG.keep H.out hk1 (fun _ _ h => h))
  have d2 := RingI.len_cell H1.out
  have HW := hid hown
  have HK1 := hid hk1
  clear hown hgrow hk1
  go_wp2_with (go_at_call 24; refine (ilen_any _ _ _ d2).mono ?_; rintro e w' ⟨rfl, rfl⟩)
  have HW2 := HW.out
  rw [toList_madeCells_one] at HW2
  have HW3 := hid HW2
  clear HW HW2 c2 d2
  have hfin : ∀ (e : Ending) (w' : World) (g : Nat), e = .returned (.slice (some ⟨w.heap.size, 0, none⟩) l.length l.length) → w'.ownsRow 0 3 1 (.slice (some ⟨w.heap.size, 0, none⟩) l.length l.length) l.length (l.map (Value.int .i64)) → Keeps (fun i => i = w.heap.size) w1 w' →
      ∃ v', e = .returned v' ∧ w'.ownsRow 0 3 1 v' l.length (l.map (Value.int .i64)) ∧ Keeps No w w' ∧ ∀ k, v'.ownBlock = some k → w.heap.size ≤ k := by
    intro e w' _ he ho hk
    exact ⟨_, he, ho, HK1.out.trans' hk (fun _ _ h => h) (fun i hi h => by omega), fun k hk => by simp [Value.ownBlock] at hk; omega⟩
  have HFIN := hid hfin
  clear hfin
  go_loopw [10] (fun v10 wr => ∃ k : Nat, k ≤ l.length ∧ v10 = .int .i64 k ∧ Hid (wr.ownsRow 0 3 1 (.slice (some ⟨w.heap.size, 0, none⟩) l.length l.length) l.length (filled (Value.int .i64) (.int .i64 0) l k)) ∧ Hid (Keeps (fun i => i = w.heap.size) w1 wr)) (fun v10 _ => l.length - (intOf v10).toNat)
  case atStart => exact ⟨0, Nat.zero_le _, rfl, hid (by rw [filled_zero]; exact HW3.out), hid (Keeps.refl _ _)⟩
  case round =>
    obtain ⟨k, hk, rfl, HO, HK⟩ := hrel
    by_cases hlt : k < l.length
    · have H2 : Hid (RingI wr b F room l) := hid (RingG.keep H1.out HK.out (fun i hi e => by have := RingG.lt H.out i hi; omega))
      obtain ⟨first, p, g, n, cap, c1, c3, HP, hp, hf, hcell, hFg⟩ := RingI.item H2.out hlt
      obtain ⟨y, hy⟩ : ∃ y, l[k] = y := ⟨_, rfl⟩
      rw [hy] at hcell
      have HY := hid hy
      clear hy
      have c0 := RingI.room_cell H2.out
      have hgs : ¬ g = w.heap.size := fun e => by have := RingG.lt H.out g hFg; omega
      have hbs : ¬ b = w.heap.size := fun e => by
        obtain ⟨first, v, xs, hb, _⟩ := H.out
        have := lt_of_block hb; omega
      have hfree := HO.out.frozenAt k
      have htgt : wr.cell? ⟨w.heap.size, k, none⟩ = some (.int .i64 0) := by
        rw [HO.out.cellAt k (by omega), filled_get _ _ _ hlt]
      clear hFg
      go_wp2
      go_region_with (go_at_call 44; refine (iplace_nat b first k room p _ (by exact c1) (by exact c0) (by omega) (by omega) (by omega) (by omega) HP).mono ?_; rintro e w' ⟨rfl, n, rfl⟩)
      all_goals
        go_wp2
        go_roundw
        case rel =>
          refine ⟨k + 1, by omega, by go_num, hid ?_, hid ?_⟩
          · rw [← filled_set _ _ _ hlt, HY.out]
            exact ((own_drewN HO.out 0).stored k _).1
          · have hk := HK.out
            repeat' (first | with_reducible exact hk | with_reducible refine Keeps.drewN ?_ _ | with_reducible refine Keeps.drew ?_ | with_reducible refine Keeps.alloc ?_ _ | with_reducible refine Keeps.setCell ?_ ?_ _ | exact Or.inr rfl)
        case measure => simp [intOf]; omega
    · have hkl : k = l.length := by omega
      subst hkl
      have hfo := HO.out
      rw [filled_all] at hfo
      have HFO := hid hfo
      clear hfo
      go_wp2
      go_ret
      exact HFIN.out _ _ 0 rfl HFO.out HK.out

end Go.Proofs.Ytebodpphimfdoaa
