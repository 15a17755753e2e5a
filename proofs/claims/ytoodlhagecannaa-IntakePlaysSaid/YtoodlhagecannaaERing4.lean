/-
  The ring of events, more: All.
-/
import Derived.Test.YtoodlhagecannaaERing3
namespace Go.Proofs.Ytoodlhagecannaa
open Go.RowKit

set_option maxHeartbeats 1000000 in
set_option maxRecDepth 100000 in
set_option maxRecDepth 100000 in
theorem eall_nil (w : World) :
    Calls Try.prog 44 #[.pointer none] w fun e w' => ∃ a c, e = .returned (.slice a 0 c) ∧ Keeps No w w' := by
  obtain ⟨i0, hi, hz0, hz1, hz2⟩ := info_parts info_ev
  go_enter Try.func44, Try.ntmps44
  go_wp2_with (first | (go_at_call 45; refine (elen_nil _).mono ?_; rintro e w' ⟨rfl, rfl⟩) | (at_make; refine wpList_make_full _ rfl _ _ 43 rfl 0 64 i0 (.agg #[.int .i64 0, .bool false, .int .i64 0]) 3 Try.underlying43 hi hz0 hz1 _ _ _ _ 0 rfl rfl rfl rfl ?c1 ?c2 ?c3 ?_))
  case c1 => omega
  case c2 => unfold maxLen; omega
  case c3 => omega
  intro w1 hown hgrow
  have hk1 : Keeps No w w1 := (Keeps.refl _ _).grown hgrow (fun k h => by cases h)
  clear hown hgrow
  go_wp2_with (go_at_call 45; refine (elen_nil _).mono ?_; rintro e w' ⟨rfl, rfl⟩)
  refine wp_loop_rounds 1 ?_
  rw [rounds_succ]
  go_wp2
  go_ret
  exact ⟨_, _, rfl, hk1⟩

set_option maxHeartbeats 3000000 in
set_option maxRecDepth 100000 in
theorem eall_any {w : World} {b room : Nat} {F : Nat → Prop} {l : List Ev} (h : RingE w b F room l) :
    Calls Try.prog 44 #[.pointer (some ⟨b, 0, none⟩)] w fun e w' => ∃ v', e = .returned v' ∧ w'.ownsRow 0 64 3 v' l.length (l.flatMap encE) ∧ Keeps No w w' ∧ ∀ k, v'.ownBlock = some k → w.heap.size ≤ k := by
  have c2 := RingE.len_cell h
  have hcn := RingG.cnt h
  obtain ⟨hcn1, hcn2⟩ := hcn
  obtain ⟨i0, hi, hz0, hz1, hz2⟩ := info_parts info_ev
  have H := hid h
  have HI := hid hi
  clear h hi
  go_enter Try.func44, Try.ntmps44
  go_wp2_with (first | (go_at_call 45; refine (elen_any _ _ _ c2).mono ?_; rintro e w' ⟨rfl, rfl⟩) | (at_make; refine wpList_make_full _ rfl _ _ 43 rfl 0 64 i0 (.agg #[.int .i64 0, .bool false, .int .i64 0]) 3 Try.underlying43 HI.out hz0 hz1 _ _ _ _ l.length rfl rfl rfl rfl ?c1 ?c2 ?c3 ?_))
  case c1 => rw [hz2]; omega
  case c2 => unfold maxLen; omega
  case c3 => omega
  intro w1 hown hgrow
  have hk1 : Keeps No w w1 := (Keeps.refl _ _).grown hgrow (fun k h => by cases h)
  have H1 := hid (RingG.keep H.out hk1 (fun _ _ h => h))
  have d2 := RingE.len_cell H1.out
  have hrow : w1.ownsRow 0 64 3 (.slice (some ⟨w.heap.size, 0, none⟩) l.length l.length) l.length ((fillL Ev.zero l 0).flatMap encE) := by
    have h1 := hown
    rw [made_enc encE_len (by decide) Ev.zero #[.int .i64 0, .bool false, .int .i64 0] rfl] at h1
    rw [fillL_zero]; exact h1
  have HW := hid hrow
  have HK1 := hid hk1
  clear hown hgrow hk1 hrow
  go_wp2_with (go_at_call 45; refine (elen_any _ _ _ d2).mono ?_; rintro e w' ⟨rfl, rfl⟩)
  clear c2 d2
  have hfin : ∀ (e : Ending) (w' : World) (g : Nat), e = .returned (.slice (some ⟨w.heap.size, 0, none⟩) l.length l.length) → w'.ownsRow 0 64 3 (.slice (some ⟨w.heap.size, 0, none⟩) l.length l.length) l.length (l.flatMap encE) → Keeps (fun i => i = w.heap.size) w1 w' →
      ∃ v', e = .returned v' ∧ w'.ownsRow 0 64 3 v' l.length (l.flatMap encE) ∧ Keeps No w w' ∧ ∀ k, v'.ownBlock = some k → w.heap.size ≤ k := by
    intro e w' _ he ho hk
    exact ⟨_, he, ho, HK1.out.trans' hk (fun _ _ h => h) (fun i hi h => by omega), fun k hk => by simp [Value.ownBlock] at hk; omega⟩
  have HFIN := hid hfin
  clear hfin
  go_loopw [10] (fun v10 wr => ∃ k : Nat, k ≤ l.length ∧ v10 = .int .i64 k ∧ Hid (wr.ownsRow 0 64 3 (.slice (some ⟨w.heap.size, 0, none⟩) l.length l.length) l.length ((fillL Ev.zero l k).flatMap encE)) ∧ Hid (Keeps (fun i => i = w.heap.size) w1 wr)) (fun v10 _ => l.length - (intOf v10).toNat)
  case atStart => exact ⟨0, Nat.zero_le _, rfl, HW, hid (Keeps.refl _ _)⟩
  case round =>
    obtain ⟨k, hk, rfl, HO, HK⟩ := hrel
    by_cases hlt : k < l.length
    · have H2 : Hid (RingE wr b F room l) := hid (RingG.keep H1.out HK.out (fun i hi e => by have := RingG.lt H.out i hi; omega))
      obtain ⟨first, p, g, n, cap, c1, c3, HP, hp, hf, hcc, hFg, hn⟩ := RingE.item H2.out hlt
      obtain ⟨y, hy⟩ : ∃ y, l[k] = y := ⟨_, rfl⟩
      rw [hy] at hcc
      obtain ⟨yr, yo, ya⟩ := y
      obtain ⟨hc0, hc1, hc2⟩ := hcc
      have HY := hid hy
      clear hy
      have c0 := RingE.room_cell H2.out
      have hgs : ¬ g = w.heap.size := fun e => by have := RingG.lt H.out g hFg; omega
      have hbs : ¬ b = w.heap.size := fun e => by
        obtain ⟨first, v, xs, hb, _⟩ := H.out
        have := lt_of_block hb; omega
      have hfl := fillL_len Ev.zero l hk
      have HO' : wr.ownsRow 0 64 3 (.slice (some ⟨w.heap.size, 0, none⟩) l.length l.length) l.length ((fillL Ev.zero l k).flatMap encE) := HO.out
      obtain ⟨z0, z1, z2, ht0, ht1, ht2⟩ : ∃ z0 z1 z2, wr.cell? ⟨w.heap.size, k * 3, none⟩ = some (.int .i64 z0) ∧ wr.cell? ⟨w.heap.size, k * 3 + 1, none⟩ = some (.bool z1) ∧ wr.cell? ⟨w.heap.size, k * 3 + 2, none⟩ = some (.int .i64 z2) := ⟨_, _, _, own_cellE HO' hfl.symm (p := k) (by omega)⟩
      have hf0 := HO'.frozenAt (k * 3)
      have hf1 := HO'.frozenAt (k * 3 + 1)
      have hf2 := HO'.frozenAt (k * 3 + 2)
      have HFL := hid hfl
      clear hFg hfl HO'
      go_wp2
      go_region_with (go_at_call 46; refine (eplace_nat b first k room p _ (by exact cellDr c1) (by exact cellDr c0) (by omega) (by omega) (by omega) (by omega) HP).mono ?_; rintro e w' ⟨rfl, n, rfl⟩)
      all_goals
        go_wp2
        go_roundw
        case rel =>
          refine ⟨k + 1, by omega, by go_num, hid ?_, hid ?_⟩
          · have h1 := own_store (xs := fillL Ev.zero l k) (cap := l.length) encE_len (by rw [HFL.out]; exact own_drewN HO.out 0) (p := k) (by rw [HFL.out]; exact hlt) ⟨yr, yo, ya⟩
            rw [← HY.out, fillL_set _ _ hlt, fillL_len _ _ (show k + 1 ≤ l.length by omega), HFL.out, HY.out] at h1
            simp only [encE, World.setCells, Nat.add_assoc, Nat.reduceAdd] at h1 ⊢
            exact h1
          · have hk := HK.out
            repeat' (first | with_reducible exact hk | with_reducible refine Keeps.drewN ?_ _ | with_reducible refine Keeps.drew ?_ | with_reducible refine Keeps.alloc ?_ _ | with_reducible refine Keeps.setCell ?_ ?_ _ | exact Or.inr rfl)
        case measure => simp [intOf]; omega
    · have hkl : k = l.length := by omega
      subst hkl
      have hfo := HO.out
      rw [fillL_all] at hfo
      have HFO := hid hfo
      clear hfo
      go_wp2
      go_ret
      exact HFIN.out _ _ 0 rfl HFO.out HK.out

end Go.Proofs.Ytoodlhagecannaa
