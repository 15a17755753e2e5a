/-
  A queue of bands, more: Take; the document's example for layer 2.
-/
import Derived.Test.YtoodlhagecannaaQueue3
namespace Go.Proofs.Ytoodlhagecannaa
open Go.RowKit

section
variable {w : World} {qb : Nat} {R : Nat → Nat} {L : Nat → List Ev} {F : Nat → Prop}

set_option maxHeartbeats 1000000 in
set_option maxRecDepth 100000 in
theorem qtake_none (h : QueueE w qb F R L) (hn : ∀ i, 1 ≤ i → i ≤ 3 → L i = []) :
    Calls Try.prog 28 #[.pointer (some ⟨qb, 0, none⟩)] w fun e w' => e = .returned (.tuple #[Ev.zero.val, .int .u8 0, .bool false]) ∧ Keeps No w w' := by
  obtain ⟨bs, Fs, h, hF⟩ := h
  obtain ⟨w1, hw1⟩ : ∃ w1, w1 = w.alloc (.cells #[.int .i64 0, .bool false, .int .i64 0] 64) := ⟨_, rfl⟩
  have hk1 : Keeps No w w1 := by rw [hw1]; exact (Keeps.refl No _).alloc _
  have hb1 : w1.heap[w.heap.size]? = some (.cells #[.int .i64 0, .bool false, .int .i64 0] 64 (0, 0)) := by rw [hw1]; exact heap_alloc_new w _
  have h1 := h.keep hk1 (fun _ _ h => h)
  have H1 := hid h1
  have HN := hid hn
  have HW1 := hid hw1
  have HB1 := hid hb1
  have HK1 := hid hk1
  clear h h1 hF hn hw1 hb1 hk1
  go_enter Try.func28, Try.ntmps28
  go_wp2_with fail
  rw [← HW1.out]
  go_loopw [5] (fun v5 wr => ∃ p : Nat, p ≤ 3 ∧ v5 = .int .u8 p ∧ Hid (Keeps No w1 wr)) (fun v5 _ => (intOf v5).toNat)
  case atStart => exact ⟨3, by omega, rfl, hid (Keeps.refl _ _)⟩
  case round =>
    obtain ⟨p, hp, rfl, HK⟩ := hrel
    have h2 := H1.out.keep HK.out (fun _ _ h => h)
    rcases (show p = 0 ∨ p = 1 ∨ p = 2 ∨ p = 3 by omega) with rfl | rfl | rfl | rfl
    · have hb := HK.out.heap (fun h => h) HB1.out
      have r0 := cell_at (i := 0) hb rfl
      have r1 := cell_at (i := 1) hb rfl
      have r2 := cell_at (i := 2) hb rfl
      have s0 := free_at (i := 0) hb
      have s1 := free_at (i := 1) hb
      have s2 := free_at (i := 2) hb
      have HB := hid hb
      clear h2 hb
      go_wp2_with fail
      have hb := HB.out
      refine bodyPost_ret (v := .tuple #[Ev.zero.val, .int .u8 0, .bool false]) (by simp [results, Try.results28, go_sem, r0, r1, r2, Ev.zero, Ev.val]) rfl ⟨rfl, ?_⟩
      have hk := HK1.out.trans HK.out
      repeat' (first | with_reducible exact hk | with_reducible refine Keeps.setCell ?_ ?_ _ | exact Or.inl (Nat.le_refl _))
    · have hq := qband_ok h2 (p := 1) (i := 1) rfl (by omega) (by omega)
      have hr := h2.ring 1 (by omega) (by omega)
      rw [HN.out 1 (by omega) (by omega)] at hr
      have hpop := epop_none hr
      clear h2 hr
      go_wp2_with (first | (go_at_call 38; refine hq.mono ?_; rintro e w' ⟨rfl, rfl⟩) | (go_at_call 39; refine hpop.mono ?_; rintro e w3 ⟨rfl, k3⟩; have K3 := hid k3; clear k3))
      go_roundw
      case rel =>
        refine ⟨0, by omega, rfl, hid ?_⟩
        have hk := HK.out.trans K3.out
        have hs := hk.size
        repeat' (first | with_reducible exact hk | with_reducible refine Keeps.setCell ?_ ?_ _ | with_reducible refine Keeps.alloc ?_ _ | exact Or.inl hs)
      case measure => simp [intOf]
    · have hq := qband_ok h2 (p := 2) (i := 2) rfl (by omega) (by omega)
      have hr := h2.ring 2 (by omega) (by omega)
      rw [HN.out 2 (by omega) (by omega)] at hr
      have hpop := epop_none hr
      clear h2 hr
      go_wp2_with (first | (go_at_call 38; refine hq.mono ?_; rintro e w' ⟨rfl, rfl⟩) | (go_at_call 39; refine hpop.mono ?_; rintro e w3 ⟨rfl, k3⟩; have K3 := hid k3; clear k3))
      go_roundw
      case rel =>
        refine ⟨1, by omega, rfl, hid ?_⟩
        have hk := HK.out.trans K3.out
        have hs := hk.size
        repeat' (first | with_reducible exact hk | with_reducible refine Keeps.setCell ?_ ?_ _ | with_reducible refine Keeps.alloc ?_ _ | exact Or.inl hs)
      case measure => simp [intOf]
    · have hq := qband_ok h2 (p := 3) (i := 3) rfl (by omega) (by omega)
      have hr := h2.ring 3 (by omega) (by omega)
      rw [HN.out 3 (by omega) (by omega)] at hr
      have hpop := epop_none hr
      clear h2 hr
      go_wp2_with (first | (go_at_call 38; refine hq.mono ?_; rintro e w' ⟨rfl, rfl⟩) | (go_at_call 39; refine hpop.mono ?_; rintro e w3 ⟨rfl, k3⟩; have K3 := hid k3; clear k3))
      go_roundw
      case rel =>
        refine ⟨2, by omega, rfl, hid ?_⟩
        have hk := HK.out.trans K3.out
        have hs := hk.size
        repeat' (first | with_reducible exact hk | with_reducible refine Keeps.setCell ?_ ?_ _ | with_reducible refine Keeps.alloc ?_ _ | exact Or.inl hs)
      case measure => simp [intOf]

set_option maxHeartbeats 2000000 in
set_option maxRecDepth 100000 in
theorem qtake_ok (h : QueueE w qb F R L) {i : Nat} (h1 : 1 ≤ i) (h3 : i ≤ 3) {y : Ev} {t : List Ev} (hy : L i = y :: t) (hn : ∀ j, i < j → j ≤ 3 → L j = []) :
    Calls Try.prog 28 #[.pointer (some ⟨qb, 0, none⟩)] w fun e w' => e = .returned (.tuple #[y.val, .int .u8 i, .bool true]) ∧ ∃ F', QueueE w' qb F' R (upd L i t) ∧ Upd F w w' F' := by
  obtain ⟨bs, Fs, h, hF⟩ := h
  obtain ⟨w1, hw1⟩ : ∃ w1, w1 = w.alloc (.cells #[.int .i64 0, .bool false, .int .i64 0] 64) := ⟨_, rfl⟩
  have hk1 : Keeps No w w1 := by rw [hw1]; exact (Keeps.refl No _).alloc _
  have hb1 : w1.heap[w.heap.size]? = some (.cells #[.int .i64 0, .bool false, .int .i64 0] 64 (0, 0)) := by rw [hw1]; exact heap_alloc_new w _
  have hq1 : ∀ k, QBl qb Fs k → ¬ k = w.heap.size := fun k hk e => by have := h.lt hk; omega
  have h1' := h.keep hk1 (fun _ _ h => h)
  have H1 := hid h1'
  have HN := hid hn
  have HY := hid hy
  have HW1 := hid hw1
  have HB1 := hid hb1
  have HK1 := hid hk1
  have HF := hid hF
  have HQ1 := hid hq1
  clear h h1' hF hn hw1 hb1 hk1 hy hq1
  go_enter Try.func28, Try.ntmps28
  go_wp2_with fail
  rw [← HW1.out]
  go_loopw [5] (fun v5 wr => ∃ p : Nat, i ≤ p ∧ p ≤ 3 ∧ v5 = .int .u8 p ∧ Hid (Keeps No w1 wr)) (fun v5 _ => (intOf v5).toNat)
  case atStart => exact ⟨3, by omega, by omega, rfl, hid (Keeps.refl _ _)⟩
  case round =>
    obtain ⟨p, hip, hp, rfl, HK⟩ := hrel
    have h2 := H1.out.keep HK.out (fun _ _ h => h)
    by_cases hpi : i = p
    · have hq := qband_ok h2 (p := (p : Int)) rfl (by omega) hp
      have hr := h2.ring p (by omega) hp
      rw [← hpi, HY.out] at hr
      have hpop := epop_ok hr
      rw [hpi] at hpop
      have H2 := hid h2
      have HPI := hid hpi
      clear h2 hr hpi
      have hge : decide ((1 : Int) ≤ (p : Int)) = true := by simp; omega
      obtain ⟨yr, yo, ya⟩ := y
      simp only [Ev.val] at hpop ⊢
      have HBB : Hid (wr.heap[w.heap.size]? = some (.cells #[.int .i64 0, .bool false, .int .i64 0] 64 (0, 0))) := hid (HK.out.heap (fun h => h) HB1.out)
      have hnf : ¬ Fs p w.heap.size := fun hf => HQ1.out _ (Or.inr ⟨p, by omega, hp, hf⟩) rfl
      go_wp2_with fail
      refine hq.mono ?_
      rintro e w' ⟨rfl, rfl⟩
      go_wp2_with fail
      refine hpop.mono ?_
      rintro e w3 ⟨rfl, F3, r3, u3⟩
      have hb3 := u3.keeps.heap hnf HBB.out
      have s0 := free_at (i := 0) hb3
      have s1 := free_at (i := 1) hb3
      have s2 := free_at (i := 2) hb3
      have r0 := cell_at (i := 0) hb3 rfl
      have r1 := cell_at (i := 1) hb3 rfl
      have r2 := cell_at (i := 2) hb3 rfl
      have hl3 := lt_of_block hb3
      have hne3 : ¬ w.heap.size = w3.heap.size := by omega
      have hne4 : ¬ w3.heap.size = w.heap.size := by omega
      have R3 := hid r3
      have U3 := hid u3
      have HB3 := hid hb3
      clear r3 u3 hb3
      go_wp2_with fail
      refine bodyPost_ret (v := .tuple #[.agg #[.int .i64 yr, .bool yo, .int .i64 ya], .int .u8 p, .bool true]) (by simp [results, Try.results28, go_sem, r0, r1, r2, World.cell?_alloc_lt, hl3]) rfl ?_
      refine ⟨by rw [HPI.out, Ev.val], ?_⟩
      obtain ⟨F', hq', hu'⟩ := H2.out.up (F := F) (fun k => HF.out k) (by omega) hp R3.out U3.out
      have hk0 : Keeps No w wr := HK1.out.trans HK.out
      have hub := Upd.behind hk0 hu'
      have hs3 := hub.keeps.size
      refine ⟨F', ?_, ?_⟩
      · rw [HPI.out]
        refine QueueE.keep (S := fun k => k = w.heap.size) hq' ?_ (fun k hk e => ?_)
        · have hk := Keeps.refl (fun k => k = w.heap.size) w3
          repeat' (first | with_reducible exact hk | with_reducible refine Keeps.setCell ?_ ?_ _ | with_reducible refine Keeps.alloc ?_ _ | exact Or.inr rfl | exact Or.inl (Nat.le_refl _))
        · rcases hu'.fresh k hk with h | h
          · exact HQ1.out k ((HF.out k).1 h) e
          · have h8 := hk0.size
            have h9 := lt_of_block HBB.out
            omega
      · have hk : Keeps F w w3 := hub.keeps
        refine ⟨?_, hub.fresh⟩
        repeat' (first | with_reducible exact hk | with_reducible refine Keeps.setCell ?_ ?_ _ | with_reducible refine Keeps.alloc ?_ _ | exact Or.inl (Nat.le_refl _) | exact Or.inl hs3)
    · have hr := h2.ring p (by omega) hp
      have hq := qband_ok h2 (p := (p : Int)) rfl (by omega) hp
      rw [HN.out p (by omega) hp] at hr
      have hpop := epop_none hr
      clear h2 hr
      have hge : decide ((1 : Int) ≤ (p : Int)) = true := by simp; omega
      obtain ⟨p, rfl⟩ : ∃ p', p = p' + 1 := ⟨p - 1, by omega⟩
      go_wp2_with (first | (go_at_call 38; refine hq.mono ?_; rintro e w' ⟨rfl, rfl⟩) | (go_at_call 39; refine hpop.mono ?_; rintro e w3 ⟨rfl, k3⟩; have K3 := hid k3; clear k3))
      go_roundw
      case rel =>
        refine ⟨p, by omega, by omega, by go_num, hid ?_⟩
        have hk := HK.out.trans K3.out
        have hs := hk.size
        repeat' (first | with_reducible exact hk | with_reducible refine Keeps.setCell ?_ ?_ _ | with_reducible refine Keeps.alloc ?_ _ | exact Or.inl hs)
      case measure => simp [intOf]

end

end Go.Proofs.Ytoodlhagecannaa
