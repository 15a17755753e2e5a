/- EVERY PAUSE ENDS within its bound, and so does each time that sound is off. No conditions. -/
import Derived.Test.YtgdkpnfonnafaaaRows
import Derived.Test.YtgdkpnfonnafaaaArgs
import Derived.Test.YtgdkpnfonnafaaaHushK
import Derived.ProofKit
import Derived.OpenShut
import Derived.Deep.DeepCutAuto
import Derived.Deep.CutBlock
import Derived.Deep.RegionHeld3
import Derived.Test.YtgdkpnfonnafaaaTimeMA
namespace Go.Proofs.Ytgdkpnfonnafaaa.hushEnds
open Go.ChangeShapes Go.WideShapes Go.ChangeAt Go.RowKit
open Go.ChangeMaps (open_string shut_string)
set_option linter.unusedVariables false
set_option linter.unusedSimpArgs false

set_option maxHeartbeats 8000000 in
set_option maxRecDepth 100000 in
theorem walk (w : World) (a : Int) (wa : (Lit.int .u32 a).wf = true) (t : Int) (wt : (Lit.int .u32 t).wf = true) (c : Int) (wc : (Lit.int .u32 c).wf = true) (mk : Int) (wmk : (Lit.int .u8 mk).wf = true) :
    Calls Try.prog 5 #[.int .u32 a, .int .u32 t, .int .u32 c, .int .u8 mk] w fun e w' => e = .returned (.bool true) ∧ Below w.heap.size w w' := by
  obtain ⟨a0, a1⟩ : 0 ≤ a ∧ a ≤ 4294967295 := bounds_u32 wa
  obtain ⟨t0, t1⟩ : 0 ≤ t ∧ t ≤ 4294967295 := bounds_u32 wt
  obtain ⟨c0, c1⟩ : 0 ≤ c ∧ c ≤ 4294967295 := bounds_u32 wc
  clear wa wt wc wmk
  obtain ⟨b, hb⟩ : ∃ q : Int, t + 1 = q := ⟨_, rfl⟩
  obtain ⟨e0, he⟩ : ∃ q : Int, leastI b c = q := ⟨_, rfl⟩
  obtain ⟨z, hz⟩ : ∃ q : Int, a + e0 = q := ⟨_, rfl⟩
  have hee : (c < b ∧ e0 = c) ∨ (¬ c < b ∧ e0 = b) := by rw [← he]; unfold leastI; split <;> omega
  have HEE : Hid ((c < b ∧ e0 = c) ∨ (¬ c < b ∧ e0 = b)) := hid hee
  have e1 : 0 ≤ e0 ∧ e0 ≤ c ∧ e0 ≤ 4294967296 := by omega
  obtain ⟨e1, e2, e3⟩ := e1
  have b1 : 1 ≤ b ∧ b ≤ 4294967296 := by omega
  obtain ⟨b1, b2⟩ := b1
  have HE : Hid (leastI b c = e0) := hid he
  have HW1 : Hid (IntKind.i64.wrap (a + c) = a + c) := hid (by rw [IntKind.wrap_i64]; omega)
  have HW2 : Hid (IntKind.i64.wrap (IntKind.i64.wrap (a + e0) - 1) = a + e0 - 1) := hid (by rw [IntKind.wrap_i64, IntKind.wrap_i64]; omega)
  by_cases hc0 : c = 0
  · have he0 : e0 = 0 := by omega
    subst he0
    have HC1 : Hid (∀ w, Calls Try.prog 10 #[.agg #[.int .i64 0, .int .i64 0, .int .u8 0], .int .i64 a, .int .i64 b, .int .i64 c, .int .u8 mk] w fun e w' => e = .returned (.agg #[.int .i64 z, .int .i64 0, .int .u8 mk]) ∧ Keeps No w w') := hid (fun w => by
      have h := hpause_any 0 0 0 a b c mk w ⟨by omega, by omega⟩ ⟨by omega, by omega⟩ ⟨by omega, by omega⟩
      rw [show pauseD ⟨0, 0, 0⟩ a b c mk = ⟨z, 0, mk⟩ by unfold pauseD; rw [if_neg (by omega), HE.out, held_mid (by omega) (by omega), hz]] at h
      exact h)
    have HC2 : Hid (∀ w, Calls Try.prog 12 #[.agg #[.int .i64 z, .int .i64 0, .int .u8 mk], .int .i64 a, .int .i64 b, .int .i64 c] w fun e w' => e = .returned (.agg #[.int .i64 z, .int .i64 z, .int .u8 mk]) ∧ Keeps No w w') := hid (fun w => by
      have h := hsilence_any z 0 mk a b c w ⟨by omega, by omega⟩ ⟨by omega, by omega⟩ ⟨by omega, by omega⟩
      rw [show silenceD ⟨z, 0, mk⟩ a b c = ⟨z, z, mk⟩ by unfold silenceD; rw [if_neg (by omega), HE.out, held_mid (by omega) (by omega), hz]] at h
      exact h)
    have HC3 : Hid (∀ w, Calls Try.prog 17 #[.agg #[.int .i64 z, .int .i64 z, .int .u8 mk], .int .i64 (IntKind.i64.wrap (a + c))] w fun e w' => e = .returned (.bool false) ∧ Keeps No w w') := hid (fun w => by
      have h := hsilent_any z z mk (a + c) w
      rw [show (decide (a + c < z) || decide (a + c < z)) = false by simp; omega] at h; rw [HW1.out]
      exact h)
    have HC4 : Hid (∀ w, Calls Try.prog 17 #[.agg #[.int .i64 z, .int .i64 z, .int .u8 mk], .int .i64 z] w fun e w' => e = .returned (.bool false) ∧ Keeps No w w') := hid (fun w => by
      have h := hsilent_any z z mk z w
      rw [show (decide (z < z) || decide (z < z)) = false by simp] at h
      exact h)
    have HC5 : Hid (∀ w, Calls Try.prog 18 #[.int .i64 a, .int .i64 0] w fun e w' => e = .returned (.int .i64 z) ∧ Keeps No w w') := hid (fun w => by
      have h := (madd_any a 0 w ⟨by omega, by omega⟩ ⟨by omega, by omega⟩).mono (fun e w' h => (⟨h.1, by rw [← h.2]; exact Keeps.refl No _⟩ : e = .returned (.int .i64 (held (a + 0))) ∧ Keeps No w w'))
      rw [held_mid (by omega) (by omega), hz] at h
      exact h)
    have HC6 : Hid (∀ w, Calls Try.prog 19 #[.agg #[.int .i64 z, .int .i64 z, .int .u8 mk], .int .i64 a] w fun e w' => e = .returned (.bool false) ∧ Keeps No w w') := hid (fun w => by
      have h := hpaused_any z z mk a w
      rw [show decide (a < z) = false by simp; omega] at h
      exact h)
    have HC7 : Hid (∀ w, Calls Try.prog 20 #[.agg #[.int .i64 z, .int .i64 z, .int .u8 mk], .int .i64 a] w fun e w' => e = .returned (.bool false) ∧ Keeps No w w') := hid (fun w => by
      have h := hisoff_any z z mk a w
      rw [show decide (a < z) = false by simp; omega] at h
      exact h)
    have g1 : decide (c > 0) = false := decide_eq_false (by omega)
    have g2 : decide (0 = 0) = true := decide_eq_true (by omega)
    have g3 : (0 == 0) = true := by first | rfl | (simp; omega)
    clear HE HW1 HW2 hee he hz hc0
    go_enter Try.func5, Try.ntmps5
    go_wp2_with fail
    refine (HC1.out _).mono ?_
    rintro e w1 ⟨rfl, k1⟩
    have K1 := hid k1
    clear k1
    go_wp2_with fail
    refine (HC2.out _).mono ?_
    rintro e w2 ⟨rfl, k2⟩
    have K2 := hid (K1.out.trans k2)
    clear k2 HC1 HC2
    go_upto_if 34 with fail
    obtain ⟨hb, hhb⟩ : ∃ x, w2.heap.size = x := ⟨_, rfl⟩
    obtain ⟨W, hW⟩ : ∃ W, w2.alloc (.cells #[.int .i64 z, .int .i64 z, .int .u8 mk] 25) = W := ⟨_, rfl⟩
    have HB : Hid (Bk W hb 25 [.int .i64 z, .int .i64 z, .int .u8 mk]) := hid (by rw [← hW]; exact Bk.new hhb _ _)
    have HK : Hid (Keeps No w W) := hid (by rw [← hW]; exact K2.out.alloc _)
    try rw [hhb]
    rw [hW]
    clear hW hhb K2
    go_cut [13] from 34 to 35 (fun v13 wx => v13 = .int .i64 0 ∧ Hid (wx = W))
    case first =>
      have HE0 := HEE.out
      by_cases hcb : c < b
      · have d1 : decide (c < b) = true := decide_eq_true hcb
        have hce : c = 0 := by omega
        have HCE := hid hce
        clear HE0 hce
        go_wp2_with fail
        go_meet
        exact ⟨by rw [HCE.out], hid rfl⟩
      · have d1 : decide (c < b) = false := decide_eq_false hcb
        have hce : b = 0 := by omega
        have HCE := hid hce
        clear HE0 hce
        go_wp2_with fail
        go_meet
        exact ⟨by rw [HCE.out], hid rfl⟩
    case rest =>
    obtain ⟨rfl, HWW⟩ := hcut
    have hww := HWW.out
    subst hww
    clear HWW
    go_upto_region 6 with fail
    have x0_0 := HB.out.cell 0 rfl
    have x0_1 := HB.out.cell 1 rfl
    have x0_2 := HB.out.cell 2 rfl
    refine wp_region_held_drew (S := (fun w' => w'.cell? ⟨hb, 0, none⟩ = some (.int .i64 z) ∧ w'.cell? ⟨hb, 1, none⟩ = some (.int .i64 z) ∧ w'.cell? ⟨hb, 2, none⟩ = some (.int .u8 mk))) (by kernel_rfl) ?_ (fun hHeld => ?_)
    focus ((try dsimp only); (first | with_reducible exact ⟨x0_0, x0_1, x0_2⟩ | with_reducible exact ⟨cellDr x0_0, cellDr x0_1, cellDr x0_2⟩ | with_reducible exact ⟨cellA _ x0_0, cellA _ x0_1, cellA _ x0_2⟩ | with_reducible exact ⟨cellDr (cellA _ x0_0), cellDr (cellA _ x0_1), cellDr (cellA _ x0_2)⟩ | (go_keep; done)))
    refine wpAnyH_ready (rs := [0]) (by kernel_rfl) (by simp) ?_
    refine AllReadyH.cons rfl (fun K hK => ?_) AllReadyH.nil
    go_simp
    (go_at_call 9; (with_reducible refine (ends_true _).mono ?_); rintro e w9 ⟨rfl, k⟩; have kk : Keeps No wc w9 := Keeps.trans (by repeat' (first | with_reducible exact Keeps.refl _ _ | with_reducible assumption | with_reducible refine Keeps.drewN ?_ _ | with_reducible refine Keeps.drew ?_ | with_reducible refine Keeps.alloc ?_ _)) k; have g0 := HB.out.kept kk; have x0_0 := g0.cell 0 rfl; have x0_1 := g0.cell 1 rfl; have x0_2 := g0.cell 2 rfl; clear k g0)
    go_wp2_with fail
    refine hK.out _ _ ?_ (fun hHeld => ?_)
    focus ((try dsimp only); (first | with_reducible exact ⟨x0_0, x0_1, x0_2⟩ | with_reducible exact ⟨cellDr x0_0, cellDr x0_1, cellDr x0_2⟩ | with_reducible exact ⟨cellA _ x0_0, cellA _ x0_1, cellA _ x0_2⟩ | with_reducible exact ⟨cellDr (cellA _ x0_0), cellDr (cellA _ x0_1), cellDr (cellA _ x0_2)⟩ | (go_keep; done)))
    clear hK K
    try simp only [Act.put, List.setIfInBounds_toArray, List.set_cons_zero, List.set_cons_succ, List.getElem_toArray, List.getElem_cons_succ, List.getElem_cons_zero]
    refine takeOn (i := 1) (v := ?_) rfl (by kernel_rfl) (by kernel_rfl) (by kernel_rfl) (fun _ _ _ h => h) (by rfl) ?_ (by assumption) ?_
    rotate_left
    focus (intro w hSw; (try dsimp only at hSw); go_simp; (try with_reducible rfl))
    try simp only [Act.put, List.setIfInBounds_toArray, List.set_cons_zero, List.set_cons_succ, List.getElem_toArray, List.getElem_cons_succ, List.getElem_cons_zero]
    refine takeOn (i := 2) (v := ?_) rfl (by kernel_rfl) (by kernel_rfl) (by kernel_rfl) (fun _ _ _ h => h) (by rfl) ?_ (by assumption) ?_
    rotate_left
    focus (intro w hSw; (try dsimp only at hSw); go_simp; (try with_reducible rfl))
    try simp only [Act.put, List.setIfInBounds_toArray, List.set_cons_zero, List.set_cons_succ, List.getElem_toArray, List.getElem_cons_succ, List.getElem_cons_zero]
    refine takeOn (i := 3) (v := ?_) rfl (by kernel_rfl) (by kernel_rfl) (by kernel_rfl) (fun _ _ _ h => h) (by rfl) ?_ (by assumption) ?_
    rotate_left
    focus (intro w hSw; (try dsimp only at hSw); go_simp; (try with_reducible rfl))
    try simp only [Act.put, List.setIfInBounds_toArray, List.set_cons_zero, List.set_cons_succ, List.getElem_toArray, List.getElem_cons_succ, List.getElem_cons_zero]
    refine takeOn (i := 4) (v := ?_) rfl (by kernel_rfl) (by kernel_rfl) (by kernel_rfl) (fun _ _ _ h => h) (by rfl) ?_ (by assumption) ?_
    rotate_left
    focus (intro w hSw; (try dsimp only at hSw); go_simp; (try with_reducible rfl))
    try simp only [Act.put, List.setIfInBounds_toArray, List.set_cons_zero, List.set_cons_succ, List.getElem_toArray, List.getElem_cons_succ, List.getElem_cons_zero]
    refine takeOn (i := 5) (v := ?_) rfl (by kernel_rfl) (by kernel_rfl) (by kernel_rfl) (fun _ _ _ h => h) (by rfl) ?_ (by assumption) ?_
    rotate_left
    focus (intro w hSw; (try dsimp only at hSw); go_simp; (try with_reducible rfl))
    try simp only [Act.put, List.setIfInBounds_toArray, List.set_cons_zero, List.set_cons_succ, List.getElem_toArray, List.getElem_cons_succ, List.getElem_cons_zero]
    refine wpAnyH_ready (rs := [6]) (by kernel_rfl) (by simp) ?_
    refine AllReadyH.cons rfl (fun K hK => ?_) AllReadyH.nil
    go_simp
    (go_at_call 17; (with_reducible refine (HC3.out _).mono ?_); rintro e w9 ⟨rfl, k⟩; have kk : Keeps No wc w9 := Keeps.trans (by repeat' (first | with_reducible exact Keeps.refl _ _ | with_reducible assumption | with_reducible refine Keeps.drewN ?_ _ | with_reducible refine Keeps.drew ?_ | with_reducible refine Keeps.alloc ?_ _)) k; have g0 := HB.out.kept kk; have x0_0 := g0.cell 0 rfl; have x0_1 := g0.cell 1 rfl; have x0_2 := g0.cell 2 rfl; clear k g0)
    go_wp2_with fail
    refine hK.out _ _ ?_ (fun hHeld => ?_)
    focus ((try dsimp only); (first | with_reducible exact ⟨x0_0, x0_1, x0_2⟩ | with_reducible exact ⟨cellDr x0_0, cellDr x0_1, cellDr x0_2⟩ | with_reducible exact ⟨cellA _ x0_0, cellA _ x0_1, cellA _ x0_2⟩ | with_reducible exact ⟨cellDr (cellA _ x0_0), cellDr (cellA _ x0_1), cellDr (cellA _ x0_2)⟩ | (go_keep; done)))
    clear hK K
    try simp only [Act.put, List.setIfInBounds_toArray, List.set_cons_zero, List.set_cons_succ, List.getElem_toArray, List.getElem_cons_succ, List.getElem_cons_zero]
    refine takeOn (i := 7) (v := ?_) rfl (by kernel_rfl) (by kernel_rfl) (by kernel_rfl) (fun _ _ _ h => h) (by rfl) ?_ (by assumption) ?_
    rotate_left
    focus (intro w hSw; (try dsimp only at hSw); go_simp; (try with_reducible rfl))
    try simp only [Act.put, List.setIfInBounds_toArray, List.set_cons_zero, List.set_cons_succ, List.getElem_toArray, List.getElem_cons_succ, List.getElem_cons_zero]
    refine takeOn (i := 8) (v := ?_) rfl (by kernel_rfl) (by kernel_rfl) (by kernel_rfl) (fun _ _ _ h => h) (by rfl) ?_ (by assumption) ?_
    rotate_left
    focus (intro w hSw; (try dsimp only at hSw); go_simp; (try with_reducible rfl))
    try simp only [Act.put, List.setIfInBounds_toArray, List.set_cons_zero, List.set_cons_succ, List.getElem_toArray, List.getElem_cons_succ, List.getElem_cons_zero]
    refine takeOn (i := 9) (v := ?_) rfl (by kernel_rfl) (by kernel_rfl) (by kernel_rfl) (fun _ _ _ h => h) (by rfl) ?_ (by assumption) ?_
    rotate_left
    focus (intro w hSw; (try dsimp only at hSw); go_simp; (try with_reducible rfl))
    try simp only [Act.put, List.setIfInBounds_toArray, List.set_cons_zero, List.set_cons_succ, List.getElem_toArray, List.getElem_cons_succ, List.getElem_cons_zero]
    refine takeOn (i := 10) (v := ?_) rfl (by kernel_rfl) (by kernel_rfl) (by kernel_rfl) (fun _ _ _ h => h) (by rfl) ?_ (by assumption) ?_
    rotate_left
    focus (intro w hSw; (try dsimp only at hSw); go_simp; (try with_reducible rfl))
    try simp only [Act.put, List.setIfInBounds_toArray, List.set_cons_zero, List.set_cons_succ, List.getElem_toArray, List.getElem_cons_succ, List.getElem_cons_zero]
    refine takeOn (i := 11) (v := ?_) rfl (by kernel_rfl) (by kernel_rfl) (by kernel_rfl) (fun _ _ _ h => h) (by rfl) ?_ (by assumption) ?_
    rotate_left
    focus (intro w hSw; (try dsimp only at hSw); go_simp; (try with_reducible rfl))
    try simp only [Act.put, List.setIfInBounds_toArray, List.set_cons_zero, List.set_cons_succ, List.getElem_toArray, List.getElem_cons_succ, List.getElem_cons_zero]
    refine takeOn (i := 12) (v := ?_) rfl (by kernel_rfl) (by kernel_rfl) (by kernel_rfl) (fun _ _ _ h => h) (by rfl) ?_ (by assumption) ?_
    rotate_left
    focus (intro w hSw; (try dsimp only at hSw); go_simp; (try with_reducible rfl))
    try simp only [Act.put, List.setIfInBounds_toArray, List.set_cons_zero, List.set_cons_succ, List.getElem_toArray, List.getElem_cons_succ, List.getElem_cons_zero]
    refine wpAnyH_ready (rs := [13]) (by kernel_rfl) (by simp) ?_
    refine AllReadyH.cons rfl (fun K hK => ?_) AllReadyH.nil
    go_simp
    (go_at_call 18; (with_reducible refine (HC5.out _).mono ?_); rintro e w9 ⟨rfl, k⟩; have kk : Keeps No wc w9 := Keeps.trans (by repeat' (first | with_reducible exact Keeps.refl _ _ | with_reducible assumption | with_reducible refine Keeps.drewN ?_ _ | with_reducible refine Keeps.drew ?_ | with_reducible refine Keeps.alloc ?_ _)) k; have g0 := HB.out.kept kk; have x0_0 := g0.cell 0 rfl; have x0_1 := g0.cell 1 rfl; have x0_2 := g0.cell 2 rfl; clear k g0)
    go_wp2_with fail
    refine hK.out _ _ ?_ (fun hHeld => ?_)
    focus ((try dsimp only); (first | with_reducible exact ⟨x0_0, x0_1, x0_2⟩ | with_reducible exact ⟨cellDr x0_0, cellDr x0_1, cellDr x0_2⟩ | with_reducible exact ⟨cellA _ x0_0, cellA _ x0_1, cellA _ x0_2⟩ | with_reducible exact ⟨cellDr (cellA _ x0_0), cellDr (cellA _ x0_1), cellDr (cellA _ x0_2)⟩ | (go_keep; done)))
    clear hK K
    try simp only [Act.put, List.setIfInBounds_toArray, List.set_cons_zero, List.set_cons_succ, List.getElem_toArray, List.getElem_cons_succ, List.getElem_cons_zero]
    refine wpAnyH_ready (rs := [14]) (by kernel_rfl) (by simp) ?_
    refine AllReadyH.cons rfl (fun K hK => ?_) AllReadyH.nil
    go_simp
    (go_at_call 17; (with_reducible refine (HC4.out _).mono ?_); rintro e w9 ⟨rfl, k⟩; have kk : Keeps No wc w9 := Keeps.trans (by repeat' (first | with_reducible exact Keeps.refl _ _ | with_reducible assumption | with_reducible refine Keeps.drewN ?_ _ | with_reducible refine Keeps.drew ?_ | with_reducible refine Keeps.alloc ?_ _)) k; have g0 := HB.out.kept kk; have x0_0 := g0.cell 0 rfl; have x0_1 := g0.cell 1 rfl; have x0_2 := g0.cell 2 rfl; clear k g0)
    go_wp2_with fail
    refine hK.out _ _ ?_ (fun hHeld => ?_)
    focus ((try dsimp only); (first | with_reducible exact ⟨x0_0, x0_1, x0_2⟩ | with_reducible exact ⟨cellDr x0_0, cellDr x0_1, cellDr x0_2⟩ | with_reducible exact ⟨cellA _ x0_0, cellA _ x0_1, cellA _ x0_2⟩ | with_reducible exact ⟨cellDr (cellA _ x0_0), cellDr (cellA _ x0_1), cellDr (cellA _ x0_2)⟩ | (go_keep; done)))
    clear hK K
    try simp only [Act.put, List.setIfInBounds_toArray, List.set_cons_zero, List.set_cons_succ, List.getElem_toArray, List.getElem_cons_succ, List.getElem_cons_zero]
    refine takeOn (i := 15) (v := ?_) rfl (by kernel_rfl) (by kernel_rfl) (by kernel_rfl) (fun _ _ _ h => h) (by rfl) ?_ (by assumption) ?_
    rotate_left
    focus (intro w hSw; (try dsimp only at hSw); go_simp; (try with_reducible rfl))
    try simp only [Act.put, List.setIfInBounds_toArray, List.set_cons_zero, List.set_cons_succ, List.getElem_toArray, List.getElem_cons_succ, List.getElem_cons_zero]
    refine takeOn (i := 16) (v := ?_) rfl (by kernel_rfl) (by kernel_rfl) (by kernel_rfl) (fun _ _ _ h => h) (by rfl) ?_ (by assumption) ?_
    rotate_left
    focus (intro w hSw; (try dsimp only at hSw); go_simp; (try with_reducible rfl))
    try simp only [Act.put, List.setIfInBounds_toArray, List.set_cons_zero, List.set_cons_succ, List.getElem_toArray, List.getElem_cons_succ, List.getElem_cons_zero]
    refine takeOn (i := 17) (v := ?_) rfl (by kernel_rfl) (by kernel_rfl) (by kernel_rfl) (fun _ _ _ h => h) (by rfl) ?_ (by assumption) ?_
    rotate_left
    focus (intro w hSw; (try dsimp only at hSw); go_simp; (try with_reducible rfl))
    try simp only [Act.put, List.setIfInBounds_toArray, List.set_cons_zero, List.set_cons_succ, List.getElem_toArray, List.getElem_cons_succ, List.getElem_cons_zero]
    refine takeOn (i := 18) (v := ?_) rfl (by kernel_rfl) (by kernel_rfl) (by kernel_rfl) (fun _ _ _ h => h) (by rfl) ?_ (by assumption) ?_
    rotate_left
    focus (intro w hSw; (try dsimp only at hSw); go_simp; (try with_reducible rfl))
    try simp only [Act.put, List.setIfInBounds_toArray, List.set_cons_zero, List.set_cons_succ, List.getElem_toArray, List.getElem_cons_succ, List.getElem_cons_zero]
    refine takeOn (i := 19) (v := ?_) rfl (by kernel_rfl) (by kernel_rfl) (by kernel_rfl) (fun _ _ _ h => h) (by rfl) ?_ (by assumption) ?_
    rotate_left
    focus (intro w hSw; (try dsimp only at hSw); go_simp; (try with_reducible rfl))
    try simp only [Act.put, List.setIfInBounds_toArray, List.set_cons_zero, List.set_cons_succ, List.getElem_toArray, List.getElem_cons_succ, List.getElem_cons_zero]
    refine takeOn (i := 21) (v := ?_) rfl (by kernel_rfl) (by kernel_rfl) (by kernel_rfl) (fun _ _ _ h => h) (by rfl) ?_ (by assumption) ?_
    rotate_left
    focus (intro w hSw; (try dsimp only at hSw); go_simp; (try with_reducible rfl))
    try simp only [Act.put, List.setIfInBounds_toArray, List.set_cons_zero, List.set_cons_succ, List.getElem_toArray, List.getElem_cons_succ, List.getElem_cons_zero]
    refine takeOn (i := 22) (v := ?_) rfl (by kernel_rfl) (by kernel_rfl) (by kernel_rfl) (fun _ _ _ h => h) (by rfl) ?_ (by assumption) ?_
    rotate_left
    focus (intro w hSw; (try dsimp only at hSw); go_simp; (try with_reducible rfl))
    try simp only [Act.put, List.setIfInBounds_toArray, List.set_cons_zero, List.set_cons_succ, List.getElem_toArray, List.getElem_cons_succ, List.getElem_cons_zero]
    refine wpAnyH_ready (rs := [20]) (by kernel_rfl) (by simp) ?_
    refine AllReadyH.cons rfl (fun K hK => ?_) AllReadyH.nil
    go_simp
    (go_at_call 19; (with_reducible refine (HC6.out _).mono ?_); rintro e w9 ⟨rfl, k⟩; have kk : Keeps No wc w9 := Keeps.trans (by repeat' (first | with_reducible exact Keeps.refl _ _ | with_reducible assumption | with_reducible refine Keeps.drewN ?_ _ | with_reducible refine Keeps.drew ?_ | with_reducible refine Keeps.alloc ?_ _)) k; have g0 := HB.out.kept kk; have x0_0 := g0.cell 0 rfl; have x0_1 := g0.cell 1 rfl; have x0_2 := g0.cell 2 rfl; clear k g0)
    go_wp2_with fail
    refine hK.out _ _ ?_ (fun hHeld => ?_)
    focus ((try dsimp only); (first | with_reducible exact ⟨x0_0, x0_1, x0_2⟩ | with_reducible exact ⟨cellDr x0_0, cellDr x0_1, cellDr x0_2⟩ | with_reducible exact ⟨cellA _ x0_0, cellA _ x0_1, cellA _ x0_2⟩ | with_reducible exact ⟨cellDr (cellA _ x0_0), cellDr (cellA _ x0_1), cellDr (cellA _ x0_2)⟩ | (go_keep; done)))
    clear hK K
    try simp only [Act.put, List.setIfInBounds_toArray, List.set_cons_zero, List.set_cons_succ, List.getElem_toArray, List.getElem_cons_succ, List.getElem_cons_zero]
    refine takeOn (i := 23) (v := ?_) rfl (by kernel_rfl) (by kernel_rfl) (by kernel_rfl) (fun _ _ _ h => h) (by rfl) ?_ (by assumption) ?_
    rotate_left
    focus (intro w hSw; (try dsimp only at hSw); go_simp; (try with_reducible rfl))
    try simp only [Act.put, List.setIfInBounds_toArray, List.set_cons_zero, List.set_cons_succ, List.getElem_toArray, List.getElem_cons_succ, List.getElem_cons_zero]
    refine takeOn (i := 24) (v := ?_) rfl (by kernel_rfl) (by kernel_rfl) (by kernel_rfl) (fun _ _ _ h => h) (by rfl) ?_ (by assumption) ?_
    rotate_left
    focus (intro w hSw; (try dsimp only at hSw); go_simp; (try with_reducible rfl))
    try simp only [Act.put, List.setIfInBounds_toArray, List.set_cons_zero, List.set_cons_succ, List.getElem_toArray, List.getElem_cons_succ, List.getElem_cons_zero]
    refine takeOn (i := 25) (v := ?_) rfl (by kernel_rfl) (by kernel_rfl) (by kernel_rfl) (fun _ _ _ h => h) (by rfl) ?_ (by assumption) ?_
    rotate_left
    focus (intro w hSw; (try dsimp only at hSw); go_simp; (try with_reducible rfl))
    try simp only [Act.put, List.setIfInBounds_toArray, List.set_cons_zero, List.set_cons_succ, List.getElem_toArray, List.getElem_cons_succ, List.getElem_cons_zero]
    refine takeOn (i := 26) (v := ?_) rfl (by kernel_rfl) (by kernel_rfl) (by kernel_rfl) (fun _ _ _ h => h) (by rfl) ?_ (by assumption) ?_
    rotate_left
    focus (intro w hSw; (try dsimp only at hSw); go_simp; (try with_reducible rfl))
    try simp only [Act.put, List.setIfInBounds_toArray, List.set_cons_zero, List.set_cons_succ, List.getElem_toArray, List.getElem_cons_succ, List.getElem_cons_zero]
    refine takeOn (i := 27) (v := ?_) rfl (by kernel_rfl) (by kernel_rfl) (by kernel_rfl) (fun _ _ _ h => h) (by rfl) ?_ (by assumption) ?_
    rotate_left
    focus (intro w hSw; (try dsimp only at hSw); go_simp; (try with_reducible rfl))
    try simp only [Act.put, List.setIfInBounds_toArray, List.set_cons_zero, List.set_cons_succ, List.getElem_toArray, List.getElem_cons_succ, List.getElem_cons_zero]
    refine takeOn (i := 29) (v := ?_) rfl (by kernel_rfl) (by kernel_rfl) (by kernel_rfl) (fun _ _ _ h => h) (by rfl) ?_ (by assumption) ?_
    rotate_left
    focus (intro w hSw; (try dsimp only at hSw); go_simp; (try with_reducible rfl))
    try simp only [Act.put, List.setIfInBounds_toArray, List.set_cons_zero, List.set_cons_succ, List.getElem_toArray, List.getElem_cons_succ, List.getElem_cons_zero]
    refine takeOn (i := 30) (v := ?_) rfl (by kernel_rfl) (by kernel_rfl) (by kernel_rfl) (fun _ _ _ h => h) (by rfl) ?_ (by assumption) ?_
    rotate_left
    focus (intro w hSw; (try dsimp only at hSw); go_simp; (try with_reducible rfl))
    try simp only [Act.put, List.setIfInBounds_toArray, List.set_cons_zero, List.set_cons_succ, List.getElem_toArray, List.getElem_cons_succ, List.getElem_cons_zero]
    refine wpAnyH_ready (rs := [28]) (by kernel_rfl) (by simp) ?_
    refine AllReadyH.cons rfl (fun K hK => ?_) AllReadyH.nil
    go_simp
    (go_at_call 20; (with_reducible refine (HC7.out _).mono ?_); rintro e w9 ⟨rfl, k⟩; have kk : Keeps No wc w9 := Keeps.trans (by repeat' (first | with_reducible exact Keeps.refl _ _ | with_reducible assumption | with_reducible refine Keeps.drewN ?_ _ | with_reducible refine Keeps.drew ?_ | with_reducible refine Keeps.alloc ?_ _)) k; have g0 := HB.out.kept kk; have x0_0 := g0.cell 0 rfl; have x0_1 := g0.cell 1 rfl; have x0_2 := g0.cell 2 rfl; clear k g0)
    go_wp2_with fail
    refine hK.out _ _ ?_ (fun hHeld => ?_)
    focus ((try dsimp only); (first | with_reducible exact ⟨x0_0, x0_1, x0_2⟩ | with_reducible exact ⟨cellDr x0_0, cellDr x0_1, cellDr x0_2⟩ | with_reducible exact ⟨cellA _ x0_0, cellA _ x0_1, cellA _ x0_2⟩ | with_reducible exact ⟨cellDr (cellA _ x0_0), cellDr (cellA _ x0_1), cellDr (cellA _ x0_2)⟩ | (go_keep; done)))
    clear hK K
    try simp only [Act.put, List.setIfInBounds_toArray, List.set_cons_zero, List.set_cons_succ, List.getElem_toArray, List.getElem_cons_succ, List.getElem_cons_zero]
    refine takeOn (i := 31) (v := ?_) rfl (by kernel_rfl) (by kernel_rfl) (by kernel_rfl) (fun _ _ _ h => h) (by rfl) ?_ (by assumption) ?_
    rotate_left
    focus (intro w hSw; (try dsimp only at hSw); go_simp; (try with_reducible rfl))
    try simp only [Act.put, List.setIfInBounds_toArray, List.set_cons_zero, List.set_cons_succ, List.getElem_toArray, List.getElem_cons_succ, List.getElem_cons_zero]
    refine takeOn (i := 32) (v := ?_) rfl (by kernel_rfl) (by kernel_rfl) (by kernel_rfl) (fun _ _ _ h => h) (by rfl) ?_ (by assumption) ?_
    rotate_left
    focus (intro w hSw; (try dsimp only at hSw); go_simp; (try with_reducible rfl))
    try simp only [Act.put, List.setIfInBounds_toArray, List.set_cons_zero, List.set_cons_succ, List.getElem_toArray, List.getElem_cons_succ, List.getElem_cons_zero]
    refine takeOn (i := 33) (v := ?_) rfl (by kernel_rfl) (by kernel_rfl) (by kernel_rfl) (fun _ _ _ h => h) (by rfl) ?_ (by assumption) ?_
    rotate_left
    focus (intro w hSw; (try dsimp only at hSw); go_simp; (try with_reducible rfl))
    try simp only [Act.put, List.setIfInBounds_toArray, List.set_cons_zero, List.set_cons_succ, List.getElem_toArray, List.getElem_cons_succ, List.getElem_cons_zero]
    refine takeOn (i := 34) (v := ?_) rfl (by kernel_rfl) (by kernel_rfl) (by kernel_rfl) (fun _ _ _ h => h) (by rfl) ?_ (by assumption) ?_
    rotate_left
    focus (intro w hSw; (try dsimp only at hSw); go_simp; (try with_reducible rfl))
    try simp only [Act.put, List.setIfInBounds_toArray, List.set_cons_zero, List.set_cons_succ, List.getElem_toArray, List.getElem_cons_succ, List.getElem_cons_zero]
    refine takeOn (i := 35) (v := ?_) rfl (by kernel_rfl) (by kernel_rfl) (by kernel_rfl) (fun _ _ _ h => h) (by rfl) ?_ (by assumption) ?_
    rotate_left
    focus (intro w hSw; (try dsimp only at hSw); go_simp; (try with_reducible rfl))
    try simp only [Act.put, List.setIfInBounds_toArray, List.set_cons_zero, List.set_cons_succ, List.getElem_toArray, List.getElem_cons_succ, List.getElem_cons_zero]
    refine takeOn (i := 36) (v := ?_) rfl (by kernel_rfl) (by kernel_rfl) (by kernel_rfl) (fun _ _ _ h => h) (by rfl) ?_ (by assumption) ?_
    rotate_left
    focus (intro w hSw; (try dsimp only at hSw); go_simp; (try with_reducible rfl))
    try simp only [Act.put, List.setIfInBounds_toArray, List.set_cons_zero, List.set_cons_succ, List.getElem_toArray, List.getElem_cons_succ, List.getElem_cons_zero]
    refine takeOff (i := 37) rfl (by kernel_rfl) (by kernel_rfl) (by kernel_rfl) (fun _ _ _ h => h) (by rfl) (by assumption) ?_
    try simp only [Act.put, List.setIfInBounds_toArray, List.set_cons_zero, List.set_cons_succ, List.getElem_toArray, List.getElem_cons_succ, List.getElem_cons_zero]
    refine takeOff (i := 38) rfl (by kernel_rfl) (by kernel_rfl) (by kernel_rfl) (fun _ _ _ h => h) (by rfl) (by assumption) ?_
    try simp only [Act.put, List.setIfInBounds_toArray, List.set_cons_zero, List.set_cons_succ, List.getElem_toArray, List.getElem_cons_succ, List.getElem_cons_zero]
    refine takeOff (i := 39) rfl (by kernel_rfl) (by kernel_rfl) (by kernel_rfl) (fun _ _ _ h => h) (by rfl) (by assumption) ?_
    try simp only [Act.put, List.setIfInBounds_toArray, List.set_cons_zero, List.set_cons_succ, List.getElem_toArray, List.getElem_cons_succ, List.getElem_cons_zero]
    refine takeOff (i := 40) rfl (by kernel_rfl) (by kernel_rfl) (by kernel_rfl) (fun _ _ _ h => h) (by rfl) (by assumption) ?_
    try simp only [Act.put, List.setIfInBounds_toArray, List.set_cons_zero, List.set_cons_succ, List.getElem_toArray, List.getElem_cons_succ, List.getElem_cons_zero]
    refine takeOff (i := 41) rfl (by kernel_rfl) (by kernel_rfl) (by kernel_rfl) (fun _ _ _ h => h) (by rfl) (by assumption) ?_
    try simp only [Act.put, List.setIfInBounds_toArray, List.set_cons_zero, List.set_cons_succ, List.getElem_toArray, List.getElem_cons_succ, List.getElem_cons_zero]
    refine takeOff (i := 42) rfl (by kernel_rfl) (by kernel_rfl) (by kernel_rfl) (fun _ _ _ h => h) (by rfl) (by assumption) ?_
    try simp only [Act.put, List.setIfInBounds_toArray, List.set_cons_zero, List.set_cons_succ, List.getElem_toArray, List.getElem_cons_succ, List.getElem_cons_zero]
    refine takeOff (i := 43) rfl (by kernel_rfl) (by kernel_rfl) (by kernel_rfl) (fun _ _ _ h => h) (by rfl) (by assumption) ?_
    try simp only [Act.put, List.setIfInBounds_toArray, List.set_cons_zero, List.set_cons_succ, List.getElem_toArray, List.getElem_cons_succ, List.getElem_cons_zero]
    refine takeOff (i := 44) rfl (by kernel_rfl) (by kernel_rfl) (by kernel_rfl) (fun _ _ _ h => h) (by rfl) (by assumption) ?_
    try simp only [Act.put, List.setIfInBounds_toArray, List.set_cons_zero, List.set_cons_succ, List.getElem_toArray, List.getElem_cons_succ, List.getElem_cons_zero]
    refine takeOff (i := 45) rfl (by kernel_rfl) (by kernel_rfl) (by kernel_rfl) (fun _ _ _ h => h) (by rfl) (by assumption) ?_
    try simp only [Act.put, List.setIfInBounds_toArray, List.set_cons_zero, List.set_cons_succ, List.getElem_toArray, List.getElem_cons_succ, List.getElem_cons_zero]
    refine takeOff (i := 46) rfl (by kernel_rfl) (by kernel_rfl) (by kernel_rfl) (fun _ _ _ h => h) (by rfl) (by assumption) ?_
    try simp only [Act.put, List.setIfInBounds_toArray, List.set_cons_zero, List.set_cons_succ, List.getElem_toArray, List.getElem_cons_succ, List.getElem_cons_zero]
    refine takeOff (i := 47) rfl (by kernel_rfl) (by kernel_rfl) (by kernel_rfl) (fun _ _ _ h => h) (by rfl) (by assumption) ?_
    try simp only [Act.put, List.setIfInBounds_toArray, List.set_cons_zero, List.set_cons_succ, List.getElem_toArray, List.getElem_cons_succ, List.getElem_cons_zero]
    refine takeOff (i := 48) rfl (by kernel_rfl) (by kernel_rfl) (by kernel_rfl) (fun _ _ _ h => h) (by rfl) (by assumption) ?_
    try simp only [Act.put, List.setIfInBounds_toArray, List.set_cons_zero, List.set_cons_succ, List.getElem_toArray, List.getElem_cons_succ, List.getElem_cons_zero]
    refine takeOff (i := 49) rfl (by kernel_rfl) (by kernel_rfl) (by kernel_rfl) (fun _ _ _ h => h) (by rfl) (by assumption) ?_
    try simp only [Act.put, List.setIfInBounds_toArray, List.set_cons_zero, List.set_cons_succ, List.getElem_toArray, List.getElem_cons_succ, List.getElem_cons_zero]
    refine takeOff (i := 50) rfl (by kernel_rfl) (by kernel_rfl) (by kernel_rfl) (fun _ _ _ h => h) (by rfl) (by assumption) ?_
    try simp only [Act.put, List.setIfInBounds_toArray, List.set_cons_zero, List.set_cons_succ, List.getElem_toArray, List.getElem_cons_succ, List.getElem_cons_zero]
    refine takeOn (i := 51) (v := ?_) rfl (by kernel_rfl) (by kernel_rfl) (by kernel_rfl) (fun _ _ _ h => h) (by rfl) ?_ (by assumption) ?_
    rotate_left
    focus (intro w hSw; (try dsimp only at hSw); go_simp; (try with_reducible rfl))
    try simp only [Act.put, List.setIfInBounds_toArray, List.set_cons_zero, List.set_cons_succ, List.getElem_toArray, List.getElem_cons_succ, List.getElem_cons_zero]
    refine takeOn (i := 52) (v := ?_) rfl (by kernel_rfl) (by kernel_rfl) (by kernel_rfl) (fun _ _ _ h => h) (by rfl) ?_ (by assumption) ?_
    rotate_left
    focus (intro w hSw; (try dsimp only at hSw); go_simp; (try with_reducible rfl))
    try simp only [Act.put, List.setIfInBounds_toArray, List.set_cons_zero, List.set_cons_succ, List.getElem_toArray, List.getElem_cons_succ, List.getElem_cons_zero]
    refine takeOn (i := 53) (v := ?_) rfl (by kernel_rfl) (by kernel_rfl) (by kernel_rfl) (fun _ _ _ h => h) (by rfl) ?_ (by assumption) ?_
    rotate_left
    focus (intro w hSw; (try dsimp only at hSw); go_simp; (try with_reducible rfl))
    try simp only [Act.put, List.setIfInBounds_toArray, List.set_cons_zero, List.set_cons_succ, List.getElem_toArray, List.getElem_cons_succ, List.getElem_cons_zero]
    refine wpAnyH_done (by kernel_rfl) ?_ _
    all_goals
      go_wp2_with fail
      go_ret
      exact ⟨rfl, (HK.out.trans kk).toBelow⟩
  · have he0 : 1 ≤ e0 := by omega
    have HC1 : Hid (∀ w, Calls Try.prog 10 #[.agg #[.int .i64 0, .int .i64 0, .int .u8 0], .int .i64 a, .int .i64 b, .int .i64 c, .int .u8 mk] w fun e w' => e = .returned (.agg #[.int .i64 z, .int .i64 0, .int .u8 mk]) ∧ Keeps No w w') := hid (fun w => by
      have h := hpause_any 0 0 0 a b c mk w ⟨by omega, by omega⟩ ⟨by omega, by omega⟩ ⟨by omega, by omega⟩
      rw [show pauseD ⟨0, 0, 0⟩ a b c mk = ⟨z, 0, mk⟩ by unfold pauseD; rw [if_neg (by omega), HE.out, held_mid (by omega) (by omega), hz]] at h
      exact h)
    have HC2 : Hid (∀ w, Calls Try.prog 12 #[.agg #[.int .i64 z, .int .i64 0, .int .u8 mk], .int .i64 a, .int .i64 b, .int .i64 c] w fun e w' => e = .returned (.agg #[.int .i64 z, .int .i64 z, .int .u8 mk]) ∧ Keeps No w w') := hid (fun w => by
      have h := hsilence_any z 0 mk a b c w ⟨by omega, by omega⟩ ⟨by omega, by omega⟩ ⟨by omega, by omega⟩
      rw [show silenceD ⟨z, 0, mk⟩ a b c = ⟨z, z, mk⟩ by unfold silenceD; rw [if_neg (by omega), HE.out, held_mid (by omega) (by omega), hz]] at h
      exact h)
    have HC3 : Hid (∀ w, Calls Try.prog 17 #[.agg #[.int .i64 z, .int .i64 z, .int .u8 mk], .int .i64 (IntKind.i64.wrap (a + c))] w fun e w' => e = .returned (.bool false) ∧ Keeps No w w') := hid (fun w => by
      have h := hsilent_any z z mk (a + c) w
      rw [show (decide (a + c < z) || decide (a + c < z)) = false by simp; omega] at h; rw [HW1.out]
      exact h)
    have HC4 : Hid (∀ w, Calls Try.prog 17 #[.agg #[.int .i64 z, .int .i64 z, .int .u8 mk], .int .i64 z] w fun e w' => e = .returned (.bool false) ∧ Keeps No w w') := hid (fun w => by
      have h := hsilent_any z z mk z w
      rw [show (decide (z < z) || decide (z < z)) = false by simp] at h
      exact h)
    have HC5 : Hid (∀ w, Calls Try.prog 18 #[.int .i64 a, .int .i64 e0] w fun e w' => e = .returned (.int .i64 z) ∧ Keeps No w w') := hid (fun w => by
      have h := (madd_any a e0 w ⟨by omega, by omega⟩ ⟨by omega, by omega⟩).mono (fun e w' h => (⟨h.1, by rw [← h.2]; exact Keeps.refl No _⟩ : e = .returned (.int .i64 (held (a + e0))) ∧ Keeps No w w'))
      rw [held_mid (by omega) (by omega), hz] at h
      exact h)
    have HC6 : Hid (∀ w, Calls Try.prog 19 #[.agg #[.int .i64 z, .int .i64 z, .int .u8 mk], .int .i64 a] w fun e w' => e = .returned (.bool true) ∧ Keeps No w w') := hid (fun w => by
      have h := hpaused_any z z mk a w
      rw [show decide (a < z) = true by simp; omega] at h
      exact h)
    have HC7 : Hid (∀ w, Calls Try.prog 20 #[.agg #[.int .i64 z, .int .i64 z, .int .u8 mk], .int .i64 a] w fun e w' => e = .returned (.bool true) ∧ Keeps No w w') := hid (fun w => by
      have h := hisoff_any z z mk a w
      rw [show decide (a < z) = true by simp; omega] at h
      exact h)
    have HC8 : Hid (∀ w, Calls Try.prog 19 #[.agg #[.int .i64 z, .int .i64 z, .int .u8 mk], .int .i64 (IntKind.i64.wrap (IntKind.i64.wrap (a + e0) - 1))] w fun e w' => e = .returned (.bool true) ∧ Keeps No w w') := hid (fun w => by
      have h := hpaused_any z z mk (a + e0 - 1) w
      rw [show decide (a + e0 - 1 < z) = true by simp; omega] at h; rw [HW2.out]
      exact h)
    have HC9 : Hid (∀ w, Calls Try.prog 20 #[.agg #[.int .i64 z, .int .i64 z, .int .u8 mk], .int .i64 (IntKind.i64.wrap (IntKind.i64.wrap (a + e0) - 1))] w fun e w' => e = .returned (.bool true) ∧ Keeps No w w') := hid (fun w => by
      have h := hisoff_any z z mk (a + e0 - 1) w
      rw [show decide (a + e0 - 1 < z) = true by simp; omega] at h; rw [HW2.out]
      exact h)
    have g1 : decide (c > 0) = true := decide_eq_true (by omega)
    have g2 : decide (e0 = 0) = false := decide_eq_false (by omega)
    have g3 : (e0 == 0) = false := by first | rfl | (simp; omega)
    clear HE HW1 HW2 hee he hz
    go_enter Try.func5, Try.ntmps5
    go_wp2_with fail
    refine (HC1.out _).mono ?_
    rintro e w1 ⟨rfl, k1⟩
    have K1 := hid k1
    clear k1
    go_wp2_with fail
    refine (HC2.out _).mono ?_
    rintro e w2 ⟨rfl, k2⟩
    have K2 := hid (K1.out.trans k2)
    clear k2 HC1 HC2
    go_upto_if 34 with fail
    obtain ⟨hb, hhb⟩ : ∃ x, w2.heap.size = x := ⟨_, rfl⟩
    obtain ⟨W, hW⟩ : ∃ W, w2.alloc (.cells #[.int .i64 z, .int .i64 z, .int .u8 mk] 25) = W := ⟨_, rfl⟩
    have HB : Hid (Bk W hb 25 [.int .i64 z, .int .i64 z, .int .u8 mk]) := hid (by rw [← hW]; exact Bk.new hhb _ _)
    have HK : Hid (Keeps No w W) := hid (by rw [← hW]; exact K2.out.alloc _)
    try rw [hhb]
    rw [hW]
    clear hW hhb K2
    go_cut [13] from 34 to 35 (fun v13 wx => v13 = .int .i64 e0 ∧ Hid (wx = W))
    case first =>
      have HE0 := HEE.out
      by_cases hcb : c < b
      · have d1 : decide (c < b) = true := decide_eq_true hcb
        have hce : c = e0 := by omega
        have HCE := hid hce
        clear HE0 hce
        go_wp2_with fail
        go_meet
        exact ⟨by rw [HCE.out], hid rfl⟩
      · have d1 : decide (c < b) = false := decide_eq_false hcb
        have hce : b = e0 := by omega
        have HCE := hid hce
        clear HE0 hce
        go_wp2_with fail
        go_meet
        exact ⟨by rw [HCE.out], hid rfl⟩
    case rest =>
    obtain ⟨rfl, HWW⟩ := hcut
    have hww := HWW.out
    subst hww
    clear HWW
    go_upto_region 6 with fail
    have x0_0 := HB.out.cell 0 rfl
    have x0_1 := HB.out.cell 1 rfl
    have x0_2 := HB.out.cell 2 rfl
    first | go_region_held3 (fun w' => w'.cell? ⟨hb, 0, none⟩ = some (.int .i64 z) ∧ w'.cell? ⟨hb, 1, none⟩ = some (.int .i64 z) ∧ w'.cell? ⟨hb, 2, none⟩ = some (.int .u8 mk)) (first | with_reducible exact ⟨x0_0, x0_1, x0_2⟩ | with_reducible exact ⟨cellDr x0_0, cellDr x0_1, cellDr x0_2⟩ | with_reducible exact ⟨cellA _ x0_0, cellA _ x0_1, cellA _ x0_2⟩ | with_reducible exact ⟨cellDr (cellA _ x0_0), cellDr (cellA _ x0_1), cellDr (cellA _ x0_2)⟩ | (go_keep; done)) (first | (go_at_call 9; (with_reducible refine (ends_true _).mono ?_); rintro e w9 ⟨rfl, k⟩; have kk : Keeps No wc w9 := Keeps.trans (by repeat' (first | with_reducible exact Keeps.refl _ _ | with_reducible assumption | with_reducible refine Keeps.drewN ?_ _ | with_reducible refine Keeps.drew ?_ | with_reducible refine Keeps.alloc ?_ _)) k; have g0 := HB.out.kept kk; have x0_0 := g0.cell 0 rfl; have x0_1 := g0.cell 1 rfl; have x0_2 := g0.cell 2 rfl; clear k g0) | (go_at_call 17; (with_reducible refine (HC3.out _).mono ?_); rintro e w9 ⟨rfl, k⟩; have kk : Keeps No wc w9 := Keeps.trans (by repeat' (first | with_reducible exact Keeps.refl _ _ | with_reducible assumption | with_reducible refine Keeps.drewN ?_ _ | with_reducible refine Keeps.drew ?_ | with_reducible refine Keeps.alloc ?_ _)) k; have g0 := HB.out.kept kk; have x0_0 := g0.cell 0 rfl; have x0_1 := g0.cell 1 rfl; have x0_2 := g0.cell 2 rfl; clear k g0) | (go_at_call 18; (with_reducible refine (HC5.out _).mono ?_); rintro e w9 ⟨rfl, k⟩; have kk : Keeps No wc w9 := Keeps.trans (by repeat' (first | with_reducible exact Keeps.refl _ _ | with_reducible assumption | with_reducible refine Keeps.drewN ?_ _ | with_reducible refine Keeps.drew ?_ | with_reducible refine Keeps.alloc ?_ _)) k; have g0 := HB.out.kept kk; have x0_0 := g0.cell 0 rfl; have x0_1 := g0.cell 1 rfl; have x0_2 := g0.cell 2 rfl; clear k g0) | (go_at_call 17; (with_reducible refine (HC4.out _).mono ?_); rintro e w9 ⟨rfl, k⟩; have kk : Keeps No wc w9 := Keeps.trans (by repeat' (first | with_reducible exact Keeps.refl _ _ | with_reducible assumption | with_reducible refine Keeps.drewN ?_ _ | with_reducible refine Keeps.drew ?_ | with_reducible refine Keeps.alloc ?_ _)) k; have g0 := HB.out.kept kk; have x0_0 := g0.cell 0 rfl; have x0_1 := g0.cell 1 rfl; have x0_2 := g0.cell 2 rfl; clear k g0) | (go_at_call 19; (with_reducible refine (HC6.out _).mono ?_); rintro e w9 ⟨rfl, k⟩; have kk : Keeps No wc w9 := Keeps.trans (by repeat' (first | with_reducible exact Keeps.refl _ _ | with_reducible assumption | with_reducible refine Keeps.drewN ?_ _ | with_reducible refine Keeps.drew ?_ | with_reducible refine Keeps.alloc ?_ _)) k; have g0 := HB.out.kept kk; have x0_0 := g0.cell 0 rfl; have x0_1 := g0.cell 1 rfl; have x0_2 := g0.cell 2 rfl; clear k g0) | (go_at_call 20; (with_reducible refine (HC7.out _).mono ?_); rintro e w9 ⟨rfl, k⟩; have kk : Keeps No wc w9 := Keeps.trans (by repeat' (first | with_reducible exact Keeps.refl _ _ | with_reducible assumption | with_reducible refine Keeps.drewN ?_ _ | with_reducible refine Keeps.drew ?_ | with_reducible refine Keeps.alloc ?_ _)) k; have g0 := HB.out.kept kk; have x0_0 := g0.cell 0 rfl; have x0_1 := g0.cell 1 rfl; have x0_2 := g0.cell 2 rfl; clear k g0) | (go_at_call 19; (with_reducible refine (HC8.out _).mono ?_); rintro e w9 ⟨rfl, k⟩; have kk : Keeps No wc w9 := Keeps.trans (by repeat' (first | with_reducible exact Keeps.refl _ _ | with_reducible assumption | with_reducible refine Keeps.drewN ?_ _ | with_reducible refine Keeps.drew ?_ | with_reducible refine Keeps.alloc ?_ _)) k; have g0 := HB.out.kept kk; have x0_0 := g0.cell 0 rfl; have x0_1 := g0.cell 1 rfl; have x0_2 := g0.cell 2 rfl; clear k g0) | (go_at_call 20; (with_reducible refine (HC9.out _).mono ?_); rintro e w9 ⟨rfl, k⟩; have kk : Keeps No wc w9 := Keeps.trans (by repeat' (first | with_reducible exact Keeps.refl _ _ | with_reducible assumption | with_reducible refine Keeps.drewN ?_ _ | with_reducible refine Keeps.drew ?_ | with_reducible refine Keeps.alloc ?_ _)) k; have g0 := HB.out.kept kk; have x0_0 := g0.cell 0 rfl; have x0_1 := g0.cell 1 rfl; have x0_2 := g0.cell 2 rfl; clear k g0)) | fail
    all_goals
      go_wp2_with fail
      go_ret
      exact ⟨rfl, (HK.out.trans kk).toBelow⟩

theorem own : ownKnob Try.prog.godebug = none := by kernel_rfl
theorem laidOut : laidOutB Try.prog = true := by kernel_rfl
set_option maxRecDepth 100000 in
theorem lifted (os : Os) (started : os.Started) (H : Type) (enc : TypeId × Value → H) :
    ReturnsInHanded {} Try.checked os 5 .any (Rows.hushEndsSpec.pre6 enc Try.prog Try.f5 Rows.hushEndsRow.domain false) (Rows.hushEndsSpec.post enc Try.prog Try.f5 false true false false) := by
  refine returnsInHanded_of_change (C := Try.checked) own started (by kernel_rfl) Try.func5
    (ChangeSpec.witness6 (enc := enc) (C := Try.checked) false ⟨#[], #[.int .u32 0, .int .u32 0, .int .u32 0, .int .u8 0], []⟩ 8 (by kernel_rfl) (by kernel_rfl) (by kernel_rfl) (by kernel_rfl)) ?_
  intro W base args ds gs before hval0 hW hcnd _
  have hval : ∀ (j : Nat) t v, Try.f5.params[j]? = some t → args[j]? = some v → Value.okWide Try.prog W .any base t v := hval0
  have hW' := hW
  obtain ⟨p, q, hA0, hV, rfl, hfz, hnd⟩ := hW
  have hA : DataW.TrodAll enc Try.prog W 0 (fun _ => true) true Try.f5.params.toList args.toList ds p := hA0
  rw [Try.params5] at hA hval
  obtain ⟨v0, vs0, d0, ds0, p0, q0, hargs, rfl, rfl, h0, r0⟩ := trodAll_cons hA
  obtain ⟨v1, vs1, d1, ds1, p1, q1, rfl, rfl, rfl, h1, r1⟩ := trodAll_cons r0
  obtain ⟨v2, vs2, d2, ds2, p2, q2, rfl, rfl, rfl, h2, r2⟩ := trodAll_cons r1
  obtain ⟨v3, vs3, d3, ds3, p3, q3, rfl, rfl, rfl, h3, r3⟩ := trodAll_cons r2
  obtain ⟨rfl, rfl, rfl⟩ := trodAll_nil r3
  obtain rfl : args = #[v0, v1, v2, v3] := by cases args; simp_all
  obtain ⟨rfl, rfl⟩ := trodVars_none hV
  have k0 := h0
  have lt0 : ∀ x ∈ p0, x.block < W.heap.size := by obtain ⟨m, hm⟩ := k0; exact DataW.trod_lt m _ _ _ hm
  have k1 := h1
  have lt1 : ∀ x ∈ p1, x.block < W.heap.size := by obtain ⟨m, hm⟩ := k1; exact DataW.trod_lt m _ _ _ hm
  have k2 := h2
  have lt2 : ∀ x ∈ p2, x.block < W.heap.size := by obtain ⟨m, hm⟩ := k2; exact DataW.trod_lt m _ _ _ hm
  have k3 := h3
  have lt3 : ∀ x ∈ p3, x.block < W.heap.size := by obtain ⟨m, hm⟩ := k3; exact DataW.trod_lt m _ _ _ hm
  obtain ⟨a0, rfl, rfl, rfl, w0⟩ := open_int Try.underlying40 (hval 0 40 v0 rfl rfl) h0
  obtain ⟨a1, rfl, rfl, rfl, w1⟩ := open_int Try.underlying40 (hval 1 40 v1 rfl rfl) h1
  obtain ⟨a2, rfl, rfl, rfl, w2⟩ := open_int Try.underlying40 (hval 2 40 v2 rfl rfl) h2
  obtain ⟨a3, rfl, rfl, rfl, w3⟩ := open_int Try.underlying5 (hval 3 5 v3 rfl rfl) h3
  clear hA0 hval0
  refine (walk W a0 w0 a1 w1 a2 w2 a3 w3).mono fun e W' ⟨he, bel⟩ => ?_
  subst he
  exact ⟨_, rfl, _, _, _, [], _, [], hW', trodAll_mk1 (shut_bool Try.underlying4 _), (trodAll_cons_mk (Below.trod laidOut (by kernel_rfl) (of_decide_eq_true (by kernel_rfl)) k0 bel lt0) (trodAll_cons_mk (Below.trod laidOut (by kernel_rfl) (of_decide_eq_true (by kernel_rfl)) k1 bel lt1) (trodAll_cons_mk (Below.trod laidOut (by kernel_rfl) (of_decide_eq_true (by kernel_rfl)) k2 bel lt2) (trodAll_cons_mk (Below.trod laidOut (by kernel_rfl) (of_decide_eq_true (by kernel_rfl)) k3 bel lt3) trodAll_mk0)))), rfl, bel.frame _, fun h => by cases h⟩

theorem over : Rows.hushEndsRow.holds Try.pinned (OpenSpec.ofChange Rows.hushEndsSpec) :=
  OpenClaim.holds_of_wide 5 Try.f5 rfl rfl rfl rfl rfl rfl rfl ⟨rfl, rfl, rfl, rfl, rfl⟩ rfl rfl rfl rfl rfl (by kernel_rfl) Try.func5 (by kernel_rfl)
    (of_decide_eq_true (by kernel_rfl)) (by unfold Func.isWrapper; first | (rw [if_pos (by decide +kernel)]; kernel_rfl) | (rw [if_neg (by decide +kernel)]; exact ⟨rfl, rfl⟩))
    (fun os started H enc _ => lifted os started H enc)

theorem proved : Rows.HushEndsSaid := over
#print axioms proved
end Go.Proofs.Ytgdkpnfonnafaaa.hushEnds
