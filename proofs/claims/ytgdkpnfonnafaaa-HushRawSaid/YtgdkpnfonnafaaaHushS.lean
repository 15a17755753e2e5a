/-
  Hushes: the program's.
-/
import Derived.Test.YtgdkpnfonnafaaaHushP
import Derived.Test.YtgdkpnfonnafaaaTimeA
import Derived.Deep.RegionHeld3
import Derived.Deep.DeepCutAuto
import Derived.Deep.CutBlock
namespace Go.Proofs.Ytgdkpnfonnafaaa
open Go.RowKit
set_option linter.unusedVariables false

set_option maxHeartbeats 2000000 in
set_option maxRecDepth 100000 in
theorem hpaused_any (u o m now : Int) (w : World) :
    Calls Try.prog 19 #[.agg #[.int .i64 u, .int .i64 o, .int .u8 m], .int .i64 now] w fun e w' => e = .returned (.bool (decide (now < u))) ∧ Keeps No w w' := by
  go_enter Try.func19, Try.ntmps19
  go_wp2_with fail
  go_ret
  refine ⟨rfl, ?_⟩
  repeat' (first | with_reducible exact Keeps.refl _ _ | with_reducible assumption | with_reducible refine Keeps.drewN ?_ _ | with_reducible refine Keeps.drew ?_ | with_reducible refine Keeps.alloc ?_ _ | with_reducible refine Keeps.setCell ?_ ?_ _ | exact Or.inl (by simp) | exact Or.inl (by simp; omega) | exact Or.inl (by omega))

set_option maxHeartbeats 2000000 in
set_option maxRecDepth 100000 in
theorem hisoff_any (u o m now : Int) (w : World) :
    Calls Try.prog 20 #[.agg #[.int .i64 u, .int .i64 o, .int .u8 m], .int .i64 now] w fun e w' => e = .returned (.bool (decide (now < o))) ∧ Keeps No w w' := by
  go_enter Try.func20, Try.ntmps20
  go_wp2_with fail
  go_ret
  refine ⟨rfl, ?_⟩
  repeat' (first | with_reducible exact Keeps.refl _ _ | with_reducible assumption | with_reducible refine Keeps.drewN ?_ _ | with_reducible refine Keeps.drew ?_ | with_reducible refine Keeps.alloc ?_ _ | with_reducible refine Keeps.setCell ?_ ?_ _ | exact Or.inl (by simp) | exact Or.inl (by simp; omega) | exact Or.inl (by omega))

set_option maxHeartbeats 4000000 in
set_option maxRecDepth 100000 in
theorem hend_any (now t most : Int) (w : World) (hn : I64 now) (ht : I64 t) (hm : I64 most) :
    Calls Try.prog 21 #[.int .i64 now, .int .i64 t, .int .i64 most] w fun e w' => e = .returned (.int .i64 (held (now + leastI t most))) ∧ w = w' := by
  have HA := hid (fun w' => add_any now (leastI t most) w' hn (leastI_i64 ht hm))
  obtain ⟨a, ha⟩ : ∃ a, held (now + leastI t most) = a := ⟨_, rfl⟩
  rw [ha] at HA ⊢
  clear ha hn ht hm
  by_cases h2 : t ≤ most
  · have e2 : leastI t most = t := by unfold leastI; split <;> omega
    rw [e2] at HA
    clear e2
    go_enter Try.func21, Try.ntmps21
    go_wp2_with fail
    refine (HA.out _).mono ?_
    rintro e w2 ⟨rfl, rfl⟩
    go_wp2_with fail
    go_ret
    exact ⟨rfl, rfl⟩
  · have e2 : leastI t most = most := by unfold leastI; split <;> omega
    rw [e2] at HA
    clear e2
    go_enter Try.func21, Try.ntmps21
    go_wp2_with fail
    refine (HA.out _).mono ?_
    rintro e w2 ⟨rfl, rfl⟩
    go_wp2_with fail
    go_ret
    exact ⟨rfl, rfl⟩

set_option maxHeartbeats 4000000 in
set_option maxRecDepth 100000 in
theorem hpause_any (u o m now t most : Int) (k : Int) (w : World) (hn : I64 now) (ht : I64 t) (hm : I64 most) :
    Calls Try.prog 10 #[.agg #[.int .i64 u, .int .i64 o, .int .u8 m], .int .i64 now, .int .i64 t, .int .i64 most, .int .u8 k] w fun e w' => e = .returned (pauseD ⟨u, o, m⟩ now t most k).val ∧ Keeps No w w' := by
  by_cases h1 : t < 1
  · have d1 : decide (t < 1) = true := decide_eq_true h1
    have e : pauseD ⟨u, o, m⟩ now t most k = ⟨u, o, m⟩ := by unfold pauseD; rw [if_pos h1]
    rw [e]
    clear e hn ht hm
    go_enter Try.func10, Try.ntmps10
    go_wp2_with fail
    go_returns
    refine ⟨rfl, ?_⟩
    repeat' (first | with_reducible exact Keeps.refl _ _ | with_reducible assumption | with_reducible refine Keeps.drewN ?_ _ | with_reducible refine Keeps.drew ?_ | with_reducible refine Keeps.alloc ?_ _ | with_reducible refine Keeps.setCell ?_ ?_ _ | exact Or.inl (by simp) | exact Or.inl (by simp; omega) | exact Or.inl (by omega))
  have d1 : decide (t < 1) = false := decide_eq_false h1
  have e : pauseD ⟨u, o, m⟩ now t most k = ⟨held (now + leastI t most), o, k⟩ := by unfold pauseD; rw [if_neg h1]
  rw [e]
  have HA := hid (fun w' => hend_any now t most w' hn ht hm)
  obtain ⟨a, ha⟩ : ∃ a, held (now + leastI t most) = a := ⟨_, rfl⟩
  rw [ha] at HA ⊢
  clear e ha hn ht hm
  go_enter Try.func10, Try.ntmps10
  go_wp2_with fail
  refine (HA.out _).mono ?_
  rintro e w2 ⟨rfl, rfl⟩
  go_wp2_with fail
  go_returns
  refine ⟨rfl, ?_⟩
  repeat' (first | with_reducible exact Keeps.refl _ _ | with_reducible assumption | with_reducible refine Keeps.drewN ?_ _ | with_reducible refine Keeps.drew ?_ | with_reducible refine Keeps.alloc ?_ _ | with_reducible refine Keeps.setCell ?_ ?_ _ | exact Or.inl (by simp) | exact Or.inl (by simp; omega) | exact Or.inl (by omega))

set_option maxHeartbeats 4000000 in
set_option maxRecDepth 100000 in
theorem hsilence_any (u o m now t most : Int) (w : World) (hn : I64 now) (ht : I64 t) (hm : I64 most) :
    Calls Try.prog 12 #[.agg #[.int .i64 u, .int .i64 o, .int .u8 m], .int .i64 now, .int .i64 t, .int .i64 most] w fun e w' => e = .returned (silenceD ⟨u, o, m⟩ now t most).val ∧ Keeps No w w' := by
  by_cases h1 : t < 1
  · have d1 : decide (t < 1) = true := decide_eq_true h1
    have e : silenceD ⟨u, o, m⟩ now t most = ⟨u, o, m⟩ := by unfold silenceD; rw [if_pos h1]
    rw [e]
    clear e hn ht hm
    go_enter Try.func12, Try.ntmps12
    go_wp2_with fail
    go_returns
    refine ⟨rfl, ?_⟩
    repeat' (first | with_reducible exact Keeps.refl _ _ | with_reducible assumption | with_reducible refine Keeps.drewN ?_ _ | with_reducible refine Keeps.drew ?_ | with_reducible refine Keeps.alloc ?_ _ | with_reducible refine Keeps.setCell ?_ ?_ _ | exact Or.inl (by simp) | exact Or.inl (by simp; omega) | exact Or.inl (by omega))
  have d1 : decide (t < 1) = false := decide_eq_false h1
  have e : silenceD ⟨u, o, m⟩ now t most = ⟨u, held (now + leastI t most), m⟩ := by unfold silenceD; rw [if_neg h1]
  rw [e]
  have HA := hid (fun w' => hend_any now t most w' hn ht hm)
  obtain ⟨a, ha⟩ : ∃ a, held (now + leastI t most) = a := ⟨_, rfl⟩
  rw [ha] at HA ⊢
  clear e ha hn ht hm
  go_enter Try.func12, Try.ntmps12
  go_wp2_with fail
  refine (HA.out _).mono ?_
  rintro e w2 ⟨rfl, rfl⟩
  go_wp2_with fail
  go_returns
  refine ⟨rfl, ?_⟩
  repeat' (first | with_reducible exact Keeps.refl _ _ | with_reducible assumption | with_reducible refine Keeps.drewN ?_ _ | with_reducible refine Keeps.drew ?_ | with_reducible refine Keeps.alloc ?_ _ | with_reducible refine Keeps.setCell ?_ ?_ _ | exact Or.inl (by simp) | exact Or.inl (by simp; omega) | exact Or.inl (by omega))

set_option maxHeartbeats 4000000 in
set_option maxRecDepth 100000 in
theorem hbreak_any (u o m now p : Int) (w : World) :
    Calls Try.prog 14 #[.agg #[.int .i64 u, .int .i64 o, .int .u8 m], .int .i64 now, .int .u8 p] w fun e w' => e = .returned (breakD ⟨u, o, m⟩ now p).val ∧ Keeps No w w' := by
  by_cases h1 : now < u
  · have d1 : decide (now < u) = true := decide_eq_true h1
    by_cases h2 : m < p
    · have d2 : decide (p > m) = true := decide_eq_true h2
      have e : breakD ⟨u, o, m⟩ now p = ⟨now, o, m⟩ := by unfold breakD; rw [if_pos ⟨h1, h2⟩]
      rw [e]
      clear e
      go_enter Try.func14, Try.ntmps14
      go_upto_region 1 with fail
      obtain ⟨W, hW⟩ : ∃ W, (w.alloc (.cells #[.int .i64 u, .int .i64 o, .int .u8 m] 25)).alloc (.cells #[.int .i64 0, .int .i64 0, .int .u8 0] 25) = W := ⟨_, rfl⟩
      have hB : Bk W w.heap.size 25 [.int .i64 u, .int .i64 o, .int .u8 m] := by rw [← hW]; exact (Bk.new rfl _ _).alloc _
      have hR : Bk W (w.heap.size + 1) 25 [.int .i64 0, .int .i64 0, .int .u8 0] := by rw [← hW]; exact Bk.new (by simp) _ _
      have K0 : Hid (Keeps No w W) := hid (by rw [← hW]; exact ((Keeps.refl _ _).alloc _).alloc _)
      rw [hW]
      have x0 := hB.cell 0 rfl
      have x1 := hB.cell 1 rfl
      have x2 := hB.cell 2 rfl
      have HB := hid hB
      have HR := hid hR
      clear hW hB hR
      go_wp2_with fail
      refine (hpaused_any u o m now _).mono ?_
      rintro e w1 ⟨rfl, k⟩
      have hB := HB.out.kept k
      have hR := HR.out.kept k
      have K1 := hid (K0.out.trans k)
      have x0 := hB.cell 0 rfl
      have x1 := hB.cell 1 rfl
      have x2 := hB.cell 2 rfl
      have g0 := hB.free 0
      have y0 := hR.cell 0 rfl
      have y1 := hR.cell 1 rfl
      have y2 := hR.cell 2 rfl
      have f0 := hR.free 0
      have f1 := hR.free 1
      have f2 := hR.free 2
      have hne : ¬ w.heap.size = w.heap.size + 1 := by omega
      have hne' : ¬ w.heap.size + 1 = w.heap.size := by omega
      have HR1 := hid hR
      clear k hB hR HB HR
      go_wp2_with fail
      have hr : ∃ w2, w2 = w1 := ⟨_, rfl⟩
      have hR := Bk.other HR1.out hne' (.int .i64 now) (p := ⟨w.heap.size, 0, none⟩)
      have hr := ((hR.put 0 (.int .i64 now) rfl).put 1 (.int .i64 o) rfl).put 2 (.int .u8 m) rfl
      have z0 := hr.cell 0 rfl
      have z1 := hr.cell 1 rfl
      have z2 := hr.cell 2 rfl
      refine bodyPost_ret (v := .agg #[.int .i64 now, .int .i64 o, .int .u8 m]) (by simp [results, Try.results14, go_sem, z0, z1, z2]) rfl ?_
      refine ⟨rfl, ?_⟩
      have k1 := K1.out
      repeat' (first | with_reducible exact k1 | with_reducible refine Keeps.drewN ?_ _ | with_reducible refine Keeps.drew ?_ | with_reducible refine Keeps.setCell ?_ ?_ _ | exact Or.inl (Nat.le_succ _) | exact Or.inl (Nat.le_refl _))
    · have d2 : decide (p > m) = false := decide_eq_false h2
      have e : breakD ⟨u, o, m⟩ now p = ⟨u, o, m⟩ := by unfold breakD; rw [if_neg (fun h => h2 h.2)]
      rw [e]
      clear e
      go_enter Try.func14, Try.ntmps14
      go_upto_region 1 with fail
      obtain ⟨W, hW⟩ : ∃ W, (w.alloc (.cells #[.int .i64 u, .int .i64 o, .int .u8 m] 25)).alloc (.cells #[.int .i64 0, .int .i64 0, .int .u8 0] 25) = W := ⟨_, rfl⟩
      have hB : Bk W w.heap.size 25 [.int .i64 u, .int .i64 o, .int .u8 m] := by rw [← hW]; exact (Bk.new rfl _ _).alloc _
      have hR : Bk W (w.heap.size + 1) 25 [.int .i64 0, .int .i64 0, .int .u8 0] := by rw [← hW]; exact Bk.new (by simp) _ _
      have K0 : Hid (Keeps No w W) := hid (by rw [← hW]; exact ((Keeps.refl _ _).alloc _).alloc _)
      rw [hW]
      have x0 := hB.cell 0 rfl
      have x1 := hB.cell 1 rfl
      have x2 := hB.cell 2 rfl
      have HB := hid hB
      have HR := hid hR
      clear hW hB hR
      go_wp2_with fail
      refine (hpaused_any u o m now _).mono ?_
      rintro e w1 ⟨rfl, k⟩
      have hB := HB.out.kept k
      have hR := HR.out.kept k
      have K1 := hid (K0.out.trans k)
      have x0 := hB.cell 0 rfl
      have x1 := hB.cell 1 rfl
      have x2 := hB.cell 2 rfl
      have g0 := hB.free 0
      have y0 := hR.cell 0 rfl
      have y1 := hR.cell 1 rfl
      have y2 := hR.cell 2 rfl
      have f0 := hR.free 0
      have f1 := hR.free 1
      have f2 := hR.free 2
      have hne : ¬ w.heap.size = w.heap.size + 1 := by omega
      have hne' : ¬ w.heap.size + 1 = w.heap.size := by omega
      have HR1 := hid hR
      clear k hB hR HB HR
      go_wp2_with fail
      have hr : ∃ w2, w2 = w1 := ⟨_, rfl⟩
      have hR := HR1.out
      have hr := ((hR.put 0 (.int .i64 u) rfl).put 1 (.int .i64 o) rfl).put 2 (.int .u8 m) rfl
      have z0 := hr.cell 0 rfl
      have z1 := hr.cell 1 rfl
      have z2 := hr.cell 2 rfl
      refine bodyPost_ret (v := .agg #[.int .i64 u, .int .i64 o, .int .u8 m]) (by simp [results, Try.results14, go_sem, z0, z1, z2]) rfl ?_
      refine ⟨rfl, ?_⟩
      have k1 := K1.out
      repeat' (first | with_reducible exact k1 | with_reducible refine Keeps.drewN ?_ _ | with_reducible refine Keeps.drew ?_ | with_reducible refine Keeps.setCell ?_ ?_ _ | exact Or.inl (Nat.le_succ _) | exact Or.inl (Nat.le_refl _))
  · have d1 : decide (now < u) = false := decide_eq_false h1
    have e : breakD ⟨u, o, m⟩ now p = ⟨u, o, m⟩ := by unfold breakD; rw [if_neg (fun h => h1 h.1)]
    rw [e]
    clear e
    go_enter Try.func14, Try.ntmps14
    go_upto_region 1 with fail
    obtain ⟨W, hW⟩ : ∃ W, (w.alloc (.cells #[.int .i64 u, .int .i64 o, .int .u8 m] 25)).alloc (.cells #[.int .i64 0, .int .i64 0, .int .u8 0] 25) = W := ⟨_, rfl⟩
    have hB : Bk W w.heap.size 25 [.int .i64 u, .int .i64 o, .int .u8 m] := by rw [← hW]; exact (Bk.new rfl _ _).alloc _
    have hR : Bk W (w.heap.size + 1) 25 [.int .i64 0, .int .i64 0, .int .u8 0] := by rw [← hW]; exact Bk.new (by simp) _ _
    have K0 : Hid (Keeps No w W) := hid (by rw [← hW]; exact ((Keeps.refl _ _).alloc _).alloc _)
    rw [hW]
    have x0 := hB.cell 0 rfl
    have x1 := hB.cell 1 rfl
    have x2 := hB.cell 2 rfl
    have HB := hid hB
    have HR := hid hR
    clear hW hB hR
    go_wp2_with fail
    refine (hpaused_any u o m now _).mono ?_
    rintro e w1 ⟨rfl, k⟩
    have hB := HB.out.kept k
    have hR := HR.out.kept k
    have K1 := hid (K0.out.trans k)
    have x0 := hB.cell 0 rfl
    have x1 := hB.cell 1 rfl
    have x2 := hB.cell 2 rfl
    have g0 := hB.free 0
    have y0 := hR.cell 0 rfl
    have y1 := hR.cell 1 rfl
    have y2 := hR.cell 2 rfl
    have f0 := hR.free 0
    have f1 := hR.free 1
    have f2 := hR.free 2
    have hne : ¬ w.heap.size = w.heap.size + 1 := by omega
    have hne' : ¬ w.heap.size + 1 = w.heap.size := by omega
    have HR1 := hid hR
    clear k hB hR HB HR
    go_wp2_with fail
    have hr : ∃ w2, w2 = w1 := ⟨_, rfl⟩
    have hR := HR1.out
    have hr := ((hR.put 0 (.int .i64 u) rfl).put 1 (.int .i64 o) rfl).put 2 (.int .u8 m) rfl
    have z0 := hr.cell 0 rfl
    have z1 := hr.cell 1 rfl
    have z2 := hr.cell 2 rfl
    refine bodyPost_ret (v := .agg #[.int .i64 u, .int .i64 o, .int .u8 m]) (by simp [results, Try.results14, go_sem, z0, z1, z2]) rfl ?_
    refine ⟨rfl, ?_⟩
    have k1 := K1.out
    repeat' (first | with_reducible exact k1 | with_reducible refine Keeps.drewN ?_ _ | with_reducible refine Keeps.drew ?_ | with_reducible refine Keeps.setCell ?_ ?_ _ | exact Or.inl (Nat.le_succ _) | exact Or.inl (Nat.le_refl _))

set_option maxHeartbeats 2000000 in
set_option maxRecDepth 100000 in
theorem hsilent_any (u o m now : Int) (w : World) :
    Calls Try.prog 17 #[.agg #[.int .i64 u, .int .i64 o, .int .u8 m], .int .i64 now] w fun e w' => e = .returned (.bool (decide (now < u) || decide (now < o))) ∧ Keeps No w w' := by
  by_cases h1 : now < u
  · have d1 : decide (now < u) = true := decide_eq_true h1
    rw [d1]
    go_enter Try.func17, Try.ntmps17
    go_wp2_with fail
    refine (hpaused_any u o m now _).mono ?_
    rintro e w1 ⟨rfl, k1⟩
    have K1 := hid (Keeps.trans ((Keeps.refl No w).alloc _) k1)
    clear k1
    go_wp2_with fail
    go_ret
    exact ⟨rfl, K1.out⟩
  · have d1 : decide (now < u) = false := decide_eq_false h1
    rw [d1]
    go_enter Try.func17, Try.ntmps17
    go_wp2_with fail
    refine (hpaused_any u o m now _).mono ?_
    rintro e w1 ⟨rfl, k1⟩
    have hb := (Bk.new (w := w) rfl [.int .i64 u, .int .i64 o, .int .u8 m] 25).kept k1
    have x0 := hb.cell 0 rfl
    have x1 := hb.cell 1 rfl
    have x2 := hb.cell 2 rfl
    have K1 := hid (Keeps.trans ((Keeps.refl No w).alloc _) k1)
    clear k1 hb
    go_wp2_with fail
    refine (hisoff_any u o m now _).mono ?_
    rintro e w2 ⟨rfl, k2⟩
    have K2 := hid (K1.out.trans k2)
    clear k2
    go_wp2_with fail
    go_ret
    exact ⟨rfl, K2.out⟩

end Go.Proofs.Ytgdkpnfonnafaaa
