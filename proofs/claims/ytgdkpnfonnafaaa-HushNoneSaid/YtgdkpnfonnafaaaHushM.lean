/-
  Hushes: the document's.
-/
import Derived.Test.YtgdkpnfonnafaaaHushP
import Derived.Test.YtgdkpnfonnafaaaTimeMA
import Derived.Deep.RegionHeld3
import Derived.Deep.DeepCutAuto
import Derived.Deep.CutBlock
namespace Go.Proofs.Ytgdkpnfonnafaaa
open Go.RowKit
set_option linter.unusedVariables false

set_option maxHeartbeats 1000000 in
set_option maxRecDepth 100000 in
theorem mleast_any (a b : Int) (w : World) : Calls Try.prog 22 #[.int .i64 a, .int .i64 b] w fun e w' => e = .returned (.int .i64 (leastI a b)) ∧ w = w' := by
  by_cases h : a < b
  · have d : decide (a < b) = true := decide_eq_true h
    unfold leastI
    rw [if_pos h]
    go_enter Try.func22, Try.ntmps22
    go_wp2_with fail
    go_ret
    exact ⟨rfl, rfl⟩
  · have d : decide (a < b) = false := decide_eq_false h
    unfold leastI
    rw [if_neg h]
    go_enter Try.func22, Try.ntmps22
    go_wp2_with fail
    go_ret
    exact ⟨rfl, rfl⟩

set_option maxHeartbeats 4000000 in
set_option maxRecDepth 100000 in
theorem mpause_any (u o m now t most : Int) (k : Int) (w : World) (hn : I64 now) (ht : I64 t) (hm : I64 most) :
    Calls Try.prog 11 #[.agg #[.int .i64 u, .int .i64 o, .int .u8 m], .int .i64 now, .int .i64 t, .int .i64 most, .int .u8 k] w fun e w' => e = .returned (pauseD ⟨u, o, m⟩ now t most k).val ∧ Keeps No w w' := by
  by_cases h1 : t < 1
  · have d1 : decide (t < 1) = true := decide_eq_true h1
    have e : pauseD ⟨u, o, m⟩ now t most k = ⟨u, o, m⟩ := by unfold pauseD; rw [if_pos h1]
    rw [e]
    clear e hn ht hm
    go_enter Try.func11, Try.ntmps11
    go_wp2_with fail
    go_returns
    refine ⟨rfl, ?_⟩
    repeat' (first | with_reducible exact Keeps.refl _ _ | with_reducible assumption | with_reducible refine Keeps.drewN ?_ _ | with_reducible refine Keeps.drew ?_ | with_reducible refine Keeps.alloc ?_ _ | with_reducible refine Keeps.setCell ?_ ?_ _ | exact Or.inl (by simp) | exact Or.inl (by simp; omega) | exact Or.inl (by omega))
  have d1 : decide (t < 1) = false := decide_eq_false h1
  have e : pauseD ⟨u, o, m⟩ now t most k = ⟨held (now + leastI t most), o, k⟩ := by unfold pauseD; rw [if_neg h1]
  rw [e]
  have HA := hid (fun w' => madd_any now (leastI t most) w' hn (leastI_i64 ht hm))
  obtain ⟨a, ha⟩ : ∃ a, held (now + leastI t most) = a := ⟨_, rfl⟩
  rw [ha] at HA ⊢
  obtain ⟨l, hl⟩ : ∃ l, leastI t most = l := ⟨_, rfl⟩
  have HL := hid (fun w' => mleast_any t most w')
  rw [hl] at HA HL
  clear e ha hn ht hm hl
  go_enter Try.func11, Try.ntmps11
  go_upto_region 3 with fail
  obtain ⟨W, hW⟩ : ∃ W, (w.alloc (.cells #[.int .i64 u, .int .i64 o, .int .u8 m] 26)).alloc (.cells #[.int .i64 0, .int .i64 0, .int .u8 0] 26) = W := ⟨_, rfl⟩
  have hB : Bk W w.heap.size 26 [.int .i64 u, .int .i64 o, .int .u8 m] := by rw [← hW]; exact (Bk.new rfl _ _).alloc _
  have hR : Bk W (w.heap.size + 1) 26 [.int .i64 0, .int .i64 0, .int .u8 0] := by rw [← hW]; exact Bk.new (by simp) _ _
  have K0 : Hid (Keeps No w W) := hid (by rw [← hW]; exact ((Keeps.refl _ _).alloc _).alloc _)
  rw [hW]
  clear hW
  have hn : ∀ a b, (⟨w.heap.size + 1, b, none⟩ : Addr) ≠ ⟨w.heap.size, a, none⟩ := fun a b e => by have h : w.heap.size + 1 = w.heap.size := congrArg Addr.block e; omega
  have x0_0 := hB.cell 0 rfl
  have x0_1 := hB.cell 1 rfl
  have x0_2 := hB.cell 2 rfl
  have y0 := hR.cell 0 rfl
  have y1 := hR.cell 1 rfl
  have y2 := hR.cell 2 rfl
  have f0 := hR.free 0
  have f1 := hR.free 1
  have f2 := hR.free 2
  have HR := hid hR
  clear hB hR
  first | go_region_held3 (fun w' => w'.cell? ⟨w.heap.size, 0, none⟩ = some (.int .i64 u) ∧ w'.cell? ⟨w.heap.size, 1, none⟩ = some (.int .i64 o) ∧ w'.cell? ⟨w.heap.size, 2, none⟩ = some (.int .u8 m)) (first | with_reducible exact ⟨x0_0, x0_1, x0_2⟩ | with_reducible exact ⟨cellDr x0_0, cellDr x0_1, cellDr x0_2⟩ | with_reducible exact ⟨cellS (hn _ _) (cellS (hn _ _) (cellS (hn _ _) x0_0)), cellS (hn _ _) (cellS (hn _ _) (cellS (hn _ _) x0_1)), cellS (hn _ _) (cellS (hn _ _) (cellS (hn _ _) x0_2))⟩ | with_reducible exact ⟨cellS (hn _ _) (cellS (hn _ _) (cellS (hn _ _) (cellDr x0_0))), cellS (hn _ _) (cellS (hn _ _) (cellS (hn _ _) (cellDr x0_1))), cellS (hn _ _) (cellS (hn _ _) (cellS (hn _ _) (cellDr x0_2)))⟩ | (go_keep; done)) (first | (go_at_call 22; (with_reducible refine (HL.out _).mono ?_); rintro e w9 ⟨rfl, rfl⟩) | (go_at_call 18; (with_reducible refine (HA.out _).mono ?_); rintro e w9 ⟨rfl, rfl⟩)) | fail
  all_goals
    go_wp2_with fail
    have hr := ((HR.out.put 0 (.int .i64 a) rfl).put 1 (.int .i64 o) rfl).put 2 (.int .u8 k) rfl
    have z0 := hr.cell 0 rfl
    have z1 := hr.cell 1 rfl
    have z2 := hr.cell 2 rfl
    refine bodyPost_ret (v := .agg #[.int .i64 a, .int .i64 o, .int .u8 k]) (by simp [results, Try.results11, go_sem, World.cell?_drew, z0, z1, z2]) rfl ?_
    refine ⟨rfl, ?_⟩
    have k0 := K0.out
    repeat' (first | with_reducible exact k0 | with_reducible refine Keeps.drewN ?_ _ | with_reducible refine Keeps.drew ?_ | with_reducible refine Keeps.setCell ?_ ?_ _ | exact Or.inl (Nat.le_succ _))

set_option maxHeartbeats 4000000 in
set_option maxRecDepth 100000 in
theorem msilence_any (u o m now t most : Int) (w : World) (hn : I64 now) (ht : I64 t) (hm : I64 most) :
    Calls Try.prog 13 #[.agg #[.int .i64 u, .int .i64 o, .int .u8 m], .int .i64 now, .int .i64 t, .int .i64 most] w fun e w' => e = .returned (silenceD ⟨u, o, m⟩ now t most).val ∧ Keeps No w w' := by
  by_cases h1 : t < 1
  · have d1 : decide (t < 1) = true := decide_eq_true h1
    have e : silenceD ⟨u, o, m⟩ now t most = ⟨u, o, m⟩ := by unfold silenceD; rw [if_pos h1]
    rw [e]
    clear e hn ht hm
    go_enter Try.func13, Try.ntmps13
    go_wp2_with fail
    go_returns
    refine ⟨rfl, ?_⟩
    repeat' (first | with_reducible exact Keeps.refl _ _ | with_reducible assumption | with_reducible refine Keeps.drewN ?_ _ | with_reducible refine Keeps.drew ?_ | with_reducible refine Keeps.alloc ?_ _ | with_reducible refine Keeps.setCell ?_ ?_ _ | exact Or.inl (by simp) | exact Or.inl (by simp; omega) | exact Or.inl (by omega))
  have d1 : decide (t < 1) = false := decide_eq_false h1
  have e : silenceD ⟨u, o, m⟩ now t most = ⟨u, held (now + leastI t most), m⟩ := by unfold silenceD; rw [if_neg h1]
  rw [e]
  have HA := hid (fun w' => madd_any now (leastI t most) w' hn (leastI_i64 ht hm))
  obtain ⟨a, ha⟩ : ∃ a, held (now + leastI t most) = a := ⟨_, rfl⟩
  rw [ha] at HA ⊢
  obtain ⟨l, hl⟩ : ∃ l, leastI t most = l := ⟨_, rfl⟩
  have HL := hid (fun w' => mleast_any t most w')
  rw [hl] at HA HL
  clear e ha hn ht hm hl
  go_enter Try.func13, Try.ntmps13
  go_upto_region 3 with fail
  obtain ⟨W, hW⟩ : ∃ W, (w.alloc (.cells #[.int .i64 u, .int .i64 o, .int .u8 m] 26)).alloc (.cells #[.int .i64 0, .int .i64 0, .int .u8 0] 26) = W := ⟨_, rfl⟩
  have hB : Bk W w.heap.size 26 [.int .i64 u, .int .i64 o, .int .u8 m] := by rw [← hW]; exact (Bk.new rfl _ _).alloc _
  have hR : Bk W (w.heap.size + 1) 26 [.int .i64 0, .int .i64 0, .int .u8 0] := by rw [← hW]; exact Bk.new (by simp) _ _
  have K0 : Hid (Keeps No w W) := hid (by rw [← hW]; exact ((Keeps.refl _ _).alloc _).alloc _)
  rw [hW]
  clear hW
  have hn : ∀ a b, (⟨w.heap.size + 1, b, none⟩ : Addr) ≠ ⟨w.heap.size, a, none⟩ := fun a b e => by have h : w.heap.size + 1 = w.heap.size := congrArg Addr.block e; omega
  have x0_0 := hB.cell 0 rfl
  have x0_1 := hB.cell 1 rfl
  have x0_2 := hB.cell 2 rfl
  have y0 := hR.cell 0 rfl
  have y1 := hR.cell 1 rfl
  have y2 := hR.cell 2 rfl
  have f0 := hR.free 0
  have f1 := hR.free 1
  have f2 := hR.free 2
  have HR := hid hR
  clear hB hR
  first | go_region_held3 (fun w' => w'.cell? ⟨w.heap.size, 0, none⟩ = some (.int .i64 u) ∧ w'.cell? ⟨w.heap.size, 1, none⟩ = some (.int .i64 o) ∧ w'.cell? ⟨w.heap.size, 2, none⟩ = some (.int .u8 m)) (first | with_reducible exact ⟨x0_0, x0_1, x0_2⟩ | with_reducible exact ⟨cellDr x0_0, cellDr x0_1, cellDr x0_2⟩ | with_reducible exact ⟨cellS (hn _ _) (cellS (hn _ _) (cellS (hn _ _) x0_0)), cellS (hn _ _) (cellS (hn _ _) (cellS (hn _ _) x0_1)), cellS (hn _ _) (cellS (hn _ _) (cellS (hn _ _) x0_2))⟩ | with_reducible exact ⟨cellS (hn _ _) (cellS (hn _ _) (cellS (hn _ _) (cellDr x0_0))), cellS (hn _ _) (cellS (hn _ _) (cellS (hn _ _) (cellDr x0_1))), cellS (hn _ _) (cellS (hn _ _) (cellS (hn _ _) (cellDr x0_2)))⟩ | (go_keep; done)) (first | (go_at_call 22; (with_reducible refine (HL.out _).mono ?_); rintro e w9 ⟨rfl, rfl⟩) | (go_at_call 18; (with_reducible refine (HA.out _).mono ?_); rintro e w9 ⟨rfl, rfl⟩)) | fail
  all_goals
    go_wp2_with fail
    have hr := ((HR.out.put 0 (.int .i64 u) rfl).put 1 (.int .i64 a) rfl).put 2 (.int .u8 m) rfl
    have z0 := hr.cell 0 rfl
    have z1 := hr.cell 1 rfl
    have z2 := hr.cell 2 rfl
    refine bodyPost_ret (v := .agg #[.int .i64 u, .int .i64 a, .int .u8 m]) (by simp [results, Try.results13, go_sem, World.cell?_drew, z0, z1, z2]) rfl ?_
    refine ⟨rfl, ?_⟩
    have k0 := K0.out
    repeat' (first | with_reducible exact k0 | with_reducible refine Keeps.drewN ?_ _ | with_reducible refine Keeps.drew ?_ | with_reducible refine Keeps.setCell ?_ ?_ _ | exact Or.inl (Nat.le_succ _))

set_option maxHeartbeats 4000000 in
set_option maxRecDepth 100000 in
theorem mbreak_any (u o m now p : Int) (w : World) :
    Calls Try.prog 15 #[.agg #[.int .i64 u, .int .i64 o, .int .u8 m], .int .i64 now, .int .u8 p] w fun e w' => e = .returned (breakD ⟨u, o, m⟩ now p).val ∧ Keeps No w w' := by
  by_cases h1 : now < u
  · have d1 : decide (u > now) = true := decide_eq_true h1
    by_cases h2 : m < p
    · have d2 : decide (p > m) = true := decide_eq_true h2
      have e : breakD ⟨u, o, m⟩ now p = ⟨now, o, m⟩ := by unfold breakD; rw [if_pos ⟨h1, h2⟩]
      rw [e]
      clear e
      go_enter Try.func15, Try.ntmps15
      go_wp2_with fail
      go_returns
      refine ⟨rfl, ?_⟩
      repeat' (first | with_reducible exact Keeps.refl _ _ | with_reducible assumption | with_reducible refine Keeps.drewN ?_ _ | with_reducible refine Keeps.drew ?_ | with_reducible refine Keeps.alloc ?_ _ | with_reducible refine Keeps.setCell ?_ ?_ _ | exact Or.inl (by simp) | exact Or.inl (by simp; omega) | exact Or.inl (by omega))
    · have d2 : decide (p > m) = false := decide_eq_false h2
      have e : breakD ⟨u, o, m⟩ now p = ⟨u, o, m⟩ := by unfold breakD; rw [if_neg (fun h => h2 h.2)]
      rw [e]
      clear e
      go_enter Try.func15, Try.ntmps15
      go_wp2_with fail
      go_returns
      refine ⟨rfl, ?_⟩
      repeat' (first | with_reducible exact Keeps.refl _ _ | with_reducible assumption | with_reducible refine Keeps.drewN ?_ _ | with_reducible refine Keeps.drew ?_ | with_reducible refine Keeps.alloc ?_ _ | with_reducible refine Keeps.setCell ?_ ?_ _ | exact Or.inl (by simp) | exact Or.inl (by simp; omega) | exact Or.inl (by omega))
  · have d1 : decide (u > now) = false := decide_eq_false h1
    have e : breakD ⟨u, o, m⟩ now p = ⟨u, o, m⟩ := by unfold breakD; rw [if_neg (fun h => h1 h.1)]
    rw [e]
    clear e
    go_enter Try.func15, Try.ntmps15
    go_wp2_with fail
    go_returns
    refine ⟨rfl, ?_⟩
    repeat' (first | with_reducible exact Keeps.refl _ _ | with_reducible assumption | with_reducible refine Keeps.drewN ?_ _ | with_reducible refine Keeps.drew ?_ | with_reducible refine Keeps.alloc ?_ _ | with_reducible refine Keeps.setCell ?_ ?_ _ | exact Or.inl (by simp) | exact Or.inl (by simp; omega) | exact Or.inl (by omega))

end Go.Proofs.Ytgdkpnfonnafaaa
