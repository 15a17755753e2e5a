/-
  A task: the program's.
-/
import Derived.Test.YtboalfajghkajaaTaskS
namespace Go.Proofs.Ytboalfajghkajaa
open Go.RowKit
set_option linter.unusedVariables false

section
variable (k sig lim back delay span : Int) (a6 a7 a8 : Value)
set_option maxHeartbeats 4000000 in
set_option maxRecDepth 100000 in
theorem tnew_any (w : World) :
    Calls Try.prog 10 #[.agg #[.int .u8 k, .int .i64 sig, .int .i64 lim, .int .i64 back, .int .i64 delay, .int .i64 span, a6, a7, a8]] w fun e w' => ∃ tb, e = .returned (.pointer (some ⟨tb, 0, none⟩)) ∧ w.heap.size ≤ tb ∧ Bk w' tb 57 [.int .u8 k, .int .i64 sig, .int .i64 lim, .int .i64 back, .int .i64 delay, .int .i64 span, a6, a7, .slice none 0 0, .bool false, .bool false, .int .i64 0] ∧ Keeps No w w' := by
  go_enter Try.func10, Try.ntmps10
  go_wp2_with fail
  go_ret
  refine ⟨_, rfl, ?_, ?_, ?_⟩
  rotate_left
  · first | exact Bk.new rfl _ _ | exact Bk.new (by simp) _ _
  · repeat' (first | with_reducible exact Keeps.refl _ _ | with_reducible assumption | with_reducible refine Keeps.drewN ?_ _ | with_reducible refine Keeps.drew ?_ | with_reducible refine Keeps.alloc ?_ _ | with_reducible refine Keeps.setCell ?_ ?_ _ | exact Or.inl (by simp) | exact Or.inl (by simp; omega) | exact Or.inl (by omega))
  · first | exact Nat.le_refl _ | exact Nat.le_succ _ | (simp; done)


set_option maxHeartbeats 4000000 in
set_option maxRecDepth 100000 in
theorem tgate_any {w : World} {tb : Nat} (on hd : Bool) (s : Int) (h : Bk w tb 57 [.int .u8 k, .int .i64 sig, .int .i64 lim, .int .i64 back, .int .i64 delay, .int .i64 span, a6, a7, a8, .bool on, .bool hd, .int .i64 s]) :
    Calls Try.prog 17 #[.pointer (some ⟨tb, 0, none⟩)] w fun e w' => e = .returned (.agg #[.bool on, .bool hd, .int .i64 s]) ∧ Keeps No w w' := by
  have h' := h.alloc (.cells #[.bool false, .bool false, .int .i64 0] 48)
  have x9 := h'.cell 9 rfl
  have x10 := h'.cell 10 rfl
  have x11 := h'.cell 11 rfl
  go_enter Try.func17, Try.ntmps17
  go_wp2_with fail
  go_returns
  refine ⟨rfl, ?_⟩
  repeat' (first | with_reducible exact Keeps.refl _ _ | with_reducible assumption | with_reducible refine Keeps.drewN ?_ _ | with_reducible refine Keeps.drew ?_ | with_reducible refine Keeps.alloc ?_ _ | with_reducible refine Keeps.setCell ?_ ?_ _ | exact Or.inl (by simp) | exact Or.inl (by simp; omega) | exact Or.inl (by omega))

set_option maxHeartbeats 4000000 in
set_option maxRecDepth 100000 in
theorem ton_any {w : World} {tb : Nat} (on hd : Bool) (s : Int) (h : Bk w tb 57 [.int .u8 k, .int .i64 sig, .int .i64 lim, .int .i64 back, .int .i64 delay, .int .i64 span, a6, a7, a8, .bool on, .bool hd, .int .i64 s]) :
    Calls Try.prog 18 #[.pointer (some ⟨tb, 0, none⟩)] w fun e w' => e = .returned (.bool on) ∧ Keeps No w w' := by
  have HB := hid h
  clear h
  go_enter Try.func18, Try.ntmps18
  go_wp2_with fail
  with_reducible refine (tgate_any k sig lim back delay span a6 a7 a8 on hd s HB.out).mono ?_
  rintro e w1 ⟨rfl, kp⟩
  have K1 := hid kp
  clear kp
  have hfd : ∀ w, (Instr.field 48 (.agg #[.bool on, .bool hd, .int .i64 s]) 0).run Try.prog w = .ok (.bool on) w := fun _ => by kernel_rfl
  go_wp2_with fail
  go_ret
  refine ⟨rfl, ?_⟩
  have hk := K1.out
  repeat' (first | with_reducible exact Keeps.refl _ _ | with_reducible assumption | with_reducible refine Keeps.drewN ?_ _ | with_reducible refine Keeps.drew ?_ | with_reducible refine Keeps.alloc ?_ _ | with_reducible refine Keeps.setCell ?_ ?_ _ | exact Or.inl (by simp) | exact Or.inl (by simp; omega) | exact Or.inl (by omega))

set_option maxHeartbeats 4000000 in
set_option maxRecDepth 100000 in
theorem trun_any {w : World} {tb : Nat} {p : Value} (on hd : Bool) (s now : Int) (h : Bk w tb 57 [.int .u8 k, .int .i64 sig, .int .i64 lim, .int .i64 back, .int .i64 delay, .int .i64 span, a6, a7, a8, .bool on, .bool hd, .int .i64 s]) (hn : I64 now) (hs : I64 s) (o : Bool × Bool)
    (ho : ∀ w', Keeps No w w' → Calls Try.prog 13 #[.agg #[.int .u8 k, .int .i64 sig, .int .i64 lim, .int .i64 back, .int .i64 delay, .int .i64 span, a6, a7, a8], p, .int .i64 now] w' fun e w'' => e = .returned (ObsA o) ∧ Keeps No w' w'')
    (on2 hd2 : Bool) (s2 : Int) (hst : stepD ⟨on, hd, s⟩ now o.1 o.2 delay = ⟨on2, hd2, s2⟩) :
    Calls Try.prog 16 #[.pointer (some ⟨tb, 0, none⟩), .int .i64 now, p] w fun e w' => e = .returned (.bool on2) ∧ Bk w' tb 57 [.int .u8 k, .int .i64 sig, .int .i64 lim, .int .i64 back, .int .i64 delay, .int .i64 span, a6, a7, a8, .bool on2, .bool hd2, .int .i64 s2] ∧ Keeps (fun b => b = tb) w w' := by
  have HO := hid ho
  have hg := fun w' => gstep_any ⟨on, hd, s⟩ now o.1 o.2 delay w' hn hs
  rw [hst] at hg
  have HG : Hid (∀ w', Calls Try.prog 33 #[.agg #[.bool on, .bool hd, .int .i64 s], .int .i64 now, .bool o.1, .bool o.2, .int .i64 delay] w' fun e w'' => e = .returned (.agg #[.bool on2, .bool hd2, .int .i64 s2]) ∧ Keeps No w' w'') := hid hg
  have HB := hid h
  have K0 := hid (Keeps.refl No w)
  obtain ⟨o1, o2⟩ := o
  unfold ObsA at HO
  dsimp only at HO HG
  clear hn hs ho hst hg h
  have x0_0 := HB.out.cell 0 rfl
  have x0_1 := HB.out.cell 1 rfl
  have x0_2 := HB.out.cell 2 rfl
  have x0_3 := HB.out.cell 3 rfl
  have x0_4 := HB.out.cell 4 rfl
  have x0_5 := HB.out.cell 5 rfl
  have x0_6 := HB.out.cell 6 rfl
  have x0_7 := HB.out.cell 7 rfl
  have x0_8 := HB.out.cell 8 rfl
  have x0_9 := HB.out.cell 9 rfl
  have x0_10 := HB.out.cell 10 rfl
  have x0_11 := HB.out.cell 11 rfl
  go_enter Try.func16, Try.ntmps16
  go_wp2_with fail
  refine Calls.mono (HO.out _ (by repeat' (first | with_reducible exact Keeps.refl _ _ | with_reducible assumption | with_reducible refine Keeps.drewN ?_ _ | with_reducible refine Keeps.drew ?_ | with_reducible refine Keeps.alloc ?_ _))) ?_
  rintro e w1 ⟨rfl, kp⟩
  have K1 : Hid (Keeps No w w1) := hid (Keeps.trans (by repeat' (first | with_reducible exact Keeps.refl _ _ | with_reducible assumption | with_reducible refine Keeps.drewN ?_ _ | with_reducible refine Keeps.drew ?_ | with_reducible refine Keeps.alloc ?_ _)) kp)
  have HB1 := hid (HB.out.kept K1.out)
  clear kp x0_0 x0_1 x0_2 x0_3 x0_4 x0_5 x0_6 x0_7 x0_8 x0_9 x0_10 x0_11
  have x0_0 := HB1.out.cell 0 rfl
  have x0_1 := HB1.out.cell 1 rfl
  have x0_2 := HB1.out.cell 2 rfl
  have x0_3 := HB1.out.cell 3 rfl
  have x0_4 := HB1.out.cell 4 rfl
  have x0_5 := HB1.out.cell 5 rfl
  have x0_6 := HB1.out.cell 6 rfl
  have x0_7 := HB1.out.cell 7 rfl
  have x0_8 := HB1.out.cell 8 rfl
  have x0_9 := HB1.out.cell 9 rfl
  have x0_10 := HB1.out.cell 10 rfl
  have x0_11 := HB1.out.cell 11 rfl
  go_upto_region 4 with fail
  go_region_with (first | (go_at_call 33; (with_reducible refine (HG.out _).mono ?_); rintro e w9 ⟨rfl, k⟩; have kk : Keeps No w1 w9 := Keeps.trans (by repeat' (first | with_reducible exact Keeps.refl _ _ | with_reducible assumption | with_reducible refine Keeps.drewN ?_ _ | with_reducible refine Keeps.drew ?_ | with_reducible refine Keeps.alloc ?_ _)) k; have g0 := HB1.out.kept kk; have x0_0 := g0.cell 0 rfl; have x0_1 := g0.cell 1 rfl; have x0_2 := g0.cell 2 rfl; have x0_3 := g0.cell 3 rfl; have x0_4 := g0.cell 4 rfl; have x0_5 := g0.cell 5 rfl; have x0_6 := g0.cell 6 rfl; have x0_7 := g0.cell 7 rfl; have x0_8 := g0.cell 8 rfl; have x0_9 := g0.cell 9 rfl; have x0_10 := g0.cell 10 rfl; have x0_11 := g0.cell 11 rfl; have HX := hid g0; have KX := hid (Keeps.trans K1.out kk); have f9 := g0.free 9; have f10 := g0.free 10; have f11 := g0.free 11; clear k g0))
  all_goals
    have hb := ((HX.out.put 9 (.bool on2) rfl).put 10 (.bool hd2) rfl).put 11 (.int .i64 s2) rfl
    clear x0_0 x0_1 x0_2 x0_3 x0_4 x0_5 x0_6 x0_7 x0_8 x0_9 x0_10 x0_11
    have x9 := hb.cell 9 rfl
    go_wp2_with fail
    go_ret
    refine ⟨rfl, hb, ?_⟩
    exact Keeps.trans KX.out.no ((((Keeps.refl _ _).at).at).at)

end
set_option maxHeartbeats 4000000 in
set_option maxRecDepth 100000 in
theorem ntgate_any (w : World) (now : Int) (p : Value) :
    Calls Try.prog 17 #[.pointer none] w fun e w' => e = .returned (.agg #[.bool false, .bool false, .int .i64 0]) ∧ Keeps No w w' := by
  go_enter Try.func17, Try.ntmps17
  go_wp2_with fail
  first | go_ret | go_returns
  refine ⟨rfl, ?_⟩
  repeat' (first | with_reducible exact Keeps.refl _ _ | with_reducible assumption | with_reducible refine Keeps.drewN ?_ _ | with_reducible refine Keeps.drew ?_ | with_reducible refine Keeps.alloc ?_ _ | with_reducible refine Keeps.setCell ?_ ?_ _ | exact Or.inl (by simp) | exact Or.inl (by simp; omega) | exact Or.inl (by omega))

set_option maxHeartbeats 4000000 in
set_option maxRecDepth 100000 in
theorem nton_any (w : World) (now : Int) (p : Value) :
    Calls Try.prog 18 #[.pointer none] w fun e w' => e = .returned (.bool false) ∧ Keeps No w w' := by
  go_enter Try.func18, Try.ntmps18
  go_wp2_with fail
  with_reducible refine (ntgate_any _ 0 (.bool false)).mono ?_
  rintro e w1 ⟨rfl, kp⟩
  have hk := kp
  have hfd : ∀ w, (Instr.field 48 (.agg #[.bool false, .bool false, .int .i64 0]) 0).run Try.prog w = .ok (.bool false) w := fun _ => by kernel_rfl
  go_wp2_with fail
  first | go_ret | go_returns
  refine ⟨rfl, ?_⟩
  repeat' (first | with_reducible exact Keeps.refl _ _ | with_reducible assumption | with_reducible refine Keeps.drewN ?_ _ | with_reducible refine Keeps.drew ?_ | with_reducible refine Keeps.alloc ?_ _ | with_reducible refine Keeps.setCell ?_ ?_ _ | exact Or.inl (by simp) | exact Or.inl (by simp; omega) | exact Or.inl (by omega))

set_option maxHeartbeats 4000000 in
set_option maxRecDepth 100000 in
theorem ntrun_any (w : World) (now : Int) (p : Value) :
    Calls Try.prog 16 #[.pointer none, .int .i64 now, p] w fun e w' => e = .returned (.bool false) ∧ Keeps No w w' := by
  go_enter Try.func16, Try.ntmps16
  go_wp2_with fail
  first | go_ret | go_returns
  refine ⟨rfl, ?_⟩
  repeat' (first | with_reducible exact Keeps.refl _ _ | with_reducible assumption | with_reducible refine Keeps.drewN ?_ _ | with_reducible refine Keeps.drew ?_ | with_reducible refine Keeps.alloc ?_ _ | with_reducible refine Keeps.setCell ?_ ?_ _ | exact Or.inl (by simp) | exact Or.inl (by simp; omega) | exact Or.inl (by omega))

end Go.Proofs.Ytboalfajghkajaa
