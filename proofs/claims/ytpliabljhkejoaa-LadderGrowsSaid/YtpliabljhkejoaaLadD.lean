/-
  A condition that nobody acknowledges grows: Climb, the program's.
-/
import Derived.Test.YtpliabljhkejoaaLadC

namespace Go.Proofs.Ytpliabljhkejoaa
open Go.RowKit
set_option linter.unusedVariables false

set_option maxHeartbeats 4000000 in
set_option maxRecDepth 100000 in
theorem lclimb_any {w : World} {v : Value} {ls : List StD} (h : SlS w v ls) (hsm : SmallSt ls) (a0 a1 a2 a3 a4 a5 a6 a7 : Value) (on lit ack : Bool) (s st now : Int) (hn : I64 now) (hs : I64 s) :
    Calls Try.prog 16 #[.agg #[a0, a1, a2, a3, a4, a5, a6, a7, v], .agg #[.bool on, .bool lit, .bool ack, .int .i64 s, .int .i64 st], .int .i64 now] w fun e w' => e = .returned (.agg #[.bool on, .bool lit, .bool ack, .int .i64 s, .int .i64 (if lit && !ack then (if (reachedD ls (held (now - s)) : Int) > st then (reachedD ls (held (now - s)) : Int) else st) else st)]) ∧ Keeps No w w' := by
  obtain ⟨sa, sc, rfl⟩ := Sl.any h
  obtain ⟨k, hk⟩ : ∃ k, reachedD ls (held (now - s)) = k := ⟨_, rfl⟩
  obtain ⟨b3, hb3⟩ : ∃ b, w.heap.size = b := ⟨_, rfl⟩
  obtain ⟨b4, hb4⟩ : ∃ b, w.heap.size + 1 = b := ⟨_, rfl⟩
  obtain ⟨b6, hb6⟩ : ∃ b, w.heap.size + 1 + 1 = b := ⟨_, rfl⟩
  obtain ⟨W3, hW3⟩ : ∃ W, ((w.alloc (.cells #[a0, a1, a2, a3, a4, a5, a6, a7, .slice sa ls.length sc] 26)).alloc (.cells #[.bool on, .bool lit, .bool ack, .int .i64 s, .int .i64 st] 35)).alloc (.cells #[.bool false, .bool false, .bool false, .int .i64 0, .int .i64 0] 35) = W := ⟨_, rfl⟩
  have HR3 : Hid (Bk W3 b3 26 [a0, a1, a2, a3, a4, a5, a6, a7, .slice sa ls.length sc]) := hid (by rw [← hW3]; exact ((Bk.new hb3 _ _).alloc _).alloc _)
  have HL3 : Hid (Bk W3 b4 35 [.bool on, .bool lit, .bool ack, .int .i64 s, .int .i64 st]) := hid (by rw [← hW3]; exact (Bk.new (by simp; exact hb4) _ _).alloc _)
  have HZ3 : Hid (Bk W3 b6 35 [.bool false, .bool false, .bool false, .int .i64 0, .int .i64 0]) := hid (by rw [← hW3]; exact Bk.new (by simp; exact hb6) _ _)
  have K3 : Hid (Keeps No w W3) := hid (by rw [← hW3]; exact (((Keeps.refl No w).alloc _).alloc _).alloc _)
  have HSL := hid (fun (w' : World) (kw : Keeps No w w') => Sl.keep h kw (fun _ _ h => h))
  have HSM := hid hsm
  have HKE := hid hk
  have HNS := hid hn
  have HSS := hid hs
  have HB6 : Hid (w.heap.size ≤ b6 ∧ w.heap.size ≤ b4) := hid (by omega)
  have H46 : Hid (¬ b4 = b6) := hid (by omega)
  have H34 : Hid (¬ b3 = b4) := hid (by omega)
  have HW3 := hid hW3
  have HE3 := hid hb3
  have HE4 := hid hb4
  have HE6 := hid hb6
  rw [hk]
  clear h hsm hn hs hk hW3 hb3 hb4 hb6
  obtain ⟨ld, hld⟩ : ∃ b, (lit && !ack) = b := ⟨_, rfl⟩
  have hlo := fun w' => lloud_any on lit ack s st w'
  unfold loudD at hlo
  dsimp only at hlo
  rw [hld] at hlo
  have HLO := hid hlo
  rw [hld]
  clear hlo hld
  obtain ⟨mx, hmx⟩ : ∃ y : Int, (if (k : Int) > st then (k : Int) else st) = y := ⟨_, rfl⟩
  have dmax : (if st < (k : Int) then (k : Int) else st) = mx := hmx
  rw [hmx]
  clear hmx
  cases ld
  · rw [if_neg (by decide)]
    go_enter Try.func16, Try.ntmps16
    go_upto_region 1 with fail
    rw [HE6.out, HE4.out, HE3.out]
    try rw [HW3.out]
    clear HW3 HE3 HE4 HE6
    have x0 := HL3.out.cell 0 rfl
    have x1 := HL3.out.cell 1 rfl
    have x2 := HL3.out.cell 2 rfl
    have x3 := HL3.out.cell 3 rfl
    have x4 := HL3.out.cell 4 rfl
    go_wp2_with fail
    refine (HLO.out _).mono ?_
    rintro e w4 ⟨rfl, kp⟩
    have HL4 := hid (HL3.out.kept kp)
    have HZ4 := hid (HZ3.out.kept kp)
    have HR4 := hid (HR3.out.kept kp)
    have K4 := hid (K3.out.trans kp)
    clear kp HL3 HZ3 HR3 K3 HLO x0 x1 x2 x3 x4
    clear HR4 HSL HSM HNS HSS HKE
    obtain ⟨W9, hW9⟩ : ∃ W, (((((w4.setCell ⟨b6, 0, none⟩ (.bool on)).setCell ⟨b6, 1, none⟩ (.bool lit)).setCell ⟨b6, 2, none⟩ (.bool ack)).setCell ⟨b6, 3, none⟩ (.int .i64 s)).setCell ⟨b6, 4, none⟩ (.int .i64 st)) = W := ⟨_, rfl⟩
    have hb9 := (((((HZ4.out.put 0 (.bool on) rfl).put 1 (.bool lit) rfl).put 2 (.bool ack) rfl).put 3 (.int .i64 s) rfl).put 4 (.int .i64 st) rfl)
    have k9 := ((((((Keeps.refl (fun b => b = b6) w4).at (i := 0) (u := .bool on)).at (i := 1) (u := .bool lit)).at (i := 2) (u := .bool ack)).at (i := 3) (u := .int .i64 s)).at (i := 4) (u := .int .i64 st))
    rw [hW9] at hb9 k9
    have HB9 := hid hb9
    have K9 : Hid (Keeps No w W9) := hid (K4.out.trans' k9 (fun _ _ h => h) (fun b hb e => by have := HB6.out; omega))
    have HW9 := hid hW9
    clear hb9 k9 hW9
    have y0 := HL4.out.cell 0 rfl
    have y1 := HL4.out.cell 1 rfl
    have y2 := HL4.out.cell 2 rfl
    have y3 := HL4.out.cell 3 rfl
    have y4 := HL4.out.cell 4 rfl
    have z0 := HZ4.out.cell 0 rfl
    have z1 := HZ4.out.cell 1 rfl
    have z2 := HZ4.out.cell 2 rfl
    have z3 := HZ4.out.cell 3 rfl
    have z4 := HZ4.out.cell 4 rfl
    have f0 := HZ4.out.free 0
    have f1 := HZ4.out.free 1
    have f2 := HZ4.out.free 2
    have f3 := HZ4.out.free 3
    have f4 := HZ4.out.free 4
    go_wp2_with fail
    try rw [HW9.out]
    have q0 := HB9.out.cell 0 rfl
    have q1 := HB9.out.cell 1 rfl
    have q2 := HB9.out.cell 2 rfl
    have q3 := HB9.out.cell 3 rfl
    have q4 := HB9.out.cell 4 rfl
    refine bodyPost_ret (v := .agg #[.bool on, .bool lit, .bool ack, .int .i64 s, .int .i64 st]) (by simp [results, Try.results16, go_sem, q0, q1, q2, q3, q4]) rfl ?_
    exact ⟨by rfl, K9.out⟩
  · rw [if_pos rfl]
    go_enter Try.func16, Try.ntmps16
    go_upto_region 1 with fail
    rw [HE6.out, HE4.out, HE3.out]
    try rw [HW3.out]
    clear HW3 HE3 HE4 HE6
    have x0 := HL3.out.cell 0 rfl
    have x1 := HL3.out.cell 1 rfl
    have x2 := HL3.out.cell 2 rfl
    have x3 := HL3.out.cell 3 rfl
    have x4 := HL3.out.cell 4 rfl
    go_wp2_with fail
    refine (HLO.out _).mono ?_
    rintro e w4 ⟨rfl, kp⟩
    have HL4 := hid (HL3.out.kept kp)
    have HZ4 := hid (HZ3.out.kept kp)
    have HR4 := hid (HR3.out.kept kp)
    have K4 := hid (K3.out.trans kp)
    clear kp HL3 HZ3 HR3 K3 HLO x0 x1 x2 x3 x4
    have HC := hid (fun (w' : World) (kw : Keeps No w w') => lreached_any (HSL.out w' kw) HSM.out (held (now - s)))
    obtain ⟨d, hd⟩ : ∃ d, held (now - s) = d := ⟨_, rfl⟩
    have HT := hid (fun (w' : World) => since_any now s w' HNS.out HSS.out)
    rw [hd] at HC HT
    have hk2 := HKE.out
    rw [hd] at hk2
    rw [hk2] at HC
    clear hd hk2 HKE
    have x0 := HL4.out.cell 0 rfl
    have x1 := HL4.out.cell 1 rfl
    have x2 := HL4.out.cell 2 rfl
    have x3 := HL4.out.cell 3 rfl
    have x4 := HL4.out.cell 4 rfl
    have r8 := HR4.out.cell 8 rfl
    have m4 := HL4.out.free 4
    go_upto_region 3 with fail
    go_region_with (first | (go_at_call 21; (with_reducible refine (HT.out _).mono ?_); rintro e wq ⟨rfl, rfl⟩) | (go_at_call 12; (with_reducible refine (HC.out _ (by refine Keeps.trans K4.out ?_; repeat' (first | with_reducible exact Keeps.refl _ _ | with_reducible assumption | with_reducible refine Keeps.drewN ?_ _ | with_reducible refine Keeps.drew ?_ | with_reducible refine Keeps.alloc ?_ _))).mono ?_); rintro e wq ⟨rfl, kq⟩; have kk : Keeps No w4 wq := Keeps.trans (by repeat' (first | with_reducible exact Keeps.refl _ _ | with_reducible assumption | with_reducible refine Keeps.drewN ?_ _ | with_reducible refine Keeps.drew ?_ | with_reducible refine Keeps.alloc ?_ _)) kq; have HL5 := hid (HL4.out.kept kk); have HZ5 := hid (HZ4.out.kept kk); have K5 := hid (K4.out.trans kk); have x4 := HL5.out.cell 4 rfl; have x3 := HL5.out.cell 3 rfl; have m4 := HL5.out.free 4; have r8 := (HR4.out.kept kk).cell 8 rfl; clear kq kk))
    all_goals
      obtain ⟨W6, hW6⟩ : ∃ W, wq.setCell ⟨b4, 4, none⟩ (.int .i64 mx) = W := ⟨_, rfl⟩
      have HL6 : Hid (Bk W6 b4 35 [.bool on, .bool lit, .bool ack, .int .i64 s, .int .i64 mx]) := hid (by rw [← hW6]; exact HL5.out.put 4 _ rfl)
      have HZ6 : Hid (Bk W6 b6 35 [.bool false, .bool false, .bool false, .int .i64 0, .int .i64 0]) := hid (by rw [← hW6]; exact HZ5.out.other (p := ⟨b4, 4, none⟩) (fun e => H46.out e.symm) _)
      have K6 : Hid (Keeps No w W6) := hid (by rw [← hW6]; exact K5.out.trans' ((Keeps.refl (fun b => b = b4) wq).at) (fun _ _ h => h) (fun b hb e => by have := HB6.out; omega))
      clear x4 x3 m4 r8 HL5 HZ5 K5
      try rw [hW6]
      have HW6 := hid hW6
      clear hW6
      obtain ⟨W9, hW9⟩ : ∃ W, (((((W6.setCell ⟨b6, 0, none⟩ (.bool on)).setCell ⟨b6, 1, none⟩ (.bool lit)).setCell ⟨b6, 2, none⟩ (.bool ack)).setCell ⟨b6, 3, none⟩ (.int .i64 s)).setCell ⟨b6, 4, none⟩ (.int .i64 mx)) = W := ⟨_, rfl⟩
      have hb9 := (((((HZ6.out.put 0 (.bool on) rfl).put 1 (.bool lit) rfl).put 2 (.bool ack) rfl).put 3 (.int .i64 s) rfl).put 4 (.int .i64 mx) rfl)
      have k9 := ((((((Keeps.refl (fun b => b = b6) W6).at (i := 0) (u := .bool on)).at (i := 1) (u := .bool lit)).at (i := 2) (u := .bool ack)).at (i := 3) (u := .int .i64 s)).at (i := 4) (u := .int .i64 mx))
      rw [hW9] at hb9 k9
      have HB9 := hid hb9
      have K9 : Hid (Keeps No w W9) := hid (K6.out.trans' k9 (fun _ _ h => h) (fun b hb e => by have := HB6.out; omega))
      have HW9 := hid hW9
      clear hb9 k9 hW9
      have y0 := HL6.out.cell 0 rfl
      have y1 := HL6.out.cell 1 rfl
      have y2 := HL6.out.cell 2 rfl
      have y3 := HL6.out.cell 3 rfl
      have y4 := HL6.out.cell 4 rfl
      have z0 := HZ6.out.cell 0 rfl
      have z1 := HZ6.out.cell 1 rfl
      have z2 := HZ6.out.cell 2 rfl
      have z3 := HZ6.out.cell 3 rfl
      have z4 := HZ6.out.cell 4 rfl
      have f0 := HZ6.out.free 0
      have f1 := HZ6.out.free 1
      have f2 := HZ6.out.free 2
      have f3 := HZ6.out.free 3
      have f4 := HZ6.out.free 4
      go_wp2_with fail
      try rw [HW9.out]
      have q0 := HB9.out.cell 0 rfl
      have q1 := HB9.out.cell 1 rfl
      have q2 := HB9.out.cell 2 rfl
      have q3 := HB9.out.cell 3 rfl
      have q4 := HB9.out.cell 4 rfl
      refine bodyPost_ret (v := .agg #[.bool on, .bool lit, .bool ack, .int .i64 s, .int .i64 mx]) (by simp [results, Try.results16, go_sem, q0, q1, q2, q3, q4]) rfl ?_
      exact ⟨by rfl, K9.out⟩
end Go.Proofs.Ytpliabljhkejoaa
