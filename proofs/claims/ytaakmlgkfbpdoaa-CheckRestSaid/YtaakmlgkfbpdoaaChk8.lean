/-
  The program's rules of check: the drain.
-/
import Derived.Test.YtaakmlgkfbpdoaaChk6
namespace Go.Proofs.Ytaakmlgkfbpdoaa
open Go.RowKit

section
variable {w : World} {b : Nat} {C : Cfg} {sa ra ta : Option Addr} {sc rc tc : Nat}

set_option maxHeartbeats 2000000 in
set_option maxRecDepth 100000 in
theorem kp14_any (h : CfgB w b C sa ra ta sc rc tc) (he : entries (C.tab.map (·.1)) ≤ 1000000) (ht : C.tab.length ≤ 1000) (a : Nat) : Calls Try.prog 71 #[.pointer (some ⟨b, 0, none⟩), .int .i64 a] w fun e w' => e = .returned (.bool (keepB rulP C 14 a)) ∧ Keeps No w w' := by
  have hk : keepB rulP C 14 a = (inB C.drain 1 64 && decide ((entries (C.tab.map (·.1)) : Int) < C.drain * C.tab.length)) := rfl
  rw [hk]
  have hA := fun w' => within_int C.drain 1 64 w'
  have hE : ∀ w', Keeps No w w' → Calls Try.prog 81 #[.agg #[.slice sa C.sigs.length sc, .slice ra C.ruls.length rc, .slice ta C.tab.length tc, .int .i64 C.b0, .int .i64 C.b1, .int .i64 C.b2, .int .i64 C.drain, .int .i64 C.pause, .int .i64 C.off, .bool C.brk, .int .i64 C.log]] w' fun e w'' => e = .returned (.int .i64 (entries (C.tab.map (·.1)))) ∧ Keeps No w' w'' := fun w' k => centries_any (h.cfg.tabR.calm k) he _ _ _ _ _ _ _ _
  obtain ⟨E, hEE⟩ : ∃ E, entries (C.tab.map (·.1)) = E := ⟨_, rfl⟩
  simp only [hEE] at hE he ⊢
  have x0 := h.blk.cell (o := 0) rfl
  have x1 := h.blk.cell (o := 1) rfl
  have x2 := h.blk.cell (o := 2) rfl
  have x3 := h.blk.cell (o := 3) rfl
  have x4 := h.blk.cell (o := 4) rfl
  have x5 := h.blk.cell (o := 5) rfl
  have x6 := h.blk.cell (o := 6) rfl
  have x7 := h.blk.cell (o := 7) rfl
  have x8 := h.blk.cell (o := 8) rfl
  have x9 := h.blk.cell (o := 9) rfl
  have x10 := h.blk.cell (o := 10) rfl
  clear hk hEE
  cases ha : inB C.drain 1 64
  · simp only [ha] at hA
    have HA := fun w' => hid (hA w')
    clear hA ha hE h
    go_enter Try.func71, Try.ntmps71
    go_wp2_with fail
    go_quiet ((go_at_call 74; exact quiet_eq (HA _).out))
    all_goals
      go_wp2_with fail
      go_ret
      exact ⟨by simp, by repeat' (first | with_reducible exact Keeps.refl _ _ | with_reducible refine Keeps.drewN ?_ _ | with_reducible refine Keeps.drew ?_)⟩
  · have hb := inB_true.1 ha
    simp only [ha] at hA
    have HA := fun w' => hid (hA w')
    have HE := hid hE
    have H := hid h
    obtain ⟨D, hD⟩ : ∃ D, C.drain = D := ⟨_, rfl⟩
    obtain ⟨hb1, hb2⟩ := hb
    rw [hD] at hb1 hb2
    have hm0 : 0 ≤ D * (C.tab.length : Int) := Int.mul_nonneg (by omega) (by omega)
    have hm1 : D * (C.tab.length : Int) ≤ 64 * 1000 := Int.mul_le_mul hb2 (by omega) (by omega) (by omega)
    have hw : IntKind.i64.wrap (C.drain * (C.tab.length : Int)) = C.drain * (C.tab.length : Int) := by rw [hD, IntKind.wrap_i64]; omega
    clear hA ha hE h hD
    go_enter Try.func71, Try.ntmps71
    go_wp2_with fail
    go_region_held3 (fun w' => w'.cell? ⟨b, 0, none⟩ = some (.slice sa C.sigs.length sc) ∧ w'.cell? ⟨b, 1, none⟩ = some (.slice ra C.ruls.length rc) ∧ w'.cell? ⟨b, 2, none⟩ = some (.slice ta C.tab.length tc) ∧ w'.cell? ⟨b, 3, none⟩ = some (.int .i64 C.b0) ∧ w'.cell? ⟨b, 4, none⟩ = some (.int .i64 C.b1) ∧ w'.cell? ⟨b, 5, none⟩ = some (.int .i64 C.b2) ∧ w'.cell? ⟨b, 6, none⟩ = some (.int .i64 C.drain) ∧ w'.cell? ⟨b, 7, none⟩ = some (.int .i64 C.pause) ∧ w'.cell? ⟨b, 8, none⟩ = some (.int .i64 C.off) ∧ w'.cell? ⟨b, 9, none⟩ = some (.bool C.brk) ∧ w'.cell? ⟨b, 10, none⟩ = some (.int .i64 C.log)) (first | exact ⟨x0, x1, x2, x3, x4, x5, x6, x7, x8, x9, x10⟩ | go_keep) (first | (go_at_call 74; (with_reducible refine (HA _).out.mono ?_); rintro e w' ⟨rfl, rfl⟩) | (go_at_call 81; (with_reducible refine (HE.out _ ?hk).mono ?_); (case hk => exact (by repeat' (first | with_reducible exact Keeps.refl _ _ | with_reducible refine Keeps.drewN ?_ _ | with_reducible refine Keeps.drew ?_))); rintro e w5 ⟨rfl, k5⟩; have k6 : Keeps No w w5 := Keeps.trans (by repeat' (first | with_reducible exact Keeps.refl _ _ | with_reducible refine Keeps.drewN ?_ _ | with_reducible refine Keeps.drew ?_)) k5; have h5 := H.out.blk.keep k6 (fun h => h); have x0 := h5.cell (o := 0) rfl; have x1 := h5.cell (o := 1) rfl; have x2 := h5.cell (o := 2) rfl; have x3 := h5.cell (o := 3) rfl; have x4 := h5.cell (o := 4) rfl; have x5 := h5.cell (o := 5) rfl; have x6 := h5.cell (o := 6) rfl; have x7 := h5.cell (o := 7) rfl; have x8 := h5.cell (o := 8) rfl; have x9 := h5.cell (o := 9) rfl; have x10 := h5.cell (o := 10) rfl; have K6 := hid k6; clear k5 k6 h5))
    all_goals
      go_wp2_with fail
      go_ret
      exact ⟨by rw [Bool.true_and]; rfl, K6.out⟩

end
end Go.Proofs.Ytaakmlgkfbpdoaa
