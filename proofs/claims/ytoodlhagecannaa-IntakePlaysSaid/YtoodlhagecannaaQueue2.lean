/-
  A queue of bands, more: New, Put, Take, Band, Len.
-/
import Derived.Test.YtoodlhagecannaaQueue
namespace Go.Proofs.Ytoodlhagecannaa
open Go.RowKit

/-- Errors are numbers. -/
abbrev errV (n : Int) : Value := .int .i64 n

set_option maxHeartbeats 1000000 in
set_option maxRecDepth 100000 in
theorem qput_arg (q : Option Addr) (p : Int) (x : Ev) (w : World) (hp : p < 1 ∨ 3 < p) :
    Calls Try.prog 30 #[.pointer q, .int .u8 p, x.val] w fun e w' => e = .returned (.int .i64 1) ∧ Keeps No w w' := by
  obtain ⟨xr, xo, xa⟩ := x
  unfold Ev.val
  have hh := fun w => isprio_any p w false (hid (by simp; omega))
  clear hp
  go_enter Try.func30, Try.ntmps30
  go_wp2_with (go_at_call 40; refine (hh _).mono ?_; rintro e w' ⟨rfl, rfl⟩)
  go_ret
  exact ⟨rfl, (Keeps.refl _ _).alloc _⟩

section
variable {w : World} {qb : Nat} {R : Nat → Nat} {L : Nat → List Ev} {F : Nat → Prop}

set_option maxHeartbeats 1000000 in
set_option maxRecDepth 100000 in
theorem qput_same (h : QueueE w qb F R L) {p : Int} {i : Nat} (hp : p = i) (h1 : 1 ≤ i) (h2 : i ≤ 3) (x : Ev) {n : Nat} (hi : n < (L i).length) (he : (L i)[n].rule = x.rule) (hn : ∀ (j : Nat) (h : j < (L i).length), j < n → (L i)[j].rule ≠ x.rule) :
    Calls Try.prog 30 #[.pointer (some ⟨qb, 0, none⟩), .int .u8 p, x.val] w fun e w' => e = .returned (.int .i64 0) ∧ ∃ F', QueueE w' qb F' R (upd L i ((L i).set n x)) ∧ Upd F w w' F' := by
  obtain ⟨bs, Fs, h, hF⟩ := h
  obtain ⟨xr, xo, xa⟩ := x
  have hval : (⟨xr, xo, xa⟩ : Ev).val = .agg #[.int .i64 xr, .bool xo, .int .i64 xa] := rfl
  rw [hval]
  have hh := fun w => isprio_any p w true (hid (by simp; omega))
  have hk1 : Keeps No w (w.alloc (.cells #[.int .i64 xr, .bool xo, .int .i64 xa] 64)) := (Keeps.refl No _).alloc _
  have h' : QueueP (w.alloc (.cells #[.int .i64 xr, .bool xo, .int .i64 xa] 64)) qb R L bs Fs := h.keep hk1 (fun _ _ h => h)
  have hb := qband_ok h' hp h1 h2
  have hr := erepl_ok (h'.ring i h1 h2) ⟨xr, xo, xa⟩ hi he hn
  have HH' := hid h'
  have HV := hid hval
  have HF := hid hF
  have HP := hid hp
  rw [hval] at hr
  clear h h' hval hF hp hn he
  go_enter Try.func30, Try.ntmps30
  go_wp2_with (first | (go_at_call 40; refine (hh _).mono ?_; rintro e w' ⟨rfl, rfl⟩) | (go_at_call 38; refine hb.mono ?_; rintro e w' ⟨rfl, rfl⟩) | (go_at_call 41; refine hr.mono ?_; rintro e w2 ⟨rfl, F2, r2, u2⟩; have R2 := hid r2; have U2 := hid u2; clear r2 u2))
  go_ret
  refine ⟨rfl, ?_⟩
  obtain ⟨F', hq, hu⟩ := HH'.out.up (fun k => HF.out k) h1 h2 R2.out U2.out
  exact ⟨F', hq, Upd.behind hk1 hu⟩

set_option maxHeartbeats 1000000 in
set_option maxRecDepth 100000 in
theorem qput_new (h : QueueE w qb F R L) {p : Int} {i : Nat} (hp : p = i) (h1 : 1 ≤ i) (h2 : i ≤ 3) (x : Ev) (hn : ∀ y ∈ L i, y.rule ≠ x.rule) (hc : (L i).length < R i) :
    Calls Try.prog 30 #[.pointer (some ⟨qb, 0, none⟩), .int .u8 p, x.val] w fun e w' => e = .returned (.int .i64 0) ∧ ∃ F', QueueE w' qb F' R (upd L i (L i ++ [x])) ∧ Upd F w w' F' := by
  obtain ⟨bs, Fs, h, hF⟩ := h
  obtain ⟨xr, xo, xa⟩ := x
  have hval : (⟨xr, xo, xa⟩ : Ev).val = .agg #[.int .i64 xr, .bool xo, .int .i64 xa] := rfl
  rw [hval]
  have hh := fun w => isprio_any p w true (hid (by simp; omega))
  have hk1 : Keeps No w (w.alloc (.cells #[.int .i64 xr, .bool xo, .int .i64 xa] 64)) := (Keeps.refl No _).alloc _
  have hbx := heap_alloc_new w (.cells #[.int .i64 xr, .bool xo, .int .i64 xa] 64)
  have h' : QueueP (w.alloc (.cells #[.int .i64 xr, .bool xo, .int .i64 xa] 64)) qb R L bs Fs := h.keep hk1 (fun _ _ h => h)
  have hb := qband_ok h' hp h1 h2
  have hr := erepl_none (h'.ring i h1 h2) ⟨xr, xo, xa⟩ hn
  have HH' := hid h'
  have HV := hid hval
  have HF := hid hF
  have HP := hid hp
  have HB := hid hbx
  rw [hval] at hr
  clear h h' hval hF hp hn hbx
  go_enter Try.func30, Try.ntmps30
  go_wp2_with (first | (go_at_call 40; refine (hh _).mono ?_; rintro e w' ⟨rfl, rfl⟩) | (go_at_call 38; refine hb.mono ?_; rintro e w' ⟨rfl, rfl⟩) | (go_at_call 41; refine hr.mono ?_; rintro e w2 ⟨rfl, k2⟩; have hb2 := k2.heap (fun h => h) HB.out; have b0 := cell_at (i := 0) hb2 rfl; have b1 := cell_at (i := 1) hb2 rfl; have b2 := cell_at (i := 2) hb2 rfl; have K2 := hid k2; clear k2 hb2) | (go_at_call 42; rw [← HV.out]; refine (epush_ok (RingG.keep (HH'.out.ring i h1 h2) K2.out (fun _ _ h => h)) hc _).mono ?_; rintro e w3 ⟨rfl, F3, r3, u3⟩; have R3 := hid r3; have U3 := hid u3; clear r3 u3))
  go_ret
  refine ⟨rfl, ?_⟩
  obtain ⟨F', hq, hu⟩ := (HH'.out.keep K2.out (fun _ _ h => h)).up (fun k => HF.out k) h1 h2 R3.out U3.out
  exact ⟨F', hq, Upd.behind (hk1.trans K2.out) hu⟩

set_option maxHeartbeats 1000000 in
set_option maxRecDepth 100000 in
theorem qput_full (h : QueueE w qb F R L) {p : Int} {i : Nat} (hp : p = i) (h1 : 1 ≤ i) (h2 : i ≤ 3) (x : Ev) (hn : ∀ y ∈ L i, y.rule ≠ x.rule) (hc : (L i).length = R i) :
    Calls Try.prog 30 #[.pointer (some ⟨qb, 0, none⟩), .int .u8 p, x.val] w fun e w' => e = .returned (.int .i64 6) ∧ Keeps No w w' := by
  obtain ⟨bs, Fs, h, hF⟩ := h
  obtain ⟨xr, xo, xa⟩ := x
  have hval : (⟨xr, xo, xa⟩ : Ev).val = .agg #[.int .i64 xr, .bool xo, .int .i64 xa] := rfl
  rw [hval]
  have hh := fun w => isprio_any p w true (hid (by simp; omega))
  have hk1 : Keeps No w (w.alloc (.cells #[.int .i64 xr, .bool xo, .int .i64 xa] 64)) := (Keeps.refl No _).alloc _
  have hbx := heap_alloc_new w (.cells #[.int .i64 xr, .bool xo, .int .i64 xa] 64)
  have h' : QueueP (w.alloc (.cells #[.int .i64 xr, .bool xo, .int .i64 xa] 64)) qb R L bs Fs := h.keep hk1 (fun _ _ h => h)
  have hb := qband_ok h' hp h1 h2
  have hr := erepl_none (h'.ring i h1 h2) ⟨xr, xo, xa⟩ hn
  have HH' := hid h'
  have HV := hid hval
  have HP := hid hp
  have HB := hid hbx
  have HC := hid hc
  rw [hval] at hr
  clear h h' hval hF hp hn hbx hc
  go_enter Try.func30, Try.ntmps30
  go_wp2_with (first | (go_at_call 40; refine (hh _).mono ?_; rintro e w' ⟨rfl, rfl⟩) | (go_at_call 38; refine hb.mono ?_; rintro e w' ⟨rfl, rfl⟩) | (go_at_call 41; refine hr.mono ?_; rintro e w2 ⟨rfl, k2⟩; have hb2 := k2.heap (fun h => h) HB.out; have b0 := cell_at (i := 0) hb2 rfl; have b1 := cell_at (i := 1) hb2 rfl; have b2 := cell_at (i := 2) hb2 rfl; have K2 := hid k2; clear k2 hb2) | (go_at_call 42; rw [← HV.out]; refine (epush_full (RingG.keep (HH'.out.ring i h1 h2) K2.out (fun _ _ h => h)) HC.out _).mono ?_; rintro e w3 ⟨rfl, k3⟩; have K3 := hid k3; clear k3))
  go_ret
  exact ⟨rfl, (hk1.trans K2.out).trans K3.out⟩

end

end Go.Proofs.Ytoodlhagecannaa
