/-
  The library's sort by a wheel's order: a row that is shaken.
-/
import Derived.Test.YtnedmmjkhemgjaaSrtA
import Derived.Test.YtnedmmjkhemgjaaSrtP
import Derived.Laws.Bits64
import Derived.Laws.Bits64b
import Derived.BigQuiet
import Derived.Deep.DeepCutAuto
import Derived.Deep.CutBlock
import Derived.Test.YtnedmmjkhemgjaaBlk
namespace Go.Proofs.Ytnedmmjkhemgjaa
open Go.RowKit
set_option linter.unusedVariables false

theorem tab_all : (List.range 64).all (fun k => if h : k < Lib.len8tab.size then (if 8 ≤ k then decide (2 ^ (Lib.len8tab[k]'h).toNat ≤ 2 * k) && decide ((Lib.len8tab[k]'h).toNat ≤ 6) else true) else false) = true := by kernel_rfl

theorem tab_at (k : Nat) (h8 : 8 ≤ k) (h64 : k < 64) (h : k < Lib.len8tab.size) : 2 ^ (Lib.len8tab[k]'h).toNat ≤ 2 * k ∧ (Lib.len8tab[k]'h).toNat ≤ 6 := by
  have := List.all_eq_true.1 tab_all k (List.mem_range.2 h64)
  rw [dif_pos h, if_pos h8, Bool.and_eq_true] at this
  exact ⟨of_decide_eq_true this.1, of_decide_eq_true this.2⟩

def LenP (n : Int) (e : Ending) : Prop := ∃ l : Nat, e = .returned (.int .i64 l) ∧ ((2 ^ l : Nat) : Int) ≤ 2 * n ∧ l ≤ 6

theorem wrap_small (l : Nat) (h : l ≤ 6) : wrap64 (wrap64 (l : Int)) = (l : Int) := by
  simp only [wrap64, IntKind.wrap_i64]; omega

set_option maxHeartbeats 4000000 in
set_option maxRecDepth 100000 in
theorem len64_at (n : Int) (w : World) (h0 : 8 ≤ n) (h1 : n ≤ 63) : Calls Try.prog 33 #[.int .u64 n] w fun e w' => LenP n e ∧ w = w' := by
  have e1 : decide ((4294967296 : Int) ≤ n) = false := by simp; omega
  have e2 : decide ((65536 : Int) ≤ n) = false := by simp; omega
  have e3 : decide ((256 : Int) ≤ n) = false := by simp; omega
  have e4 : IntKind.u8.wrap n = n := by rw [IntKind.wrap_u8]; omega
  have hsz : Lib.len8tab.size = 256 := by kernel_rfl
  have hin : 0 ≤ n ∧ n < (Lib.len8tab.size : Int) := by rw [hsz]; omega
  clear hsz
  go_enter Try.func33, Try.ntmps33
  go_wp2
  go_ret
  refine ⟨?_, rfl⟩
  have ht := tab_at n.toNat (by omega) (by omega) (by omega)
  exact ⟨_, by rw [wrap_small _ ht.2]; rfl, by omega, ht.2⟩

set_option maxHeartbeats 4000000 in
set_option maxRecDepth 100000 in
theorem len_at (n : Int) (w : World) (h0 : 8 ≤ n) (h1 : n ≤ 63) : Calls Try.prog 21 #[.int .u64 n] w fun e w' => LenP n e ∧ w = w' := by
  have hl := len64_at n w h0 h1
  go_enter Try.func21, Try.ntmps21
  go_wp2_with (go_at_call 33; refine hl.mono ?_; rintro e w' ⟨⟨l, rfl, h2, h3⟩, rfl⟩)
  go_ret
  exact ⟨⟨l, rfl, h2, h3⟩, rfl⟩

set_option maxHeartbeats 4000000 in
set_option maxRecDepth 100000 in
theorem np2_any (n : Int) (w : World) (h0 : 8 ≤ n) (h1 : n ≤ 63) : Calls Try.prog 37 #[.int .i64 n] w fun e w' => (∃ M : Nat, e = .returned (.int .u64 M) ∧ 1 ≤ M ∧ (M : Int) ≤ 2 * n) ∧ w = w' := by
  have hl := len_at n w h0 h1
  have wr : IntKind.u64.wrap n = n := by rw [IntKind.wrap_u64]; omega
  go_enter Try.func37, Try.ntmps37
  go_wp2_with (go_at_call 21; refine hl.mono ?_; rintro e w' ⟨⟨l, rfl, h2, h3⟩, rfl⟩)
  rcases (show l = 0 ∨ l = 1 ∨ l = 2 ∨ l = 3 ∨ l = 4 ∨ l = 5 ∨ l = 6 by omega) with rfl | rfl | rfl | rfl | rfl | rfl | rfl
  all_goals
    go_wp2
    go_ret
    exact ⟨⟨_, rfl, by decide, by first | exact h2 | (simp at h2 ⊢; omega)⟩, rfl⟩

theorem xor_nat (x y : Nat) (hx : x < 18446744073709551616) (hy : y < 18446744073709551616) : ∃ c : Nat, c < 18446744073709551616 ∧ bits .xor .u64 (x : Int) (y : Int) = (c : Int) :=
  ⟨x ^^^ y, Nat.xor_lt_two_pow (n := 64) hx hy, bits_xor_u64_nat x y hx hy⟩

set_option maxHeartbeats 4000000 in
set_option maxRecDepth 100000 in
theorem next_any {w : World} {rb X : Nat} (h : Bk w rb 71 [.int .u64 X]) (hX : X < 18446744073709551616) :
    Calls Try.prog 38 #[.pointer (some ⟨rb, 0, none⟩)] w fun e w' => ∃ C : Nat, e = .returned (.int .u64 C) ∧ C < 18446744073709551616 ∧ Bk w' rb 71 [.int .u64 C] ∧ Keeps (fun k => k = rb) w w' := by
  obtain ⟨A, hA, e1⟩ := xor_nat X (X * 8192 % 18446744073709551616) hX (by omega)
  obtain ⟨B, hB, e2⟩ := xor_nat A (A / 128) hA (by omega)
  obtain ⟨C, hC, e3⟩ := xor_nat B (B * 131072 % 18446744073709551616) hB (by omega)
  have f1 : bits .xor .u64 (X : Int) (IntKind.u64.wrap ((X : Int) * 8192)) = (A : Int) := by
    rw [IntKind.wrap_u64, show ((X : Int) * 8192 % 18446744073709551616) = ((X * 8192 % 18446744073709551616 : Nat) : Int) by omega]; exact e1
  have f2 : bits .xor .u64 (A : Int) ((A : Int) / 128) = (B : Int) := by
    rw [show ((A : Int) / 128) = ((A / 128 : Nat) : Int) by omega]; exact e2
  have f3 : bits .xor .u64 (B : Int) (IntKind.u64.wrap ((B : Int) * 131072)) = (C : Int) := by
    rw [IntKind.wrap_u64, show ((B : Int) * 131072 % 18446744073709551616) = ((B * 131072 % 18446744073709551616 : Nat) : Int) by omega]; exact e3
  have HB0 := hid h
  have HCC := hid hC
  clear e1 e2 e3 hA hB hC hX
  have c0 := h.cell 0 rfl
  have f0 := h.free 0
  clear h
  go_enter Try.func38, Try.ntmps38
  obtain ⟨W0, rfl⟩ : ∃ W, W = w := ⟨_, rfl⟩
  have HK0 : Hid (Keeps (fun k => k = rb) W0 W0) := hid (Keeps.refl _ _)
  go_upto_region 1 with fail
  go_region
  obtain ⟨W1, hW⟩ : ∃ W, (W0.setCell ⟨rb, 0, none⟩ (.int .u64 A)).drew = W := ⟨_, rfl⟩
  have HB1 : Hid (Bk W1 rb 71 [.int .u64 A]) := hid (by rw [← hW]; exact HB0.out.put 0 _ rfl)
  have HK1 : Hid (Keeps (fun k => k = rb) W0 W1) := hid (by rw [← hW]; exact (HK0.out.setCell (p := ⟨rb, 0, none⟩) (Or.inr rfl) _).drew)
  first | rw [hW] | skip
  clear hW c0 f0 f1
  have c0 := HB1.out.cell 0 rfl
  have f0 := HB1.out.free 0
  go_upto_region 2 with fail
  go_region
  obtain ⟨W2, hW⟩ : ∃ W, (W1.setCell ⟨rb, 0, none⟩ (.int .u64 B)).drew = W := ⟨_, rfl⟩
  have HB2 : Hid (Bk W2 rb 71 [.int .u64 B]) := hid (by rw [← hW]; exact HB1.out.put 0 _ rfl)
  have HK2 : Hid (Keeps (fun k => k = rb) W0 W2) := hid (by rw [← hW]; exact (HK1.out.setCell (p := ⟨rb, 0, none⟩) (Or.inr rfl) _).drew)
  first | rw [hW] | skip
  clear hW c0 f0 f2
  have c0 := HB2.out.cell 0 rfl
  have f0 := HB2.out.free 0
  go_upto_region 3 with fail
  go_region
  obtain ⟨W3, hW⟩ : ∃ W, (W2.setCell ⟨rb, 0, none⟩ (.int .u64 C)).drew = W := ⟨_, rfl⟩
  have HB3 : Hid (Bk W3 rb 71 [.int .u64 C]) := hid (by rw [← hW]; exact HB2.out.put 0 _ rfl)
  have HK3 : Hid (Keeps (fun k => k = rb) W0 W3) := hid (by rw [← hW]; exact (HK2.out.setCell (p := ⟨rb, 0, none⟩) (Or.inr rfl) _).drew)
  first | rw [hW] | skip
  clear hW c0 f0 f3
  have c0 := HB3.out.cell 0 rfl
  have f0 := HB3.out.free 0
  go_wp2_with fail
  go_ret
  exact ⟨C, rfl, HCC.out, HB3.out, HK3.out⟩

end Go.Proofs.Ytnedmmjkhemgjaa
