/-
  A reader of bytes, more: Int.
-/
import Derived.Test.YtlenhccdkhgfgaaDoorRead2
namespace Go.Proofs.YtlenhccdkhgfgaaDoor
open Go.RowKit

/-- A number of four bytes, so far. -/
def acc4 (a b c d : Int) : Nat → Int
  | 0 => 0
  | 1 => a
  | 2 => a * 256 + b
  | 3 => (a * 256 + b) * 256 + c
  | _ => ((a * 256 + b) * 256 + c) * 256 + d

theorem or_byte {x b : Int} (h0 : 0 ≤ x) (h1 : x ≤ 16777215) (b0 : 0 ≤ b) (b1 : b ≤ 255) : bits .or .u32 (x * 256) b = x * 256 + b := by
  obtain ⟨X, rfl⟩ := Int.eq_ofNat_of_zero_le h0
  obtain ⟨B, rfl⟩ := Int.eq_ofNat_of_zero_le b0
  rw [show (X : Int) * 256 = ((X * 256 : Nat) : Int) by omega, u32_or_nat _ _ (by omega) (by omega)]
  rw [show X * 256 = 2 ^ 8 * X by omega, ← Nat.two_pow_add_eq_or_of_lt (by omega) X]
  have e : 2 ^ 8 * X + B = 256 * X + B := by omega
  rw [e]; omega

theorem acc4_four (a b c d : Int) : acc4 a b c d 4 = ((a * 256 + b) * 256 + c) * 256 + d := rfl

theorem int32_wrap {a b c d : Int} (a0 : 0 ≤ a) (a1 : a ≤ 255) (b0 : 0 ≤ b) (b1 : b ≤ 255) (c0 : 0 ≤ c) (c1 : c ≤ 255) (d0 : 0 ≤ d) (d1 : d ≤ 255) :
    wrap64 (wrap32 (acc4 a b c d 4)) = int32Of a b c d := by
  rw [acc4_four]
  unfold int32Of wrap64 wrap32
  split <;> omega

section
variable {w : World} {rb : Nat} {F : Nat → Prop} {s : RS}

set_option maxHeartbeats 1000000 in
set_option maxRecDepth 100000 in
theorem rint_four {a b c d : Int} {t : List Int} {k : Nat} (h : Rd w rb F ⟨a :: b :: c :: d :: t, k, 0⟩) :
    Calls Tryd.prog 63 #[.pointer (some ⟨rb, 0, none⟩)] w fun r w' => r = .returned (.int .i64 (int32Of a b c d)) ∧ Rd w' rb F ⟨t, k + 4, 0⟩ ∧ Keeps (fun k => k = rb) w w' := by
  have hh := rhas_ok h rfl (n := 4) (z := 4) rfl (by simp)
  have ht := rtake_ok h rfl (n := 4) (z := 4) rfl (by simp)
  obtain ⟨hb⟩ : Bytes (a :: b :: c :: d :: t) ∧ True := ⟨by obtain ⟨lv, h⟩ := h; exact h.byt, trivial⟩
  obtain ⟨a0, a1⟩ := hb a (by simp)
  obtain ⟨b0, b1⟩ := hb b (by simp)
  obtain ⟨c0, c1⟩ := hb c (by simp)
  obtain ⟨d0, d1⟩ := hb d (by simp)
  have e1 : bits .or .u32 0 a = a := by simpa using or_byte (x := 0) (b := a) (by omega) (by omega) a0 a1
  have e2 := or_byte (x := a) (b := b) (by omega) (by omega) b0 b1
  have e3 := or_byte (x := a * 256 + b) (b := c) (by omega) (by omega) c0 c1
  have e4 := or_byte (x := (a * 256 + b) * 256 + c) (b := d) (by omega) (by omega) d0 d1
  have hw := int32_wrap a0 a1 b0 b1 c0 c1 d0 d1
  have HH := hid hh
  have HT := hid ht
  have E1 := hid e1
  have E2 := hid e2
  have E3 := hid e3
  have E4 := hid e4
  have HW := hid hw
  clear h hh ht hb e1 e2 e3 e4 hw
  go_enter Tryd.func63, Tryd.ntmps63
  go_wp2_with fail
  refine HH.out.mono ?_
  rintro r w' ⟨rfl, rfl⟩
  go_wp2_with fail
  refine HT.out.mono ?_
  rintro r w' ⟨v, rfl, hs, hr, hk⟩
  simp only [List.take_succ_cons, List.take_zero, List.drop_succ_cons, List.drop_zero] at hs hr
  obtain ⟨al, cap, rfl⟩ := hs.any
  obtain ⟨g, off, rfl, _, x0⟩ := SlB.cellAt hs (k := 0) (by simp)
  obtain ⟨g1, off1, h1, _, x1⟩ := SlB.cellAt hs (k := 1) (by simp)
  obtain ⟨g2, off2, h2, _, x2⟩ := SlB.cellAt hs (k := 2) (by simp)
  obtain ⟨g3, off3, h3, _, x3⟩ := SlB.cellAt hs (k := 3) (by simp)
  simp only [Option.some.injEq, Addr.mk.injEq, and_true] at h1 h2 h3
  obtain ⟨rfl, rfl⟩ := h1
  obtain ⟨rfl, rfl⟩ := h2
  obtain ⟨rfl, rfl⟩ := h3
  simp at x0 x1 x2 x3
  have HR := hid hr
  have HK := hid hk
  clear hr hk HH HT hs
  go_wp2_with fail
  go_loop [3, 12] (fun v3 v12 => ∃ j : Nat, j ≤ 4 ∧ v12 = .int .i64 j ∧ v3 = .int .u32 (acc4 a b c d j)) (fun _ v12 => 4 - (intOf v12).toNat)
  case atStart => exact ⟨0, by omega, rfl, rfl⟩
  case round =>
    obtain ⟨j, hj, rfl, rfl⟩ := hrel
    rcases (show j = 0 ∨ j = 1 ∨ j = 2 ∨ j = 3 ∨ j = 4 by omega) with rfl | rfl | rfl | rfl | rfl
    · have e := E1.out
      simp only [acc4] at e ⊢
      go_wp2_with fail
      go_round
      case rel => exact ⟨1, by omega, rfl, by first | rfl | (simp [acc4]; done) | (simp [acc4, e]; done)⟩
      case measure => simp [intOf]
    · have e := E2.out
      simp only [acc4] at e ⊢
      go_wp2_with fail
      go_round
      case rel => exact ⟨2, by omega, rfl, by first | rfl | (simp [acc4]; done) | (simp [acc4, e]; done)⟩
      case measure => simp [intOf]
    · have e := E3.out
      simp only [acc4] at e ⊢
      go_wp2_with fail
      go_round
      case rel => exact ⟨3, by omega, rfl, by first | rfl | (simp [acc4]; done) | (simp [acc4, e]; done)⟩
      case measure => simp [intOf]
    · have e := E4.out
      simp only [acc4] at e ⊢
      go_wp2_with fail
      go_round
      case rel => exact ⟨4, by omega, rfl, by first | rfl | (simp [acc4]; done) | (simp [acc4, e]; done)⟩
      case measure => simp [intOf]
    · obtain ⟨z, hz⟩ : ∃ z, acc4 a b c d 4 = z := ⟨_, rfl⟩
      have hw := HW.out
      rw [hz] at hw ⊢
      have z0 : 0 ≤ z := by rw [← hz, acc4_four]; omega
      have z1 : z ≤ 4294967295 := by rw [← hz, acc4_four]; omega
      have HZ := hid hw
      clear hz hw
      go_wp2_with fail
      go_ret
      refine ⟨ret_val ?_, HR.out, HK.out⟩
      exact HZ.out

set_option maxHeartbeats 1000000 in
set_option maxRecDepth 100000 in
theorem rint_any (h : Rd w rb F s) :
    Calls Tryd.prog 63 #[.pointer (some ⟨rb, 0, none⟩)] w fun r w' => r = .returned (.int .i64 s.int.1) ∧ Rd w' rb F s.int.2 ∧ Keeps (fun k => k = rb) w w' := by
  obtain ⟨l, k, f⟩ := s
  by_cases hf : f = 0
  · subst hf
    by_cases h4 : l.length < 4
    · have hh := rhas_short h rfl (n := 4) (z := 4) rfl h4
      have HH := hid hh
      have hi : (⟨l, k, 0⟩ : RS).int = (0, ⟨[], k, 4⟩) := by
        unfold RS.int
        rcases l with _ | ⟨a, _ | ⟨b, _ | ⟨c, _ | ⟨d, t⟩⟩⟩⟩
        all_goals first | rfl | (simp at h4; omega)
      rw [hi]
      clear h hh hi
      go_enter Tryd.func63, Tryd.ntmps63
      go_wp2_with fail
      refine HH.out.mono ?_
      rintro r w' ⟨rfl, hr, hk⟩
      have HR := hid hr
      have HK := hid hk
      clear hr hk HH
      go_wp2_with fail
      go_ret
      exact ⟨rfl, HR.out, HK.out⟩
    · rcases l with _ | ⟨a, _ | ⟨b, _ | ⟨c, _ | ⟨d, t⟩⟩⟩⟩
      all_goals first | (simp at h4; done) | exact rint_four h
  · have hh := rhas_bad h hf 4
    have HH := hid hh
    have HR := hid h
    simp only [RS.int, if_neg hf]
    clear h hh hf
    go_enter Tryd.func63, Tryd.ntmps63
    go_wp2_with fail
    refine HH.out.mono ?_
    rintro r w' ⟨rfl, rfl⟩
    go_wp2_with fail
    go_ret
    exact ⟨rfl, HR.out, Keeps.refl _ _⟩

end

end Go.Proofs.YtlenhccdkhgfgaaDoor
