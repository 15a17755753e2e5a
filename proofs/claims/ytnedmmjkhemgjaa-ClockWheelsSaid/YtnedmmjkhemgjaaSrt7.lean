/-
  The library's sort by a wheel's order: a row that is shaken, the whole.
-/
import Derived.Test.YtnedmmjkhemgjaaSrtA
import Derived.Test.YtnedmmjkhemgjaaSrtP
import Derived.Test.YtnedmmjkhemgjaaSrt6
import Derived.BigQuiet
import Derived.Deep.DeepCutAuto
import Derived.Deep.CutBlock
import Derived.Test.YtnedmmjkhemgjaaBlk
namespace Go.Proofs.Ytnedmmjkhemgjaa
open Go.RowKit
set_option linter.unusedVariables false

theorem and_nat (x M : Nat) (hx : x < 18446744073709551616) (hM : 1 ≤ M) (h2 : M < 18446744073709551616) : ∃ c : Nat, c ≤ M - 1 ∧ bits .and .u64 (x : Int) ((M : Int) - 1) = (c : Int) :=
  ⟨x &&& (M - 1), Nat.and_le_right, by rw [show ((M : Int) - 1) = ((M - 1 : Nat) : Int) by omega]; exact bits_and_u64_nat x (M - 1) hx (by omega)⟩

/-- A row beside the numbers that it is shaken by. -/
structure Shk (w0 w : World) (g cap n : Nat) (ks : List Int) (a c : Nat) (D E : Array Int) (rb : Nat) : Prop where
  sr : SR w0 w g cap n ks E
  bk : ∃ X : Nat, X < 18446744073709551616 ∧ Bk w rb 71 [.int .u64 X]
  ne : rb ≠ g
  new : w0.heap.size ≤ rb
  perm : Sort.PermIn a c D E

set_option maxHeartbeats 8000000 in
set_option maxRecDepth 100000 in
theorem shake_any {w0 w : World} {g cap n a c : Nat} {ks : List Int} {D : Array Int} (cmp : Value) (hn : n ≤ 60) (h : SR w0 w g cap n ks D) (hac : a + 12 < c) (hb : c ≤ n) :
    Calls Try.prog 26 #[.slice (some ⟨g, 0, none⟩) n cap, .int .i64 a, .int .i64 c, cmp] w fun e w' => e = .returned (.tuple #[]) ∧ ∃ E, Sort.PermIn a c D E ∧ SR w0 w' g cap n ks E := by
  obtain ⟨L, hL⟩ : ∃ q : Nat, q = c - a := ⟨_, rfl⟩
  have eL : (c : Int) - (a : Int) = (L : Int) := by omega
  have hL13 : 13 ≤ L := by omega
  have hL60 : L ≤ 60 := by omega
  have haL : a + L = c := by omega
  clear hL
  have hd8 : decide ((L : Int) ≥ 8) = true := decide_eq_true (by omega)
  have wrL : IntKind.u64.wrap (L : Int) = (L : Int) := by rw [IntKind.wrap_u64]; omega
  obtain ⟨I0, hI0⟩ : ∃ q : Nat, q = a + L / 4 * 2 - 1 := ⟨_, rfl⟩
  have eI1 : (a : Int) + (L : Int).tdiv 4 * 2 - 1 = (I0 : Int) := by rw [Int.tdiv_eq_ediv_of_nonneg (by omega)]; omega
  have eI2 : (a : Int) + (L : Int) / 4 * 2 - 1 = (I0 : Int) := by omega
  have eI3 : (a : Int) + (L : Int) / 4 * 2 + 1 = (I0 : Int) + 2 := by omega
  have hI0a : a ≤ I0 := by omega
  have hI0c : I0 + 2 < c := by omega
  clear hI0
  obtain ⟨rb, hrb⟩ : ∃ q, w.heap.size = q := ⟨_, rfl⟩
  have HNP := hid (fun w' => np2_any (L : Int) w' (by omega) (by omega))
  have HS0 : Hid (Shk w0 (w.alloc (.cells #[.int .u64 L] 71)) g cap n ks a c D D rb) :=
    hid ⟨h.kept ((Keeps.refl _ _).alloc _), ⟨L, by omega, Bk.new hrb [.int .u64 L] _⟩, by have := h.lt; omega, by rw [← hrb]; exact h.keeps.size, Sort.permIn_refl _ _ _⟩
  clear h
  obtain ⟨W1, hW1⟩ : ∃ W, w.alloc (.cells #[.int .u64 L] 71) = W := ⟨_, rfl⟩
  rw [hW1] at HS0
  have HRB := hid hrb
  have HW1 := hid hW1
  clear hrb hW1
  go_enter Try.func26, Try.ntmps26
  go_upto_region 3 with fail
  rw [HW1.out, HRB.out]
  clear HW1 HRB
  go_wp2_with (go_at_call 37; refine (HNP.out _).mono ?_; rintro e w' ⟨⟨M, rfl, hM1, hM2⟩, rfl⟩)
  clear HNP
  go_loopw [11] (fun v11 wr => ∃ (ii : Nat) (E : Array Int), I0 ≤ ii ∧ ii ≤ I0 + 3 ∧ v11 = .int .i64 ii ∧ Hid (Shk w0 wr g cap n ks a c D E rb)) (fun v11 _ => I0 + 3 - (intOf v11).toNat)
  case atStart => exact ⟨I0, D, Nat.le_refl _, by omega, by go_num, HS0⟩
  case round =>
    clear HS0
    obtain ⟨ii, E, hi1, hi2, rfl, HS⟩ := hrel
    by_cases hlt : ii < I0 + 3
    · have hle : decide ((ii : Int) ≤ (I0 : Int) + 2) = true := decide_eq_true (by omega)
      have hia : a ≤ ii := by omega
      have hic : ii < c := by omega
      obtain ⟨X, hX, hbk⟩ := HS.out.bk
      have HNX := hid (next_any hbk hX)
      clear hbk hX
      go_wp2_with fail
      with_reducible refine HNX.out.mono ?_
      rintro e wx ⟨C, rfl, hC, hb2, kx⟩
      have HS2 : Hid (Shk w0 wx g cap n ks a c D E rb) := hid ⟨HS.out.sr.keep kx (fun e => HS.out.ne e.symm) (fun i hi e => by have := HS.out.new; omega), ⟨C, hC, hb2⟩, HS.out.ne, HS.out.new, HS.out.perm⟩
      obtain ⟨O, hO, eO⟩ := and_nat C M hC hM1 (by omega)
      have hO2 : O < 2 * L := by omega
      clear hb2 kx HS HNX hC
      by_cases hOL : L ≤ O
      · have hdO : decide ((O : Int) ≥ (L : Int)) = true := decide_eq_true (by omega)
        obtain ⟨oo, hoo⟩ : ∃ q : Nat, q = O - L := ⟨_, rfl⟩
        have eoo : (O : Int) - (L : Int) = (oo : Int) := by omega
        obtain ⟨ao, hao⟩ : ∃ q : Nat, q = a + oo := ⟨_, rfl⟩
        have eao : (a : Int) + (oo : Int) = (ao : Int) := by omega
        have haoa : a ≤ ao := by omega
        have haoc : ao < c := by omega
        clear hoo
        have HAO := hid hao
        clear hao
        have HS3 := hid HS2.out.sr
        have cx3 := HS3.out.cell (i := ii) (by omega)
        have cy3 := HS3.out.cell (i := ao) (by omega)
        have fx3 := HS3.out.free (ii)
        have fy3 := HS3.out.free (ao)
        obtain ⟨x3, hx3⟩ : ∃ v, E[ii]! = v := ⟨_, rfl⟩
        rw [hx3] at cx3
        obtain ⟨y3, hy3⟩ : ∃ v, E[ao]! = v := ⟨_, rfl⟩
        first | rw [hy3] at cy3 | skip
        have SWP3 := hid (fun q => HS3.out.swapD (i := ii) (j := ao) (by omega) (by omega) hx3 hy3 q)
        obtain ⟨u3, cu3⟩ := HS3.out.cell2 (i := ii) (j := ao) (by omega) y3
        clear hx3 hy3
        go_wp2_with fail
        go_region
        all_goals
          have HN : Hid (Shk w0 (((wx.setCell ⟨g, ii, none⟩ (.int .i64 y3)).setCell ⟨g, ao, none⟩ (.int .i64 x3)).drew) g cap n ks a c D (Sort.swp E ii ao) rb) := hid (by
            obtain ⟨X, hX, hb⟩ := HS2.out.bk
            exact ⟨SWP3.out 1, ⟨X, hX, ((hb.other HS2.out.ne _).other HS2.out.ne _)⟩, HS2.out.ne, HS2.out.new, Sort.permIn_trans _ _ _ _ _ HS2.out.perm (Sort.swp_permIn _ _ _ _ _ hia hic haoa haoc (by rw [HS2.out.sr.size]; omega))⟩)
          clear cx3 cy3 fx3 fy3 cu3 SWP3 HS2 HS3
          go_wp2_with fail
          go_roundw
          case rel => exact ⟨ii + 1, _, by omega, by omega, by go_num, HN⟩
          case measure => simp [intOf]; omega
      · have hdO : decide ((O : Int) ≥ (L : Int)) = false := decide_eq_false (by omega)
        obtain ⟨ao, hao⟩ : ∃ q : Nat, q = a + O := ⟨_, rfl⟩
        have eao : (a : Int) + (O : Int) = (ao : Int) := by omega
        have haoa : a ≤ ao := by omega
        have haoc : ao < c := by omega
        have HAO := hid hao
        clear hao
        have HS3 := hid HS2.out.sr
        have cx3 := HS3.out.cell (i := ii) (by omega)
        have cy3 := HS3.out.cell (i := ao) (by omega)
        have fx3 := HS3.out.free (ii)
        have fy3 := HS3.out.free (ao)
        obtain ⟨x3, hx3⟩ : ∃ v, E[ii]! = v := ⟨_, rfl⟩
        rw [hx3] at cx3
        obtain ⟨y3, hy3⟩ : ∃ v, E[ao]! = v := ⟨_, rfl⟩
        first | rw [hy3] at cy3 | skip
        have SWP3 := hid (fun q => HS3.out.swapD (i := ii) (j := ao) (by omega) (by omega) hx3 hy3 q)
        obtain ⟨u3, cu3⟩ := HS3.out.cell2 (i := ii) (j := ao) (by omega) y3
        clear hx3 hy3
        go_wp2_with fail
        go_region
        all_goals
          have HN : Hid (Shk w0 (((wx.setCell ⟨g, ii, none⟩ (.int .i64 y3)).setCell ⟨g, ao, none⟩ (.int .i64 x3)).drew) g cap n ks a c D (Sort.swp E ii ao) rb) := hid (by
            obtain ⟨X, hX, hb⟩ := HS2.out.bk
            exact ⟨SWP3.out 1, ⟨X, hX, ((hb.other HS2.out.ne _).other HS2.out.ne _)⟩, HS2.out.ne, HS2.out.new, Sort.permIn_trans _ _ _ _ _ HS2.out.perm (Sort.swp_permIn _ _ _ _ _ hia hic haoa haoc (by rw [HS2.out.sr.size]; omega))⟩)
          clear cx3 cy3 fx3 fy3 cu3 SWP3 HS2 HS3
          go_wp2_with fail
          go_roundw
          case rel => exact ⟨ii + 1, _, by omega, by omega, by go_num, HN⟩
          case measure => simp [intOf]; omega
    · have hle : decide ((ii : Int) ≤ (I0 : Int) + 2) = false := decide_eq_false (by omega)
      go_wp2_with fail
      go_end0
      exact ⟨rfl, E, HS.out.perm, HS.out.sr⟩

end Go.Proofs.Ytnedmmjkhemgjaa
