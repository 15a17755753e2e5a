/-
  The sum's functions: a step, the sum of bytes.
-/
import Derived.Test.YtlenhccdkhgfgaaDoorRows
import Derived.Test.YtlenhccdkhgfgaaDoorSumPlain
import Derived.Test.YtlenhccdkhgfgaaDoorBytes
import Derived.Laws.BitsAllLaws
namespace Go.Proofs.YtlenhccdkhgfgaaDoor
open Go.RowKit

/-- One bit of a word that takes two values. -/
theorem xor_top (r : BitVec 16) (b : Bool) : bits .xor .u16 ((r.toNat : Int) / 32768) (if b then 1 else 0) = if (r.msb ^^ b) then 1 else 0 := by
  have hlt := r.isLt
  have hm := BitVec.msb_eq_decide r
  cases h : r.msb
  · rw [h] at hm
    have : (r.toNat : Int) / 32768 = 0 := by simp at hm; omega
    rw [this]; cases b <;> decide
  · rw [h] at hm
    have : (r.toNat : Int) / 32768 = 1 := by simp at hm; omega
    rw [this]; cases b <;> decide

theorem shl_one (r : BitVec 16) : IntKind.u16.wrap ((r.toNat : Int) * 2) = ((r <<< 1).toNat : Int) := by
  rw [IntKind.wrap_u16, BitVec.toNat_shiftLeft, Nat.shiftLeft_eq]
  omega

theorem xor_poly (r : BitVec 16) : bits .xor .u16 (r.toNat : Int) 4129 = ((r ^^^ 4129#16).toNat : Int) := by
  rw [show (4129 : Int) = ((4129 : Nat) : Int) by rfl, u16_xor_nat _ _ r.isLt (by omega), BitVec.toNat_xor]
  rfl

set_option maxHeartbeats 400000 in
theorem sstep_any (r : BitVec 16) (z : Int) (b : Bool) (hz : z = if b then 1 else 0) (w : World) :
    Calls Tryd.prog 68 #[.int .u16 r.toNat, .int .u16 z] w fun e w' => e = .returned (.int .u16 (mstep r b).toNat) ∧ w = w' := by
  have hx := xor_top r b
  rw [← hz] at hx
  have hsh := shl_one r
  have hpo := xor_poly (r <<< 1)
  have hlt := r.isLt
  obtain ⟨n, hn⟩ : ∃ n, r.toNat = n := ⟨_, rfl⟩
  obtain ⟨s, hs⟩ : ∃ s, (r <<< 1).toNat = s := ⟨_, rfl⟩
  rw [hn] at hx hsh hlt ⊢
  rw [hs] at hsh hpo
  rcases ht : (r.msb ^^ b) with _ | _
  · have hm : mstep r b = r <<< 1 := by unfold mstep; rw [ht]; simp
    rw [ht] at hx
    have HM := hid (congrArg BitVec.toNat hm)
    have HS := hid hs
    simp only [Bool.false_eq_true, if_false] at hx
    clear hz hm ht hn hs hpo
    go_enter Tryd.func68, Tryd.ntmps68
    go_wp2
    go_ret
    exact ⟨ret_val (by rw [HM.out, HS.out]), rfl⟩
  · have hm : mstep r b = r <<< 1 ^^^ 4129#16 := by unfold mstep; rw [ht]; simp
    rw [ht] at hx
    have HM := hid (congrArg BitVec.toNat hm)
    have HPO := hid hpo
    simp only [if_true] at hx
    clear hz hm ht hn hs hpo
    go_enter Tryd.func68, Tryd.ntmps68
    go_wp2
    go_ret
    exact ⟨ret_val (by rw [HM.out, HPO.out]), rfl⟩

theorem and_one (y : Int) (h0 : 0 ≤ y) (h1 : y < 256) : bits .and .u8 y 1 = y % 2 := by
  rw [u8_and y 1 h0 h1 (by omega) (by omega)]
  have : (1 : Int).toNat = 1 := rfl
  rw [this, Nat.and_one_is_mod]
  omega

theorem bt_val (x : Int) (i : Nat) : x / 2 ^ i % 2 = if bt x i then 1 else 0 := by
  unfold bt
  by_cases h : x / 2 ^ i % 2 = 1
  · simp [h]
  · have : x / 2 ^ i % 2 = 0 := by omega
    simp [this]

theorem bit_val {x : Int} (h0 : 0 ≤ x) (h1 : x ≤ 255) (i : Nat) : bits .and .u8 (x / 2 ^ i) 1 = if bt x i then 1 else 0 := by
  rw [and_one, bt_val]
  · exact Int.ediv_nonneg h0 (by exact_mod_cast Nat.zero_le _)
  · have := Int.ediv_le_self (2 ^ i) h0
    omega

theorem wrap_bit (b : Bool) : IntKind.u16.wrap (if b then 1 else 0) = if b then 1 else 0 := by cases b <;> decide

theorem bit_wrap {x : Int} (h0 : 0 ≤ x) (h1 : x ≤ 255) (i : Nat) {y : Int} (hy : y = x / 2 ^ i) : IntKind.u16.wrap (bits .and .u8 y 1) = if bt x i then 1 else 0 := by
  rw [hy, bit_val h0 h1, wrap_bit]

set_option maxHeartbeats 2000000 in
theorem sof_any {w : World} {v : Value} {p : List Int} (h : SlB w v p) (hb : Bytes p) :
    Calls Tryd.prog 46 #[v] w fun e w' => e = .returned (.int .u16 (mof p).toNat) ∧ w = w' := by
  obtain ⟨ao, cap, rfl⟩ := h.any
  have hm : p.length ≤ maxLen := h.2.1
  unfold maxLen at hm
  have HS := hid h
  have HB := hid hb
  clear h hb
  go_enter Tryd.func46, Tryd.ntmps46
  go_wp2
  go_loop [3, 10] (fun v3 v10 => ∃ k : Nat, k ≤ p.length ∧ v10 = .int .i64 k ∧ v3 = .int .u16 (mof (p.take k)).toNat) (fun _ v10 => p.length - (intOf v10).toNat)
  case atStart => exact ⟨0, Nat.zero_le _, rfl, rfl⟩
  case round =>
    obtain ⟨k, hk, rfl, rfl⟩ := hrel
    by_cases hlt : k < p.length
    · obtain ⟨g, off, rfl, _, hc⟩ := SlB.cellAt HS.out hlt
      have hbd := HB.out p[k] (List.getElem_mem hlt)
      have hts : mof (p.take (k + 1)) = mbyte (mof (p.take k)) p[k] := by rw [List.take_succ_eq_append_getElem hlt]; unfold mof; rw [List.foldl_append]; rfl
      obtain ⟨x, hx⟩ : ∃ x, p[k] = x := ⟨_, rfl⟩
      rw [hx] at hc hbd hts
      obtain ⟨hx0, hx1⟩ := hbd
      have HT := hid hts
      obtain ⟨r, hr⟩ : ∃ r, mof (p.take k) = r := ⟨_, rfl⟩
      rw [hr] at HT ⊢
      clear hx hts hr
      go_wp2_with fail
      go_loop [3, 14] (fun v3 v14 => ∃ j : Nat, j ≤ 8 ∧ v14 = .int .i64 j ∧ v3 = .int .u16 (mbits r x j).toNat) (fun _ v14 => 8 - (intOf v14).toNat)
      case atStart => exact ⟨0, by omega, rfl, rfl⟩
      case round =>
        obtain ⟨j, hj, rfl, rfl⟩ := hrel
        rcases (show j = 0 ∨ j = 1 ∨ j = 2 ∨ j = 3 ∨ j = 4 ∨ j = 5 ∨ j = 6 ∨ j = 7 ∨ j = 8 by omega) with rfl | rfl | rfl | rfl | rfl | rfl | rfl | rfl | rfl
        · go_wp2_with fail
          refine (sstep_any (mbits r x 0) _ (bt x 7) (bit_wrap hx0 hx1 7 (by rfl)) w).mono ?_
          rintro e w' ⟨rfl, rfl⟩
          go_wp2_with fail
          go_round
          case rel => exact ⟨1, by omega, rfl, rfl⟩
          case measure => simp [intOf]
        · go_wp2_with fail
          refine (sstep_any (mbits r x 1) _ (bt x 6) (bit_wrap hx0 hx1 6 (by rfl)) w).mono ?_
          rintro e w' ⟨rfl, rfl⟩
          go_wp2_with fail
          go_round
          case rel => exact ⟨2, by omega, rfl, rfl⟩
          case measure => simp [intOf]
        · go_wp2_with fail
          refine (sstep_any (mbits r x 2) _ (bt x 5) (bit_wrap hx0 hx1 5 (by rfl)) w).mono ?_
          rintro e w' ⟨rfl, rfl⟩
          go_wp2_with fail
          go_round
          case rel => exact ⟨3, by omega, rfl, rfl⟩
          case measure => simp [intOf]
        · go_wp2_with fail
          refine (sstep_any (mbits r x 3) _ (bt x 4) (bit_wrap hx0 hx1 4 (by rfl)) w).mono ?_
          rintro e w' ⟨rfl, rfl⟩
          go_wp2_with fail
          go_round
          case rel => exact ⟨4, by omega, rfl, rfl⟩
          case measure => simp [intOf]
        · go_wp2_with fail
          refine (sstep_any (mbits r x 4) _ (bt x 3) (bit_wrap hx0 hx1 3 (by rfl)) w).mono ?_
          rintro e w' ⟨rfl, rfl⟩
          go_wp2_with fail
          go_round
          case rel => exact ⟨5, by omega, rfl, rfl⟩
          case measure => simp [intOf]
        · go_wp2_with fail
          refine (sstep_any (mbits r x 5) _ (bt x 2) (bit_wrap hx0 hx1 2 (by rfl)) w).mono ?_
          rintro e w' ⟨rfl, rfl⟩
          go_wp2_with fail
          go_round
          case rel => exact ⟨6, by omega, rfl, rfl⟩
          case measure => simp [intOf]
        · go_wp2_with fail
          refine (sstep_any (mbits r x 6) _ (bt x 1) (bit_wrap hx0 hx1 1 (by rfl)) w).mono ?_
          rintro e w' ⟨rfl, rfl⟩
          go_wp2_with fail
          go_round
          case rel => exact ⟨7, by omega, rfl, rfl⟩
          case measure => simp [intOf]
        · go_wp2_with fail
          refine (sstep_any (mbits r x 7) _ (bt x 0) (bit_wrap hx0 hx1 0 (by simp)) w).mono ?_
          rintro e w' ⟨rfl, rfl⟩
          go_wp2_with fail
          go_round
          case rel => exact ⟨8, by omega, rfl, rfl⟩
          case measure => simp [intOf]
        · go_wp2_with fail
          go_round
          case rel => exact ⟨k + 1, by omega, by go_num, by rw [HT.out]; rfl⟩
          case measure => simp [intOf]; omega
    · have hkl : k = p.length := by omega
      subst hkl
      go_wp2_with fail
      go_ret
      exact ⟨rfl, rfl⟩

end Go.Proofs.YtlenhccdkhgfgaaDoor
