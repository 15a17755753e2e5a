/-
  Together: Sum4, Sum5, Sum6.
-/
import Derived.Test.YtlenhccdkhgfgaaDoorSum3
import Derived.Deep.RegionHeld3
/-
  The document's sums: bits as a list of their own.
-/
namespace Go.Proofs.YtlenhccdkhgfgaaDoor
open Go.RowKit

/-- Sixteen bools as cells. -/
def arrF (f : Nat → Bool) : Array Value := ((List.range 16).map (fun i => Value.bool (f i))).toArray

theorem arrF_at (f : Nat → Bool) {i : Nat} (h : i < 16) : (arrF f)[i]? = some (.bool (f i)) := by simp [arrF, h]

def updB (f : Nat → Bool) (i : Nat) (v : Bool) : Nat → Bool := fun j => if j = i then v else f j

theorem arrF_set (f : Nat → Bool) (i : Nat) (v : Bool) : (arrF f).setIfInBounds i (.bool v) = arrF (updB f i v) := by
  apply Array.ext_getElem?
  intro j
  by_cases hj : j < 16
  · rw [arrF_at _ hj, Array.getElem?_setIfInBounds]
    by_cases e : i = j
    · subst e; simp [arrF, hj, updB]
    · rw [if_neg e, arrF_at _ hj]; simp [updB, Ne.symm e]
  · have h1 : (arrF (updB f i v)).size ≤ j := by simp [arrF]; omega
    have h2 : ((arrF f).setIfInBounds i (.bool v)).size ≤ j := by simp [arrF]; omega
    rw [Array.getElem?_eq_none h1, Array.getElem?_eq_none h2]

theorem arrF_congr {f g : Nat → Bool} (h : ∀ i, i < 16 → f i = g i) : arrF f = arrF g := by
  unfold arrF
  congr 1
  apply List.map_congr_left
  intro i hi
  rw [h i (by simpa using hi)]

/-- Bits that were moved up, from the top down to j. -/
def shf (r : BitVec 16) (j : Nat) : Nat → Bool := fun i => if j < i then r.getLsbD (i - 1) else r.getLsbD i

theorem shf_top (r : BitVec 16) : arrF (shf r 15) = arrF r.getLsbD := arrF_congr (fun i hi => by unfold shf; rw [if_neg (by omega)])

theorem shf_next (r : BitVec 16) (j : Nat) : updB (shf r (j + 1)) (j + 1) (shf r (j + 1) j) = shf r j := by
  funext i
  unfold updB shf
  by_cases e : i = j + 1
  · subst e
    rw [if_pos rfl, if_neg (by omega), if_pos (by omega)]; rfl
  · rw [if_neg e]
    by_cases h : j < i
    · rw [if_pos (by omega), if_pos h]
    · rw [if_neg (by omega), if_neg h]

theorem ite_bit (c : Bool) (p : BitVec 16) (i : Nat) : (if c then p else 0#16).getLsbD i = (c && p.getLsbD i) := by cases c <;> simp

set_option maxRecDepth 100000 in
theorem step_plain (r : BitVec 16) (b : Bool) (h : (r.getLsbD 15 ^^ b) = false) : arrF (updB (shf r 0) 0 false) = arrF (mstep r b).getLsbD := by
  apply arrF_congr
  intro i hi
  have hm : r.msb = r.getLsbD 15 := BitVec.msb_eq_getLsbD_last r
  unfold mstep
  rw [hm, h]
  unfold updB shf
  rcases (show i = 0 ∨ i = 1 ∨ i = 2 ∨ i = 3 ∨ i = 4 ∨ i = 5 ∨ i = 6 ∨ i = 7 ∨ i = 8 ∨ i = 9 ∨ i = 10 ∨ i = 11 ∨ i = 12 ∨ i = 13 ∨ i = 14 ∨ i = 15 by omega) with rfl | rfl | rfl | rfl | rfl | rfl | rfl | rfl | rfl | rfl | rfl | rfl | rfl | rfl | rfl | rfl <;> simp

set_option maxRecDepth 100000 in
theorem step_turn (r : BitVec 16) (b : Bool) (h : (r.getLsbD 15 ^^ b) = true) :
    arrF (updB (updB (updB (updB (shf r 0) 0 false) 12 (!(r.getLsbD 11))) 5 (!(r.getLsbD 4))) 0 true) = arrF (mstep r b).getLsbD := by
  apply arrF_congr
  intro i hi
  have hm : r.msb = r.getLsbD 15 := BitVec.msb_eq_getLsbD_last r
  unfold mstep
  rw [hm, h]
  unfold updB shf
  rcases (show i = 0 ∨ i = 1 ∨ i = 2 ∨ i = 3 ∨ i = 4 ∨ i = 5 ∨ i = 6 ∨ i = 7 ∨ i = 8 ∨ i = 9 ∨ i = 10 ∨ i = 11 ∨ i = 12 ∨ i = 13 ∨ i = 14 ∨ i = 15 by omega) with rfl | rfl | rfl | rfl | rfl | rfl | rfl | rfl | rfl | rfl | rfl | rfl | rfl | rfl | rfl | rfl <;> simp

/-- The number that the highest j bits are. -/
def hiN (r : BitVec 16) (j : Nat) : Nat := r.toNat / 2 ^ (16 - j)

theorem hiN_next (r : BitVec 16) {j : Nat} (hj : j < 16) : hiN r (j + 1) = 2 * hiN r j + (if r.getLsbD (15 - j) then 1 else 0) := by
  unfold hiN
  have hb : r.getLsbD (15 - j) = decide (r.toNat / 2 ^ (15 - j) % 2 = 1) := by
    rw [← BitVec.testBit_toNat, Nat.testBit_eq_decide_div_mod_eq]
  rw [hb, show 16 - j = (15 - j) + 1 by omega, show 16 - (j + 1) = 15 - j by omega, Nat.pow_succ, ← Nat.div_div_eq_div_mul]
  by_cases h : r.toNat / 2 ^ (15 - j) % 2 = 1
  · simp [h]; omega
  · simp [h]; omega

theorem hiN_zero (r : BitVec 16) : hiN r 0 = 0 := by unfold hiN; have := r.isLt; omega
theorem hiN_all (r : BitVec 16) : hiN r 16 = r.toNat := by simp [hiN]
theorem hiN_le (r : BitVec 16) (j : Nat) : hiN r j ≤ 65535 := by
  unfold hiN
  have h1 := r.isLt
  have h2 := Nat.div_le_self r.toNat (2 ^ (16 - j))
  omega

theorem arrF_falses : arrF (fun _ => false) = #[.bool false, .bool false, .bool false, .bool false, .bool false, .bool false, .bool false, .bool false, .bool false, .bool false, .bool false, .bool false, .bool false, .bool false, .bool false, .bool false] := rfl

theorem bit_test (x : Int) (i : Nat) : (x / 2 ^ i % 2 == 1) = bt x i := rfl

theorem arr_set {w : World} {g i : Nat} {f : Nat → Bool} {t : TypeId} (h : w.heap[g]? = some (.cells (arrF f) t (0, 0))) (v : Bool) :
    (w.setCell ⟨g, i, none⟩ (.bool v)).heap[g]? = some (.cells (arrF (updB f i v)) t (0, 0)) := by
  rw [heap_setCell_at h, arrF_set]

theorem arr_cell {w : World} {g i : Nat} {f : Nat → Bool} {t : TypeId} (h : w.heap[g]? = some (.cells (arrF f) t (0, 0))) (hi : i < 16) : w.cell? ⟨g, i, none⟩ = some (.bool (f i)) := cell_at h (arrF_at f hi)

end Go.Proofs.YtlenhccdkhgfgaaDoor

/-
  The document's sum of bytes, bit by bit, is the same.
-/
namespace Go.Proofs.YtlenhccdkhgfgaaDoor
open Go.RowKit

theorem ones : ∀ i, i < 16 → decide (i < 16) = (65535#16).getLsbD i := by decide

theorem val_i64 {a b : Int} (h : a = b) : Value.int .i64 a = .int .i64 b := by rw [h]
theorem val_u16 {a b : Int} (h : a = b) : Value.int .u16 a = .int .u16 b := by rw [h]

set_option maxHeartbeats 16000000 in
set_option maxRecDepth 100000 in
theorem mref_of {w : World} {v : Value} {p : List Int} (h : SlB w v p) (hb : Bytes p) :
    Calls Tryd.prog 32 #[v] w fun e w' => e = .returned (.int .u16 (mof p).toNat) ∧ Keeps No w w' := by
  obtain ⟨ao, cap, rfl⟩ := h.any
  have hm : p.length ≤ maxLen := h.2.1
  unfold maxLen at hm
  obtain ⟨w1, hw1⟩ : ∃ w1, w1 = w.alloc (.cells #[.bool false, .bool false, .bool false, .bool false, .bool false, .bool false, .bool false, .bool false, .bool false, .bool false, .bool false, .bool false, .bool false, .bool false, .bool false, .bool false] 122) := ⟨_, rfl⟩
  have hk1 : Keeps No w w1 := by rw [hw1]; exact (Keeps.refl No _).alloc _
  have hb1 : w1.heap[w.heap.size]? = some (.cells (arrF (fun i => decide (i < 0))) 122 (0, 0)) := by rw [hw1]; exact heap_alloc_new w _
  have HS := hid h
  have HB := hid hb
  have HW1 := hid hw1
  have HB1 := hid hb1
  have HK1 := hid hk1
  obtain ⟨R, hR⟩ : ∃ R, mof p = R := ⟨_, rfl⟩
  rw [hR]
  have HR := hid hR
  clear h hb hw1 hb1 hk1 hR
  go_enter Tryd.func32, Tryd.ntmps32
  go_wp2_with fail
  rw [← HW1.out]
  obtain ⟨ab, hab⟩ : ∃ ab, ab = w.heap.size := ⟨_, rfl⟩
  rw [← hab] at HB1 ⊢
  have hnew : w.heap.size ≤ ab := by omega
  clear hab HW1
  go_loopw [4] (fun v4 wr => ∃ k : Nat, k ≤ 16 ∧ v4 = .int .i64 k ∧ Hid (wr.heap[ab]? = some (.cells (arrF (fun i => decide (i < k))) 122 (0, 0))) ∧ Hid (Keeps No w wr)) (fun v4 _ => 16 - (intOf v4).toNat)
  case atStart => exact ⟨0, by omega, rfl, HB1, HK1⟩
  case round =>
    obtain ⟨k, hk, rfl, HA, HK⟩ := hrel
    clear HB1 HK1
    by_cases hlt : k < 16
    · obtain ⟨b0, hc⟩ : ∃ b, wr.cell? ⟨ab, k, none⟩ = some (.bool b) := ⟨_, arr_cell HA.out hlt⟩
      have hf := free_at (i := k) HA.out
      go_wp2_with fail
      go_roundw
      case rel =>
        refine ⟨k + 1, by omega, by go_num, hid ?_, hid (HK.out.setCell (p := ⟨ab, k, none⟩) (Or.inl hnew) _)⟩
        have h1 := arr_set (i := k) HA.out true
        rw [arrF_congr (g := fun i => decide (i < k + 1)) (fun i hi => by unfold updB; split <;> simp <;> omega)] at h1
        exact h1
      case measure => simp [intOf]; omega
    · obtain rfl : k = 16 := by omega
      have hA := HA.out
      rw [arrF_congr ones] at hA
      have HA2 := hid hA
      clear HA hA
      go_wp2_with fail
      go_loopw [5] (fun v5 wr => ∃ k : Nat, k ≤ p.length ∧ v5 = .int .i64 k ∧ Hid (wr.heap[ab]? = some (.cells (arrF (mof (p.take k)).getLsbD) 122 (0, 0))) ∧ Hid (Keeps No w wr)) (fun v5 _ => p.length - (intOf v5).toNat)
      case atStart => exact ⟨0, Nat.zero_le _, rfl, HA2, HK⟩
      case round =>
        obtain ⟨k, hk, rfl, HA, HK⟩ := hrel
        clear HA2
        by_cases hlt : k < p.length
        · obtain ⟨g, off, rfl, _, hcw⟩ := SlB.cellAt HS.out hlt
          have hbd := HB.out p[k] (List.getElem_mem hlt)
          have hts : mof (p.take (k + 1)) = mbyte (mof (p.take k)) p[k] := by rw [List.take_succ_eq_append_getElem hlt]; unfold mof; rw [List.foldl_append]; rfl
          obtain ⟨x, hx⟩ : ∃ x, p[k] = x := ⟨_, rfl⟩
          rw [hx] at hcw hbd hts
          obtain ⟨hx0, hx1⟩ := hbd
          have HT := hid hts
          obtain ⟨r, hr⟩ : ∃ r, mof (p.take k) = r := ⟨_, rfl⟩
          rw [hr] at HT HA
          have HCW := hid hcw
          clear hx hts hr hcw
          go_wp2_with fail
          go_loopw [6] (fun v6 wr => ∃ j : Nat, j ≤ 8 ∧ v6 = .int .i64 (7 - (j : Int)) ∧ Hid (wr.heap[ab]? = some (.cells (arrF (mbits r x j).getLsbD) 122 (0, 0))) ∧ Hid (Keeps No w wr)) (fun v6 _ => (intOf v6 + 1).toNat)
          case atStart => exact ⟨0, by omega, rfl, HA, HK⟩
          case round =>
            obtain ⟨j, hj, rfl, HA, HK⟩ := hrel
            by_cases hj8 : j < 8
            · obtain ⟨m, hmj⟩ : ∃ m : Nat, (7 : Int) - (j : Int) = (m : Int) := ⟨7 - j, by omega⟩
              have hm7 : m = 7 - j := by omega
              rw [hmj]
              have hc := HK.out.cell (fun h => h) HCW.out
              obtain ⟨R, hR⟩ : ∃ R, mbits r x j = R := ⟨_, rfl⟩
              have hnx : mbits r x (j + 1) = mstep R (bt x m) := by rw [← hR, hm7]; rfl
              rw [hR] at HA
              have c15 := arr_cell (i := 15) HA.out (by omega)
              have hmin : min m 8 = m := by omega
              have hdiv : 0 ≤ x / 2 ^ m := Int.ediv_nonneg hx0 (by exact_mod_cast Nat.zero_le _)
              have htest := bit_test x m
              have HNX := hid hnx
              have HMJ := hid hmj
              have HM7 := hid hm7
              clear hR hnx hmj hm7
              rcases hB : bt x m with _ | _
              all_goals
                rw [hB] at htest HNX
                clear hB
                rcases h15 : R.getLsbD 15 with _ | _
                all_goals
                  rw [h15] at c15
                  have H15 := hid h15
                  clear h15
                  go_wp2_with fail
                  go_quiet (fail)
                  go_wp2_with fail
                  have HA0 := hid (show (wr.drewN nq).heap[ab]? = some (.cells (arrF (shf R 15)) 122 (0, 0)) by rw [shf_top]; exact HA.out)
                  go_loopw [8] (fun v8 wr => ∃ i : Nat, i ≤ 15 ∧ v8 = .int .i64 i ∧ Hid (wr.heap[ab]? = some (.cells (arrF (shf R i)) 122 (0, 0))) ∧ Hid (Keeps No w wr)) (fun v8 _ => (intOf v8).toNat)
                  case atStart => exact ⟨15, by omega, rfl, HA0, hid (HK.out.drewN _)⟩
                  case round =>
                    obtain ⟨i, hi, rfl, HA, HK⟩ := hrel
                    clear HA0 c15 hc htest hdiv
                    rcases i with _ | i
                    · obtain ⟨z0, d0⟩ : ∃ b, wr.cell? ⟨ab, 0, none⟩ = some (.bool b) := ⟨_, arr_cell HA.out (by omega)⟩
                      have d12 : wr.cell? ⟨ab, 12, none⟩ = some (.bool (R.getLsbD 11)) := arr_cell HA.out (by omega)
                      have d5 : wr.cell? ⟨ab, 5, none⟩ = some (.bool (R.getLsbD 4)) := arr_cell HA.out (by omega)
                      have f0 := free_at (i := 0) HA.out
                      have f5 := free_at (i := 5) HA.out
                      have f12 := free_at (i := 12) HA.out
                      go_wp2_with fail
                      go_roundw
                      case rel =>
                        refine ⟨j + 1, by omega, val_i64 (by have := HMJ.out; omega), hid ?_, hid ?_⟩
                        · rw [HNX.out]
                          first
                            | (rw [← step_plain R _ (by rw [H15.out]; rfl)]; exact arr_set HA.out false)
                            | (rw [← step_turn R _ (by rw [H15.out]; rfl)]; exact arr_set (arr_set (arr_set (arr_set HA.out false) _) _) true)
                        · have hk := HK.out
                          repeat' (first | with_reducible exact hk | with_reducible refine Keeps.setCell ?_ ?_ _ | exact Or.inl hnew)
                      case measure => simp [intOf]
                    · have d1 := arr_cell (i := i) HA.out (by omega)
                      obtain ⟨z2, d2⟩ : ∃ b, wr.cell? ⟨ab, i + 1, none⟩ = some (.bool b) := ⟨_, arr_cell HA.out (by omega)⟩
                      have f2 := free_at (i := i + 1) HA.out
                      go_wp2_with fail
                      go_roundw
                      case rel =>
                        refine ⟨i, by omega, by go_num, hid ?_, hid (HK.out.setCell (p := ⟨ab, i + 1, none⟩) (Or.inl hnew) _)⟩
                        have h1 := arr_set (i := i + 1) HA.out (shf R (i + 1) i)
                        rw [shf_next] at h1
                        exact h1
                      case measure => simp [intOf]
            · obtain rfl : j = 8 := by omega
              go_wp2_with fail
              go_roundw
              case rel => exact ⟨k + 1, by omega, by go_num, hid (by rw [HT.out]; exact HA.out), HK⟩
              case measure => simp [intOf]; omega
        · obtain rfl : k = p.length := by omega
          have hA := HA.out
          rw [List.take_length, HR.out] at hA
          have HA2 := hid hA
          clear hA HA
          go_wp2_with fail
          go_loop [9, 10] (fun v9 v10 => ∃ j : Nat, j ≤ 16 ∧ v10 = .int .i64 (15 - (j : Int)) ∧ v9 = .int .u16 (hiN R j)) (fun _ v10 => (intOf v10 + 1).toNat)
          case atStart => exact ⟨0, by omega, rfl, by rw [hiN_zero]; rfl⟩
          case round =>
            obtain ⟨j, hj, rfl, rfl⟩ := hrel
            by_cases hj16 : j < 16
            · obtain ⟨m, hmj⟩ : ∃ m : Nat, (15 : Int) - (j : Int) = (m : Int) := ⟨15 - j, by omega⟩
              have hm15 : 15 - j = m := by omega
              have hm16 : m < 16 := by omega
              have hn := hiN_next R hj16
              have hq2 := hiN_le R (j + 1)
              rw [hm15] at hn
              obtain ⟨q, hq⟩ : ∃ q, hiN R j = q := ⟨_, rfl⟩
              obtain ⟨q', hq'⟩ : ∃ q, hiN R (j + 1) = q := ⟨_, rfl⟩
              rw [hq, hq'] at hn
              rw [hq'] at hq2
              rw [hmj, hq]
              have c1 := arr_cell (i := m) HA2.out (by omega)
              have HQ' := hid hq'
              have HMJ := hid hmj
              clear hq hq' hmj hm15
              rcases hbit : R.getLsbD m with _ | _
              · rw [hbit] at c1 hn
                simp only [Bool.false_eq_true, if_false] at hn
                have hq0 : q ≤ 32767 := by omega
                have HN := hid hn
                clear hbit hn
                go_wp2_with fail
                go_round
                case rel => exact ⟨j + 1, by omega, (by have h1 := HMJ.out; first | exact val_i64 (by omega) | omega), (by have h1 := HN.out; have h2 := HQ'.out; first | exact val_u16 (by rw [h2]; omega) | (rw [h2]; omega))⟩
                case measure => simp [intOf]
              · rw [hbit] at c1 hn
                simp only [if_true] at hn
                have hq0 : q ≤ 32767 := by omega
                have HN := hid hn
                clear hbit hn
                go_wp2_with fail
                go_round
                case rel => exact ⟨j + 1, by omega, (by have h1 := HMJ.out; first | exact val_i64 (by omega) | omega), (by have h1 := HN.out; have h2 := HQ'.out; first | exact val_u16 (by rw [h2]; omega) | (rw [h2]; omega))⟩
                case measure => simp [intOf]
            · obtain rfl : j = 16 := by omega
              have HE := hid (hiN_all R)
              go_wp2_with fail
              go_ret
              exact ⟨ret_val (by rw [HE.out]), HK.out⟩

end Go.Proofs.YtlenhccdkhgfgaaDoor

/-
  The document's sums, more: Close, Open; the document's example.
-/
namespace Go.Proofs.YtlenhccdkhgfgaaDoor
open Go.RowKit

set_option maxHeartbeats 1000000 in
set_option maxRecDepth 100000 in
theorem mclose_any {w : World} {v : Value} {p : List Int} (h : SlB w v p) (hb : Bytes p) (hl : p.length ≤ 1000) :
    Calls Tryd.prog 18 #[v] w fun e w' => ∃ v', e = .returned v' ∧ w'.ownsRow 0 5 1 v' (p.length + 2) ((p ++ [((mof p).toNat : Int) / 256, ((mof p).toNat : Int) % 256]).map (Value.int .u8)) ∧ Keeps No w w' ∧ ∀ k, v'.ownBlock = some k → w.heap.size ≤ k := by
  obtain ⟨ao, cap, rfl⟩ := h.any
  have hof := mref_of h hb
  have hlt := (mof p).isLt
  obtain ⟨n, hn⟩ : ∃ n, (mof p).toNat = n := ⟨_, rfl⟩
  rw [hn] at hof hlt ⊢
  have h8 : IntKind.u8.wrap ((n : Int) / 256) = (n : Int) / 256 := by rw [IntKind.wrap_u8]; omega
  have h9 : IntKind.u8.wrap ((n : Int) % 256) = (n : Int) % 256 := by rw [IntKind.wrap_u8]; omega
  have HS := hid h
  clear h hb hn
  go_enter Tryd.func18, Tryd.ntmps18
  go_wp2_with fail
  refine hof.mono ?_
  rintro e w1 ⟨rfl, k1⟩
  have K1 := hid k1
  clear hof k1
  go_wp2_with fail
  refine (mjoin_any ((HS.out.keep K1.out (fun _ _ h => h)).alloc _) (q := [(n : Int) / 256, (n : Int) % 256]) (Sl.new _ _ _ _ _ rfl (by simp [maxLen])) (by simp; omega)).mono ?_
  rintro e w2 ⟨v2, rfl, ho2, k2, hb2⟩
  have HO2 := hid ho2
  have K2 := hid ((K1.out.alloc _).trans k2)
  have B2 : Hid (∀ k, v2.ownBlock = some k → w.heap.size ≤ k) := hid (fun k hk => by
    have h1 : w1.heap.size + 1 ≤ k := by simpa using hb2 k hk
    have h2 := K1.out.size
    omega)
  clear ho2 k2 hb2
  obtain ⟨a2, c2, rfl⟩ := own_any HO2.out
  go_wp2_with fail
  go_ret
  exact ⟨_, rfl, HO2.out, K2.out, B2.out⟩

section
variable {w : World} {v : Value}

set_option maxHeartbeats 1000000 in
set_option maxRecDepth 100000 in
theorem mopen_short {p : List Int} (h : SlB w v p) (hl : p.length < 2) :
    Calls Tryd.prog 55 #[v] w fun e w' => e = .returned (.tuple #[.slice none 0 0, .int .i64 4]) ∧ w = w' := by
  obtain ⟨ao, cap, rfl⟩ := h.any
  clear h
  go_enter Tryd.func55, Tryd.ntmps55
  go_wp2_with fail
  go_ret2
  exact ⟨rfl, rfl⟩

set_option maxHeartbeats 4000000 in
set_option maxRecDepth 100000 in
theorem mopen_bad {m : List Int} {a b : Int} (h : SlB w v (m ++ [a, b])) (hb : Bytes (m ++ [a, b])) (hl : m.length ≤ 1000) (hne : mof m ≠ word a b) :
    Calls Tryd.prog 55 #[v] w fun e w' => e = .returned (.tuple #[.slice none 0 0, .int .i64 3]) ∧ Keeps No w w' := by
  obtain ⟨ao, cap, rfl⟩ := h.any
  have hcap := Sl.cap h
  rw [List.length_append] at hcap
  simp only [List.length_cons, List.length_nil] at hcap
  have hcm : m.length ≤ cap := by omega
  obtain ⟨g, off, rfl, _, c0, c1⟩ := SlB.two h
  have hab : Bytes [a, b] := fun x hx => hb x (by simp at hx ⊢; exact Or.inr hx)
  have hof := fun (w' : World) (k : Keeps No w w') => mref_of (w := w') (Sl.keep (SlB.front h) k (fun _ _ h => h)) (fun x hx => hb x (by simp; exact Or.inl hx))
  have hwi := word_int hab
  have hba := hab a (by simp)
  have hbb := hab b (by simp)
  have hne2 : (a * 256 + b != ((mof m).toNat : Int)) = true := by
    rw [bne_iff_ne, show a * 256 + b = 256 * a + b by omega, ← hwi]
    intro e
    exact hne (BitVec.eq_of_toNat_eq (by omega)).symm
  obtain ⟨ha0, ha1⟩ := hba
  obtain ⟨hb0, hb1⟩ := hbb
  have hlen : (m ++ [a, b]).length = m.length + 2 := by simp
  rw [hlen]
  obtain ⟨n, hn⟩ : ∃ n, (mof m).toNat = n := ⟨_, rfl⟩
  rw [hn] at hof hne2
  have hne3 : ¬ (a * 256 + b = (n : Int)) := by simpa using hne2
  have hne4 : (a * 256 + b == (n : Int)) = false := by simpa using hne2
  have HO := hid hof
  have hl0 : (0 : Int) ≤ (m.length : Int) := by omega
  have hl1 : (m.length : Int) < (m.length : Int) + 2 := by omega
  have hl2 : (m.length : Int) + 1 < (m.length : Int) + 2 := by omega
  have hl3 : 0 ≤ (m.length : Int) + 1 := by omega
  have hl4 : (m.length : Int) ≤ (cap : Int) := by omega
  have hw1 : IntKind.u16.wrap (a * 256) = a * 256 := by rw [IntKind.wrap_u16]; omega
  have hw2 : IntKind.u16.wrap (a * 256 + b) = a * 256 + b := by rw [IntKind.wrap_u16]; omega
  have hw3 : IntKind.i64.wrap ((m.length : Int) + 1) = (m.length : Int) + 1 := by rw [IntKind.wrap_i64]; omega
  have hw4 : ((m.length : Int) + 1).toNat = m.length + 1 := by omega
  have hw5 : IntKind.u16.wrap (IntKind.u16.wrap (IntKind.u16.wrap a * 256) + IntKind.u16.wrap b) = a * 256 + b := by simp only [IntKind.wrap_u16]; omega
  have hne5 : (IntKind.u16.wrap (IntKind.u16.wrap (IntKind.u16.wrap a * 256) + IntKind.u16.wrap b) != (n : Int)) = true := by rw [hw5]; exact hne2
  clear hw5
  clear h hb hab hwi hne hlen hof hn
  go_enter Tryd.func55, Tryd.ntmps55
  go_wp2_with fail
  go_region_with (go_at_call 32; refine (HO.out _ (by first | exact (Keeps.refl No _).drew | exact Keeps.refl No _)).mono ?_; rintro e w2 ⟨rfl, k2⟩; have d0 := k2.cell (fun h => h) c0; have d1 := k2.cell (fun h => h) c1; have K2 := hid k2; clear k2)
  all_goals
    go_wp2_with fail
    all_goals first
      | (exfalso; omega)
      | (go_ret2; exact ⟨rfl, by have hk := (Keeps.refl No w).drew.trans K2.out; exact hk⟩)

set_option maxHeartbeats 4000000 in
set_option maxRecDepth 100000 in
theorem mopen_ok {m : List Int} {a b : Int} {ao : Option Addr} {cap : Nat} (h : SlB w (.slice ao (m ++ [a, b]).length cap) (m ++ [a, b])) (hb : Bytes (m ++ [a, b])) (hl : m.length ≤ 1000) (he : mof m = word a b) :
    Calls Tryd.prog 55 #[.slice ao (m ++ [a, b]).length cap] w fun e w' => e = .returned (.tuple #[.slice ao m.length cap, .int .i64 0]) ∧ Keeps No w w' := by
  have hcap := Sl.cap h
  rw [List.length_append] at hcap
  simp only [List.length_cons, List.length_nil] at hcap
  have hcm : m.length ≤ cap := by omega
  obtain ⟨g, off, rfl, _, c0, c1⟩ := SlB.two h
  have hab : Bytes [a, b] := fun x hx => hb x (by simp at hx ⊢; exact Or.inr hx)
  have hof := fun (w' : World) (k : Keeps No w w') => mref_of (w := w') (Sl.keep (SlB.front h) k (fun _ _ h => h)) (fun x hx => hb x (by simp; exact Or.inl hx))
  have hwi := word_int hab
  have hba := hab a (by simp)
  have hbb := hab b (by simp)
  rw [he] at hof
  obtain ⟨n, hn⟩ : ∃ n, (word a b).toNat = n := ⟨_, rfl⟩
  rw [hn] at hof hwi
  have hne2 : (a * 256 + b != (n : Int)) = false := by rw [hwi]; simp; omega
  have hne3 : a * 256 + b = (n : Int) := by omega
  have HN := hid hne3
  obtain ⟨ha0, ha1⟩ := hba
  obtain ⟨hb0, hb1⟩ := hbb
  have hlen : (m ++ [a, b]).length = m.length + 2 := by simp
  rw [hlen]
  have HO := hid hof
  have hl0 : (0 : Int) ≤ (m.length : Int) := by omega
  have hl1 : (m.length : Int) < (m.length : Int) + 2 := by omega
  have hl2 : (m.length : Int) + 1 < (m.length : Int) + 2 := by omega
  have hl3 : 0 ≤ (m.length : Int) + 1 := by omega
  have hl4 : (m.length : Int) ≤ (cap : Int) := by omega
  have hw1 : IntKind.u16.wrap (a * 256) = a * 256 := by rw [IntKind.wrap_u16]; omega
  have hw2 : IntKind.u16.wrap (a * 256 + b) = a * 256 + b := by rw [IntKind.wrap_u16]; omega
  have hw3 : IntKind.i64.wrap ((m.length : Int) + 1) = (m.length : Int) + 1 := by rw [IntKind.wrap_i64]; omega
  have hw4 : ((m.length : Int) + 1).toNat = m.length + 1 := by omega
  have hw5 : IntKind.u16.wrap (IntKind.u16.wrap (IntKind.u16.wrap a * 256) + IntKind.u16.wrap b) = a * 256 + b := by simp only [IntKind.wrap_u16]; omega
  have hne5 : (IntKind.u16.wrap (IntKind.u16.wrap (IntKind.u16.wrap a * 256) + IntKind.u16.wrap b) != (n : Int)) = false := by rw [hw5]; exact hne2
  clear hw5
  clear h hb hab hwi he hlen hof hn hne3
  go_enter Tryd.func55, Tryd.ntmps55
  go_wp2_with fail
  go_region_with (go_at_call 32; refine (HO.out _ (by first | exact (Keeps.refl No _).drew | exact Keeps.refl No _)).mono ?_; rintro e w2 ⟨rfl, k2⟩; have d0 := k2.cell (fun h => h) c0; have d1 := k2.cell (fun h => h) c1; have K2 := hid k2; clear k2)
  all_goals
    go_wp2_with fail
    all_goals first
      | (exfalso; have hx := HN.out; omega)
      | (go_ret2; exact ⟨rfl, by have hk := (Keeps.refl No w).drew.trans K2.out; exact hk⟩)

end

end Go.Proofs.YtlenhccdkhgfgaaDoor
