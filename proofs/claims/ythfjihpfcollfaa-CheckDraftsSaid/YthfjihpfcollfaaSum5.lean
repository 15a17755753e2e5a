/-
  The document's sum of bytes, bit by bit, is the same.
-/
import Derived.Test.YthfjihpfcollfaaSum4
namespace Go.Proofs.Ythfjihpfcollfaa
open Go.RowKit

theorem ones : ∀ i, i < 16 → decide (i < 16) = (65535#16).getLsbD i := by decide

theorem val_i64 {a b : Int} (h : a = b) : Value.int .i64 a = .int .i64 b := by rw [h]
theorem val_u16 {a b : Int} (h : a = b) : Value.int .u16 a = .int .u16 b := by rw [h]

set_option maxHeartbeats 16000000 in
set_option maxRecDepth 100000 in
theorem mref_of {w : World} {v : Value} {p : List Int} (h : SlB w v p) (hb : Bytes p) :
    Calls Try.prog 44 #[v] w fun e w' => e = .returned (.int .u16 (mof p).toNat) ∧ Keeps No w w' := by
  obtain ⟨ao, cap, rfl⟩ := h.any
  have hm : p.length ≤ maxLen := h.2.1
  unfold maxLen at hm
  obtain ⟨w1, hw1⟩ : ∃ w1, w1 = w.alloc (.cells #[.bool false, .bool false, .bool false, .bool false, .bool false, .bool false, .bool false, .bool false, .bool false, .bool false, .bool false, .bool false, .bool false, .bool false, .bool false, .bool false] 97) := ⟨_, rfl⟩
  have hk1 : Keeps No w w1 := by rw [hw1]; exact (Keeps.refl No _).alloc _
  have hb1 : w1.heap[w.heap.size]? = some (.cells (arrF (fun i => decide (i < 0))) 97 (0, 0)) := by rw [hw1]; exact heap_alloc_new w _
  have HS := hid h
  have HB := hid hb
  have HW1 := hid hw1
  have HB1 := hid hb1
  have HK1 := hid hk1
  obtain ⟨R, hR⟩ : ∃ R, mof p = R := ⟨_, rfl⟩
  rw [hR]
  have HR := hid hR
  clear h hb hw1 hb1 hk1 hR
  go_enter Try.func44, Try.ntmps44
  go_wp2_with fail
  rw [← HW1.out]
  obtain ⟨ab, hab⟩ : ∃ ab, ab = w.heap.size := ⟨_, rfl⟩
  rw [← hab] at HB1 ⊢
  have hnew : w.heap.size ≤ ab := by omega
  clear hab HW1
  go_loopw [4] (fun v4 wr => ∃ k : Nat, k ≤ 16 ∧ v4 = .int .i64 k ∧ Hid (wr.heap[ab]? = some (.cells (arrF (fun i => decide (i < k))) 97 (0, 0))) ∧ Hid (Keeps No w wr)) (fun v4 _ => 16 - (intOf v4).toNat)
  case atStart => exact ⟨0, by omega, rfl, HB1, HK1⟩
  case round =>
    obtain ⟨k, hk, rfl, HA, HK⟩ := hrel
    clear HB1 HK1
    by_cases hlt : k < 16
    · obtain ⟨b0, hc⟩ : ∃ b, wr.cell? ⟨ab, k, none⟩ = some (.bool b) := ⟨_, arr_cell HA.out hlt⟩
      have hf := free_at (i := k) HA.out
      go_wp2_with fail
      go_roundw
      case rel =>
        refine ⟨k + 1, by omega, by go_num, hid ?_, hid (HK.out.setCell (p := ⟨ab, k, none⟩) (Or.inl hnew) _)⟩
        have h1 := arr_set (i := k) HA.out true
        rw [arrF_congr (g := fun i => decide (i < k + 1)) (fun i hi => by unfold updB; split <;> simp <;> omega)] at h1
        exact h1
      case measure => simp [intOf]; omega
    · obtain rfl : k = 16 := by omega
      have hA := HA.out
      rw [arrF_congr ones] at hA
      have HA2 := hid hA
      clear HA hA
      go_wp2_with fail
      go_loopw [5] (fun v5 wr => ∃ k : Nat, k ≤ p.length ∧ v5 = .int .i64 k ∧ Hid (wr.heap[ab]? = some (.cells (arrF (mof (p.take k)).getLsbD) 97 (0, 0))) ∧ Hid (Keeps No w wr)) (fun v5 _ => p.length - (intOf v5).toNat)
      case atStart => exact ⟨0, Nat.zero_le _, rfl, HA2, HK⟩
      case round =>
        obtain ⟨k, hk, rfl, HA, HK⟩ := hrel
        clear HA2
        by_cases hlt : k < p.length
        · obtain ⟨g, off, rfl, _, hcw⟩ := SlB.cellAt HS.out hlt
          have hbd := HB.out p[k] (List.getElem_mem hlt)
          have hts : mof (p.take (k + 1)) = mbyte (mof (p.take k)) p[k] := by rw [List.take_succ_eq_append_getElem hlt]; unfold mof; rw [List.foldl_append]; rfl
          obtain ⟨x, hx⟩ : ∃ x, p[k] = x := ⟨_, rfl⟩
          rw [hx] at hcw hbd hts
          obtain ⟨hx0, hx1⟩ := hbd
          have HT := hid hts
          obtain ⟨r, hr⟩ : ∃ r, mof (p.take k) = r := ⟨_, rfl⟩
          rw [hr] at HT HA
          have HCW := hid hcw
          clear hx hts hr hcw
          go_wp2_with fail
          go_loopw [6] (fun v6 wr => ∃ j : Nat, j ≤ 8 ∧ v6 = .int .i64 (7 - (j : Int)) ∧ Hid (wr.heap[ab]? = some (.cells (arrF (mbits r x j).getLsbD) 97 (0, 0))) ∧ Hid (Keeps No w wr)) (fun v6 _ => (intOf v6 + 1).toNat)
          case atStart => exact ⟨0, by omega, rfl, HA, HK⟩
          case round =>
            obtain ⟨j, hj, rfl, HA, HK⟩ := hrel
            by_cases hj8 : j < 8
            · obtain ⟨m, hmj⟩ : ∃ m : Nat, (7 : Int) - (j : Int) = (m : Int) := ⟨7 - j, by omega⟩
              have hm7 : m = 7 - j := by omega
              rw [hmj]
              have hc := HK.out.cell (fun h => h) HCW.out
              obtain ⟨R, hR⟩ : ∃ R, mbits r x j = R := ⟨_, rfl⟩
              have hnx : mbits r x (j + 1) = mstep R (bt x m) := by rw [← hR, hm7]; rfl
              rw [hR] at HA
              have c15 := arr_cell (i := 15) HA.out (by omega)
              have hmin : min m 8 = m := by omega
              have hdiv : 0 ≤ x / 2 ^ m := Int.ediv_nonneg hx0 (by exact_mod_cast Nat.zero_le _)
              have htest := bit_test x m
              have HNX := hid hnx
              have HMJ := hid hmj
              have HM7 := hid hm7
              clear hR hnx hmj hm7
              rcases hB : bt x m with _ | _
              all_goals
                rw [hB] at htest HNX
                clear hB
                rcases h15 : R.getLsbD 15 with _ | _
                all_goals
                  rw [h15] at c15
                  have H15 := hid h15
                  clear h15
                  go_wp2_with fail
                  go_quiet (fail)
                  go_wp2_with fail
                  have HA0 := hid (show (wr.drewN nq).heap[ab]? = some (.cells (arrF (shf R 15)) 97 (0, 0)) by rw [shf_top]; exact HA.out)
                  go_loopw [8] (fun v8 wr => ∃ i : Nat, i ≤ 15 ∧ v8 = .int .i64 i ∧ Hid (wr.heap[ab]? = some (.cells (arrF (shf R i)) 97 (0, 0))) ∧ Hid (Keeps No w wr)) (fun v8 _ => (intOf v8).toNat)
                  case atStart => exact ⟨15, by omega, rfl, HA0, hid (HK.out.drewN _)⟩
                  case round =>
                    obtain ⟨i, hi, rfl, HA, HK⟩ := hrel
                    clear HA0 c15 hc htest hdiv
                    rcases i with _ | i
                    · obtain ⟨z0, d0⟩ : ∃ b, wr.cell? ⟨ab, 0, none⟩ = some (.bool b) := ⟨_, arr_cell HA.out (by omega)⟩
                      have d12 : wr.cell? ⟨ab, 12, none⟩ = some (.bool (R.getLsbD 11)) := arr_cell HA.out (by omega)
                      have d5 : wr.cell? ⟨ab, 5, none⟩ = some (.bool (R.getLsbD 4)) := arr_cell HA.out (by omega)
                      have f0 := free_at (i := 0) HA.out
                      have f5 := free_at (i := 5) HA.out
                      have f12 := free_at (i := 12) HA.out
                      go_wp2_with fail
                      go_roundw
                      case rel =>
                        refine ⟨j + 1, by omega, val_i64 (by have := HMJ.out; omega), hid ?_, hid ?_⟩
                        · rw [HNX.out]
                          first
                            | (rw [← step_plain R _ (by rw [H15.out]; rfl)]; exact arr_set HA.out false)
                            | (rw [← step_turn R _ (by rw [H15.out]; rfl)]; exact arr_set (arr_set (arr_set (arr_set HA.out false) _) _) true)
                        · have hk := HK.out
                          repeat' (first | with_reducible exact hk | with_reducible refine Keeps.setCell ?_ ?_ _ | exact Or.inl hnew)
                      case measure => simp [intOf]
                    · have d1 := arr_cell (i := i) HA.out (by omega)
                      obtain ⟨z2, d2⟩ : ∃ b, wr.cell? ⟨ab, i + 1, none⟩ = some (.bool b) := ⟨_, arr_cell HA.out (by omega)⟩
                      have f2 := free_at (i := i + 1) HA.out
                      go_wp2_with fail
                      go_roundw
                      case rel =>
                        refine ⟨i, by omega, by go_num, hid ?_, hid (HK.out.setCell (p := ⟨ab, i + 1, none⟩) (Or.inl hnew) _)⟩
                        have h1 := arr_set (i := i + 1) HA.out (shf R (i + 1) i)
                        rw [shf_next] at h1
                        exact h1
                      case measure => simp [intOf]
            · obtain rfl : j = 8 := by omega
              go_wp2_with fail
              go_roundw
              case rel => exact ⟨k + 1, by omega, by go_num, hid (by rw [HT.out]; exact HA.out), HK⟩
              case measure => simp [intOf]; omega
        · obtain rfl : k = p.length := by omega
          have hA := HA.out
          rw [List.take_length, HR.out] at hA
          have HA2 := hid hA
          clear hA HA
          go_wp2_with fail
          go_loop [9, 10] (fun v9 v10 => ∃ j : Nat, j ≤ 16 ∧ v10 = .int .i64 (15 - (j : Int)) ∧ v9 = .int .u16 (hiN R j)) (fun _ v10 => (intOf v10 + 1).toNat)
          case atStart => exact ⟨0, by omega, rfl, by rw [hiN_zero]; rfl⟩
          case round =>
            obtain ⟨j, hj, rfl, rfl⟩ := hrel
            by_cases hj16 : j < 16
            · obtain ⟨m, hmj⟩ : ∃ m : Nat, (15 : Int) - (j : Int) = (m : Int) := ⟨15 - j, by omega⟩
              have hm15 : 15 - j = m := by omega
              have hm16 : m < 16 := by omega
              have hn := hiN_next R hj16
              have hq2 := hiN_le R (j + 1)
              rw [hm15] at hn
              obtain ⟨q, hq⟩ : ∃ q, hiN R j = q := ⟨_, rfl⟩
              obtain ⟨q', hq'⟩ : ∃ q, hiN R (j + 1) = q := ⟨_, rfl⟩
              rw [hq, hq'] at hn
              rw [hq'] at hq2
              rw [hmj, hq]
              have c1 := arr_cell (i := m) HA2.out (by omega)
              have HQ' := hid hq'
              have HMJ := hid hmj
              clear hq hq' hmj hm15
              rcases hbit : R.getLsbD m with _ | _
              · rw [hbit] at c1 hn
                simp only [Bool.false_eq_true, if_false] at hn
                have hq0 : q ≤ 32767 := by omega
                have HN := hid hn
                clear hbit hn
                go_wp2_with fail
                go_round
                case rel => exact ⟨j + 1, by omega, (by have h1 := HMJ.out; first | exact val_i64 (by omega) | omega), (by have h1 := HN.out; have h2 := HQ'.out; first | exact val_u16 (by rw [h2]; omega) | (rw [h2]; omega))⟩
                case measure => simp [intOf]
              · rw [hbit] at c1 hn
                simp only [if_true] at hn
                have hq0 : q ≤ 32767 := by omega
                have HN := hid hn
                clear hbit hn
                go_wp2_with fail
                go_round
                case rel => exact ⟨j + 1, by omega, (by have h1 := HMJ.out; first | exact val_i64 (by omega) | omega), (by have h1 := HN.out; have h2 := HQ'.out; first | exact val_u16 (by rw [h2]; omega) | (rw [h2]; omega))⟩
                case measure => simp [intOf]
            · obtain rfl : j = 16 := by omega
              have HE := hid (hiN_all R)
              go_wp2_with fail
              go_ret
              exact ⟨ret_val (by rw [HE.out]), HK.out⟩

end Go.Proofs.Ythfjihpfcollfaa
