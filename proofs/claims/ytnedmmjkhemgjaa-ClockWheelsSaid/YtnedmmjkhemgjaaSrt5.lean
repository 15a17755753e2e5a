/-
  The library's sort by a wheel's order: a row that is nearly in order.
-/
import Derived.Test.YtnedmmjkhemgjaaSrtA
import Derived.Test.YtnedmmjkhemgjaaSrtP
import Derived.BigQuiet
import Derived.Deep.DeepCutAuto
import Derived.Deep.CutBlock
import Derived.Test.YtnedmmjkhemgjaaBlk
namespace Go.Proofs.Ytnedmmjkhemgjaa
open Go.RowKit
set_option linter.unusedVariables false

section
variable {lt : Int → Int → Bool}
theorem scS_go {c i : Nat} {d : Array Int} (h : i < c ∧ lt d[i]! d[i - 1]! = false) : Sort.scanSorted lt d c i = Sort.scanSorted lt d c (i + 1) := by
  rw [Sort.scanSorted, if_pos (by simp [h.1, h.2])]
theorem scS_stop {c i : Nat} {d : Array Int} (h : ¬ (i < c ∧ lt d[i]! d[i - 1]! = false)) : Sort.scanSorted lt d c i = i := by
  rw [Sort.scanSorted, if_neg]
  intro e
  simp only [Bool.and_eq_true, decide_eq_true_eq, Bool.not_eq_true'] at e
  exact h ⟨e.1, e.2⟩
theorem shD_go {j : Nat} {d : Array Int} (h : lt d[j + 1]! d[j]! = true) : Sort.shiftDown lt (j + 1) d = Sort.shiftDown lt j (Sort.swp d (j + 1) j) := by
  rw [Sort.shiftDown, if_neg (by simp [h])]
theorem shD_stop {j : Nat} {d : Array Int} (h : lt d[j + 1]! d[j]! = false) : Sort.shiftDown lt (j + 1) d = d := by
  rw [Sort.shiftDown, if_pos (by simp [h])]
theorem shD_zero {d : Array Int} : Sort.shiftDown lt 0 d = d := by rw [Sort.shiftDown]
theorem shU_go {c j : Nat} {d : Array Int} (hj : j < c) (h : lt d[j]! d[j - 1]! = true) : Sort.shiftUp lt c j d = Sort.shiftUp lt c (j + 1) (Sort.swp d j (j - 1)) := by
  rw [Sort.shiftUp, if_pos hj, if_neg (by simp [h])]
theorem shU_stop {c j : Nat} {d : Array Int} (hj : j < c) (h : lt d[j]! d[j - 1]! = false) : Sort.shiftUp lt c j d = d := by
  rw [Sort.shiftUp, if_pos hj, if_pos (by simp [h])]
theorem shU_end {c j : Nat} {d : Array Int} (hj : ¬ j < c) : Sort.shiftUp lt c j d = d := by rw [Sort.shiftUp, if_neg hj]
end

set_option maxHeartbeats 16000000 in
set_option maxRecDepth 100000 in
theorem partial_any {w0 w : World} {g cap n b a c : Nat} {ks : List Int} {D : Array Int} {T : Int → Int} (hc : Orders w0 g b T ks) (hn : n ≤ 1000) (h : SR w0 w g cap n ks D) (hac : a < c) (hb : c ≤ n) :
    Calls Try.prog 29 #[.slice (some ⟨g, 0, none⟩) n cap, .int .i64 a, .int .i64 c, ordV b] w fun e w' => ∃ t : Bool, e = .returned (.bool t) ∧ t = (Sort.partialInsertionSort (ltT T) D a c).2 ∧ SR w0 w' g cap n ks (Sort.partialInsertionSort (ltT T) D a c).1 := by
  have HS := hid h
  have HC := hid hc
  clear h hc
  go_enter Try.func29, Try.ntmps29
  go_wp2_with fail
  go_loopw [9, 10] (fun v9 v10 wr => ∃ (s i : Nat) (E : Array Int), s ≤ 5 ∧ a + 1 ≤ i ∧ i ≤ c ∧ v10 = .int .i64 (5 - (s : Int)) ∧ v9 = .int .i64 i ∧ Hid (SR w0 wr g cap n ks E) ∧ Hid (Sort.partialIns (ltT T) a c s i E = Sort.partialInsertionSort (ltT T) D a c)) (fun _ v10 _ => (5 - intOf v10).toNat)
  case atStart => exact ⟨5, a + 1, D, Nat.le_refl _, Nat.le_refl _, by omega, by go_num, by go_num, HS, hid rfl⟩
  case round =>
    clear HS
    obtain ⟨s, i0, E, hs5, hi1, hi2, rfl, rfl, HE, HPI⟩ := hrel
    cases s with
    | zero =>
      have hd : decide ((5 - ((0 : Nat) : Int)) < 5) = false := by decide
      have HF : Hid ((E, false) = Sort.partialInsertionSort (ltT T) D a c) := hid HPI.out
      clear HPI
      go_wp2_with fail
      go_ret
      exact ⟨false, rfl, by rw [← HF.out], by rw [← HF.out]; exact HE.out⟩
    | succ s =>
      obtain ⟨sv, hsv⟩ : ∃ q : Int, 5 - ((s + 1 : Nat) : Int) = q := ⟨_, rfl⟩
      have hd : decide (sv < 5) = true := decide_eq_true (by omega)
      have esv : sv + 1 = 5 - (s : Int) := by omega
      rw [hsv]
      have HSV := hid hsv
      clear hsv
      go_wp2_with fail
      go_loopw [9] (fun v9 wr => ∃ i : Nat, i0 ≤ i ∧ i ≤ c ∧ v9 = .int .i64 i ∧ Hid (SR w0 wr g cap n ks E) ∧ Hid (Sort.scanSorted (ltT T) E c i = Sort.scanSorted (ltT T) E c i0)) (fun v9 _ => c - (intOf v9).toNat)
      case atStart => exact ⟨i0, Nat.le_refl _, hi2, rfl, HE, hid rfl⟩
      case round =>
        clear HE
        obtain ⟨i, hi3, hi4, rfl, HE, HSC⟩ := hrel
        obtain ⟨ip, hip⟩ : ∃ q : Nat, q = i - 1 := ⟨_, rfl⟩
        have HIP : Hid (ip = i - 1) := hid hip
        have hip2 : ip < i := by omega
        have hip3 : (i : Int) - 1 = (ip : Int) := by omega
        clear hip
        go_upto_region 5 with fail
        go_cut [36] from 19 to 36 (fun vt wx => ∃ t : Bool, vt = .bool t ∧ Hid (t = true ↔ (i < c ∧ ltT T E[i]! E[ip]! = false)) ∧ Hid (SR w0 wx g cap n ks E))
        case first =>
          by_cases hgd : i < c
          · have hgt : decide (((i : Nat) : Int) < ((c : Nat) : Int)) = true := decide_eq_true (by omega)
            cases hlt : ltT T E[i]! E[ip]!
            · -- not less
              have cx1 := HE.out.cell (i := i) (by omega)
              have cy1 := HE.out.cell (i := ip) (by omega)
              have HQ1 := hid (HE.out.ord HC.out (i := i) (j := ip) (by omega) (by omega))
              have hg1 := lt_pos hlt
              obtain ⟨c1, hcc1⟩ : ∃ c, cfT T E[i]! E[ip]! = c := ⟨_, rfl⟩
              obtain ⟨x1, hx1⟩ : ∃ v, E[i]! = v := ⟨_, rfl⟩
              rw [hcc1] at HQ1 hg1
              rw [hx1] at HQ1 cx1
              obtain ⟨y1, hy1⟩ : ∃ v, E[ip]! = v := ⟨_, rfl⟩
              first | rw [hy1] at HQ1 cy1 | skip
              have hd1 : decide (c1 < 0) = false := by simpa using hg1
              clear hcc1 hx1 hy1 hg1
              have HL := hid hlt
              clear hlt
              go_wp2_with fail
              go_quiet ((go_at_call 19; exact Calls.quiet_of (HQ1.out _)))
              go_wp2_with fail
              go_meet
              exact ⟨true, rfl, hid (by have := HL.out; simp [hgd, this]), hid (HE.out.drewN _)⟩
            · -- less
              have cx1 := HE.out.cell (i := i) (by omega)
              have cy1 := HE.out.cell (i := ip) (by omega)
              have HQ1 := hid (HE.out.ord HC.out (i := i) (j := ip) (by omega) (by omega))
              have hg1 := lt_neg hlt
              obtain ⟨c1, hcc1⟩ : ∃ c, cfT T E[i]! E[ip]! = c := ⟨_, rfl⟩
              obtain ⟨x1, hx1⟩ : ∃ v, E[i]! = v := ⟨_, rfl⟩
              rw [hcc1] at HQ1 hg1
              rw [hx1] at HQ1 cx1
              obtain ⟨y1, hy1⟩ : ∃ v, E[ip]! = v := ⟨_, rfl⟩
              first | rw [hy1] at HQ1 cy1 | skip
              have hd1 : decide (c1 < 0) = true := by simpa using hg1
              clear hcc1 hx1 hy1 hg1
              have HL := hid hlt
              clear hlt
              go_wp2_with fail
              go_quiet ((go_at_call 19; exact Calls.quiet_of (HQ1.out _)))
              go_wp2_with fail
              go_meet
              exact ⟨false, rfl, hid (by have := HL.out; simp [hgd, this]), hid (HE.out.drewN _)⟩
          · have hgt : decide (((i : Nat) : Int) < ((c : Nat) : Int)) = false := decide_eq_false (by omega)
            go_wp2_with fail
            go_quiet (fail)
            go_wp2_with fail
            go_meet
            exact ⟨false, rfl, hid (by simp [hgd]), hid (HE.out.drewN _)⟩
        case rest =>
          obtain ⟨t, rfl, HT, S2⟩ := hcut
          obtain ⟨wz, rfl⟩ : ∃ y, y = wc := ⟨_, rfl⟩
          clear HE
          cases t
          · have ht : ¬ (i < c ∧ ltT T E[i]! E[ip]! = false) := fun e => by have := HT.out.2 e; cases this
            clear HT
            have HSTOP := hid ((scS_stop (by rw [← HIP.out]; exact ht)).symm.trans HSC.out)
            clear ht HSC
            have HPS := hid ((Sort.partialIns_succ (lt := ltT T) a c s i0 E).symm.trans HPI.out)
            rw [← HSTOP.out] at HPS
            clear HPI
            by_cases hic : i = c
            · have hd : decide (i = c) = true := decide_eq_true hic
              have hdi : decide ((i : Int) = (c : Int)) = true := decide_eq_true (by omega)
              have hdb : ((i : Int) == (c : Int)) = true := by simp; omega
              have HF := HPS.out
              rw [if_pos hic] at HF
              have HF2 := hid HF
              clear HF hd
              go_wp2_with fail
              go_ret
              exact ⟨true, rfl, by rw [← HF2.out], by rw [← HF2.out]; exact S2.out⟩
            · have hdi : decide ((i : Int) = (c : Int)) = false := decide_eq_false (by omega)
              have hdb : ((i : Int) == (c : Int)) = false := by simp; omega
              by_cases h50 : c - a < 50
              · have hd5 : decide ((c : Int) - (a : Int) < 50) = true := decide_eq_true (by omega)
                have HF := HPS.out
                rw [if_neg hic, if_pos h50] at HF
                have HF2 := hid HF
                clear HF
                go_wp2_with fail
                go_ret
                exact ⟨false, rfl, by rw [← HF2.out], by rw [← HF2.out]; exact S2.out⟩
              · have hd5 : decide ((c : Int) - (a : Int) < 50) = false := decide_eq_false (by omega)
                have HF := HPS.out
                rw [if_neg hic, if_neg h50] at HF
                unfold Sort.fixUp Sort.fixDown at HF
                have HF2 := hid HF
                have hip2 : ip < i := by omega
                have ei := hip3
                clear HF HPS HSTOP
                have cx3 := S2.out.cell (i := i) (by omega)
                have cy3 := S2.out.cell (i := ip) (by omega)
                have fx3 := S2.out.free (i)
                have fy3 := S2.out.free (ip)
                obtain ⟨x3, hx3⟩ : ∃ v, E[i]! = v := ⟨_, rfl⟩
                rw [hx3] at cx3
                obtain ⟨y3, hy3⟩ : ∃ v, E[ip]! = v := ⟨_, rfl⟩
                first | rw [hy3] at cy3 | skip
                have SWP3 := hid (fun q => S2.out.swapD (i := i) (j := ip) (by omega) (by omega) hx3 hy3 q)
                clear hx3 hy3
                go_wp2_with fail
                go_region
                all_goals
                  have S3 : Hid (SR w0 ((wz.setCell ⟨g, i, none⟩ (.int .i64 y3)).setCell ⟨g, ip, none⟩ (.int .i64 x3)).drew g cap n ks (Sort.swp E i ip)) := hid (SWP3.out 1)
                  obtain ⟨W5, hW5⟩ : ∃ W, ((wz.setCell ⟨g, i, none⟩ (.int .i64 y3)).setCell ⟨g, ip, none⟩ (.int .i64 x3)).drew = W := ⟨_, rfl⟩
                  rw [hW5] at S3
                  rw [hW5]
                  obtain ⟨E2, hE2⟩ : ∃ q, Sort.swp E i ip = q := ⟨_, rfl⟩
                  rw [← HIP.out, hE2] at HF2
                  rw [hE2] at S3
                  clear hW5 hE2 cx3 cy3 fx3 fy3 SWP3 S2
                  go_upto_if 65 with fail
                  go_cut [11] from 65 to 100 (fun v11 wx => ∃ E4, Hid (SR w0 wx g cap n ks E4) ∧ Hid (E4 = if i - a ≥ 2 then Sort.shiftDown (ltT T) (i - 1) E2 else E2))
                  case first =>
                    by_cases h2 : 2 ≤ i - a
                    · have hd2 : decide ((i : Int) - (a : Int) ≥ 2) = true := decide_eq_true (by omega)
                      go_wp2_with fail
                      go_loopw [11] (fun v11 wr => ∃ (j : Nat) (E3 : Array Int), j < c ∧ v11 = .int .i64 j ∧ Hid (SR w0 wr g cap n ks E3) ∧ Hid (Sort.shiftDown (ltT T) j E3 = Sort.shiftDown (ltT T) (i - 1) E2)) (fun v11 _ => (intOf v11).toNat)
                      case atStart => exact ⟨i - 1, E2, by omega, by go_num, S3, hid rfl⟩
                      case round =>
                        clear S3
                        obtain ⟨j, E3, hjc, rfl, HE3, HSD⟩ := hrel
                        cases j with
                        | zero =>
                          have hd : decide (((0 : Nat) : Int) ≥ 1) = false := by decide
                          have HF := hid ((shD_zero (lt := ltT T) (d := E3)).symm.trans HSD.out)
                          clear HSD
                          go_wp2_with fail
                          go_meet
                          exact ⟨E3, HE3, hid (by rw [if_pos (by omega)]; exact HF.out)⟩
                        | succ j =>
                          have hd : decide (((j + 1 : Nat) : Int) ≥ 1) = true := decide_eq_true (by omega)
                          obtain ⟨jj, hjj⟩ : ∃ q : Nat, q = j + 1 := ⟨_, rfl⟩
                          have ej : ((jj : Nat) : Int) - 1 = (j : Int) := by omega
                          have HJ := hid hjj
                          rw [← hjj] at hd hjc HSD ⊢
                          clear hjj
                          have hjlt : j < jj := by have := HJ.out; omega
                          cases hlt : ltT T E3[jj]! E3[j]!
                          · have HF : Hid (E3 = Sort.shiftDown (ltT T) (i - 1) E2) := hid (by have h1 := shD_stop (lt := ltT T) (j := j) (d := E3) (by rw [← HJ.out]; exact hlt); rw [← HJ.out] at h1; exact h1.symm.trans HSD.out)
                            have cx1 := HE3.out.cell (i := jj) (by omega)
                            have cy1 := HE3.out.cell (i := j) (by omega)
                            have HQ1 := hid (HE3.out.ord HC.out (i := jj) (j := j) (by omega) (by omega))
                            have hg1 := lt_pos hlt
                            obtain ⟨c1, hcc1⟩ : ∃ c, cfT T E3[jj]! E3[j]! = c := ⟨_, rfl⟩
                            obtain ⟨x1, hx1⟩ : ∃ v, E3[jj]! = v := ⟨_, rfl⟩
                            rw [hcc1] at HQ1 hg1
                            rw [hx1] at HQ1 cx1
                            obtain ⟨y1, hy1⟩ : ∃ v, E3[j]! = v := ⟨_, rfl⟩
                            first | rw [hy1] at HQ1 cy1 | skip
                            have hd1 : decide (c1 < 0) = false := by simpa using hg1
                            clear hcc1 hx1 hy1 hg1
                            go_wp2_with fail
                            go_quiet ((go_at_call 19; exact Calls.quiet_of (HQ1.out _)))
                            go_wp2_with fail
                            go_meet
                            exact ⟨E3, hid (HE3.out.drewN _), hid (by rw [if_pos (by omega)]; exact HF.out)⟩
                          · have HF : Hid (Sort.shiftDown (ltT T) j (Sort.swp E3 jj j) = Sort.shiftDown (ltT T) (i - 1) E2) := hid (by have h1 := shD_go (lt := ltT T) (j := j) (d := E3) (by rw [← HJ.out]; exact hlt); rw [← HJ.out] at h1; exact h1.symm.trans HSD.out)
                            have cx1 := HE3.out.cell (i := jj) (by omega)
                            have cy1 := HE3.out.cell (i := j) (by omega)
                            have HQ1 := hid (HE3.out.ord HC.out (i := jj) (j := j) (by omega) (by omega))
                            have hg1 := lt_neg hlt
                            obtain ⟨c1, hcc1⟩ : ∃ c, cfT T E3[jj]! E3[j]! = c := ⟨_, rfl⟩
                            obtain ⟨x1, hx1⟩ : ∃ v, E3[jj]! = v := ⟨_, rfl⟩
                            rw [hcc1] at HQ1 hg1
                            rw [hx1] at HQ1 cx1
                            obtain ⟨y1, hy1⟩ : ∃ v, E3[j]! = v := ⟨_, rfl⟩
                            first | rw [hy1] at HQ1 cy1 | skip
                            have hd1 : decide (c1 < 0) = true := by simpa using hg1
                            clear hcc1 hx1 hy1 hg1
                            go_wp2_with fail
                            go_quiet ((go_at_call 19; exact Calls.quiet_of (HQ1.out _)))
                            have S4 := hid (HE3.out.drewN nq)
                            obtain ⟨W4, hW4⟩ : ∃ W, wr.drewN nq = W := ⟨_, rfl⟩
                            rw [hW4] at S4
                            rw [hW4]
                            clear hW4 HE3 cx1 cy1 HQ1
                            have cx3 := S4.out.cell (i := jj) (by omega)
                            have cy3 := S4.out.cell (i := j) (by omega)
                            have fx3 := S4.out.free (jj)
                            have fy3 := S4.out.free (j)
                            obtain ⟨x3, hx3⟩ : ∃ v, E3[jj]! = v := ⟨_, rfl⟩
                            rw [hx3] at cx3
                            obtain ⟨y3, hy3⟩ : ∃ v, E3[j]! = v := ⟨_, rfl⟩
                            first | rw [hy3] at cy3 | skip
                            have SWP3 := hid (fun q => S4.out.swapD (i := jj) (j := j) (by omega) (by omega) hx3 hy3 q)
                            clear hx3 hy3
                            go_wp2_with fail
                            go_region
                            all_goals
                              clear cx3 cy3 fx3 fy3
                              go_wp2_with fail
                              go_roundw
                              case rel => exact ⟨j, _, by omega, by go_num, hid (SWP3.out 1), HF⟩
                              case measure => simp [intOf]; omega
                    · have hd2 : decide ((i : Int) - (a : Int) ≥ 2) = false := decide_eq_false (by omega)
                      go_wp2_with fail
                      go_meet
                      exact ⟨E2, S3, hid (by rw [if_neg (by omega)])⟩
                  case rest =>
                  obtain ⟨E4, S5, HE4⟩ := hcut
                  obtain ⟨wy, rfl⟩ : ∃ y, y = wc := ⟨_, rfl⟩
                  rw [← HIP.out] at HE4
                  rw [← HE4.out] at HF2
                  clear S3 HE4
                  go_upto_if 104 with fail
                  by_cases h3 : 2 ≤ c - i
                  · have hd3 : decide ((c : Int) - (i : Int) ≥ 2) = true := decide_eq_true (by omega)
                    rw [if_pos (show c - i ≥ 2 from h3)] at HF2
                    go_wp2_with fail
                    go_loopw [12] (fun v12 wr => ∃ (j : Nat) (E5 : Array Int), i + 1 ≤ j ∧ v12 = .int .i64 j ∧ Hid (SR w0 wr g cap n ks E5) ∧ Hid (Sort.shiftUp (ltT T) c j E5 = Sort.shiftUp (ltT T) c (i + 1) E4)) (fun v12 _ => c - (intOf v12).toNat)
                    case atStart => exact ⟨i + 1, E4, Nat.le_refl _, by go_num, S5, hid rfl⟩
                    case round =>
                      clear S5
                      obtain ⟨j, E5, hij, rfl, HE5, HSU⟩ := hrel
                      by_cases hjc : j < c
                      · have hd : decide ((j : Int) < (c : Int)) = true := decide_eq_true (by omega)
                        obtain ⟨jp, hjp⟩ : ∃ q : Nat, q = j - 1 := ⟨_, rfl⟩
                        have ej : ((j : Nat) : Int) - 1 = (jp : Int) := by omega
                        have HJ := hid hjp
                        have hjlt : jp < j := by omega
                        clear hjp
                        cases hlt : ltT T E5[j]! E5[jp]!
                        · have HF := hid ((shU_stop (lt := ltT T) (j := j) (d := E5) hjc (by rw [← HJ.out]; exact hlt)).symm.trans HSU.out)
                          have cx1 := HE5.out.cell (i := j) (by omega)
                          have cy1 := HE5.out.cell (i := jp) (by omega)
                          have HQ1 := hid (HE5.out.ord HC.out (i := j) (j := jp) (by omega) (by omega))
                          have hg1 := lt_pos hlt
                          obtain ⟨c1, hcc1⟩ : ∃ c, cfT T E5[j]! E5[jp]! = c := ⟨_, rfl⟩
                          obtain ⟨x1, hx1⟩ : ∃ v, E5[j]! = v := ⟨_, rfl⟩
                          rw [hcc1] at HQ1 hg1
                          rw [hx1] at HQ1 cx1
                          obtain ⟨y1, hy1⟩ : ∃ v, E5[jp]! = v := ⟨_, rfl⟩
                          first | rw [hy1] at HQ1 cy1 | skip
                          have hd1 : decide (c1 < 0) = false := by simpa using hg1
                          clear hcc1 hx1 hy1 hg1
                          go_wp2_with fail
                          go_quiet ((go_at_call 19; exact Calls.quiet_of (HQ1.out _)))
                          go_wp2_with fail
                          go_roundw
                          case rel => exact ⟨s, i, E5, by omega, by omega, by omega, by go_num, by go_num, hid (HE5.out.drewN _), hid (by rw [HF.out]; exact HF2.out)⟩
                          case measure => simp [intOf]; omega
                        · have HF := hid ((shU_go (lt := ltT T) (j := j) (d := E5) hjc (by rw [← HJ.out]; exact hlt)).symm.trans HSU.out)
                          rw [← HJ.out] at HF
                          have cx1 := HE5.out.cell (i := j) (by omega)
                          have cy1 := HE5.out.cell (i := jp) (by omega)
                          have HQ1 := hid (HE5.out.ord HC.out (i := j) (j := jp) (by omega) (by omega))
                          have hg1 := lt_neg hlt
                          obtain ⟨c1, hcc1⟩ : ∃ c, cfT T E5[j]! E5[jp]! = c := ⟨_, rfl⟩
                          obtain ⟨x1, hx1⟩ : ∃ v, E5[j]! = v := ⟨_, rfl⟩
                          rw [hcc1] at HQ1 hg1
                          rw [hx1] at HQ1 cx1
                          obtain ⟨y1, hy1⟩ : ∃ v, E5[jp]! = v := ⟨_, rfl⟩
                          first | rw [hy1] at HQ1 cy1 | skip
                          have hd1 : decide (c1 < 0) = true := by simpa using hg1
                          clear hcc1 hx1 hy1 hg1
                          go_wp2_with fail
                          go_quiet ((go_at_call 19; exact Calls.quiet_of (HQ1.out _)))
                          have S6 := hid (HE5.out.drewN nq)
                          obtain ⟨W6, hW6⟩ : ∃ W, wr.drewN nq = W := ⟨_, rfl⟩
                          rw [hW6] at S6
                          rw [hW6]
                          clear hW6 HE5 cx1 cy1 HQ1
                          have cx3 := S6.out.cell (i := j) (by omega)
                          have cy3 := S6.out.cell (i := jp) (by omega)
                          have fx3 := S6.out.free (j)
                          have fy3 := S6.out.free (jp)
                          obtain ⟨x3, hx3⟩ : ∃ v, E5[j]! = v := ⟨_, rfl⟩
                          rw [hx3] at cx3
                          obtain ⟨y3, hy3⟩ : ∃ v, E5[jp]! = v := ⟨_, rfl⟩
                          first | rw [hy3] at cy3 | skip
                          have SWP3 := hid (fun q => S6.out.swapD (i := j) (j := jp) (by omega) (by omega) hx3 hy3 q)
                          clear hx3 hy3
                          go_wp2_with fail
                          go_region
                          all_goals
                            clear cx3 cy3 fx3 fy3
                            go_wp2_with fail
                            go_roundw
                            case rel => exact ⟨j + 1, _, by omega, by go_num, hid (SWP3.out 1), HF⟩
                            case measure => simp [intOf]; omega
                      · have hd : decide ((j : Int) < (c : Int)) = false := decide_eq_false (by omega)
                        have HF := hid ((shU_end (lt := ltT T) (d := E5) hjc).symm.trans HSU.out)
                        clear HSU
                        go_wp2_with fail
                        go_roundw
                        case rel => exact ⟨s, i, E5, by omega, by omega, by omega, by go_num, by go_num, HE5, hid (by rw [HF.out]; exact HF2.out)⟩
                        case measure => simp [intOf]; omega
                  · have hd3 : decide ((c : Int) - (i : Int) ≥ 2) = false := decide_eq_false (by omega)
                    rw [if_neg (show ¬ c - i ≥ 2 from h3)] at HF2
                    go_wp2_with fail
                    go_roundw
                    case rel => exact ⟨s, i, E4, by omega, by omega, by omega, by go_num, by go_num, S5, HF2⟩
                    case measure => simp [intOf]; omega

          · have ht := hid (HT.out.1 rfl)
            clear HT
            have hic := ht.out.1
            go_wp2_with fail
            go_roundw
            case rel => exact ⟨i + 1, by omega, by omega, by go_num, S2, hid ((scS_go ⟨hic, by rw [← HIP.out]; exact ht.out.2⟩).symm.trans HSC.out)⟩
            case measure => simp [intOf]; omega

end Go.Proofs.Ytnedmmjkhemgjaa
