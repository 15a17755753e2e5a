/-
  The library's sort by a wheel's order: to turn round; to part.
-/
import Derived.Test.YtnedmmjkhemgjaaSrtA
import Derived.Test.YtnedmmjkhemgjaaSrtP
import Derived.BigQuiet
import Derived.Deep.DeepCutAuto
import Derived.Deep.CutBlock
import Derived.Test.YtnedmmjkhemgjaaBlk
namespace Go.Proofs.Ytnedmmjkhemgjaa
open Go.RowKit
set_option linter.unusedVariables false

set_option maxHeartbeats 4000000 in
set_option maxRecDepth 100000 in
theorem rev_any {w0 w : World} {g cap n a c : Nat} {ks : List Int} {D : Array Int} (cmp : Value) (hn : n ≤ 1000) (h : SR w0 w g cap n ks D) (hac : a < c) (hb : c ≤ n) :
    Calls Try.prog 28 #[.slice (some ⟨g, 0, none⟩) n cap, .int .i64 a, .int .i64 c, cmp] w fun e w' => e = .returned (.tuple #[]) ∧ ∃ E, Sort.PermIn a c D E ∧ SR w0 w' g cap n ks E := by
  have HS := hid h
  have HD := hid h.size
  clear h
  go_enter Try.func28, Try.ntmps28
  go_wp2_with fail
  go_loopw [8, 9] (fun v8 v9 wr => ∃ (i j : Nat) (E : Array Int), a ≤ i ∧ j < c ∧ v8 = .int .i64 i ∧ v9 = .int .i64 j ∧ Hid (SR w0 wr g cap n ks E) ∧ Hid (Sort.PermIn a c D E)) (fun v8 v9 _ => (intOf v9).toNat - (intOf v8).toNat)
  case atStart => exact ⟨a, c - 1, D, Nat.le_refl _, by omega, rfl, by go_num, HS, hid (Sort.permIn_refl _ _ _)⟩
  case round =>
    obtain ⟨i, j, E, hi, hj, rfl, rfl, HE, HP⟩ := hrel
    have HZ := hid HE.out.size
    clear HS
    by_cases hij : i < j
    · have hd : decide ((i : Int) < (j : Int)) = true := by simpa using hij
      have cx1 := HE.out.cell (i := i) (by omega)
      have cy1 := HE.out.cell (i := j) (by omega)
      have fx1 := HE.out.free (i)
      have fy1 := HE.out.free (j)
      obtain ⟨x1, hx1⟩ : ∃ v, E[i]! = v := ⟨_, rfl⟩
      rw [hx1] at cx1
      obtain ⟨y1, hy1⟩ : ∃ v, E[j]! = v := ⟨_, rfl⟩
      first | rw [hy1] at cy1 | skip
      have SWP1 := hid (fun q => HE.out.swapD (i := i) (j := j) (by omega) (by omega) hx1 hy1 q)
      clear hx1 hy1
      go_wp2_with fail
      go_region
      all_goals
        clear cx1 cy1 fx1 fy1
        go_wp2_with fail
        go_roundw
        case rel => exact ⟨i + 1, j - 1, _, by omega, by omega, by go_num, by go_num, hid (SWP1.out 1), hid (Sort.permIn_trans _ _ _ _ _ HP.out (Sort.swp_permIn _ _ _ _ _ (by omega) (by omega) (by omega) (by omega) (by rw [HZ.out]; omega)))⟩
        case measure => simp [intOf]; omega
    · have hd : decide ((i : Int) < (j : Int)) = false := by simpa using hij
      go_wp2_with fail
      go_end0
      exact ⟨rfl, E, HP.out, HE.out⟩

set_option maxHeartbeats 16000000 in
set_option maxRecDepth 100000 in
theorem part_any {w0 w : World} {g cap n b a c p : Nat} {ks : List Int} {D : Array Int} {T : Int → Int} (hc : Orders w0 g b T ks) (hn : n ≤ 1000) (h : SR w0 w g cap n ks D) (hap : a ≤ p) (hpc : p < c) (hb : c ≤ n) :
    Calls Try.prog 31 #[.slice (some ⟨g, 0, none⟩) n cap, .int .i64 a, .int .i64 c, .int .i64 p, ordV b] w fun e w' => ∃ (m : Nat) (t : Bool), e = .returned (.tuple #[.int .i64 m, .bool t]) ∧ ∃ E, Hid (SR w0 w' g cap n ks E) ∧ Sort.PermIn a c D E ∧ Parted (ltT T) a c m E := by
  have HS0 := hid h
  have HC := hid hc
  have HB : Hid (c ≤ D.size) := hid (by rw [h.size]; exact hb)
  clear h hc
  go_enter Try.func31, Try.ntmps31
  have cx0 := HS0.out.cell (i := a) (by omega)
  have cy0 := HS0.out.cell (i := p) (by omega)
  have fx0 := HS0.out.free (a)
  have fy0 := HS0.out.free (p)
  obtain ⟨x0, hx0⟩ : ∃ v, D[a]! = v := ⟨_, rfl⟩
  rw [hx0] at cx0
  obtain ⟨y0, hy0⟩ : ∃ v, D[p]! = v := ⟨_, rfl⟩
  first | rw [hy0] at cy0 | skip
  have SWP0 := hid (fun q => HS0.out.swapD (i := a) (j := p) (by omega) (by omega) hx0 hy0 q)
  obtain ⟨u0, cu0⟩ := HS0.out.cell2 (i := a) (j := p) (by omega) y0
  clear hx0 hy0
  go_wp2_with fail
  go_region
  all_goals
    have HG0 : Hid (Scan (ltT T) a c (a + 1) (c - 1) D (Sort.swp D a p)) := hid (Scan.start hap hpc HB.out)
    have HSX := hid (SWP0.out 1)
    obtain ⟨E, hE⟩ : ∃ E, Sort.swp D a p = E := ⟨_, rfl⟩
    rw [hE] at HG0 HSX
    clear cx0 cy0 fx0 fy0 cu0 SWP0 HS0 hE
    obtain ⟨j0, hj0⟩ : ∃ j, c - 1 = j := ⟨_, rfl⟩
    rw [hj0] at HG0
    have HJ0 := hid hj0
    have hj1 : j0 < c := by omega
    have hj2 : ((c : Int) - 1) = (j0 : Int) := by omega
    clear hj0
    go_wp2_with fail
    go_loopw [12] (fun v12 wr => ∃ i : Nat, a + 1 ≤ i ∧ v12 = .int .i64 i ∧ Hid (SR w0 wr g cap n ks E) ∧ Hid (Scan (ltT T) a c i j0 D E)) (fun v _ => j0 + 1 - (intOf v).toNat)
    case atStart => exact ⟨a + 1, Nat.le_refl _, by go_num, HSX, HG0⟩
    case round =>
      clear HSX HG0
      obtain ⟨i, hi0, rfl, HS, HG⟩ := hrel
      have ha1 := HG.out.ai
      have ha2 := HG.out.ij
      have ha3 := HG.out.jb
      go_upto_region 3 with fail
      go_cut [47] from 32 to 47 (fun vt wx => ∃ t : Bool, vt = .bool t ∧ Hid (t = true ↔ (i ≤ j0 ∧ ltT T E[i]! E[a]! = true)) ∧ Hid (SR w0 wx g cap n ks E))
      case first =>
        by_cases hgd : i ≤ j0
        · have hgt : decide (((i : Nat) : Int) ≤ ((j0 : Nat) : Int)) = true := decide_eq_true (by omega)
          cases hlt : ltT T E[i]! E[a]!
          · -- not less
            have cx1 := HS.out.cell (i := i) (by omega)
            have cy1 := HS.out.cell (i := a) (by omega)
            have HQ1 := hid (HS.out.ord HC.out (i := i) (j := a) (by omega) (by omega))
            have hg1 := lt_pos hlt
            obtain ⟨c1, hcc1⟩ : ∃ c, cfT T E[i]! E[a]! = c := ⟨_, rfl⟩
            obtain ⟨x1, hx1⟩ : ∃ v, E[i]! = v := ⟨_, rfl⟩
            rw [hcc1] at HQ1 hg1
            rw [hx1] at HQ1 cx1
            obtain ⟨y1, hy1⟩ : ∃ v, E[a]! = v := ⟨_, rfl⟩
            first | rw [hy1] at HQ1 cy1 | skip
            have hd1 : decide (c1 < 0) = false := by simpa using hg1
            clear hcc1 hx1 hy1 hg1
            have HL := hid hlt
            clear hlt
            go_wp2_with fail
            go_quiet ((go_at_call 19; exact Calls.quiet_of (HQ1.out _)))
            go_wp2_with fail
            go_meet
            exact ⟨false, rfl, hid (by have := HL.out; simp [hgd, this]), hid (HS.out.drewN _)⟩
          · -- less
            have cx1 := HS.out.cell (i := i) (by omega)
            have cy1 := HS.out.cell (i := a) (by omega)
            have HQ1 := hid (HS.out.ord HC.out (i := i) (j := a) (by omega) (by omega))
            have hg1 := lt_neg hlt
            obtain ⟨c1, hcc1⟩ : ∃ c, cfT T E[i]! E[a]! = c := ⟨_, rfl⟩
            obtain ⟨x1, hx1⟩ : ∃ v, E[i]! = v := ⟨_, rfl⟩
            rw [hcc1] at HQ1 hg1
            rw [hx1] at HQ1 cx1
            obtain ⟨y1, hy1⟩ : ∃ v, E[a]! = v := ⟨_, rfl⟩
            first | rw [hy1] at HQ1 cy1 | skip
            have hd1 : decide (c1 < 0) = true := by simpa using hg1
            clear hcc1 hx1 hy1 hg1
            have HL := hid hlt
            clear hlt
            go_wp2_with fail
            go_quiet ((go_at_call 19; exact Calls.quiet_of (HQ1.out _)))
            go_wp2_with fail
            go_meet
            exact ⟨true, rfl, hid (by have := HL.out; simp [hgd, this]), hid (HS.out.drewN _)⟩
        · have hgt : decide (((i : Nat) : Int) ≤ ((j0 : Nat) : Int)) = false := decide_eq_false (by omega)
          go_wp2_with fail
          go_quiet (fail)
          go_wp2_with fail
          go_meet
          exact ⟨false, rfl, hid (by simp [hgd]), hid (HS.out.drewN _)⟩
      case rest =>
        obtain ⟨t, rfl, HT, S2⟩ := hcut
        obtain ⟨wz, rfl⟩ : ∃ y, y = wc := ⟨_, rfl⟩
        clear HS
        cases t
        · have ht : ¬ (i ≤ j0 ∧ ltT T E[i]! E[a]! = true) := fun e => by have := HT.out.2 e; cases this
          clear HT
          have HI : Hid (i ≤ j0 → ltT T E[i]! E[a]! = false) := hid (fun e => by cases h : ltT T E[i]! E[a]! <;> simp_all)
          clear ht
          go_wp2_with fail
          go_loopw [13] (fun v13 wr => ∃ j : Nat, j ≤ j0 ∧ v13 = .int .i64 j ∧ Hid (SR w0 wr g cap n ks E) ∧ Hid (Scan (ltT T) a c i j D E)) (fun v _ => (intOf v).toNat)
          case atStart => exact ⟨j0, Nat.le_refl _, by go_num, S2, HG⟩
          case round =>
            clear S2
            obtain ⟨j, hj0, rfl, S3, HGj⟩ := hrel
            have hb1 := HGj.out.ai
            have hb2 := HGj.out.ij
            have hb3 := HGj.out.jb
            go_upto_region 5 with fail
            go_cut [66] from 50 to 66 (fun vt wx => ∃ t : Bool, vt = .bool t ∧ Hid (t = true ↔ (i ≤ j ∧ ltT T E[j]! E[a]! = false)) ∧ Hid (SR w0 wx g cap n ks E))
            case first =>
              by_cases hgd : i ≤ j
              · have hgt : decide (((i : Nat) : Int) ≤ ((j : Nat) : Int)) = true := decide_eq_true (by omega)
                cases hlt : ltT T E[j]! E[a]!
                · -- not less
                  have cx2 := S3.out.cell (i := j) (by omega)
                  have cy2 := S3.out.cell (i := a) (by omega)
                  have HQ2 := hid (S3.out.ord HC.out (i := j) (j := a) (by omega) (by omega))
                  have hg2 := lt_pos hlt
                  obtain ⟨c2, hcc2⟩ : ∃ c, cfT T E[j]! E[a]! = c := ⟨_, rfl⟩
                  obtain ⟨x2, hx2⟩ : ∃ v, E[j]! = v := ⟨_, rfl⟩
                  rw [hcc2] at HQ2 hg2
                  rw [hx2] at HQ2 cx2
                  obtain ⟨y2, hy2⟩ : ∃ v, E[a]! = v := ⟨_, rfl⟩
                  first | rw [hy2] at HQ2 cy2 | skip
                  have hd2 : decide (c2 < 0) = false := by simpa using hg2
                  clear hcc2 hx2 hy2 hg2
                  have HL := hid hlt
                  clear hlt
                  go_wp2_with fail
                  go_quiet ((go_at_call 19; exact Calls.quiet_of (HQ2.out _)))
                  go_wp2_with fail
                  go_meet
                  exact ⟨true, rfl, hid (by have := HL.out; simp [hgd, this]), hid (S3.out.drewN _)⟩
                · -- less
                  have cx2 := S3.out.cell (i := j) (by omega)
                  have cy2 := S3.out.cell (i := a) (by omega)
                  have HQ2 := hid (S3.out.ord HC.out (i := j) (j := a) (by omega) (by omega))
                  have hg2 := lt_neg hlt
                  obtain ⟨c2, hcc2⟩ : ∃ c, cfT T E[j]! E[a]! = c := ⟨_, rfl⟩
                  obtain ⟨x2, hx2⟩ : ∃ v, E[j]! = v := ⟨_, rfl⟩
                  rw [hcc2] at HQ2 hg2
                  rw [hx2] at HQ2 cx2
                  obtain ⟨y2, hy2⟩ : ∃ v, E[a]! = v := ⟨_, rfl⟩
                  first | rw [hy2] at HQ2 cy2 | skip
                  have hd2 : decide (c2 < 0) = true := by simpa using hg2
                  clear hcc2 hx2 hy2 hg2
                  have HL := hid hlt
                  clear hlt
                  go_wp2_with fail
                  go_quiet ((go_at_call 19; exact Calls.quiet_of (HQ2.out _)))
                  go_wp2_with fail
                  go_meet
                  exact ⟨false, rfl, hid (by have := HL.out; simp [hgd, this]), hid (S3.out.drewN _)⟩
              · have hgt : decide (((i : Nat) : Int) ≤ ((j : Nat) : Int)) = false := decide_eq_false (by omega)
                go_wp2_with fail
                go_quiet (fail)
                go_wp2_with fail
                go_meet
                exact ⟨false, rfl, hid (by simp [hgd]), hid (S3.out.drewN _)⟩
            case rest =>
              obtain ⟨t, rfl, HT, S4⟩ := hcut
              obtain ⟨wz, rfl⟩ : ∃ y, y = wc := ⟨_, rfl⟩
              clear S3
              cases t
              · have ht : ¬ (i ≤ j ∧ ltT T E[j]! E[a]! = false) := fun e => by have := HT.out.2 e; cases this
                clear HT
                have HJ : Hid (i ≤ j → ltT T E[j]! E[a]! = true) := hid (fun e => by cases h : ltT T E[j]! E[a]! <;> simp_all)
                clear ht
                by_cases hx : j < i
                · have hgx : decide ((i : Int) > (j : Int)) = true := decide_eq_true (by omega)
                  have DN := hid (HGj.out.done (ltT_swo T) HB.out hx)
                  have cx3 := S4.out.cell (i := j) (by omega)
                  have cy3 := S4.out.cell (i := a) (by omega)
                  have fx3 := S4.out.free (j)
                  have fy3 := S4.out.free (a)
                  obtain ⟨x3, hx3⟩ : ∃ v, E[j]! = v := ⟨_, rfl⟩
                  rw [hx3] at cx3
                  obtain ⟨y3, hy3⟩ : ∃ v, E[a]! = v := ⟨_, rfl⟩
                  first | rw [hy3] at cy3 | skip
                  have SWP3 := hid (fun q => S4.out.swapD (i := j) (j := a) (by omega) (by omega) hx3 hy3 q)
                  obtain ⟨u3, cu3⟩ := S4.out.cell2 (i := j) (j := a) (by omega) y3
                  clear hx3 hy3
                  go_wp2_with fail
                  go_region
                  all_goals
                    clear cx3 cy3 fx3 fy3 cu3
                    go_wp2_with fail
                    go_ret2
                    exact ⟨j, true, rfl, _, hid (SWP3.out 1), DN.out⟩
                · have hgx : decide ((i : Int) > (j : Int)) = false := decide_eq_false (by omega)
                  have hlt : i < j := by
                    have := Scan.ne (HI.out (by omega)) (HJ.out (by omega))
                    omega
                  have HG5 := hid (HGj.out.swap HB.out hlt (HI.out (by omega)) (HJ.out (by omega)))
                  have cx3 := S4.out.cell (i := i) (by omega)
                  have cy3 := S4.out.cell (i := j) (by omega)
                  have fx3 := S4.out.free (i)
                  have fy3 := S4.out.free (j)
                  obtain ⟨x3, hx3⟩ : ∃ v, E[i]! = v := ⟨_, rfl⟩
                  rw [hx3] at cx3
                  obtain ⟨y3, hy3⟩ : ∃ v, E[j]! = v := ⟨_, rfl⟩
                  first | rw [hy3] at cy3 | skip
                  have SWP3 := hid (fun q => S4.out.swapD (i := i) (j := j) (by omega) (by omega) hx3 hy3 q)
                  clear hx3 hy3
                  go_wp2_with fail
                  go_region
                  all_goals
                    clear cx3 cy3 fx3 fy3
                    go_wp2_with fail
                    go_loopw [12, 13] (fun v12 v13 wr => ∃ (i j : Nat) (E2 : Array Int), v12 = .int .i64 i ∧ v13 = .int .i64 j ∧ Hid (SR w0 wr g cap n ks E2) ∧ Hid (Scan (ltT T) a c i j D E2)) (fun v12 v13 _ => (intOf v13).toNat + 1 - (intOf v12).toNat)
                    case atStart => exact ⟨i + 1, j - 1, _, by go_num, by go_num, hid (SWP3.out 1), HG5⟩
                    case round =>
                      clear HG5 SWP3 S4 HGj HI HJ HG
                      obtain ⟨i0, j0, E2, rfl, rfl, HS, HG0⟩ := hrel
                      have hc1 := HG0.out.ai
                      have hc2 := HG0.out.ij
                      have hc3 := HG0.out.jb
                      go_wp2_with fail
                      go_loopw [12] (fun v12 wr => ∃ i : Nat, i0 ≤ i ∧ v12 = .int .i64 i ∧ Hid (SR w0 wr g cap n ks E2) ∧ Hid (Scan (ltT T) a c i j0 D E2)) (fun v _ => j0 + 1 - (intOf v).toNat)
                      case atStart => exact ⟨i0, Nat.le_refl _, by go_num, HS, HG0⟩
                      case round =>
                        clear HS HG0
                        obtain ⟨i, hi0, rfl, HS, HG⟩ := hrel
                        have ha1 := HG.out.ai
                        have ha2 := HG.out.ij
                        have ha3 := HG.out.jb
                        go_upto_region 13 with fail
                        go_cut [120] from 105 to 120 (fun vt wx => ∃ t : Bool, vt = .bool t ∧ Hid (t = true ↔ (i ≤ j0 ∧ ltT T E2[i]! E2[a]! = true)) ∧ Hid (SR w0 wx g cap n ks E2))
                        case first =>
                          by_cases hgd : i ≤ j0
                          · have hgt : decide (((i : Nat) : Int) ≤ ((j0 : Nat) : Int)) = true := decide_eq_true (by omega)
                            cases hlt : ltT T E2[i]! E2[a]!
                            · -- not less
                              have cx1 := HS.out.cell (i := i) (by omega)
                              have cy1 := HS.out.cell (i := a) (by omega)
                              have HQ1 := hid (HS.out.ord HC.out (i := i) (j := a) (by omega) (by omega))
                              have hg1 := lt_pos hlt
                              obtain ⟨c1, hcc1⟩ : ∃ c, cfT T E2[i]! E2[a]! = c := ⟨_, rfl⟩
                              obtain ⟨x1, hx1⟩ : ∃ v, E2[i]! = v := ⟨_, rfl⟩
                              rw [hcc1] at HQ1 hg1
                              rw [hx1] at HQ1 cx1
                              obtain ⟨y1, hy1⟩ : ∃ v, E2[a]! = v := ⟨_, rfl⟩
                              first | rw [hy1] at HQ1 cy1 | skip
                              have hd1 : decide (c1 < 0) = false := by simpa using hg1
                              clear hcc1 hx1 hy1 hg1
                              have HL := hid hlt
                              clear hlt
                              go_wp2_with fail
                              go_quiet ((go_at_call 19; exact Calls.quiet_of (HQ1.out _)))
                              go_wp2_with fail
                              go_meet
                              exact ⟨false, rfl, hid (by have := HL.out; simp [hgd, this]), hid (HS.out.drewN _)⟩
                            · -- less
                              have cx1 := HS.out.cell (i := i) (by omega)
                              have cy1 := HS.out.cell (i := a) (by omega)
                              have HQ1 := hid (HS.out.ord HC.out (i := i) (j := a) (by omega) (by omega))
                              have hg1 := lt_neg hlt
                              obtain ⟨c1, hcc1⟩ : ∃ c, cfT T E2[i]! E2[a]! = c := ⟨_, rfl⟩
                              obtain ⟨x1, hx1⟩ : ∃ v, E2[i]! = v := ⟨_, rfl⟩
                              rw [hcc1] at HQ1 hg1
                              rw [hx1] at HQ1 cx1
                              obtain ⟨y1, hy1⟩ : ∃ v, E2[a]! = v := ⟨_, rfl⟩
                              first | rw [hy1] at HQ1 cy1 | skip
                              have hd1 : decide (c1 < 0) = true := by simpa using hg1
                              clear hcc1 hx1 hy1 hg1
                              have HL := hid hlt
                              clear hlt
                              go_wp2_with fail
                              go_quiet ((go_at_call 19; exact Calls.quiet_of (HQ1.out _)))
                              go_wp2_with fail
                              go_meet
                              exact ⟨true, rfl, hid (by have := HL.out; simp [hgd, this]), hid (HS.out.drewN _)⟩
                          · have hgt : decide (((i : Nat) : Int) ≤ ((j0 : Nat) : Int)) = false := decide_eq_false (by omega)
                            go_wp2_with fail
                            go_quiet (fail)
                            go_wp2_with fail
                            go_meet
                            exact ⟨false, rfl, hid (by simp [hgd]), hid (HS.out.drewN _)⟩
                        case rest =>
                          obtain ⟨t, rfl, HT, S2⟩ := hcut
                          obtain ⟨wz, rfl⟩ : ∃ y, y = wc := ⟨_, rfl⟩
                          clear HS
                          cases t
                          · have ht : ¬ (i ≤ j0 ∧ ltT T E2[i]! E2[a]! = true) := fun e => by have := HT.out.2 e; cases this
                            clear HT
                            have HI : Hid (i ≤ j0 → ltT T E2[i]! E2[a]! = false) := hid (fun e => by cases h : ltT T E2[i]! E2[a]! <;> simp_all)
                            clear ht
                            go_wp2_with fail
                            go_loopw [13] (fun v13 wr => ∃ j : Nat, j ≤ j0 ∧ v13 = .int .i64 j ∧ Hid (SR w0 wr g cap n ks E2) ∧ Hid (Scan (ltT T) a c i j D E2)) (fun v _ => (intOf v).toNat)
                            case atStart => exact ⟨j0, Nat.le_refl _, by go_num, S2, HG⟩
                            case round =>
                              clear S2
                              obtain ⟨j, hj0, rfl, S3, HGj⟩ := hrel
                              have hb1 := HGj.out.ai
                              have hb2 := HGj.out.ij
                              have hb3 := HGj.out.jb
                              go_upto_region 15 with fail
                              go_cut [139] from 123 to 139 (fun vt wx => ∃ t : Bool, vt = .bool t ∧ Hid (t = true ↔ (i ≤ j ∧ ltT T E2[j]! E2[a]! = false)) ∧ Hid (SR w0 wx g cap n ks E2))
                              case first =>
                                by_cases hgd : i ≤ j
                                · have hgt : decide (((i : Nat) : Int) ≤ ((j : Nat) : Int)) = true := decide_eq_true (by omega)
                                  cases hlt : ltT T E2[j]! E2[a]!
                                  · -- not less
                                    have cx2 := S3.out.cell (i := j) (by omega)
                                    have cy2 := S3.out.cell (i := a) (by omega)
                                    have HQ2 := hid (S3.out.ord HC.out (i := j) (j := a) (by omega) (by omega))
                                    have hg2 := lt_pos hlt
                                    obtain ⟨c2, hcc2⟩ : ∃ c, cfT T E2[j]! E2[a]! = c := ⟨_, rfl⟩
                                    obtain ⟨x2, hx2⟩ : ∃ v, E2[j]! = v := ⟨_, rfl⟩
                                    rw [hcc2] at HQ2 hg2
                                    rw [hx2] at HQ2 cx2
                                    obtain ⟨y2, hy2⟩ : ∃ v, E2[a]! = v := ⟨_, rfl⟩
                                    first | rw [hy2] at HQ2 cy2 | skip
                                    have hd2 : decide (c2 < 0) = false := by simpa using hg2
                                    clear hcc2 hx2 hy2 hg2
                                    have HL := hid hlt
                                    clear hlt
                                    go_wp2_with fail
                                    go_quiet ((go_at_call 19; exact Calls.quiet_of (HQ2.out _)))
                                    go_wp2_with fail
                                    go_meet
                                    exact ⟨true, rfl, hid (by have := HL.out; simp [hgd, this]), hid (S3.out.drewN _)⟩
                                  · -- less
                                    have cx2 := S3.out.cell (i := j) (by omega)
                                    have cy2 := S3.out.cell (i := a) (by omega)
                                    have HQ2 := hid (S3.out.ord HC.out (i := j) (j := a) (by omega) (by omega))
                                    have hg2 := lt_neg hlt
                                    obtain ⟨c2, hcc2⟩ : ∃ c, cfT T E2[j]! E2[a]! = c := ⟨_, rfl⟩
                                    obtain ⟨x2, hx2⟩ : ∃ v, E2[j]! = v := ⟨_, rfl⟩
                                    rw [hcc2] at HQ2 hg2
                                    rw [hx2] at HQ2 cx2
                                    obtain ⟨y2, hy2⟩ : ∃ v, E2[a]! = v := ⟨_, rfl⟩
                                    first | rw [hy2] at HQ2 cy2 | skip
                                    have hd2 : decide (c2 < 0) = true := by simpa using hg2
                                    clear hcc2 hx2 hy2 hg2
                                    have HL := hid hlt
                                    clear hlt
                                    go_wp2_with fail
                                    go_quiet ((go_at_call 19; exact Calls.quiet_of (HQ2.out _)))
                                    go_wp2_with fail
                                    go_meet
                                    exact ⟨false, rfl, hid (by have := HL.out; simp [hgd, this]), hid (S3.out.drewN _)⟩
                                · have hgt : decide (((i : Nat) : Int) ≤ ((j : Nat) : Int)) = false := decide_eq_false (by omega)
                                  go_wp2_with fail
                                  go_quiet (fail)
                                  go_wp2_with fail
                                  go_meet
                                  exact ⟨false, rfl, hid (by simp [hgd]), hid (S3.out.drewN _)⟩
                              case rest =>
                                obtain ⟨t, rfl, HT, S4⟩ := hcut
                                obtain ⟨wz, rfl⟩ : ∃ y, y = wc := ⟨_, rfl⟩
                                clear S3
                                cases t
                                · have ht : ¬ (i ≤ j ∧ ltT T E2[j]! E2[a]! = false) := fun e => by have := HT.out.2 e; cases this
                                  clear HT
                                  have HJ : Hid (i ≤ j → ltT T E2[j]! E2[a]! = true) := hid (fun e => by cases h : ltT T E2[j]! E2[a]! <;> simp_all)
                                  clear ht
                                  by_cases hx : j < i
                                  · have hgx : decide ((i : Int) > (j : Int)) = true := decide_eq_true (by omega)
                                    have DN := hid (HGj.out.done (ltT_swo T) HB.out hx)
                                    have cx3 := S4.out.cell (i := j) (by omega)
                                    have cy3 := S4.out.cell (i := a) (by omega)
                                    have fx3 := S4.out.free (j)
                                    have fy3 := S4.out.free (a)
                                    obtain ⟨x3, hx3⟩ : ∃ v, E2[j]! = v := ⟨_, rfl⟩
                                    rw [hx3] at cx3
                                    obtain ⟨y3, hy3⟩ : ∃ v, E2[a]! = v := ⟨_, rfl⟩
                                    first | rw [hy3] at cy3 | skip
                                    have SWP3 := hid (fun q => S4.out.swapD (i := j) (j := a) (by omega) (by omega) hx3 hy3 q)
                                    obtain ⟨u3, cu3⟩ := S4.out.cell2 (i := j) (j := a) (by omega) y3
                                    clear hx3 hy3
                                    go_wp2_with fail
                                    go_region
                                    all_goals
                                      clear cx3 cy3 fx3 fy3 cu3
                                      go_wp2_with fail
                                      go_ret2
                                      exact ⟨j, false, rfl, _, hid (SWP3.out 1), DN.out⟩
                                  · have hgx : decide ((i : Int) > (j : Int)) = false := decide_eq_false (by omega)
                                    have hlt : i < j := by
                                      have := Scan.ne (HI.out (by omega)) (HJ.out (by omega))
                                      omega
                                    have HG5 := hid (HGj.out.swap HB.out hlt (HI.out (by omega)) (HJ.out (by omega)))
                                    have cx3 := S4.out.cell (i := i) (by omega)
                                    have cy3 := S4.out.cell (i := j) (by omega)
                                    have fx3 := S4.out.free (i)
                                    have fy3 := S4.out.free (j)
                                    obtain ⟨x3, hx3⟩ : ∃ v, E2[i]! = v := ⟨_, rfl⟩
                                    rw [hx3] at cx3
                                    obtain ⟨y3, hy3⟩ : ∃ v, E2[j]! = v := ⟨_, rfl⟩
                                    first | rw [hy3] at cy3 | skip
                                    have SWP3 := hid (fun q => S4.out.swapD (i := i) (j := j) (by omega) (by omega) hx3 hy3 q)
                                    clear hx3 hy3
                                    go_wp2_with fail
                                    go_region
                                    all_goals
                                      clear cx3 cy3 fx3 fy3
                                      go_wp2_with fail
                                      go_roundw
                                      case rel => exact ⟨i + 1, j - 1, _, by go_num, by go_num, hid (SWP3.out 1), HG5⟩
                                      case measure => simp [intOf]; omega
                                · have ht := hid (HT.out.1 rfl)
                                  clear HT
                                  have hle := ht.out.1
                                  have hj1 : 1 ≤ j := by have := HGj.out.ai; omega
                                  go_wp2_with fail
                                  go_roundw
                                  case rel => exact ⟨j - 1, by omega, by go_num, S4, hid (HGj.out.down hle ht.out.2)⟩
                                  case measure => simp [intOf]; omega
                          · have ht := hid (HT.out.1 rfl)
                            clear HT
                            have hle := ht.out.1
                            go_wp2_with fail
                            go_roundw
                            case rel => exact ⟨i + 1, by omega, by go_num, S2, hid (HG.out.up hle ht.out.2)⟩
                            case measure => simp [intOf]; omega
              · have ht := hid (HT.out.1 rfl)
                clear HT
                have hle := ht.out.1
                have hj1 : 1 ≤ j := by have := HGj.out.ai; omega
                go_wp2_with fail
                go_roundw
                case rel => exact ⟨j - 1, by omega, by go_num, S4, hid (HGj.out.down hle ht.out.2)⟩
                case measure => simp [intOf]; omega
        · have ht := hid (HT.out.1 rfl)
          clear HT
          have hle := ht.out.1
          go_wp2_with fail
          go_roundw
          case rel => exact ⟨i + 1, by omega, by go_num, S2, hid (HG.out.up hle ht.out.2)⟩
          case measure => simp [intOf]; omega

end Go.Proofs.Ytnedmmjkhemgjaa
