/-
  The library's sort by a wheel's order: the whole of it.
-/
import Derived.Test.YtnedmmjkhemgjaaSrtA
import Derived.Test.YtnedmmjkhemgjaaSrtP
import Derived.Test.YtnedmmjkhemgjaaSrt1
import Derived.Test.YtnedmmjkhemgjaaSrt2
import Derived.Test.YtnedmmjkhemgjaaSrt3
import Derived.Test.YtnedmmjkhemgjaaSrt4
import Derived.Test.YtnedmmjkhemgjaaSrt5
import Derived.Test.YtnedmmjkhemgjaaSrt7
import Derived.BigQuiet
import Derived.Deep.DeepCutAuto
import Derived.Deep.CutBlock
import Derived.Test.YtnedmmjkhemgjaaBlk
namespace Go.Proofs.Ytnedmmjkhemgjaa
open Go.RowKit
set_option linter.unusedVariables false

theorem perm_list {a c : Nat} {D E : Array Int} (h : Sort.PermIn a c D E) (hc : c ≤ D.size) : E.toList.Perm D.toList := by
  have h2 := Sort.permIn_mono D E a c 0 D.size (Nat.zero_le _) hc (Nat.le_refl _) h
  have h3 := h2.2.2
  have e1 : E.extract 0 D.size = E := by rw [← h2.1]; simp
  have e2 : D.extract 0 D.size = D := by simp
  rwa [e1, e2] at h3

theorem nodup_ne {E : Array Int} (h : E.toList.Nodup) {i j : Nat} (hi : i < E.size) (hj : j < E.size) (hij : i ≠ j) : E[i]! ≠ E[j]! := by
  rw [getElem!_pos E i hi, getElem!_pos E j hj]
  intro e
  have hp := List.pairwise_iff_getElem.1 h
  simp only [Array.getElem_toList, Array.length_toList] at hp
  rcases Nat.lt_or_gt_of_ne hij with h1 | h1
  · exact hp i j hi hj h1 e
  · exact hp j i hj hi h1 e.symm

/-- What a sort of [a, c) gives. -/
def SrtD (T : Int → Int) (a c : Nat) (D E : Array Int) : Prop := Sort.PermIn a c D E ∧ Sort.SortedIn (ltT T) a c E

theorem pdq_left {T : Int → Int} {E : Array Int} {a p : Nat} (hnd : E.toList.Nodup) (hB : ∀ i, a ≤ i → i < p + 1 → ltT T E[i]! E[a - 1]! = false) (hp : a ≤ p) (ha : 0 < a) (hs : p < E.size) : ltT T E[a - 1]! E[p]! = true := by
  cases h : ltT T E[a - 1]! E[p]! with
  | true => rfl
  | false => exact absurd (ltT_total T _ _ h (hB p hp (by omega))) (nodup_ne hnd (by omega) hs (by omega))

set_option maxHeartbeats 32000000 in
set_option maxRecDepth 100000 in
theorem pdq_any {w0 : World} {g cap n b : Nat} {ks : List Int} {T : Int → Int} (hc : Orders w0 g b T ks) (hn : n ≤ 60) :
    ∀ (k : Nat) (w : World) (a c : Nat) (D : Array Int) (l : Int), c - a < k → a ≤ c → c ≤ n → SR w0 w g cap n ks D → D.toList.Nodup → Sort.Below (ltT T) a c D →
    Calls Try.prog 20 #[.slice (some ⟨g, 0, none⟩) n cap, .int .i64 a, .int .i64 c, .int .i64 l, ordV b] w fun e w' => e = .returned (.tuple #[]) ∧ ∃ E, Hid (SR w0 w' g cap n ks E) ∧ SrtD T a c D E := by
  intro k
  induction k with
  | zero => intro w a c D l hk; omega
  | succ k ih =>
  intro w a c D l hk hac hcn h hnd hbl
  have hn2 : n ≤ 1000 := by omega
  have HIH := hid ih
  have HS := hid h
  have HC := hid hc
  have ND := hid hnd
  have HB := hid hbl
  clear h hc hnd hbl ih
  go_enter Try.func20, Try.ntmps20
  go_wp2_with fail
  go_loopw [1, 2, 3, 10, 11] (fun v1 v2 v3 v10 v11 wr => ∃ (a1 c1 : Nat) (l : Int) (wb wp : Bool) (E : Array Int), a ≤ a1 ∧ a1 ≤ c1 ∧ c1 ≤ c ∧ v1 = .int .i64 a1 ∧ v2 = .int .i64 c1 ∧ v3 = .int .i64 l ∧ v10 = .bool wb ∧ v11 = .bool wp ∧ Hid (SR w0 wr g cap n ks E) ∧ Hid (Sort.Below (ltT T) a1 c1 E) ∧ Hid (E.toList.Nodup) ∧
    Hid (∀ R, Sort.PermIn a1 c1 E R → Sort.SortedIn (ltT T) a1 c1 R → Sort.PermIn a c D R ∧ Sort.SortedIn (ltT T) a c R)) (fun v1 v2 _ _ _ _ => (intOf v2).toNat - (intOf v1).toNat)
  case atStart => exact ⟨a, c, l, true, true, D, Nat.le_refl _, hac, Nat.le_refl _, rfl, rfl, rfl, rfl, rfl, HS, HB, ND, hid (fun R h1 h2 => ⟨h1, h2⟩)⟩
  case round =>
    clear HS HB ND
    obtain ⟨a1, c1, l, wb, wp, E, ha1, hac1, hc1, rfl, rfl, rfl, rfl, rfl, HS, HB, ND, HW⟩ := hrel
    obtain ⟨L, hL⟩ : ∃ q : Nat, q = c1 - a1 := ⟨_, rfl⟩
    have eL : (c1 : Int) - (a1 : Int) = (L : Int) := by omega
    have haL : a1 + L = c1 := by omega
    clear hL
    by_cases h12 : L ≤ 12
    · have hd : decide ((L : Int) ≤ 12) = true := decide_eq_true (by omega)
      have HI := hid (fun (d : Array Int) (hs : d.size = n) => Sort.insertionSort_holds (ltT_swo T) d a1 c1 hac1 (by omega))
      go_wp2_with fail
      with_reducible refine (insS_any HC.out hn2 HS.out (a := a1) (c := c1) (by omega) (by omega)).mono ?_
      rintro e w2 ⟨rfl, h2⟩
      have S2 := hid h2
      clear h2
      go_wp2_with fail
      refine bodyPost_ret (results_none rfl _ _ _) rfl ?_
      exact ⟨rfl, _, S2, HW.out _ (HI.out _ HS.out.size).1 (HI.out _ HS.out.size).2⟩
    · have hd : decide ((L : Int) ≤ 12) = false := decide_eq_false (by omega)
      by_cases hl0 : l = 0
      · subst hl0
        have HI := hid (fun (d : Array Int) (hs : d.size = n) => Sort.heapSort_holds (ltT_swo T) d a1 c1 hac1 (by omega))
        go_wp2_with fail
        with_reducible refine (heap_any HC.out hn2 HS.out (a := a1) (c := c1) (by omega) (by omega)).mono ?_
        rintro e w2 ⟨rfl, h2⟩
        have S2 := hid h2
        clear h2
        go_wp2_with fail
        refine bodyPost_ret (results_none rfl _ _ _) rfl ?_
        exact ⟨rfl, _, S2, HW.out _ (HI.out _ HS.out.size).1 (HI.out _ HS.out.size).2⟩
      · have hq1 : (l == 0) = false := by simpa using hl0
        have hq2 : decide (l = 0) = false := decide_eq_false hl0
        clear hl0
        go_upto_if 39 with fail
        go_cut [3] from 39 to 46 (fun v3 wx => ∃ (l1 : Int) (E1 : Array Int), v3 = .int .i64 l1 ∧ Hid (SR w0 wx g cap n ks E1) ∧ Hid (Sort.PermIn a1 c1 E E1))
        case first =>
          cases wb
          · go_wp2_with fail
            with_reducible refine (shake_any _ hn HS.out (a := a1) (c := c1) (by omega) (by omega)).mono ?_
            rintro e w2 ⟨rfl, E1, hp1, h2⟩
            have S2 := hid h2
            have HP1 := hid hp1
            clear h2 hp1
            go_wp2_with fail
            go_meet
            exact ⟨_, E1, rfl, S2, HP1⟩
          · go_wp2_with fail
            go_meet
            exact ⟨l, E, rfl, HS, hid (Sort.permIn_refl _ _ _)⟩
        case rest =>
        obtain ⟨l1, E1, rfl, S1, HP1⟩ := hcut
        obtain ⟨wx1, rfl⟩ : ∃ y, y = wc := ⟨_, rfl⟩
        clear hq1 hq2
        go_wp2_with fail
        with_reducible refine (pivot_any HC.out hn2 S1.out (a := a1) (L := L) (by omega) (by omega) (by omega)).mono ?_
        rintro e w2 ⟨p, t, rfl, hp, h2⟩
        have S2 := hid h2
        clear h2 S1 HS
        go_upto_if 56 with fail
        go_cut [13, 14] from 56 to 67 (fun v13 v14 wx => ∃ (p1 : Nat) (t1 : Int) (E2 : Array Int), v13 = .int .i64 p1 ∧ v14 = .int .i64 t1 ∧ a1 ≤ p1 ∧ p1 < c1 ∧ Hid (SR w0 wx g cap n ks E2) ∧ Hid (Sort.PermIn a1 c1 E E2))
        case first =>
          by_cases ht : t = 2
          · subst ht
            go_wp2_with fail
            with_reducible refine (rev_any _ hn2 S2.out (a := a1) (c := c1) (by omega) (by omega)).mono ?_
            rintro e w3 ⟨rfl, E2, hp2, h3⟩
            have S3 := hid h3
            have HP2 := hid (Sort.permIn_trans _ _ _ _ _ HP1.out hp2)
            clear h3 hp2 S2
            go_wp2_with fail
            go_meet
            exact ⟨(c1 - 1) - (p - a1), _, E2, by go_num, rfl, by omega, by omega, S3, HP2⟩
          · have e1 : (t == 2) = false := by simpa using ht
            have e2 : decide (t = 2) = false := decide_eq_false ht
            clear ht
            go_wp2_with fail
            go_meet
            exact ⟨p, t, E1, rfl, rfl, by omega, by omega, S2, HP1⟩
        case rest =>
        obtain ⟨p1, t1, E2, rfl, rfl, hp1, hp2, S3, HP2⟩ := hcut
        obtain ⟨wx3, rfl⟩ : ∃ y, y = wc := ⟨_, rfl⟩
        clear S2 HP1 hp
        go_upto_region 15 with fail
        go_cut [75] from 69 to 75 (fun v75 wx => ∃ q : Bool, v75 = .bool q ∧ Hid (SR w0 wx g cap n ks E2))
        case first =>
          cases wb
          · go_wp2_with fail
            go_meet
            exact ⟨_, rfl, S3⟩
          · cases wp
            · go_wp2_with fail
              go_meet
              exact ⟨_, rfl, S3⟩
            · by_cases ht : t1 = 1
              · subst ht
                go_wp2_with fail
                go_meet
                exact ⟨_, rfl, S3⟩
              · have e1 : (t1 == 1) = false := by simpa using ht
                have e2 : decide (t1 = 1) = false := decide_eq_false ht
                clear ht
                go_wp2_with fail
                go_meet
                exact ⟨_, rfl, S3⟩
        case rest =>
        obtain ⟨q, rfl, S4⟩ := hcut
        obtain ⟨wx4, rfl⟩ : ∃ y, y = wc := ⟨_, rfl⟩
        clear S3
        have HB2 : Hid (Sort.Below (ltT T) a1 c1 E2) := hid (HB.out.perm (by have := S4.out.size; have := HP2.out.1; omega) HP2.out)
        go_upto_if 75 with fail
        go_cut [] from 75 to 80 (fun wx => ∃ E3 : Array Int, Hid (SR w0 wx g cap n ks E3) ∧ Hid (Sort.PermIn a1 c1 E E3))
        case first =>
          cases q
          · go_wp2_with fail
            go_meet
            exact ⟨E2, S4, HP2⟩
          · have HI := hid (Sort.partialInsertionSort_holds (ltT_swo T) E2 a1 c1 (by omega) (by have := S4.out.size; omega) HB2.out)
            go_wp2_with fail
            with_reducible refine (partial_any HC.out hn2 S4.out (a := a1) (c := c1) (by omega) (by omega)).mono ?_
            rintro e w3 ⟨t3, rfl, ht3, h3⟩
            have S5 := hid h3
            have HT3 := hid ht3
            clear h3 S4 ht3
            cases t3
            · go_wp2_with fail
              go_meet
              exact ⟨_, S5, hid (Sort.permIn_trans _ _ _ _ _ HP2.out HI.out.1)⟩
            · go_wp2_with fail
              refine bodyPost_ret (results_none rfl _ _ _) rfl ?_
              exact ⟨rfl, _, S5, HW.out _ (Sort.permIn_trans _ _ _ _ _ HP2.out HI.out.1) (HI.out.2 HT3.out.symm)⟩
        case rest =>
        obtain ⟨E3, S5, HP3⟩ := hcut
        obtain ⟨wx5, rfl⟩ : ∃ y, y = wc := ⟨_, rfl⟩
        clear S4 HP2 HB2
        have hsE : c1 ≤ E.size := by have := S5.out.size; have := HP3.out.1; omega
        have ND3 : Hid (E3.toList.Nodup) := hid ((perm_list HP3.out hsE).nodup_iff.2 ND.out)
        have HB3 : Hid (Sort.Below (ltT T) a1 c1 E3) := hid (HB.out.perm hsE HP3.out)
        go_upto_region 17 with fail
        go_cut [97] from 81 to 97 (fun v97 wx => v97 = .bool false ∧ Hid (SR w0 wx g cap n ks E3))
        case first =>
          by_cases h0 : 0 < a1
          · have hg : decide ((a1 : Int) > 0) = true := decide_eq_true (by omega)
            have hlt : ltT T E3[a1 - 1]! E3[p1]! = true := by
              refine pdq_left ND3.out ?_ hp1 h0 (by have := S5.out.size; omega)
              rcases HB3.out with h | h
              · omega
              · exact fun i hi hi2 => h i hi (by omega)
            obtain ⟨ap, hap⟩ : ∃ q : Nat, q = a1 - 1 := ⟨_, rfl⟩
            have eap : (a1 : Int) - 1 = (ap : Int) := by omega
            have hapn : ap < n := by omega
            rw [← hap] at hlt
            clear hap
            have cx1 := S5.out.cell (i := ap) (by omega)
            have cy1 := S5.out.cell (i := p1) (by omega)
            have HQ1 := hid (S5.out.ord HC.out (i := ap) (j := p1) (by omega) (by omega))
            have hg1 := lt_neg hlt
            obtain ⟨c1, hcc1⟩ : ∃ c, cfT T E3[ap]! E3[p1]! = c := ⟨_, rfl⟩
            obtain ⟨x1, hx1⟩ : ∃ v, E3[ap]! = v := ⟨_, rfl⟩
            rw [hcc1] at HQ1 hg1
            rw [hx1] at HQ1 cx1
            obtain ⟨y1, hy1⟩ : ∃ v, E3[p1]! = v := ⟨_, rfl⟩
            first | rw [hy1] at HQ1 cy1 | skip
            have hd1 : decide (c1 < 0) = true := by simpa using hg1
            clear hcc1 hx1 hy1 hg1
            clear hlt
            go_wp2_with fail
            go_quiet ((go_at_call 19; exact Calls.quiet_of (HQ1.out _)))
            go_wp2_with fail
            go_meet
            exact ⟨rfl, hid (S5.out.drewN _)⟩
          · have hg : decide ((a1 : Int) > 0) = false := decide_eq_false (by omega)
            go_wp2_with fail
            go_quiet (fail)
            go_wp2_with fail
            go_meet
            exact ⟨rfl, hid (S5.out.drewN _)⟩
        case rest =>
        obtain ⟨rfl, S6⟩ := hcut
        obtain ⟨wx6, rfl⟩ : ∃ y, y = wc := ⟨_, rfl⟩
        clear S5
        go_wp2_with fail
        with_reducible refine (part_any HC.out hn2 S6.out (a := a1) (c := c1) (p := p1) (by omega) (by omega) (by omega)).mono ?_
        rintro e w5 ⟨m, t5, rfl, E5, S5, hp5, hpt⟩
        have PT := hid hpt
        have HP5 := hid (Sort.permIn_trans _ _ _ _ _ HP3.out hp5)
        have ND5 : Hid (E5.toList.Nodup) := hid ((perm_list hp5 (by have := S6.out.size; omega)).nodup_iff.2 ND3.out)
        have HB5 : Hid (Sort.Below (ltT T) a1 c1 E5) := hid (HB3.out.perm (by have := S6.out.size; omega) hp5)
        have hm1 := hpt.le
        have hm2 := hpt.gt
        clear hp5 hpt ND3 HB3 HP3 S6
        by_cases hlr : m - a1 < c1 - m
        · have hd2 : decide ((m : Int) - (a1 : Int) < (c1 : Int) - (m : Int)) = true := decide_eq_true (by omega)
          go_wp2_with fail
          with_reducible refine (HIH.out _ a1 m _ l1 (by omega) (by omega) (by omega) S5.out ND5.out ((HB5.out.mono (by omega)))).mono ?_
          rintro e w6 ⟨rfl, E6, S6, hp6⟩
          have HG := hid (go_right (ltT_swo T) PT.out (by rw [S5.out.size]; omega) hp6.1 hp6.2)
          have ND6 : Hid (E6.toList.Nodup) := hid ((perm_list hp6.1 (by rw [S5.out.size]; omega)).nodup_iff.2 ND5.out)
          clear hp6 S5 ND5
          go_wp2_with fail
          go_roundw
          case rel => exact ⟨m + 1, c1, l1, _, t5, E6, by omega, by omega, by omega, by go_num, by go_num, rfl, rfl, rfl, S6, hid HG.out.1, ND6, hid (fun R hR hs => by
            have h1 := HG.out.2 R hR hs
            exact HW.out R (Sort.permIn_trans _ _ _ _ _ HP5.out h1.1) h1.2)⟩
          case measure => simp [intOf]; omega
        · have hd2 : decide ((m : Int) - (a1 : Int) < (c1 : Int) - (m : Int)) = false := decide_eq_false (by omega)
          obtain ⟨mp, hmp⟩ : ∃ q : Nat, q = m + 1 := ⟨_, rfl⟩
          have emp : (m : Int) + 1 = (mp : Int) := by omega
          have hmp1 : mp ≤ m + 1 := by omega
          have hmp2 : m < mp := by omega
          have HMP := hid hmp
          clear hmp
          go_wp2_with fail
          with_reducible refine (HIH.out _ mp c1 _ l1 (by omega) (by omega) (by omega) S5.out ND5.out (by rw [HMP.out]; exact PT.out.below)).mono ?_
          rintro e w6 ⟨rfl, E6, S6, hp6⟩
          rw [HMP.out] at hp6
          have HG := hid (go_left (ltT_swo T) PT.out HB5.out (by rw [S5.out.size]; omega) hp6.1 hp6.2)
          have ND6 : Hid (E6.toList.Nodup) := hid ((perm_list hp6.1 (by rw [S5.out.size]; omega)).nodup_iff.2 ND5.out)
          clear hp6 S5 ND5
          go_wp2_with fail
          go_roundw
          case rel => exact ⟨a1, m, l1, _, t5, E6, by omega, by omega, by omega, by go_num, by go_num, rfl, rfl, rfl, S6, hid HG.out.1, ND6, hid (fun R hR hs => by
            have h1 := HG.out.2 R hR hs
            exact HW.out R (Sort.permIn_trans _ _ _ _ _ HP5.out h1.1) h1.2)⟩
          case measure => simp [intOf]; omega

end Go.Proofs.Ytnedmmjkhemgjaa
