/-
  The library's sort by a wheel's order: by a heap.
-/
import Derived.Test.YtnedmmjkhemgjaaSrtA
import Derived.Test.YtnedmmjkhemgjaaSrtP
import Derived.BigQuiet
import Derived.Deep.DeepCutAuto
import Derived.Deep.CutBlock
import Derived.Test.YtnedmmjkhemgjaaBlk
namespace Go.Proofs.Ytnedmmjkhemgjaa
open Go.RowKit
set_option linter.unusedVariables false

section
variable {lt : Int → Int → Bool}
theorem sift_end {hi f r : Nat} {d : Array Int} (h : hi ≤ 2 * r + 1) : Sort.siftDown lt hi f r d = d := by rw [Sort.siftDown, dif_pos h]
theorem sift_stop {hi f r ch : Nat} {d : Array Int} (hch : (ch = 2 * r + 1 ∧ ¬ (2 * r + 2 < hi ∧ lt d[f + (2 * r + 1)]! d[f + (2 * r + 2)]! = true)) ∨ (ch = 2 * r + 2 ∧ (2 * r + 2 < hi ∧ lt d[f + (2 * r + 1)]! d[f + (2 * r + 2)]! = true))) (h1 : 2 * r + 1 < hi) (h : lt d[f + r]! d[f + ch]! = false) :
    Sort.siftDown lt hi f r d = d := by
  rw [Sort.siftDown, dif_neg (by omega)]
  rcases hch with ⟨e, hc⟩ | ⟨e, hc⟩
  · rw [if_neg (by intro k; simp only [Bool.and_eq_true, decide_eq_true_eq] at k; exact hc ⟨by omega, k.2⟩)]
    subst e; rw [h]; simp
  · rw [if_pos (by simp only [Bool.and_eq_true, decide_eq_true_eq]; exact ⟨by omega, hc.2⟩)]
    subst e; rw [h]; simp
theorem sift_go {hi f r ch : Nat} {d : Array Int} (hch : (ch = 2 * r + 1 ∧ ¬ (2 * r + 2 < hi ∧ lt d[f + (2 * r + 1)]! d[f + (2 * r + 2)]! = true)) ∨ (ch = 2 * r + 2 ∧ (2 * r + 2 < hi ∧ lt d[f + (2 * r + 1)]! d[f + (2 * r + 2)]! = true))) (h1 : 2 * r + 1 < hi) (h : lt d[f + r]! d[f + ch]! = true) :
    Sort.siftDown lt hi f r d = Sort.siftDown lt hi f ch (Sort.swp d (f + r) (f + ch)) := by
  rw [Sort.siftDown, dif_neg (by omega)]
  rcases hch with ⟨e, hc⟩ | ⟨e, hc⟩
  · rw [if_neg (by intro k; simp only [Bool.and_eq_true, decide_eq_true_eq] at k; exact hc ⟨by omega, k.2⟩)]
    subst e; rw [h]; simp
  · rw [if_pos (by simp only [Bool.and_eq_true, decide_eq_true_eq]; exact ⟨by omega, hc.2⟩)]
    subst e; rw [h]; simp [hc.1]
end

set_option maxHeartbeats 8000000 in
set_option maxRecDepth 100000 in
theorem sift_any {w0 w : World} {g cap n b hi f r0 : Nat} {ks : List Int} {D : Array Int} {T : Int → Int} {ri hii fi : Int} (hc : Orders w0 g b T ks) (hn : n ≤ 1000) (h : SR w0 w g cap n ks D) (er : ri = r0) (eh : hii = hi) (ef : fi = f) (hr : r0 ≤ hi) (hf : f + hi ≤ n) :
    Calls Try.prog 36 #[.slice (some ⟨g, 0, none⟩) n cap, .int .i64 ri, .int .i64 hii, .int .i64 fi, ordV b] w fun e w' => e = .returned (.tuple #[]) ∧ SR w0 w' g cap n ks (Sort.siftDown (ltT T) hi f r0 D) := by
  subst er eh ef
  have HS := hid h
  have HC := hid hc
  clear h hc
  go_enter Try.func36, Try.ntmps36
  go_wp2_with fail
  go_loopw [10] (fun v10 wr => ∃ (r : Nat) (E : Array Int), r ≤ hi ∧ v10 = .int .i64 r ∧ Hid (SR w0 wr g cap n ks E) ∧ Hid (Sort.siftDown (ltT T) hi f r E = Sort.siftDown (ltT T) hi f r0 D)) (fun v10 _ => hi - (intOf v10).toNat)
  case atStart => exact ⟨r0, D, hr, by go_num, HS, hid rfl⟩
  case round =>
    clear HS
    obtain ⟨r, E, hrh, rfl, HE, HR⟩ := hrel
    obtain ⟨c1, hc1⟩ : ∃ q : Nat, q = 2 * r + 1 := ⟨_, rfl⟩
    obtain ⟨c2, hc2⟩ : ∃ q : Nat, q = 2 * r + 2 := ⟨_, rfl⟩
    have ec1 : (2 : Int) * (r : Int) + 1 = (c1 : Int) := by omega
    have ec2 : (c1 : Int) + 1 = (c2 : Int) := by omega
    by_cases hlo : 2 * r + 1 < hi
    · have hd : decide ((c1 : Int) ≥ (hi : Int)) = false := decide_eq_false (by omega)
      obtain ⟨f1, hf1⟩ : ∃ q : Nat, q = f + (2 * r + 1) := ⟨_, rfl⟩
      obtain ⟨f2, hf2⟩ : ∃ q : Nat, q = f + (2 * r + 2) := ⟨_, rfl⟩
      have ef1 : (f : Int) + (c1 : Int) = (f1 : Int) := by omega
      have ef2 : (f1 : Int) + 1 = (f2 : Int) := by omega
      have hf1n : f1 < n := by omega
      have hf2n : c2 < hi → f2 < n := fun e => by omega
      have HF1 := hid hf1
      have HF2 := hid hf2
      have HC1 := hid hc1
      have HC2 := hid hc2
      clear hf1 hf2 hc1 hc2
      go_upto_region 3 with fail
      go_cut [40] from 19 to 40 (fun vt wx => ∃ t : Bool, vt = .bool t ∧ Hid (t = true ↔ (c2 < hi ∧ ltT T E[f1]! E[f2]! = true)) ∧ Hid (SR w0 wx g cap n ks E))
      case first =>
        by_cases hgd : c2 < hi
        · have hgt : decide (((c2 : Nat) : Int) < ((hi : Nat) : Int)) = true := decide_eq_true (by omega)
          have hq2 := hf2n hgd
          cases hlt : ltT T E[f1]! E[f2]!
          · -- not less
            have cx1 := HE.out.cell (i := f1) (by omega)
            have cy1 := HE.out.cell (i := f2) (by omega)
            have HQ1 := hid (HE.out.ord HC.out (i := f1) (j := f2) (by omega) (by omega))
            have hg1 := lt_pos hlt
            obtain ⟨c1, hcc1⟩ : ∃ c, cfT T E[f1]! E[f2]! = c := ⟨_, rfl⟩
            obtain ⟨x1, hx1⟩ : ∃ v, E[f1]! = v := ⟨_, rfl⟩
            rw [hcc1] at HQ1 hg1
            rw [hx1] at HQ1 cx1
            obtain ⟨y1, hy1⟩ : ∃ v, E[f2]! = v := ⟨_, rfl⟩
            first | rw [hy1] at HQ1 cy1 | skip
            have hd1 : decide (c1 < 0) = false := by simpa using hg1
            clear hcc1 hx1 hy1 hg1
            have HL := hid hlt
            clear hlt
            go_wp2_with fail
            go_quiet ((go_at_call 19; exact Calls.quiet_of (HQ1.out _)))
            go_wp2_with fail
            go_meet
            exact ⟨false, rfl, hid (by have := HL.out; simp [hgd, this]), hid (HE.out.drewN _)⟩
          · -- less
            have cx1 := HE.out.cell (i := f1) (by omega)
            have cy1 := HE.out.cell (i := f2) (by omega)
            have HQ1 := hid (HE.out.ord HC.out (i := f1) (j := f2) (by omega) (by omega))
            have hg1 := lt_neg hlt
            obtain ⟨c1, hcc1⟩ : ∃ c, cfT T E[f1]! E[f2]! = c := ⟨_, rfl⟩
            obtain ⟨x1, hx1⟩ : ∃ v, E[f1]! = v := ⟨_, rfl⟩
            rw [hcc1] at HQ1 hg1
            rw [hx1] at HQ1 cx1
            obtain ⟨y1, hy1⟩ : ∃ v, E[f2]! = v := ⟨_, rfl⟩
            first | rw [hy1] at HQ1 cy1 | skip
            have hd1 : decide (c1 < 0) = true := by simpa using hg1
            clear hcc1 hx1 hy1 hg1
            have HL := hid hlt
            clear hlt
            go_wp2_with fail
            go_quiet ((go_at_call 19; exact Calls.quiet_of (HQ1.out _)))
            go_wp2_with fail
            go_meet
            exact ⟨true, rfl, hid (by have := HL.out; simp [hgd, this]), hid (HE.out.drewN _)⟩
        · have hgt : decide (((c2 : Nat) : Int) < ((hi : Nat) : Int)) = false := decide_eq_false (by omega)
          go_wp2_with fail
          go_quiet (fail)
          go_wp2_with fail
          go_meet
          exact ⟨false, rfl, hid (by simp [hgd]), hid (HE.out.drewN _)⟩
      case rest =>
        obtain ⟨t, rfl, HT, S2⟩ := hcut
        obtain ⟨wz, rfl⟩ : ∃ y, y = wc := ⟨_, rfl⟩
        clear HE
        cases t
        · have ht : ¬ (c2 < hi ∧ ltT T E[f1]! E[f2]! = true) := fun e => by have := HT.out.2 e; cases this
          clear HT
          go_wp2_with fail
          have HCH : Hid ((c1 = 2 * r + 1 ∧ ¬ (2 * r + 2 < hi ∧ ltT T E[f + (2 * r + 1)]! E[f + (2 * r + 2)]! = true)) ∨ (c1 = 2 * r + 2 ∧ (2 * r + 2 < hi ∧ ltT T E[f + (2 * r + 1)]! E[f + (2 * r + 2)]! = true))) := hid (by exact Or.inl ⟨HC1.out, by rw [← HF1.out, ← HF2.out, ← HC2.out]; exact ht⟩)
          have hchi : c1 < hi := by have := HC1.out; omega
          obtain ⟨fr, hfr⟩ : ∃ q : Nat, q = f + r := ⟨_, rfl⟩
          obtain ⟨fk, hfk⟩ : ∃ q : Nat, q = f + c1 := ⟨_, rfl⟩
          have er : (f : Int) + (r : Int) = (fr : Int) := by omega
          have ek : (f : Int) + (c1 : Int) = (fk : Int) := by omega
          have hfrn : fr < n := by omega
          have hfkn : fk < n := by omega
          have hchr : r < c1 := by have := HC1.out; omega
          have HFR := hid hfr
          have HFK := hid hfk
          clear hfr hfk ht ec1 ec2 ef1 ef2 hf1n hf2n
          cases hlt : ltT T E[fr]! E[fk]!
          · -- it stops
            have HST := hid (sift_stop HCH.out hlo (by rw [← HFR.out, ← HFK.out]; exact hlt))
            have cx7 := S2.out.cell (i := fr) (by omega)
            have cy7 := S2.out.cell (i := fk) (by omega)
            have HQ7 := hid (S2.out.ord HC.out (i := fr) (j := fk) (by omega) (by omega))
            have hg7 := lt_pos hlt
            obtain ⟨c7, hcc7⟩ : ∃ c, cfT T E[fr]! E[fk]! = c := ⟨_, rfl⟩
            obtain ⟨x7, hx7⟩ : ∃ v, E[fr]! = v := ⟨_, rfl⟩
            rw [hcc7] at HQ7 hg7
            rw [hx7] at HQ7 cx7
            obtain ⟨y7, hy7⟩ : ∃ v, E[fk]! = v := ⟨_, rfl⟩
            first | rw [hy7] at HQ7 cy7 | skip
            have hd7 : decide (c7 < 0) = false := by simpa using hg7
            clear hcc7 hx7 hy7 hg7
            go_wp2_with fail
            go_quiet ((go_at_call 19; exact Calls.quiet_of (HQ7.out _)))
            go_wp2_with fail
            refine bodyPost_ret (results_none rfl _ _ _) rfl ?_
            refine ⟨rfl, ?_⟩
            rw [← HR.out, HST.out]
            exact S2.out.drewN _
          · -- it goes on
            have HST := hid (sift_go HCH.out hlo (by rw [← HFR.out, ← HFK.out]; exact hlt))
            rw [← HFR.out, ← HFK.out] at HST
            have cx7 := S2.out.cell (i := fr) (by omega)
            have cy7 := S2.out.cell (i := fk) (by omega)
            have HQ7 := hid (S2.out.ord HC.out (i := fr) (j := fk) (by omega) (by omega))
            have hg7 := lt_neg hlt
            obtain ⟨c7, hcc7⟩ : ∃ c, cfT T E[fr]! E[fk]! = c := ⟨_, rfl⟩
            obtain ⟨x7, hx7⟩ : ∃ v, E[fr]! = v := ⟨_, rfl⟩
            rw [hcc7] at HQ7 hg7
            rw [hx7] at HQ7 cx7
            obtain ⟨y7, hy7⟩ : ∃ v, E[fk]! = v := ⟨_, rfl⟩
            first | rw [hy7] at HQ7 cy7 | skip
            have hd7 : decide (c7 < 0) = true := by simpa using hg7
            clear hcc7 hx7 hy7 hg7
            go_wp2_with fail
            go_quiet ((go_at_call 19; exact Calls.quiet_of (HQ7.out _)))
            have S3 := hid (S2.out.drewN nq)
            obtain ⟨W3, hW3⟩ : ∃ W, wz.drewN nq = W := ⟨_, rfl⟩
            rw [hW3] at S3
            rw [hW3]
            clear hW3 S2 cx7 cy7 HQ7
            have cx3 := S3.out.cell (i := fr) (by omega)
            have cy3 := S3.out.cell (i := fk) (by omega)
            have fx3 := S3.out.free (fr)
            have fy3 := S3.out.free (fk)
            obtain ⟨x3, hx3⟩ : ∃ v, E[fr]! = v := ⟨_, rfl⟩
            rw [hx3] at cx3
            obtain ⟨y3, hy3⟩ : ∃ v, E[fk]! = v := ⟨_, rfl⟩
            first | rw [hy3] at cy3 | skip
            have SWP3 := hid (fun q => S3.out.swapD (i := fr) (j := fk) (by omega) (by omega) hx3 hy3 q)
            clear hx3 hy3
            go_wp2_with fail
            go_region
            all_goals
              clear cx3 cy3 fx3 fy3
              go_wp2_with fail
              go_roundw
              case rel => exact ⟨c1, _, Nat.le_of_lt hchi, by go_num, hid (SWP3.out 1), hid (by rw [← HR.out, HST.out])⟩
              case measure => simp [intOf]; omega
        · have ht := hid (HT.out.1 rfl)
          clear HT
          go_wp2_with fail
          have HCH : Hid ((c2 = 2 * r + 1 ∧ ¬ (2 * r + 2 < hi ∧ ltT T E[f + (2 * r + 1)]! E[f + (2 * r + 2)]! = true)) ∨ (c2 = 2 * r + 2 ∧ (2 * r + 2 < hi ∧ ltT T E[f + (2 * r + 1)]! E[f + (2 * r + 2)]! = true))) := hid (by exact Or.inr ⟨HC2.out, by rw [← HF1.out, ← HF2.out, ← HC2.out]; exact ht.out⟩)
          have hchi : c2 < hi := by have := ht.out.1; omega
          obtain ⟨fr, hfr⟩ : ∃ q : Nat, q = f + r := ⟨_, rfl⟩
          obtain ⟨fk, hfk⟩ : ∃ q : Nat, q = f + c2 := ⟨_, rfl⟩
          have er : (f : Int) + (r : Int) = (fr : Int) := by omega
          have ek : (f : Int) + (c2 : Int) = (fk : Int) := by omega
          have hfrn : fr < n := by omega
          have hfkn : fk < n := by omega
          have hchr : r < c2 := by have := HC2.out; omega
          have HFR := hid hfr
          have HFK := hid hfk
          clear hfr hfk ht ec1 ec2 ef1 ef2 hf1n hf2n
          cases hlt : ltT T E[fr]! E[fk]!
          · -- it stops
            have HST := hid (sift_stop HCH.out hlo (by rw [← HFR.out, ← HFK.out]; exact hlt))
            have cx7 := S2.out.cell (i := fr) (by omega)
            have cy7 := S2.out.cell (i := fk) (by omega)
            have HQ7 := hid (S2.out.ord HC.out (i := fr) (j := fk) (by omega) (by omega))
            have hg7 := lt_pos hlt
            obtain ⟨c7, hcc7⟩ : ∃ c, cfT T E[fr]! E[fk]! = c := ⟨_, rfl⟩
            obtain ⟨x7, hx7⟩ : ∃ v, E[fr]! = v := ⟨_, rfl⟩
            rw [hcc7] at HQ7 hg7
            rw [hx7] at HQ7 cx7
            obtain ⟨y7, hy7⟩ : ∃ v, E[fk]! = v := ⟨_, rfl⟩
            first | rw [hy7] at HQ7 cy7 | skip
            have hd7 : decide (c7 < 0) = false := by simpa using hg7
            clear hcc7 hx7 hy7 hg7
            go_wp2_with fail
            go_quiet ((go_at_call 19; exact Calls.quiet_of (HQ7.out _)))
            go_wp2_with fail
            refine bodyPost_ret (results_none rfl _ _ _) rfl ?_
            refine ⟨rfl, ?_⟩
            rw [← HR.out, HST.out]
            exact S2.out.drewN _
          · -- it goes on
            have HST := hid (sift_go HCH.out hlo (by rw [← HFR.out, ← HFK.out]; exact hlt))
            rw [← HFR.out, ← HFK.out] at HST
            have cx7 := S2.out.cell (i := fr) (by omega)
            have cy7 := S2.out.cell (i := fk) (by omega)
            have HQ7 := hid (S2.out.ord HC.out (i := fr) (j := fk) (by omega) (by omega))
            have hg7 := lt_neg hlt
            obtain ⟨c7, hcc7⟩ : ∃ c, cfT T E[fr]! E[fk]! = c := ⟨_, rfl⟩
            obtain ⟨x7, hx7⟩ : ∃ v, E[fr]! = v := ⟨_, rfl⟩
            rw [hcc7] at HQ7 hg7
            rw [hx7] at HQ7 cx7
            obtain ⟨y7, hy7⟩ : ∃ v, E[fk]! = v := ⟨_, rfl⟩
            first | rw [hy7] at HQ7 cy7 | skip
            have hd7 : decide (c7 < 0) = true := by simpa using hg7
            clear hcc7 hx7 hy7 hg7
            go_wp2_with fail
            go_quiet ((go_at_call 19; exact Calls.quiet_of (HQ7.out _)))
            have S3 := hid (S2.out.drewN nq)
            obtain ⟨W3, hW3⟩ : ∃ W, wz.drewN nq = W := ⟨_, rfl⟩
            rw [hW3] at S3
            rw [hW3]
            clear hW3 S2 cx7 cy7 HQ7
            have cx3 := S3.out.cell (i := fr) (by omega)
            have cy3 := S3.out.cell (i := fk) (by omega)
            have fx3 := S3.out.free (fr)
            have fy3 := S3.out.free (fk)
            obtain ⟨x3, hx3⟩ : ∃ v, E[fr]! = v := ⟨_, rfl⟩
            rw [hx3] at cx3
            obtain ⟨y3, hy3⟩ : ∃ v, E[fk]! = v := ⟨_, rfl⟩
            first | rw [hy3] at cy3 | skip
            have SWP3 := hid (fun q => S3.out.swapD (i := fr) (j := fk) (by omega) (by omega) hx3 hy3 q)
            clear hx3 hy3
            go_wp2_with fail
            go_region
            all_goals
              clear cx3 cy3 fx3 fy3
              go_wp2_with fail
              go_roundw
              case rel => exact ⟨c2, _, Nat.le_of_lt hchi, by go_num, hid (SWP3.out 1), hid (by rw [← HR.out, HST.out])⟩
              case measure => simp [intOf]; omega
    · have hd : decide ((c1 : Int) ≥ (hi : Int)) = true := decide_eq_true (by omega)
      have HF := hid (sift_end (lt := ltT T) (hi := hi) (f := f) (r := r) (d := E) (by omega))
      clear hc1 hc2
      go_wp2_with fail
      go_end0
      exact ⟨rfl, by rw [← HR.out, HF.out]; exact HE.out⟩

/-- The heap's two loops, by how many rounds are left. -/
theorem hb_go {lt : Int → Int → Bool} {hi f k : Nat} {d : Array Int} : Sort.heapBuild lt hi f (k + 1) d = Sort.heapBuild lt hi f k (Sort.siftDown lt hi f k d) := rfl
theorem hp_go {lt : Int → Int → Bool} {f k : Nat} {d : Array Int} : Sort.heapPop lt f (k + 1) d = Sort.heapPop lt f k (Sort.siftDown lt k f 0 (Sort.swp d f (f + k))) := rfl

set_option maxHeartbeats 8000000 in
set_option maxRecDepth 100000 in
theorem heap_any {w0 w : World} {g cap n b a c : Nat} {ks : List Int} {D : Array Int} {T : Int → Int} (hc : Orders w0 g b T ks) (hn : n ≤ 1000) (h : SR w0 w g cap n ks D) (hac : a < c) (hb : c ≤ n) :
    Calls Try.prog 25 #[.slice (some ⟨g, 0, none⟩) n cap, .int .i64 a, .int .i64 c, ordV b] w fun e w' => e = .returned (.tuple #[]) ∧ SR w0 w' g cap n ks (Sort.heapSort (ltT T) D a c) := by
  have HS := hid h
  have HC := hid hc
  clear h hc
  obtain ⟨L, hL⟩ : ∃ q : Nat, q = c - a := ⟨_, rfl⟩
  have eL : (c : Int) - (a : Int) = (L : Int) := by omega
  obtain ⟨K, hK⟩ : ∃ q : Nat, q = (c - a - 1) / 2 + 1 := ⟨_, rfl⟩
  have eK : (((L : Int) - 1).tdiv 2) = (K : Int) - 1 := by rw [Int.tdiv_eq_ediv_of_nonneg (by omega)]; omega
  have eK2 : (((L : Int) - 1) / 2) = (K : Int) - 1 := by omega
  have hKL : K ≤ L := by omega
  have HL := hid hL
  have HK := hid hK
  have hal : a + L ≤ n := by omega
  have hL1 : 1 ≤ L := by omega
  clear hL hK
  go_enter Try.func25, Try.ntmps25
  go_wp2_with fail
  go_loopw [11] (fun v11 wr => ∃ (k : Nat) (E : Array Int), k ≤ L ∧ v11 = .int .i64 ((k : Int) - 1) ∧ Hid (SR w0 wr g cap n ks E) ∧ Hid (Sort.heapBuild (ltT T) L a k E = Sort.heapBuild (ltT T) L a K D)) (fun v11 _ => (intOf v11 + 1).toNat)
  case atStart => exact ⟨K, D, hKL, by first | rfl | (simp [eK]) | (simp [eK2]), HS, hid rfl⟩
  case round =>
    clear HS
    obtain ⟨k, E, hkL, rfl, HE, HB⟩ := hrel
    cases k with
    | succ k =>
      have hd : decide ((((k + 1 : Nat) : Int) - 1) ≥ 0) = true := decide_eq_true (by omega)
      have hk0 : ((k + 1 : Nat) : Int) - 1 = (k : Int) := by omega
      rw [hk0] at hd ⊢
      clear hk0
      go_wp2_with fail
      with_reducible refine (sift_any HC.out hn HE.out (r0 := k) (hi := L) (f := a) rfl rfl rfl (by omega) (by omega)).mono ?_
      rintro e w2 ⟨rfl, h2⟩
      have H2 := hid h2
      clear h2 HE
      go_wp2_with fail
      go_roundw
      case rel => exact ⟨k, _, by omega, by go_num, H2, hid (by rw [← HB.out, hb_go])⟩
      case measure => simp [intOf]
    | zero =>
      obtain ⟨zz, hzz⟩ : ∃ z : Int, ((0 : Nat) : Int) - 1 = z := ⟨_, rfl⟩
      have hd : decide (zz ≥ 0) = false := decide_eq_false (by omega)
      rw [hzz]
      clear hzz
      have HB2 : Hid (E = Sort.heapBuild (ltT T) L a K D) := hid HB.out
      clear HB
      go_wp2_with fail
      go_loopw [12] (fun v12 wr => ∃ (k : Nat) (E2 : Array Int), k ≤ L ∧ v12 = .int .i64 ((k : Int) - 1) ∧ Hid (SR w0 wr g cap n ks E2) ∧ Hid (Sort.heapPop (ltT T) a k E2 = Sort.heapPop (ltT T) a L E)) (fun v12 _ => (intOf v12 + 1).toNat)
      case atStart => exact ⟨L, E, Nat.le_refl _, by first | rfl | go_num, HE, hid rfl⟩
      case round =>
        clear HE
        obtain ⟨k, E2, hkL, rfl, HE, HP⟩ := hrel
        cases k with
        | succ k =>
          have hd : decide ((((k + 1 : Nat) : Int) - 1) ≥ 0) = true := decide_eq_true (by omega)
          have hk0 : ((k + 1 : Nat) : Int) - 1 = (k : Int) := by omega
          rw [hk0] at hd ⊢
          clear hk0
          obtain ⟨ak, hak⟩ : ∃ q : Nat, q = a + k := ⟨_, rfl⟩
          have eak : (a : Int) + (k : Int) = (ak : Int) := by omega
          have hakn : ak < n := by omega
          have HAK := hid hak
          clear hak
          have cx3 := HE.out.cell (i := a) (by omega)
          have cy3 := HE.out.cell (i := ak) (by omega)
          have fx3 := HE.out.free (a)
          have fy3 := HE.out.free (ak)
          obtain ⟨x3, hx3⟩ : ∃ v, E2[a]! = v := ⟨_, rfl⟩
          rw [hx3] at cx3
          obtain ⟨y3, hy3⟩ : ∃ v, E2[ak]! = v := ⟨_, rfl⟩
          first | rw [hy3] at cy3 | skip
          have SWP3 := hid (fun q => HE.out.swapD (i := a) (j := ak) (by omega) (by omega) hx3 hy3 q)
          obtain ⟨u3, cu3⟩ := HE.out.cell2 (i := a) (j := ak) (by omega) y3
          clear hx3 hy3
          go_wp2_with fail
          go_region
          all_goals
            have S3 : Hid (SR w0 ((wr.setCell ⟨g, a, none⟩ (.int .i64 y3)).setCell ⟨g, ak, none⟩ (.int .i64 x3)).drew g cap n ks (Sort.swp E2 a ak)) := hid (SWP3.out 1)
            clear cx3 cy3 fx3 fy3 cu3 SWP3
            go_wp2_with fail
            with_reducible refine (sift_any HC.out hn S3.out (ri := 0) (r0 := 0) (hi := k) (f := a) rfl rfl rfl (by omega) (by omega)).mono ?_
            rintro e w2 ⟨rfl, h2⟩
            have H2 := hid h2
            clear h2 S3
            go_wp2_with fail
            go_roundw
            case rel => exact ⟨k, _, by omega, by go_num, H2, hid (by rw [← HP.out, hp_go, HAK.out])⟩
            case measure => simp [intOf]
        | zero =>
          have hd : decide ((((0 : Nat) : Int) - 1) ≥ 0) = false := by decide
          have HP2 : Hid (E2 = Sort.heapPop (ltT T) a L E) := hid HP.out
          clear HP
          go_wp2_with fail
          go_end0
          refine ⟨rfl, ?_⟩
          unfold Sort.heapSort
          rw [← HK.out, ← HL.out]
          rw [← HB2.out, ← HP2.out]
          exact HE.out

end Go.Proofs.Ytnedmmjkhemgjaa
