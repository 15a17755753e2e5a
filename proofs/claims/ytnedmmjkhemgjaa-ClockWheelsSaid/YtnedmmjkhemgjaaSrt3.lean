/-
  The library's sort by a wheel's order: by insertion; by a heap.
-/
import Derived.Test.YtnedmmjkhemgjaaSrtA
import Derived.Test.YtnedmmjkhemgjaaSrtP
import Derived.BigQuiet
import Derived.Deep.DeepCutAuto
import Derived.Deep.CutBlock
import Derived.Test.YtnedmmjkhemgjaaBlk
namespace Go.Proofs.Ytnedmmjkhemgjaa
open Go.RowKit
set_option linter.unusedVariables false

section
variable {lt : Int → Int → Bool}
theorem insI_go {a j : Nat} {d : Array Int} (hj : a < j + 1) (h : lt d[j + 1]! d[j]! = true) : Sort.insInner lt a (j + 1) d = Sort.insInner lt a j (Sort.swp d (j + 1) j) := by
  rw [Sort.insInner]; simp [h]; omega
theorem insI_stop {a j : Nat} {d : Array Int} (h : ¬ (a < j ∧ lt d[j]! d[j - 1]! = true)) : Sort.insInner lt a j d = d := by
  cases j with
  | zero => rw [Sort.insInner]
  | succ j =>
    rw [Sort.insInner, if_neg]
    intro e
    simp only [Bool.and_eq_true, decide_eq_true_eq] at e
    exact h ⟨e.1, by simpa using e.2⟩
theorem insO_go {a b i : Nat} {d : Array Int} (h : i < b) : Sort.insOuter lt a b i d = Sort.insOuter lt a b (i + 1) (Sort.insInner lt a i d) := by rw [Sort.insOuter, if_pos h]
theorem insO_stop {a b i : Nat} {d : Array Int} (h : ¬ i < b) : Sort.insOuter lt a b i d = d := by rw [Sort.insOuter, if_neg h]
end

set_option maxHeartbeats 8000000 in
set_option maxRecDepth 100000 in
theorem insS_any {w0 w : World} {g cap n b a c : Nat} {ks : List Int} {D : Array Int} {T : Int → Int} (hc : Orders w0 g b T ks) (hn : n ≤ 1000) (h : SR w0 w g cap n ks D) (hac : a ≤ c) (hb : c ≤ n) :
    Calls Try.prog 24 #[.slice (some ⟨g, 0, none⟩) n cap, .int .i64 a, .int .i64 c, ordV b] w fun e w' => e = .returned (.tuple #[]) ∧ SR w0 w' g cap n ks (Sort.insertionSort (ltT T) D a c) := by
  have HS := hid h
  have HC := hid hc
  clear h hc
  go_enter Try.func24, Try.ntmps24
  go_wp2_with fail
  go_loopw [8] (fun v8 wr => ∃ (i : Nat) (E : Array Int), a + 1 ≤ i ∧ i ≤ c + 1 ∧ v8 = .int .i64 i ∧ Hid (SR w0 wr g cap n ks E) ∧ Hid (Sort.insOuter (ltT T) a c i E = Sort.insertionSort (ltT T) D a c)) (fun v8 _ => c + 1 - (intOf v8).toNat)
  case atStart => exact ⟨a + 1, D, Nat.le_refl _, by omega, by go_num, HS, hid rfl⟩
  case round =>
    clear HS
    obtain ⟨i, E0, hi1, hi2, rfl, HE0, HO⟩ := hrel
    by_cases hlt : i < c
    · have hd : decide ((i : Int) < (c : Int)) = true := by simpa using hlt
      go_wp2_with fail
      go_loopw [9] (fun v9 wr => ∃ (j : Nat) (E : Array Int), j ≤ i ∧ v9 = .int .i64 j ∧ Hid (SR w0 wr g cap n ks E) ∧ Hid (Sort.insInner (ltT T) a j E = Sort.insInner (ltT T) a i E0)) (fun v9 _ => (intOf v9).toNat)
      case atStart => exact ⟨i, E0, Nat.le_refl _, rfl, HE0, hid rfl⟩
      case round =>
        clear HE0
        obtain ⟨j, E, hj, rfl, HE, HI⟩ := hrel
        obtain ⟨jp, hjp⟩ : ∃ q : Nat, q = j - 1 := ⟨_, rfl⟩
        have HJP : Hid (a < j → j = jp + 1) := hid (fun e => by omega)
        have HJQ : Hid (jp = j - 1) := hid hjp
        have hjp2 : jp < j ∨ j = 0 := by omega
        have hjp3 : a < j → (j : Int) - 1 = (jp : Int) := fun e => by omega
        clear hjp
        go_upto_region 4 with fail
        go_cut [34] from 18 to 34 (fun vt wx => ∃ t : Bool, vt = .bool t ∧ Hid (t = true ↔ (a < j ∧ ltT T E[j]! E[jp]! = true)) ∧ Hid (SR w0 wx g cap n ks E))
        case first =>
          by_cases hgd : a < j
          · have hgt : decide ((j : Int) > (a : Int)) = true := decide_eq_true (by omega)
            have ej := hjp3 hgd
            cases hlt : ltT T E[j]! E[jp]!
            · -- not less
              have cx1 := HE.out.cell (i := j) (by omega)
              have cy1 := HE.out.cell (i := jp) (by omega)
              have HQ1 := hid (HE.out.ord HC.out (i := j) (j := jp) (by omega) (by omega))
              have hg1 := lt_pos hlt
              obtain ⟨c1, hcc1⟩ : ∃ c, cfT T E[j]! E[jp]! = c := ⟨_, rfl⟩
              obtain ⟨x1, hx1⟩ : ∃ v, E[j]! = v := ⟨_, rfl⟩
              rw [hcc1] at HQ1 hg1
              rw [hx1] at HQ1 cx1
              obtain ⟨y1, hy1⟩ : ∃ v, E[jp]! = v := ⟨_, rfl⟩
              first | rw [hy1] at HQ1 cy1 | skip
              have hd1 : decide (c1 < 0) = false := by simpa using hg1
              clear hcc1 hx1 hy1 hg1
              have HL := hid hlt
              clear hlt
              go_wp2_with fail
              go_quiet ((go_at_call 19; exact Calls.quiet_of (HQ1.out _)))
              go_wp2_with fail
              go_meet
              exact ⟨false, rfl, hid (by have := HL.out; simp [hgd, this]), hid (HE.out.drewN _)⟩
            · -- less
              have cx1 := HE.out.cell (i := j) (by omega)
              have cy1 := HE.out.cell (i := jp) (by omega)
              have HQ1 := hid (HE.out.ord HC.out (i := j) (j := jp) (by omega) (by omega))
              have hg1 := lt_neg hlt
              obtain ⟨c1, hcc1⟩ : ∃ c, cfT T E[j]! E[jp]! = c := ⟨_, rfl⟩
              obtain ⟨x1, hx1⟩ : ∃ v, E[j]! = v := ⟨_, rfl⟩
              rw [hcc1] at HQ1 hg1
              rw [hx1] at HQ1 cx1
              obtain ⟨y1, hy1⟩ : ∃ v, E[jp]! = v := ⟨_, rfl⟩
              first | rw [hy1] at HQ1 cy1 | skip
              have hd1 : decide (c1 < 0) = true := by simpa using hg1
              clear hcc1 hx1 hy1 hg1
              have HL := hid hlt
              clear hlt
              go_wp2_with fail
              go_quiet ((go_at_call 19; exact Calls.quiet_of (HQ1.out _)))
              go_wp2_with fail
              go_meet
              exact ⟨true, rfl, hid (by have := HL.out; simp [hgd, this]), hid (HE.out.drewN _)⟩
          · have hgt : decide ((j : Int) > (a : Int)) = false := decide_eq_false (by omega)
            go_wp2_with fail
            go_quiet (fail)
            go_wp2_with fail
            go_meet
            exact ⟨false, rfl, hid (by simp [hgd]), hid (HE.out.drewN _)⟩
        case rest =>
          obtain ⟨t, rfl, HT, S2⟩ := hcut
          obtain ⟨wz, rfl⟩ : ∃ y, y = wc := ⟨_, rfl⟩
          clear HE
          cases t
          · have ht : ¬ (a < j ∧ ltT T E[j]! E[jp]! = true) := fun e => by have := HT.out.2 e; cases this
            clear HT
            have HSTOP := hid (insI_stop (lt := ltT T) (a := a) (j := j) (d := E) (by rw [HJQ.out] at ht; exact ht))
            clear ht
            go_wp2_with fail
            go_roundw
            case rel => exact ⟨i + 1, E, by omega, by omega, by go_num, S2, hid (by rw [← HO.out, insO_go hlt, ← HI.out, HSTOP.out])⟩
            case measure => simp [intOf]; omega
          · have ht := hid (HT.out.1 rfl)
            clear HT
            have hji := ht.out.1
            go_wp2_with fail
            have cx3 := S2.out.cell (i := j) (by omega)
            have cy3 := S2.out.cell (i := jp) (by omega)
            have fx3 := S2.out.free (j)
            have fy3 := S2.out.free (jp)
            obtain ⟨x3, hx3⟩ : ∃ v, E[j]! = v := ⟨_, rfl⟩
            rw [hx3] at cx3
            obtain ⟨y3, hy3⟩ : ∃ v, E[jp]! = v := ⟨_, rfl⟩
            first | rw [hy3] at cy3 | skip
            have SWP3 := hid (fun q => S2.out.swapD (i := j) (j := jp) (by omega) (by omega) hx3 hy3 q)
            clear hx3 hy3
            go_wp2_with fail
            go_region
            all_goals
              clear cx3 cy3 fx3 fy3
              go_wp2_with fail
              go_roundw
              case rel => exact ⟨jp, _, by omega, by go_num, hid (SWP3.out 1), hid ((by rw [HJP.out ht.out.1]; exact (insI_go (by omega) (by have := ht.out.2; rwa [HJP.out ht.out.1] at this)).symm : Sort.insInner (ltT T) a jp (Sort.swp E j jp) = Sort.insInner (ltT T) a j E).trans HI.out)⟩
              case measure => simp [intOf]; omega
    · have hd : decide ((i : Int) < (c : Int)) = false := by simpa using hlt
      have hf := HO.out
      rw [insO_stop hlt] at hf
      have HF := hid hf
      clear hf
      go_wp2_with fail
      go_end0
      exact ⟨rfl, by rw [← HF.out]; exact HE0.out⟩

end Go.Proofs.Ytnedmmjkhemgjaa
