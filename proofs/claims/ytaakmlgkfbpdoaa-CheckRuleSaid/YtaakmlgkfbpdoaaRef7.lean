/-
  The document's check: may a number stand in an image; is a slot wrong.
-/
import Derived.Test.YtaakmlgkfbpdoaaChk5
namespace Go.Proofs.Ytaakmlgkfbpdoaa
open Go.RowKit
set_option linter.unusedVariables false

set_option maxRecDepth 100000 in
theorem mnumber_any (n : Int) (w : World) : Calls Try.prog 46 #[.int .i64 n] w fun e w' => e = .returned (.bool (i32B n)) ∧ w = w' := by
  by_cases h1 : -2147483648 ≤ n
  · by_cases h2 : n ≤ 2147483647
    · have hh : Hid (i32B n = true) := hid (inB_true.2 ⟨h1, h2⟩)
      have d1 : decide (-2147483648 ≤ n) = true := decide_eq_true h1
      have d2 : decide (n ≤ 2147483647) = true := decide_eq_true h2
      go_enter Try.func46, Try.ntmps46
      go_wp2_with fail
      go_ret
      exact ⟨by rw [hh.out]; rfl, rfl⟩
    · have hh : Hid (i32B n = false) := hid (inB_false.2 (by omega))
      have d1 : decide (-2147483648 ≤ n) = true := decide_eq_true h1
      have d2 : decide (n ≤ 2147483647) = false := decide_eq_false h2
      go_enter Try.func46, Try.ntmps46
      go_wp2_with fail
      go_ret
      exact ⟨by rw [hh.out]; rfl, rfl⟩
  · have hh : Hid (i32B n = false) := hid (inB_false.2 (by omega))
    have d1 : decide (-2147483648 ≤ n) = false := decide_eq_false h1
    go_enter Try.func46, Try.ntmps46
    go_wp2_with fail
    go_ret
    exact ⟨by rw [hh.out]; rfl, rfl⟩

section
variable {w : World} {C : Cfg} {sa ra ta : Option Addr} {sn rn tn sc rc tc : Nat}

set_option maxHeartbeats 2000000 in
set_option maxRecDepth 100000 in
theorem mslot_any {la : Option Addr} {lc : Nat} {l : List Int} (hs : SlI w (.slice la l.length lc) l) (hrn : rn ≤ 1000) (i0 i1 i2 i3 i4 i5 i6 : Int) (br : Bool) :
    Calls Try.prog 48 #[cfgV (.slice sa sn sc) (.slice ra rn rc) (.slice ta tn tc) i0 i1 i2 i3 i4 i5 br i6, .slice la l.length lc] w fun e w' => e = .returned (.bool (!slotK rn l)) ∧ Keeps No w w' := by
  unfold cfgV
  obtain ⟨W1, hW1⟩ : ∃ W1, w.alloc (.cells #[.slice sa sn sc, .slice ra rn rc, .slice ta tn tc, .int .i64 i0, .int .i64 i1, .int .i64 i2, .int .i64 i3, .int .i64 i4, .int .i64 i5, .bool br, .int .i64 i6] 33) = W1 := ⟨_, rfl⟩
  have k1 : Keeps No w W1 := by rw [← hW1]; exact (Keeps.refl _ _).alloc _
  have hb : BlkL W1 w.heap.size 33 [.slice sa sn sc, .slice ra rn rc, .slice ta tn tc, .int .i64 i0, .int .i64 i1, .int .i64 i2, .int .i64 i3, .int .i64 i4, .int .i64 i5, .bool br, .int .i64 i6] := by rw [← hW1]; exact heap_alloc_new w _
  have HB := hid hb
  have HS := hid (Sl.keep hs k1 (fun _ _ h => h))
  have hll := hs.2.1
  unfold maxLen at hll
  have HW1 := hid hW1
  have K1 := hid k1
  clear hs hW1 k1 hb
  go_enter Try.func48, Try.ntmps48
  go_upto_region 1 with fail
  rw [HW1.out]
  go_wp2_with fail
  go_loopw [5] (fun v5 wr => ∃ k : Nat, k ≤ l.length ∧ v5 = .int .i64 k ∧ Hid (Keeps No W1 wr) ∧ Hid (slotK rn (l.take k) = true)) (fun v5 _ => l.length - (intOf v5).toNat)
  case atStart => exact ⟨0, Nat.zero_le _, rfl, hid (Keeps.refl _ _), hid (by simp [slotK])⟩
  case round =>
    obtain ⟨wr', hwr'⟩ : ∃ x, x = wr := ⟨_, rfl⟩
    subst hwr'
    obtain ⟨k, hk, rfl, KR, HN⟩ := hrel
    by_cases hlt : k < l.length
    · have hs2 : SlI wr' (.slice la l.length lc) l := Sl.keep HS.out KR.out (fun _ _ h => h)
      obtain ⟨g2, off2, rfl, hg2, hc2⟩ := SlI.cellAt hs2 hlt
      obtain ⟨x, hx⟩ : ∃ x, l[k] = x := ⟨_, rfl⟩
      rw [hx] at hc2
      have HX := hid hx
      have c1 := (HB.out.keep KR.out (fun h => h)).cell (o := 1) rfl
      have hn : slotK rn (l.take (k + 1)) = (inB x 0 (rn - 1) && !(l.take k).contains x) := by
        rw [List.take_succ_eq_append_getElem hlt, slotK_snoc, HN.out, hx, Bool.true_and]
      have HS2 := hid hs2
      have HNX := hid hn
      clear hx hs2 hn
      have fin : ∀ h : slotK rn (l.take (k + 1)) = false, (!slotK rn l) = true := fun h => by rw [slotK_front (k + 1) h]; rfl
      by_cases h0 : x < 0
      · have HF : Hid ((!slotK rn l) = true) := hid (fin (by rw [HNX.out, inB_false.2 (Or.inl h0)]; rfl))
        have d0 : decide (x < 0) = true := decide_eq_true h0
        clear fin h0
        go_wp2_with fail
        go_quiet (fail)
        go_wp2_with fail
        go_ret
        exact ⟨by rw [HF.out]; rfl, K1.out.trans (KR.out.drewN _)⟩
      · have d0 : decide (x < 0) = false := decide_eq_false h0
        by_cases h1 : (rn : Int) ≤ x
        · have HF : Hid ((!slotK rn l) = true) := hid (fin (by rw [HNX.out, inB_false.2 (Or.inr (by omega))]; rfl))
          have d1 : decide ((rn : Int) ≤ x) = true := decide_eq_true h1
          clear fin h0 h1
          go_wp2_with fail
          go_quiet (fail)
          go_wp2_with fail
          go_ret
          exact ⟨by rw [HF.out]; rfl, K1.out.trans (KR.out.drewN _)⟩
        · have d1 : decide ((rn : Int) ≤ x) = false := decide_eq_false h1
          have HIN : Hid (inB x 0 (rn - 1) = true) := hid (inB_true.2 ⟨by omega, by omega⟩)
          clear h0 h1
          have HFIN := hid fin
          clear fin
          go_wp2_with fail
          go_quiet (fail)
          go_wp2_with fail
          go_loopw [6] (fun v6 wk => ∃ j : Nat, j ≤ k ∧ v6 = .int .i64 j ∧ Hid (Keeps No wr' wk) ∧ Hid (∀ y ∈ l.take j, y ≠ x)) (fun v6 _ => k - (intOf v6).toNat)
          case atStart => exact ⟨0, Nat.zero_le _, rfl, hid ((Keeps.refl _ _).drewN _), hid (by simp)⟩
          case round =>
            obtain ⟨wk, hwk⟩ : ∃ x, x = wr := ⟨_, rfl⟩
            subst hwk
            obtain ⟨j, hj, rfl, KK, HJ⟩ := hrel
            have hs3 : SlI wk (.slice (some ⟨g2, off2, none⟩) l.length lc) l := Sl.keep HS2.out KK.out (fun _ _ h => h)
            by_cases hjk : j < k
            · have hjl : j < l.length := by omega
              obtain ⟨g3, off3, e3, hg3, hc3⟩ := SlI.cellAt hs3 hjl
              obtain ⟨g4, off4, e4, hg4, hc4⟩ := SlI.cellAt hs3 hlt
              simp only [Option.some.injEq, Addr.mk.injEq, and_true] at e3 e4
              obtain ⟨rfl, rfl⟩ := e3
              obtain ⟨rfl, rfl⟩ := e4
              rw [HX.out] at hc4
              obtain ⟨y, hy⟩ : ∃ y, l[j] = y := ⟨_, rfl⟩
              rw [hy] at hc3
              have HY := hid hy
              clear hy hs3
              by_cases hyx : y = x
              · have HF : Hid ((!slotK rn l) = true) := hid (HFIN.out (by
                  rw [HNX.out]
                  have : (l.take k).contains x = true := by
                    rw [List.contains_iff_mem, ← hyx, ← HY.out]
                    exact List.mem_take_iff_getElem.2 ⟨j, by omega, rfl⟩
                  rw [this]; simp))
                subst hyx
                go_wp2_with fail
                go_quiet (fail)
                go_wp2_with fail
                go_ret
                exact ⟨by rw [HF.out]; rfl, K1.out.trans (KR.out.trans (KK.out.drewN _))⟩
              · have hb2 : (y == x) = false := by simpa using hyx
                have HM : Hid (∀ z ∈ l.take (j + 1), z ≠ x) := hid (by
                  rw [List.take_succ_eq_append_getElem hjl, HY.out]
                  intro z hz
                  rcases List.mem_append.1 hz with hz | hz
                  · exact HJ.out z hz
                  · simp at hz; subst hz; exact hyx)
                go_wp2_with fail
                go_quiet (fail)
                go_wp2_with fail
                go_roundw
                case rel => exact ⟨j + 1, by omega, by go_num, hid (KK.out.drewN _), HM⟩
                case measure => simp [intOf]; omega
            · have HT : Hid (slotK rn (l.take (k + 1)) = true) := hid (by
                rw [HNX.out, HIN.out]
                have : (l.take k).contains x = false := by
                  have h := HJ.out
                  rw [show j = k by omega] at h
                  simp only [List.contains_eq_mem, decide_eq_false_iff_not]
                  exact fun hx => h x hx rfl
                rw [this]; rfl)
              clear hs3
              go_wp2_with fail
              go_roundw
              case rel => exact ⟨k + 1, by omega, by go_num, hid (KR.out.trans KK.out), HT⟩
              case measure => simp [intOf]; omega
    · have HT : Hid ((!slotK rn l) = false) := hid (by
        have := HN.out
        rw [List.take_of_length_le (by omega)] at this
        rw [this]; rfl)
      go_wp2_with fail
      go_ret
      exact ⟨by rw [HT.out]; rfl, K1.out.trans KR.out⟩

end
end Go.Proofs.Ytaakmlgkfbpdoaa
