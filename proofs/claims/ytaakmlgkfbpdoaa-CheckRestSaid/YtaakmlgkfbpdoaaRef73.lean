/-
  The document's check: are a rule's stages wrong.
-/
import Derived.Test.YtaakmlgkfbpdoaaRef72
namespace Go.Proofs.Ytaakmlgkfbpdoaa
open Go.RowKit
set_option linter.unusedVariables false

section
variable {w : World} {sa ra ta va : Option Addr} {sn rn tn vc sc rc tc : Nat}

set_option maxHeartbeats 4000000 in
set_option maxRecDepth 100000 in
theorem mbroken10_any (r : Rul) (hst : Sl w 2 (.slice va r.stages.length vc) r.stages.length (r.stages.flatMap encStg)) (i0 i1 i2 i3 i4 i5 i6 : Int) (br : Bool) :
    Calls Try.prog 47 #[cfgV (.slice sa sn sc) (.slice ra rn rc) (.slice ta tn tc) i0 i1 i2 i3 i4 i5 br i6, .agg (encRul (r, .slice va r.stages.length vc)).toArray, .int .i64 10] w fun e w' => e = .returned (.bool (!rulR sn r 9)) ∧ Keeps No w w' := by
  unfold cfgV encRul
  obtain ⟨W2, hW2⟩ : ∃ W2, (w.alloc (.cells #[.slice sa sn sc, .slice ra rn rc, .slice ta tn tc, .int .i64 i0, .int .i64 i1, .int .i64 i2, .int .i64 i3, .int .i64 i4, .int .i64 i5, .bool br, .int .i64 i6] 33)).alloc (.cells #[.int .u8 r.kind, .int .i64 r.sig, .int .i64 r.limit, .int .i64 r.back, .int .i64 r.delay, .int .i64 r.span, .int .u8 r.pri, .bool r.latch, .slice va r.stages.length vc] 38) = W2 := ⟨_, rfl⟩
  have k2 : Keeps No w W2 := by rw [← hW2]; exact ((Keeps.refl _ _).alloc _).alloc _
  have b2 : BlkL W2 (w.heap.size + 1) 38 [.int .u8 r.kind, .int .i64 r.sig, .int .i64 r.limit, .int .i64 r.back, .int .i64 r.delay, .int .i64 r.span, .int .u8 r.pri, .bool r.latch, .slice va r.stages.length vc] := by rw [← hW2]; exact heap_alloc_at (by simp) _
  have y0 : W2.cell? ⟨w.heap.size + 1, 0, none⟩ = some (.int .u8 r.kind) := b2.cell rfl
  have y6 : W2.cell? ⟨w.heap.size + 1, 6, none⟩ = some (.int .u8 r.pri) := b2.cell rfl
  have y8 : W2.cell? ⟨w.heap.size + 1, 8, none⟩ = some (.slice va r.stages.length vc) := b2.cell rfl
  have HK : Hid (rulR sn r 9 = (stR r.pri r.stages && decide (r.stages.length ≤ 4))) := hid rfl
  have hls := hst.2.1
  unfold maxLen at hls
  have HS := hid (hst.keep k2 (fun _ _ h => h))
  have HB2 := hid b2
  have HW2 := hid hW2
  have K2 := hid k2
  clear hst hW2 k2 b2
  go_enter Try.func47, Try.ntmps47
  go_upto_region 1 with fail
  rw [HW2.out]
  go_wp2_with fail
  go_loopw [8, 9] (fun v8 v9 wr => ∃ (k : Nat) (p : Int), k ≤ r.stages.length ∧ v9 = .int .i64 k ∧ v8 = .int .u8 p ∧ Hid (stR r.pri r.stages = stR p (r.stages.drop k)) ∧ Hid (Keeps No W2 wr)) (fun _ v9 _ => r.stages.length - (intOf v9).toNat)
  case atStart => exact ⟨0, _, Nat.zero_le _, rfl, rfl, hid rfl, hid (Keeps.refl _ _)⟩
  case round =>
    obtain ⟨k, p, hk, rfl, rfl, HN, HR⟩ := hrel
    have hb2 := HB2.out.keep HR.out (fun h => h)
    have z8 : wr.cell? ⟨w.heap.size + 1, 8, none⟩ = some (.slice va r.stages.length vc) := hb2.cell rfl
    clear hb2
    by_cases hlt : k < r.stages.length
    · have hs2 := HS.out.keep HR.out (fun _ _ h => h)
      obtain ⟨g2, off2, rfl, hg2, hc2⟩ := Sl.structAt encStg_len hs2 hlt (by decide)
      obtain ⟨s, hse⟩ : ∃ s, r.stages[k] = s := ⟨_, rfl⟩
      rw [hse] at hc2
      have q0 := hc2 0 _ rfl
      have q1 := hc2 1 _ rfl
      simp only [Nat.add_zero] at q0
      have hgr : ¬ g2 = wr.heap.size := by omega
      have hn : stR r.pri r.stages = (inB s.wait 1 100000 && inB s.pri 1 3 && decide (p ≤ s.pri) && stR s.pri (r.stages.drop (k + 1))) := by
        rw [HN.out, List.drop_eq_getElem_cons hlt, hse]; rfl
      have HNX := hid hn
      clear hs2 hc2 hse hn
      have fin : ∀ h : stR r.pri r.stages = false, (!rulR sn r 9) = true := fun h => by rw [HK.out, h]; rfl
      have HFIN := hid fin
      clear fin
      by_cases h0 : s.wait < 1
      · have HF := hid (HFIN.out (by rw [HNX.out, inB_false.2 (Or.inl h0)]; simp))
        have d0 : decide (s.wait < 1) = true := decide_eq_true h0
        clear h0
        go_wp2_with fail
        go_ret
        exact ⟨by rw [HF.out]; rfl, K2.out.trans (HR.out.alloc _)⟩
      · have d0 : decide (s.wait < 1) = false := decide_eq_false h0
        by_cases h1 : 100000 < s.wait
        · have HF := hid (HFIN.out (by rw [HNX.out, inB_false.2 (Or.inr h1)]; simp))
          have d1 : decide (100000 < s.wait) = true := decide_eq_true h1
          clear h0 h1
          go_wp2_with fail
          go_ret
          exact ⟨by rw [HF.out]; rfl, K2.out.trans (HR.out.alloc _)⟩
        · have d1 : decide (100000 < s.wait) = false := decide_eq_false h1
          by_cases h2 : s.pri < 1
          · have HF := hid (HFIN.out (by rw [HNX.out, inB_false.2 (Or.inl h2)]; simp))
            have d2 : decide (s.pri < 1) = true := decide_eq_true h2
            clear h0 h1 h2
            go_wp2_with fail
            go_ret
            exact ⟨by rw [HF.out]; rfl, K2.out.trans (HR.out.alloc _)⟩
          · have d2 : decide (s.pri < 1) = false := decide_eq_false h2
            by_cases h3 : 3 < s.pri
            · have HF := hid (HFIN.out (by rw [HNX.out, inB_false.2 (Or.inr h3)]; simp))
              have d3 : decide (3 < s.pri) = true := decide_eq_true h3
              clear h0 h1 h2 h3
              go_wp2_with fail
              go_ret
              exact ⟨by rw [HF.out]; rfl, K2.out.trans (HR.out.alloc _)⟩
            · have d3 : decide (3 < s.pri) = false := decide_eq_false h3
              by_cases h4 : s.pri < p
              · have HF := hid (HFIN.out (by rw [HNX.out, decide_eq_false (by omega)]; simp))
                have d4 : decide (s.pri < p) = true := decide_eq_true h4
                clear h0 h1 h2 h3 h4
                go_wp2_with fail
                go_ret
                exact ⟨by rw [HF.out]; rfl, K2.out.trans (HR.out.alloc _)⟩
              · have d4 : decide (s.pri < p) = false := decide_eq_false h4
                have HT : Hid (stR r.pri r.stages = stR s.pri (r.stages.drop (k + 1))) := hid (by rw [HNX.out, inB_true.2 ⟨by omega, by omega⟩, inB_true.2 ⟨by omega, by omega⟩, decide_eq_true (by omega)]; simp)
                clear h0 h1 h2 h3 h4
                go_wp2_with fail
                go_roundw
                case rel => exact ⟨k + 1, s.pri, by omega, by go_num, rfl, HT, hid (HR.out.alloc _)⟩
                case measure => simp [intOf]; omega
    · have HT : Hid (stR r.pri r.stages = true) := hid (by rw [HN.out, List.drop_eq_nil_of_le (by omega)]; rfl)
      by_cases h5 : r.stages.length > 4
      · have HF : Hid ((!rulR sn r 9) = true) := hid (by rw [HK.out, decide_eq_false (by omega)]; simp)
        have d6 : decide (4 < (r.stages.length : Int)) = true := decide_eq_true (by omega)
        clear h5
        go_wp2_with fail
        go_ret
        exact ⟨by rw [HF.out]; rfl, K2.out.trans HR.out⟩
      · have HF : Hid ((!rulR sn r 9) = false) := hid (by rw [HK.out, HT.out, decide_eq_true (by omega)]; rfl)
        have d6 : decide (4 < (r.stages.length : Int)) = false := decide_eq_false (by omega)
        clear h5
        go_wp2_with fail
        go_ret
        exact ⟨by rw [HF.out]; rfl, K2.out.trans HR.out⟩

end
end Go.Proofs.Ytaakmlgkfbpdoaa
