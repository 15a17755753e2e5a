/-
  The document's check: the first rule that is broken, and where.
-/
import Derived.Test.YtaakmlgkfbpdoaaRef73
import Derived.Test.YtaakmlgkfbpdoaaChk10
import Derived.Deep.DeepCutAuto
import Derived.Deep.CutBlock
namespace Go.Proofs.Ytaakmlgkfbpdoaa
open Go.RowKit
set_option linter.unusedVariables false

/-- The first m of the chapter's rules are kept. -/
def Kept (C : Cfg) (m : Nat) : Prop := ∀ i, i < m → ∀ b, b < placesB C i → keepB rulR C i b = true

theorem Kept.zero (C : Cfg) : Kept C 0 := fun i hi => absurd hi (by omega)

theorem Kept.next {C : Cfg} {m : Nat} (h : Kept C m) (k : ∀ b, b < placesB C m → keepB rulR C m b = true) : Kept C (m + 1) := fun i hi b hb => by
  rcases Nat.lt_or_ge i m with h' | h'
  · exact h i h' b hb
  · rw [show i = m by omega] at hb ⊢
    exact k b hb

theorem Kept.first {C : Cfg} {m a : Nat} (h : Kept C m) (hm : m < 17) (ha : a < placesB C m) (hv : keepB rulR C m a = false) (hl : ∀ b, b < a → keepB rulR C m b = true) : IsFirst rulR C (m + 1) a := Or.inr ⟨m, rfl, hm, ha, hv, hl, h⟩

theorem Kept.none {C : Cfg} (h : Kept C 17) : IsFirst rulR C 0 0 := Or.inl ⟨rfl, rfl, h⟩

theorem next_of {f : Nat → Bool} {k : Nat} (h : ∀ c, c < k → f c = true) (hv : f k = true) : ∀ c, c < k + 1 → f c = true := fun c hc => by
  rcases Nat.lt_or_ge c k with h' | h'
  · exact h c h'
  · rw [show c = k by omega]; exact hv

section
variable {w : World} {sa ra ta va : Option Addr} {sn rn tn vc sc rc tc : Nat}

theorem mbroken_any (r : Rul) (hst : Sl w 2 (.slice va r.stages.length vc) r.stages.length (r.stages.flatMap encStg)) (i0 i1 i2 i3 i4 i5 i6 : Int) (br : Bool) : ∀ (m : Nat) (z : Int), 3 ≤ m → m ≤ 9 → z = (m : Int) + 1 →
    Calls Try.prog 47 #[.agg #[.slice sa sn sc, .slice ra rn rc, .slice ta tn tc, .int .i64 i0, .int .i64 i1, .int .i64 i2, .int .i64 i3, .int .i64 i4, .int .i64 i5, .bool br, .int .i64 i6], .agg #[.int .u8 r.kind, .int .i64 r.sig, .int .i64 r.limit, .int .i64 r.back, .int .i64 r.delay, .int .i64 r.span, .int .u8 r.pri, .bool r.latch, .slice va r.stages.length vc], .int .i64 z] w fun e w' => e = .returned (.bool (!rulR sn r m)) ∧ Keeps No w w'
  | 3, _, _, _, rfl => mbroken4_any r i0 i1 i2 i3 i4 i5 i6 br
  | 4, _, _, _, rfl => mbroken5_any r i0 i1 i2 i3 i4 i5 i6 br
  | 5, _, _, _, rfl => mbroken6_any r i0 i1 i2 i3 i4 i5 i6 br
  | 6, _, _, _, rfl => mbroken7_any r i0 i1 i2 i3 i4 i5 i6 br
  | 7, _, _, _, rfl => mbroken8_any r i0 i1 i2 i3 i4 i5 i6 br
  | 8, _, _, _, rfl => mbroken9_any r i0 i1 i2 i3 i4 i5 i6 br
  | 9, _, _, _, rfl => mbroken10_any r hst i0 i1 i2 i3 i4 i5 i6 br

end

section
variable {w : World} {C : Cfg} {sa ra ta : Option Addr} {sc rc tc : Nat}

set_option maxHeartbeats 8000000 in
set_option maxRecDepth 100000 in
theorem mfirst_any (h : CfgR w C (.slice sa C.sigs.length sc) (.slice ra C.ruls.length rc) (.slice ta C.tab.length tc)) (he : entries (C.tab.map (·.1)) ≤ 1000000) (ht : C.tab.length ≤ 1000) (hr : C.ruls.length ≤ 1000) (hs : C.sigs.length ≤ 1000) :
    Calls Try.prog 30 #[cfgV (.slice sa C.sigs.length sc) (.slice ra C.ruls.length rc) (.slice ta C.tab.length tc) C.b0 C.b1 C.b2 C.drain C.pause C.off C.brk C.log] w (FirstPost rulR C w) := by
  unfold cfgV
  obtain ⟨W1, hW1⟩ : ∃ W1, w.alloc (.cells #[.slice sa C.sigs.length sc, .slice ra C.ruls.length rc, .slice ta C.tab.length tc, .int .i64 C.b0, .int .i64 C.b1, .int .i64 C.b2, .int .i64 C.drain, .int .i64 C.pause, .int .i64 C.off, .bool C.brk, .int .i64 C.log] 33) = W1 := ⟨_, rfl⟩
  have k1 : Keeps No w W1 := by rw [← hW1]; exact (Keeps.refl _ _).alloc _
  have hb : CfgB W1 w.heap.size C sa ra ta sc rc tc := ⟨by rw [← hW1]; exact heap_alloc_new w _, h.calm k1⟩
  have HB := hid hb
  have HW1 := hid hW1
  have K1 := hid k1
  have HE := hid he
  have c0 := hb.blk.cell (o := 0) rfl
  have c1 := hb.blk.cell (o := 1) rfl
  have c2 := hb.blk.cell (o := 2) rfl
  have hblt := hb.blk.lt
  clear h hW1 k1 hb he
  go_enter Try.func30, Try.ntmps30
  go_upto_region 1 with fail
  rw [HW1.out]
  by_cases hlo : C.sigs.length < 1
  · have hP : Hid (IsFirst rulR C 1 0) := hid (Kept.first (m := 0) (Kept.zero C) (by decide) (show 0 < 1 by decide) (show inB (C.sigs.length : Int) 1 8 = false from inB_false.2 (Or.inl (by omega))) (fun b hb => absurd hb (by omega)))
    have d1 : decide ((C.sigs.length : Int) < 1) = true := decide_eq_true (by omega)
    go_wp2_with fail
    go_ret2
    exact ⟨1, 0, rfl, hP.out, K1.out⟩
  by_cases hhi : 8 < C.sigs.length
  · have hP : Hid (IsFirst rulR C 1 0) := hid (Kept.first (m := 0) (Kept.zero C) (by decide) (show 0 < 1 by decide) (show inB (C.sigs.length : Int) 1 8 = false from inB_false.2 (Or.inr (by omega))) (fun b hb => absurd hb (by omega)))
    have d1 : decide ((C.sigs.length : Int) < 1) = false := decide_eq_false (by omega)
    have d2 : decide ((C.sigs.length : Int) > 8) = true := decide_eq_true (by omega)
    have d3 : decide ((8 : Int) < (C.sigs.length : Int)) = true := decide_eq_true (by omega)
    go_wp2_with fail
    go_ret2
    exact ⟨1, 0, rfl, hP.out, K1.out⟩
  have HKEPT1 : Hid (Kept C 1) := hid (Kept.next (m := 0) (Kept.zero C) (fun b _ => inB_true.2 ⟨by omega, by omega⟩))
  have d1 : decide ((C.sigs.length : Int) < 1) = false := decide_eq_false (by omega)
  have d2 : decide ((C.sigs.length : Int) > 8) = false := decide_eq_false (by omega)
  have d3 : decide ((8 : Int) < (C.sigs.length : Int)) = false := decide_eq_false (by omega)
  go_wp2_with fail
  clear d1 d2 d3
  go_loopw [4] (fun v4 wr => ∃ k : Nat, k ≤ C.sigs.length ∧ v4 = .int .i64 k ∧ Hid (Keeps No W1 wr) ∧ Hid (∀ c, c < k → keepB rulR C 1 c = true)) (fun v4 _ => C.sigs.length - (intOf v4).toNat)
  case atStart => exact ⟨0, Nat.zero_le _, rfl, hid (Keeps.refl _ _), hid (fun c hc => by omega)⟩
  case round =>
    obtain ⟨wa, hwa⟩ : ∃ x, x = wr := ⟨_, rfl⟩
    subst hwa
    obtain ⟨k, hk, rfl, KR, HC⟩ := hrel
    have hb := HB.out.calm KR.out
    have x0 := hb.blk.cell (o := 0) rfl
    have x1 := hb.blk.cell (o := 1) rfl
    have hba := hb.blk.lt
    by_cases hlt : k < C.sigs.length
    · obtain ⟨x, hx⟩ : ∃ x, C.sigs[k] = x := ⟨_, rfl⟩
      have hkb : keepB rulR C 1 k = sigP x := by
        show (C.sigs[k]?).all _ = _
        rw [List.getElem?_eq_getElem hlt, hx]; rfl
      obtain ⟨g, off, rfl, hg, hc⟩ := Sl.structAt encSig_len hb.cfg.sig hlt (by decide)
      rw [hx] at hc
      have r0 := hc 0 _ rfl
      have r1 := hc 1 _ rfl
      simp only [Nat.add_zero] at r0
      unfold sigP at hkb
      have HKB := hid hkb
      have hgx : ¬ g = wa.heap.size := by omega
      have hbx : ¬ w.heap.size = wa.heap.size := by omega
      have HPF : Hid (keepB rulR C 1 k = false → IsFirst rulR C 2 k) := hid (fun hv => Kept.first (m := 1) HKEPT1.out (by decide) hlt hv HC.out)
      have KA := hid ((K1.out.trans KR.out).alloc (.cells #[.int .i64 x.mn, .int .i64 x.mx] 44))
      clear hkb hx hc hb
      have H1 := fun w' => hid (mnumber_any x.mn w')
      have H2 := fun w' => hid (mnumber_any x.mx w')
      cases h1 : i32B x.mn
      · simp only [h1] at H1 HKB
        clear h1 H2
        have HP := hid (HPF.out (by rw [HKB.out]; simp))
        go_wp2_with (go_at_call 46; (with_reducible refine (H1 _).out.mono ?_); rintro e w' ⟨rfl, rfl⟩)
        go_ret2
        exact ⟨2, k, rfl, HP.out, KA.out⟩
      · simp only [h1] at H1 HKB
        clear h1
        cases h2 : i32B x.mx
        · simp only [h2] at H2 HKB
          clear h2
          have HP := hid (HPF.out (by rw [HKB.out]; simp))
          go_wp2_with (first | (go_at_call 46; (with_reducible refine (H1 _).out.mono ?_); rintro e w' ⟨rfl, rfl⟩) | (go_at_call 46; (with_reducible refine (H2 _).out.mono ?_); rintro e w' ⟨rfl, rfl⟩))
          go_ret2
          exact ⟨2, k, rfl, HP.out, KA.out⟩
        · simp only [h2] at H2 HKB
          clear h2
          by_cases h3 : x.mn ≤ x.mx
          · have HN : Hid (∀ c, c < k + 1 → keepB rulR C 1 c = true) := hid (next_of HC.out (by rw [HKB.out, decide_eq_true h3]; rfl))
            have d1 : decide (x.mn > x.mx) = false := decide_eq_false (by omega)
            have d2 : decide (x.mx < x.mn) = false := decide_eq_false (by omega)
            clear h3
            go_wp2_with (first | (go_at_call 46; (with_reducible refine (H1 _).out.mono ?_); rintro e w' ⟨rfl, rfl⟩) | (go_at_call 46; (with_reducible refine (H2 _).out.mono ?_); rintro e w' ⟨rfl, rfl⟩))
            go_roundw
            case rel => exact ⟨k + 1, by omega, by go_num, hid (KR.out.alloc _), HN⟩
            case measure => simp [intOf]; omega
          · have HP := hid (HPF.out (by rw [HKB.out, decide_eq_false h3]; rfl))
            have d1 : decide (x.mn > x.mx) = true := decide_eq_true (by omega)
            have d2 : decide (x.mx < x.mn) = true := decide_eq_true (by omega)
            clear h3
            go_wp2_with (first | (go_at_call 46; (with_reducible refine (H1 _).out.mono ?_); rintro e w' ⟨rfl, rfl⟩) | (go_at_call 46; (with_reducible refine (H2 _).out.mono ?_); rintro e w' ⟨rfl, rfl⟩))
            go_ret2
            exact ⟨2, k, rfl, HP.out, KA.out⟩
    · have hk1 : k = C.sigs.length := by omega
      have HKEPT2 : Hid (Kept C 2) := hid (Kept.next (m := 1) HKEPT1.out (fun b hb => HC.out b (by rw [hk1]; exact hb)))
      have HBA := hid hb
      have KA := hid (K1.out.trans KR.out)
      clear hk1 hb HC hlo hhi HKEPT1
      by_cases hlo : C.ruls.length < 1
      · have hP : Hid (IsFirst rulR C 3 0) := hid (Kept.first (m := 2) HKEPT2.out (by decide) (show 0 < 1 by decide) (show inB (C.ruls.length : Int) 1 32 = false from inB_false.2 (Or.inl (by omega))) (fun b hb => absurd hb (by omega)))
        have d1 : decide ((C.ruls.length : Int) < 1) = true := decide_eq_true (by omega)
        go_wp2_with fail
        go_ret2
        exact ⟨3, 0, rfl, hP.out, KA.out⟩
      by_cases hhi : 32 < C.ruls.length
      · have hP : Hid (IsFirst rulR C 3 0) := hid (Kept.first (m := 2) HKEPT2.out (by decide) (show 0 < 1 by decide) (show inB (C.ruls.length : Int) 1 32 = false from inB_false.2 (Or.inr (by omega))) (fun b hb => absurd hb (by omega)))
        have d1 : decide ((C.ruls.length : Int) < 1) = false := decide_eq_false (by omega)
        have d2 : decide ((C.ruls.length : Int) > 32) = true := decide_eq_true (by omega)
        have d3 : decide ((32 : Int) < (C.ruls.length : Int)) = true := decide_eq_true (by omega)
        go_wp2_with fail
        go_ret2
        exact ⟨3, 0, rfl, hP.out, KA.out⟩
      have HKEPT3 : Hid (Kept C 3) := hid (Kept.next (m := 2) HKEPT2.out (fun b _ => inB_true.2 ⟨by omega, by omega⟩))
      have d1 : decide ((C.ruls.length : Int) < 1) = false := decide_eq_false (by omega)
      have d2 : decide ((C.ruls.length : Int) > 32) = false := decide_eq_false (by omega)
      have d3 : decide ((32 : Int) < (C.ruls.length : Int)) = false := decide_eq_false (by omega)
      go_wp2_with fail
      clear d1 d2 d3 hlo hhi
      go_loopw [6] (fun v6 wr => ∃ m : Nat, 3 ≤ m ∧ m ≤ 10 ∧ v6 = .int .i64 ((m : Int) + 1) ∧ Hid (Keeps No wa wr) ∧ Hid (Kept C m)) (fun v6 _ => 12 - (intOf v6).toNat)
      case atStart => exact ⟨3, by omega, by omega, rfl, hid (Keeps.refl _ _), HKEPT3⟩
      case round =>
        obtain ⟨wb, hwb⟩ : ∃ x, x = wr := ⟨_, rfl⟩
        subst hwb
        clear HKEPT3
        obtain ⟨m, hm3, hm10, rfl, KB, HKM⟩ := hrel
        by_cases hm : m ≤ 9
        · have dm : decide ((m : Int) + 1 ≤ 10) = true := decide_eq_true (by omega)
          have dm2 : decide ((m : Int) ≤ 9) = true := decide_eq_true (by omega)
          have x0b := KB.out.cell (fun h => h) x0
          have x1b := KB.out.cell (fun h => h) x1
          go_wp2_with fail
          go_loopw [7] (fun v7 wr => ∃ a : Nat, a ≤ C.ruls.length ∧ v7 = .int .i64 a ∧ Hid (Keeps No wb wr) ∧ Hid (∀ c, c < a → keepB rulR C m c = true)) (fun v7 _ => C.ruls.length - (intOf v7).toNat)
          case atStart => exact ⟨0, Nat.zero_le _, rfl, hid (Keeps.refl _ _), hid (fun c hc => by omega)⟩
          case round =>
            obtain ⟨wc, hwc⟩ : ∃ x, x = wr := ⟨_, rfl⟩
            subst hwc
            obtain ⟨a, ha, rfl, KC, HC⟩ := hrel
            have hb := HBA.out.calm (KB.out.trans KC.out)
            by_cases hlt : a < C.ruls.length
            · obtain ⟨x, hx⟩ : ∃ x, C.ruls[a] = x := ⟨_, rfl⟩
              have hkb : keepB rulR C m a = rulR C.sigs.length x.1 m := by
                have e : ∀ f : (Rul × Value) → Bool, (C.ruls[a]?).all f = f x := fun f => by rw [List.getElem?_eq_getElem hlt, hx]; rfl
                rcases (show m = 3 ∨ m = 4 ∨ m = 5 ∨ m = 6 ∨ m = 7 ∨ m = 8 ∨ m = 9 by omega) with rfl | rfl | rfl | rfl | rfl | rfl | rfl <;> exact e _
              have hpm : placesB C m = C.ruls.length := by
                rcases (show m = 3 ∨ m = 4 ∨ m = 5 ∨ m = 6 ∨ m = 7 ∨ m = 8 ∨ m = 9 by omega) with rfl | rfl | rfl | rfl | rfl | rfl | rfl <;> rfl
              obtain ⟨g, off, rfl, hg, hc⟩ := Sl.structAt encRul_len hb.cfg.rul hlt (by decide)
              rw [hx] at hc
              have hst := hb.cfg.stg C.ruls[a] (List.getElem_mem hlt)
              rw [hx] at hst
              obtain ⟨xr, xv⟩ := x
              dsimp only at hst hkb
              obtain ⟨va, vc, rfl⟩ := hst.any
              have r0 := cellDr (hc 0 _ rfl)
              have r1 := cellDr (hc 1 _ rfl)
              have r2 := cellDr (hc 2 _ rfl)
              have r3 := cellDr (hc 3 _ rfl)
              have r4 := cellDr (hc 4 _ rfl)
              have r5 := cellDr (hc 5 _ rfl)
              have r6 := cellDr (hc 6 _ rfl)
              have r7 := cellDr (hc 7 _ rfl)
              have r8 := cellDr (hc 8 _ rfl)
              simp only [Nat.add_zero] at r0
              have hbr := mbroken_any (w := wc.drew) (sa := sa) (ra := some ⟨g, off, none⟩) (ta := ta) (sn := C.sigs.length) (rn := C.ruls.length) (tn := C.tab.length) (sc := sc) (rc := rc) (tc := tc) xr (hst.keep ((Keeps.refl No wc).drew) (fun _ _ h => h)) C.b0 C.b1 C.b2 C.drain C.pause C.off C.log C.brk m ((m : Int) + 1) hm3 hm rfl
              have q0 := hb.blk.cell (o := 0) rfl
              have q1 := hb.blk.cell (o := 1) rfl
              have s0 := cellDr (hb.blk.cell (o := 0) rfl)
              have s1 := cellDr (hb.blk.cell (o := 1) rfl)
              have s2 := cellDr (hb.blk.cell (o := 2) rfl)
              have s3 := cellDr (hb.blk.cell (o := 3) rfl)
              have s4 := cellDr (hb.blk.cell (o := 4) rfl)
              have s5 := cellDr (hb.blk.cell (o := 5) rfl)
              have s6 := cellDr (hb.blk.cell (o := 6) rfl)
              have s7 := cellDr (hb.blk.cell (o := 7) rfl)
              have s8 := cellDr (hb.blk.cell (o := 8) rfl)
              have s9 := cellDr (hb.blk.cell (o := 9) rfl)
              have s10 := cellDr (hb.blk.cell (o := 10) rfl)
              have t0 := hb.blk.cell (o := 0) rfl
              have t2 := hb.blk.cell (o := 2) rfl
              have t3 := hb.blk.cell (o := 3) rfl
              have t4 := hb.blk.cell (o := 4) rfl
              have t5 := hb.blk.cell (o := 5) rfl
              have t6 := hb.blk.cell (o := 6) rfl
              have t7 := hb.blk.cell (o := 7) rfl
              have t8 := hb.blk.cell (o := 8) rfl
              have t9 := hb.blk.cell (o := 9) rfl
              have t10 := hb.blk.cell (o := 10) rfl
              have u0 := hc 0 _ rfl
              have u1 := hc 1 _ rfl
              have u2 := hc 2 _ rfl
              have u3 := hc 3 _ rfl
              have u4 := hc 4 _ rfl
              have u5 := hc 5 _ rfl
              have u6 := hc 6 _ rfl
              have u7 := hc 7 _ rfl
              have u8 := hc 8 _ rfl
              simp only [Nat.add_zero] at u0
              have HPF : Hid (keepB rulR C m a = false → IsFirst rulR C (m + 1) a) := hid (fun hv => Kept.first HKM.out (by omega) (by rw [hpm]; exact hlt) hv HC.out)
              have HNX : Hid (keepB rulR C m a = true → ∀ c, c < a + 1 → keepB rulR C m c = true) := hid (fun hv => next_of HC.out hv)
              have KD := hid ((KA.out.trans KB.out).trans KC.out)
              cases hv : rulR C.sigs.length xr m
              · rw [hv] at hkb hbr
                have HP := hid (HPF.out hkb)
                have HBR := hid hbr
                clear hkb hbr hv hx hc hst hpm HPF HNX
                go_wp2_with fail
                go_still_tail 7, (by kernel_rfl)
                go_wp2_with fail
                refine HBR.out.mono ?_
                rintro e w5 ⟨rfl, k5⟩
                have K5 := hid (KD.out.drew.trans k5)
                clear k5
                go_wp2_with fail
                go_ret2
                exact ⟨m + 1, a, by simp, HP.out, K5.out⟩
              · rw [hv] at hkb hbr
                have HN := hid (HNX.out hkb)
                have HBR := hid hbr
                clear hkb hbr hv hx hc hst hpm HPF HNX
                go_wp2_with fail
                go_still_tail 7, (by kernel_rfl)
                go_wp2_with fail
                refine HBR.out.mono ?_
                rintro e w5 ⟨rfl, k5⟩
                have K5 := hid (KC.out.drew.trans k5)
                clear k5
                go_wp2_with fail
                go_roundw
                case rel => exact ⟨a + 1, by omega, by go_num, K5, HN⟩
                case measure => simp [intOf]; omega
            · have ha1 : a = C.ruls.length := by omega
              have hpm : placesB C m = C.ruls.length := by
                rcases (show m = 3 ∨ m = 4 ∨ m = 5 ∨ m = 6 ∨ m = 7 ∨ m = 8 ∨ m = 9 by omega) with rfl | rfl | rfl | rfl | rfl | rfl | rfl <;> rfl
              have HN : Hid (Kept C (m + 1)) := hid (Kept.next HKM.out (fun b hb => HC.out b (by rw [ha1, ← hpm]; exact hb)))
              have q0 := hb.blk.cell (o := 0) rfl
              have q1 := hb.blk.cell (o := 1) rfl
              clear ha1 hpm
              go_wp2_with fail
              go_roundw
              case rel => exact ⟨m + 1, by omega, by omega, by go_num, hid (KB.out.trans KC.out), HN⟩
              case measure => simp [intOf]; omega
        · obtain ⟨z, hz⟩ : ∃ z : Int, ((m : Int) + 1) = z := ⟨_, rfl⟩
          rw [hz]
          have dz : decide (z ≤ 10) = false := decide_eq_false (by omega)
          have dz2 : ¬ z ≤ 10 := by omega
          obtain rfl : m = 10 := by omega
          clear hz
          have HBB := hid (HBA.out.calm KB.out)
          have KBB := hid (KA.out.trans KB.out)
          have x2 := HBB.out.blk.cell (o := 2) rfl
          clear hm3 hm10 hm x0 x1 hba
          by_cases hlo : C.tab.length < 1
          · have hP : Hid (IsFirst rulR C 11 0) := hid (Kept.first (m := 10) HKM.out (by decide) (show 0 < 1 by decide) (show inB (C.tab.length : Int) 1 64 = false from inB_false.2 (Or.inl (by omega))) (fun b hb => absurd hb (by omega)))
            have d1 : decide ((C.tab.length : Int) < 1) = true := decide_eq_true (by omega)
            go_wp2_with fail
            go_ret2
            exact ⟨11, 0, rfl, hP.out, KBB.out⟩
          by_cases hhi : 64 < C.tab.length
          · have hP : Hid (IsFirst rulR C 11 0) := hid (Kept.first (m := 10) HKM.out (by decide) (show 0 < 1 by decide) (show inB (C.tab.length : Int) 1 64 = false from inB_false.2 (Or.inr (by omega))) (fun b hb => absurd hb (by omega)))
            have d1 : decide ((C.tab.length : Int) < 1) = false := decide_eq_false (by omega)
            have d2 : decide ((C.tab.length : Int) > 64) = true := decide_eq_true (by omega)
            have d3 : decide ((64 : Int) < (C.tab.length : Int)) = true := decide_eq_true (by omega)
            go_wp2_with fail
            go_ret2
            exact ⟨11, 0, rfl, hP.out, KBB.out⟩
          have HKEPT11 : Hid (Kept C 11) := hid (Kept.next (m := 10) HKM.out (fun b _ => inB_true.2 ⟨by omega, by omega⟩))
          have d1 : decide ((C.tab.length : Int) < 1) = false := decide_eq_false (by omega)
          have d2 : decide ((C.tab.length : Int) > 64) = false := decide_eq_false (by omega)
          have d3 : decide ((64 : Int) < (C.tab.length : Int)) = false := decide_eq_false (by omega)
          go_wp2_with fail
          clear d1 d2 d3 hlo hhi
          go_loopw [8] (fun v8 wr => ∃ k : Nat, k ≤ C.tab.length ∧ v8 = .int .i64 k ∧ Hid (Keeps No wb wr) ∧ Hid (∀ c, c < k → keepB rulR C 11 c = true)) (fun v8 _ => C.tab.length - (intOf v8).toNat)
          case atStart => exact ⟨0, Nat.zero_le _, rfl, hid (Keeps.refl _ _), hid (fun c hc => by omega)⟩
          case round =>
            obtain ⟨wc, hwc⟩ : ∃ x, x = wr := ⟨_, rfl⟩
            subst hwc
            clear HKM
            obtain ⟨k, hk, rfl, KC, HC⟩ := hrel
            have hb := HBB.out.calm KC.out
            have q2 := hb.blk.cell (o := 2) rfl
            by_cases hlt : k < C.tab.length
            · obtain ⟨x, hx⟩ : ∃ x, C.tab[k] = x := ⟨_, rfl⟩
              have hkb : keepB rulR C 11 k = slotK C.ruls.length x.1 := by
                show (C.tab[k]?).all _ = _
                rw [List.getElem?_eq_getElem hlt, hx]; rfl
              obtain ⟨g, off, la, lc, rfl, hg, hcell, hsl, hl⟩ := hb.cfg.tabR.at hlt
              rw [hx] at hcell hsl
              obtain ⟨xl, xv⟩ := x
              dsimp only at hcell hsl hkb
              have r0 := cellDr hcell
              have hbr := mslot_any (w := wc.drew) (sa := sa) (ra := ra) (ta := some ⟨g, off, none⟩) (sn := C.sigs.length) (rn := C.ruls.length) (tn := C.tab.length) (sc := sc) (rc := rc) (tc := tc) (Sl.keep hsl ((Keeps.refl No wc).drew) (fun _ _ h => h)) hr C.b0 C.b1 C.b2 C.drain C.pause C.off C.log C.brk
              unfold cfgV at hbr
              have s0 := cellDr (hb.blk.cell (o := 0) rfl)
              have s1 := cellDr (hb.blk.cell (o := 1) rfl)
              have s2 := cellDr (hb.blk.cell (o := 2) rfl)
              have s3 := cellDr (hb.blk.cell (o := 3) rfl)
              have s4 := cellDr (hb.blk.cell (o := 4) rfl)
              have s5 := cellDr (hb.blk.cell (o := 5) rfl)
              have s6 := cellDr (hb.blk.cell (o := 6) rfl)
              have s7 := cellDr (hb.blk.cell (o := 7) rfl)
              have s8 := cellDr (hb.blk.cell (o := 8) rfl)
              have s9 := cellDr (hb.blk.cell (o := 9) rfl)
              have s10 := cellDr (hb.blk.cell (o := 10) rfl)
              have t0 := hb.blk.cell (o := 0) rfl
              have t1 := hb.blk.cell (o := 1) rfl
              have t3 := hb.blk.cell (o := 3) rfl
              have t4 := hb.blk.cell (o := 4) rfl
              have t5 := hb.blk.cell (o := 5) rfl
              have t6 := hb.blk.cell (o := 6) rfl
              have t7 := hb.blk.cell (o := 7) rfl
              have t8 := hb.blk.cell (o := 8) rfl
              have t9 := hb.blk.cell (o := 9) rfl
              have t10 := hb.blk.cell (o := 10) rfl
              have HPF : Hid (keepB rulR C 11 k = false → IsFirst rulR C 12 k) := hid (fun hv => Kept.first (m := 11) HKEPT11.out (by omega) hlt hv HC.out)
              have HNX : Hid (keepB rulR C 11 k = true → ∀ c, c < k + 1 → keepB rulR C 11 c = true) := hid (fun hv => next_of HC.out hv)
              have KD := hid (KBB.out.trans KC.out)
              cases hv : slotK C.ruls.length xl
              · rw [hv] at hkb hbr
                have HP := hid (HPF.out hkb)
                have HBR := hid hbr
                clear hkb hbr hv hx hsl hl HPF HNX
                go_wp2_with fail
                go_still_tail 6, (by kernel_rfl)
                go_wp2_with fail
                refine HBR.out.mono ?_
                rintro e w5 ⟨rfl, k5⟩
                have K5 := hid (KD.out.drew.trans k5)
                clear k5
                go_wp2_with fail
                go_ret2
                exact ⟨12, k, rfl, HP.out, K5.out⟩
              · rw [hv] at hkb hbr
                have HN := hid (HNX.out hkb)
                have HBR := hid hbr
                clear hkb hbr hv hx hsl hl HPF HNX
                go_wp2_with fail
                go_still_tail 6, (by kernel_rfl)
                go_wp2_with fail
                refine HBR.out.mono ?_
                rintro e w5 ⟨rfl, k5⟩
                have K5 := hid (KC.out.drew.trans k5)
                clear k5
                go_wp2_with fail
                go_roundw
                case rel => exact ⟨k + 1, by omega, by go_num, K5, HN⟩
                case measure => simp [intOf]; omega
            · have hk1 : k = C.tab.length := by omega
              have HKEPT12 : Hid (Kept C 12) := hid (Kept.next (m := 11) HKEPT11.out (fun b hb => HC.out b (by rw [hk1]; exact hb)))
              have HBC := hid hb
              have KCC := hid (KBB.out.trans KC.out)
              clear hk1 hb HC HKEPT11
              go_wp2_with fail
              go_loopw [9] (fun v9 wr => ∃ k : Nat, k ≤ C.ruls.length ∧ v9 = .int .i64 k ∧ Hid (Keeps No wc wr) ∧ Hid (∀ c, c < k → keepB rulR C 12 c = true)) (fun v9 _ => C.ruls.length - (intOf v9).toNat)
              case atStart => exact ⟨0, Nat.zero_le _, rfl, hid (Keeps.refl _ _), hid (fun c hc => by omega)⟩
              case round =>
                obtain ⟨wd, hwd⟩ : ∃ x, x = wr := ⟨_, rfl⟩
                subst hwd
                obtain ⟨q, hq, rfl, KE, HC⟩ := hrel
                have hb := HBC.out.calm KE.out
                have y1 := hb.blk.cell (o := 1) rfl
                by_cases hlt2 : q < C.ruls.length
                · have hkb : keepB rulR C 12 q = standsB (C.tab.map (·.1)) q := rfl
                  have hbr := mstands_any (w := wd) (sa := sa) (ra := ra) (sn := C.sigs.length) (rn := C.ruls.length) (sc := sc) (rc := rc) hb.cfg.tabR (q : Int) C.b0 C.b1 C.b2 C.drain C.pause C.off C.log C.brk
                  unfold cfgV at hbr
                  have t0 := hb.blk.cell (o := 0) rfl
                  have t2 := hb.blk.cell (o := 2) rfl
                  have t3 := hb.blk.cell (o := 3) rfl
                  have t4 := hb.blk.cell (o := 4) rfl
                  have t5 := hb.blk.cell (o := 5) rfl
                  have t6 := hb.blk.cell (o := 6) rfl
                  have t7 := hb.blk.cell (o := 7) rfl
                  have t8 := hb.blk.cell (o := 8) rfl
                  have t9 := hb.blk.cell (o := 9) rfl
                  have t10 := hb.blk.cell (o := 10) rfl
                  have HPF : Hid (keepB rulR C 12 q = false → IsFirst rulR C 13 q) := hid (fun hv => Kept.first (m := 12) HKEPT12.out (by omega) hlt2 hv HC.out)
                  have HNX : Hid (keepB rulR C 12 q = true → ∀ c, c < q + 1 → keepB rulR C 12 c = true) := hid (fun hv => next_of HC.out hv)
                  have KD := hid (KCC.out.trans KE.out)
                  cases hv : standsB (C.tab.map (·.1)) q
                  · rw [hv] at hkb hbr
                    have HP := hid (HPF.out hkb)
                    have HBR := hid hbr
                    clear hkb hbr hv HPF HNX
                    go_wp2_with fail
                    refine HBR.out.mono ?_
                    rintro e w5 ⟨rfl, k5⟩
                    have K5 := hid (KD.out.trans k5)
                    clear k5
                    go_wp2_with fail
                    go_ret2
                    exact ⟨13, q, rfl, HP.out, K5.out⟩
                  · rw [hv] at hkb hbr
                    have HN := hid (HNX.out hkb)
                    have HBR := hid hbr
                    clear hkb hbr hv HPF HNX
                    go_wp2_with fail
                    refine HBR.out.mono ?_
                    rintro e w5 ⟨rfl, k5⟩
                    have K5 := hid (KE.out.trans k5)
                    clear k5
                    go_wp2_with fail
                    go_roundw
                    case rel => exact ⟨q + 1, by omega, by go_num, K5, HN⟩
                    case measure => simp [intOf]; omega
                · have hq1 : q = C.ruls.length := by omega
                  have HKEPT13 : Hid (Kept C 13) := hid (Kept.next (m := 12) HKEPT12.out (fun b hb => HC.out b (by rw [hq1]; exact hb)))
                  have HBD := hid hb
                  have KDD := hid (KCC.out.trans KE.out)
                  clear hq1 hb HC HKEPT12
                  go_wp2_with fail
                  go_loopw [10] (fun v10 wr => ∃ j : Nat, j ≤ 3 ∧ v10 = .int .i64 j ∧ Hid (wd = wr) ∧ Hid (∀ c, c < j → keepB rulR C 13 c = true)) (fun v10 _ => 3 - (intOf v10).toNat)
                  case atStart => exact ⟨0, Nat.zero_le _, rfl, hid rfl, hid (fun c hc => by omega)⟩
                  case round =>
                    obtain ⟨j, hj, rfl, HWE, HC⟩ := hrel
                    have hwe := HWE.out
                    subst hwe
                    clear HWE
                    have z3 := HBD.out.blk.cell (o := 3) rfl
                    have z4 := HBD.out.blk.cell (o := 4) rfl
                    have z5 := HBD.out.blk.cell (o := 5) rfl
                    rcases (show j = 0 ∨ j = 1 ∨ j = 2 ∨ j = 3 by omega) with rfl | rfl | rfl | rfl
                    · have hkb : keepB rulR C 13 0 = inB C.b0 1 32 := rfl
                      by_cases hlo : C.b0 < 1
                      · have HP : Hid (IsFirst rulR C 14 0) := hid (Kept.first (m := 13) HKEPT13.out (by decide) (show 0 < 3 by decide) (by rw [hkb]; exact inB_false.2 (Or.inl hlo)) HC.out)
                        have d1 : decide (C.b0 < 1) = true := decide_eq_true hlo
                        clear hkb hlo
                        go_wp2_with fail
                        go_ret2
                        exact ⟨14, 0, rfl, HP.out, KDD.out⟩
                      · by_cases hhi : 32 < C.b0
                        · have HP : Hid (IsFirst rulR C 14 0) := hid (Kept.first (m := 13) HKEPT13.out (by decide) (show 0 < 3 by decide) (by rw [hkb]; exact inB_false.2 (Or.inr hhi)) HC.out)
                          have d1 : decide (C.b0 < 1) = false := decide_eq_false hlo
                          have d2 : decide (C.b0 > 32) = true := decide_eq_true hhi
                          have d3 : decide (32 < C.b0) = true := decide_eq_true hhi
                          clear hkb
                          go_wp2_with fail
                          go_ret2
                          exact ⟨14, 0, rfl, HP.out, KDD.out⟩
                        · have HN : Hid (∀ c, c < 0 + 1 → keepB rulR C 13 c = true) := hid (next_of HC.out (by rw [hkb]; exact inB_true.2 ⟨by omega, by omega⟩))
                          have d1 : decide (C.b0 < 1) = false := decide_eq_false hlo
                          have d2 : decide (C.b0 > 32) = false := decide_eq_false hhi
                          have d3 : decide (32 < C.b0) = false := decide_eq_false hhi
                          clear hkb
                          go_wp2_with fail
                          go_roundw
                          case rel => exact ⟨0 + 1, by omega, rfl, by first | exact hid rfl | exact hid trivial, HN⟩
                          case measure => simp [intOf]
                    · have hkb : keepB rulR C 13 1 = inB C.b1 1 32 := rfl
                      by_cases hlo : C.b1 < 1
                      · have HP : Hid (IsFirst rulR C 14 1) := hid (Kept.first (m := 13) HKEPT13.out (by decide) (show 1 < 3 by decide) (by rw [hkb]; exact inB_false.2 (Or.inl hlo)) HC.out)
                        have d1 : decide (C.b1 < 1) = true := decide_eq_true hlo
                        clear hkb hlo
                        go_wp2_with fail
                        go_ret2
                        exact ⟨14, 1, rfl, HP.out, KDD.out⟩
                      · by_cases hhi : 32 < C.b1
                        · have HP : Hid (IsFirst rulR C 14 1) := hid (Kept.first (m := 13) HKEPT13.out (by decide) (show 1 < 3 by decide) (by rw [hkb]; exact inB_false.2 (Or.inr hhi)) HC.out)
                          have d1 : decide (C.b1 < 1) = false := decide_eq_false hlo
                          have d2 : decide (C.b1 > 32) = true := decide_eq_true hhi
                          have d3 : decide (32 < C.b1) = true := decide_eq_true hhi
                          clear hkb
                          go_wp2_with fail
                          go_ret2
                          exact ⟨14, 1, rfl, HP.out, KDD.out⟩
                        · have HN : Hid (∀ c, c < 1 + 1 → keepB rulR C 13 c = true) := hid (next_of HC.out (by rw [hkb]; exact inB_true.2 ⟨by omega, by omega⟩))
                          have d1 : decide (C.b1 < 1) = false := decide_eq_false hlo
                          have d2 : decide (C.b1 > 32) = false := decide_eq_false hhi
                          have d3 : decide (32 < C.b1) = false := decide_eq_false hhi
                          clear hkb
                          go_wp2_with fail
                          go_roundw
                          case rel => exact ⟨1 + 1, by omega, rfl, by first | exact hid rfl | exact hid trivial, HN⟩
                          case measure => simp [intOf]
                    · have hkb : keepB rulR C 13 2 = inB C.b2 1 32 := rfl
                      by_cases hlo : C.b2 < 1
                      · have HP : Hid (IsFirst rulR C 14 2) := hid (Kept.first (m := 13) HKEPT13.out (by decide) (show 2 < 3 by decide) (by rw [hkb]; exact inB_false.2 (Or.inl hlo)) HC.out)
                        have d1 : decide (C.b2 < 1) = true := decide_eq_true hlo
                        clear hkb hlo
                        go_wp2_with fail
                        go_ret2
                        exact ⟨14, 2, rfl, HP.out, KDD.out⟩
                      · by_cases hhi : 32 < C.b2
                        · have HP : Hid (IsFirst rulR C 14 2) := hid (Kept.first (m := 13) HKEPT13.out (by decide) (show 2 < 3 by decide) (by rw [hkb]; exact inB_false.2 (Or.inr hhi)) HC.out)
                          have d1 : decide (C.b2 < 1) = false := decide_eq_false hlo
                          have d2 : decide (C.b2 > 32) = true := decide_eq_true hhi
                          have d3 : decide (32 < C.b2) = true := decide_eq_true hhi
                          clear hkb
                          go_wp2_with fail
                          go_ret2
                          exact ⟨14, 2, rfl, HP.out, KDD.out⟩
                        · have HN : Hid (∀ c, c < 2 + 1 → keepB rulR C 13 c = true) := hid (next_of HC.out (by rw [hkb]; exact inB_true.2 ⟨by omega, by omega⟩))
                          have d1 : decide (C.b2 < 1) = false := decide_eq_false hlo
                          have d2 : decide (C.b2 > 32) = false := decide_eq_false hhi
                          have d3 : decide (32 < C.b2) = false := decide_eq_false hhi
                          clear hkb
                          go_wp2_with fail
                          go_roundw
                          case rel => exact ⟨2 + 1, by omega, rfl, by first | exact hid rfl | exact hid trivial, HN⟩
                          case measure => simp [intOf]
                    · have HKEPT14 : Hid (Kept C 14) := hid (Kept.next (m := 13) HKEPT13.out (fun b hb => HC.out b hb))
                      have z2 := HBD.out.blk.cell (o := 2) rfl
                      have z6 := HBD.out.blk.cell (o := 6) rfl
                      have z7 := HBD.out.blk.cell (o := 7) rfl
                      have z8 := HBD.out.blk.cell (o := 8) rfl
                      have z10 := HBD.out.blk.cell (o := 10) rfl
                      clear HC HKEPT13
                      obtain ⟨dr, hdr⟩ : ∃ x, C.drain = x := ⟨_, rfl⟩
                      obtain ⟨nt, hnt⟩ : ∃ x, C.tab.length = x := ⟨_, rfl⟩
                      obtain ⟨en, hen⟩ : ∃ x, entries (C.tab.map (·.1)) = x := ⟨_, rfl⟩
                      have hkd : keepB rulR C 14 0 = (inB dr 1 64 && decide ((en : Int) < dr * (nt : Int))) := by rw [← hdr, ← hnt, ← hen]; rfl
                      clear z3 z4 z5 z6 z7 z8 z10 z2 y1
                      by_cases hlo : dr < 1
                      · have hP : Hid (IsFirst rulR C 15 0) := hid (Kept.first (m := 14) HKEPT14.out (by decide) (show 0 < 1 by decide) (by rw [hkd, inB_false.2 (Or.inl hlo)]; rfl) (fun b hb => absurd hb (by omega)))
                        have t6 := HBD.out.blk.cell (o := 6) rfl
                        rw [hdr] at t6
                        have d1 : decide (dr < 1) = true := decide_eq_true hlo
                        clear hkd hdr hnt hen
                        go_wp2_with fail
                        go_quiet (fail)
                        go_wp2_with fail
                        go_ret2
                        exact ⟨15, 0, rfl, hP.out, KDD.out.drewN _⟩
                      by_cases hhi : 64 < dr
                      · have hP : Hid (IsFirst rulR C 15 0) := hid (Kept.first (m := 14) HKEPT14.out (by decide) (show 0 < 1 by decide) (by rw [hkd, inB_false.2 (Or.inr hhi)]; rfl) (fun b hb => absurd hb (by omega)))
                        have t6 := HBD.out.blk.cell (o := 6) rfl
                        rw [hdr] at t6
                        have d1 : decide (dr < 1) = false := decide_eq_false hlo
                        have d2 : decide (dr > 64) = true := decide_eq_true hhi
                        have d3 : decide (64 < dr) = true := decide_eq_true hhi
                        clear hkd hdr hnt hen
                        go_wp2_with fail
                        go_quiet (fail)
                        go_wp2_with fail
                        go_ret2
                        exact ⟨15, 0, rfl, hP.out, KDD.out.drewN _⟩
                      have d1 : decide (dr < 1) = false := decide_eq_false hlo
                      have d2 : decide (dr > 64) = false := decide_eq_false hhi
                      have d3 : decide (64 < dr) = false := decide_eq_false hhi
                      have hnt64 : nt ≤ 64 := by
                        have := (inB_true.1 (HKEPT14.out 10 (by decide) 0 (show 0 < 1 by decide) : inB (C.tab.length : Int) 1 64 = true)).2
                        omega
                      obtain ⟨pr, hpr⟩ : ∃ x, dr * (nt : Int) = x := ⟨_, rfl⟩
                      have hp0 : 0 ≤ pr := by rw [← hpr]; exact Int.mul_nonneg (by omega) (by omega)
                      have hp1 : pr ≤ 4096 := by
                        rw [← hpr]
                        exact Int.le_trans (Int.mul_le_mul (show dr ≤ 64 by omega) (show (nt : Int) ≤ 64 by omega) (by omega) (by omega)) (by decide)
                      have hwp : IntKind.i64.wrap pr = pr := by rw [IntKind.wrap_i64]; omega
                      have hbk := HBD.out.blk
                      rw [hdr, hnt] at hbk
                      have x0 := hbk.cell (o := 0) rfl
                      have x1 := hbk.cell (o := 1) rfl
                      have x2 := hbk.cell (o := 2) rfl
                      have x3 := hbk.cell (o := 3) rfl
                      have x4 := hbk.cell (o := 4) rfl
                      have x5 := hbk.cell (o := 5) rfl
                      have x6 := hbk.cell (o := 6) rfl
                      have x7 := hbk.cell (o := 7) rfl
                      have x8 := hbk.cell (o := 8) rfl
                      have x9 := hbk.cell (o := 9) rfl
                      have x10 := hbk.cell (o := 10) rfl
                      have HBK := hid hbk
                      have hbr := fun (w' : World) (k : Keeps No wd w') => mentries_any (w := w') (sa := sa) (ra := ra) (sn := C.sigs.length) (rn := C.ruls.length) (sc := sc) (rc := rc) (HBD.out.calm k).cfg.tabR HE.out C.b0 C.b1 C.b2 C.drain C.pause C.off C.log C.brk
                      unfold cfgV at hbr
                      rw [hdr, hnt, hen] at hbr
                      rw [hpr] at hkd
                      have HBR := hid hbr
                      have HKD := hid hkd
                      clear hbr hkd hdr hnt hen hbk
                      by_cases hlt3 : (en : Int) < pr
                      · have HKEPT15 : Hid (Kept C 15) := hid (Kept.next (m := 14) HKEPT14.out (fun b hb => by
                          obtain rfl : b = 0 := by have : b < 1 := hb; omega
                          rw [HKD.out, inB_true.2 ⟨by omega, by omega⟩, decide_eq_true hlt3]; rfl))
                        have d4 : decide (pr ≤ (en : Int)) = false := decide_eq_false (by omega)
                        clear HKD HKEPT14
                        go_upto_region 36 with fail
                        go_cut [154] from 136 to 154 (fun v wx => v = .bool false ∧ Hid (Keeps No wd wx))
                        case first =>
                          go_wp2_with fail
                          go_region_held3 (fun w' => w'.cell? ⟨w.heap.size, 0, none⟩ = some (.slice sa C.sigs.length sc) ∧ w'.cell? ⟨w.heap.size, 1, none⟩ = some (.slice ra C.ruls.length rc) ∧ w'.cell? ⟨w.heap.size, 2, none⟩ = some (.slice ta nt tc) ∧ w'.cell? ⟨w.heap.size, 3, none⟩ = some (.int .i64 C.b0) ∧ w'.cell? ⟨w.heap.size, 4, none⟩ = some (.int .i64 C.b1) ∧ w'.cell? ⟨w.heap.size, 5, none⟩ = some (.int .i64 C.b2) ∧ w'.cell? ⟨w.heap.size, 6, none⟩ = some (.int .i64 dr) ∧ w'.cell? ⟨w.heap.size, 7, none⟩ = some (.int .i64 C.pause) ∧ w'.cell? ⟨w.heap.size, 8, none⟩ = some (.int .i64 C.off) ∧ w'.cell? ⟨w.heap.size, 9, none⟩ = some (.bool C.brk) ∧ w'.cell? ⟨w.heap.size, 10, none⟩ = some (.int .i64 C.log)) (first | exact ⟨x0, x1, x2, x3, x4, x5, x6, x7, x8, x9, x10⟩ | go_keep) ((go_at_call 29; (with_reducible refine (HBR.out _ ?hk).mono ?_); (case hk => exact (by repeat' (first | with_reducible exact Keeps.refl _ _ | with_reducible refine Keeps.drewN ?_ _ | with_reducible refine Keeps.drew ?_))); rintro e w5 ⟨rfl, k5⟩; have k6 : Keeps No wd w5 := Keeps.trans (by repeat' (first | with_reducible exact Keeps.refl _ _ | with_reducible refine Keeps.drewN ?_ _ | with_reducible refine Keeps.drew ?_)) k5; have h5 := HBK.out.keep k6 (fun h => h); have x0 := h5.cell (o := 0) rfl; have x1 := h5.cell (o := 1) rfl; have x2 := h5.cell (o := 2) rfl; have x3 := h5.cell (o := 3) rfl; have x4 := h5.cell (o := 4) rfl; have x5 := h5.cell (o := 5) rfl; have x6 := h5.cell (o := 6) rfl; have x7 := h5.cell (o := 7) rfl; have x8 := h5.cell (o := 8) rfl; have x9 := h5.cell (o := 9) rfl; have x10 := h5.cell (o := 10) rfl; have K6 := hid k6; clear k5 k6 h5))
                          all_goals
                            go_wp2_with fail
                            go_meet
                            exact ⟨rfl, K6⟩
                        case rest =>
                        obtain ⟨rfl, K6⟩ := hcut
                        have HB5 := hid (HBD.out.calm K6.out)
                        have K5 := hid (KDD.out.trans K6.out)
                        clear x0 x1 x2 x3 x4 x5 x6 x7 x8 x9 x10 HBR HBK
                        have t7 := HB5.out.blk.cell (o := 7) rfl
                        have t8 := HB5.out.blk.cell (o := 8) rfl
                        have t10 := HB5.out.blk.cell (o := 10) rfl
                        clear d1 d2 d3 hlo hhi
                        have hf15a : (C.pause < 1 ∨ 100000 < C.pause) → IsFirst rulR C 16 0 := fun h => Kept.first (m := 15) HKEPT15.out (by decide) (show 0 < 1 by decide) (show (inB C.pause 1 100000 && inB C.off 1 100000) = false by rw [inB_false.2 h]; rfl) (fun b hb => absurd hb (by omega))
                        have hf15b : (C.off < 1 ∨ 100000 < C.off) → IsFirst rulR C 16 0 := fun h => Kept.first (m := 15) HKEPT15.out (by decide) (show 0 < 1 by decide) (show (inB C.pause 1 100000 && inB C.off 1 100000) = false by rw [inB_false.2 h, Bool.and_false]) (fun b hb => absurd hb (by omega))
                        have HFA := hid hf15a
                        have HFB := hid hf15b
                        clear hf15a hf15b
                        by_cases hlop : C.pause < 1
                        · have HP : Hid (IsFirst rulR C 16 0) := hid (HFA.out (Or.inl hlop))
                          have d1 : decide (C.pause < 1) = true := decide_eq_true hlop
                          go_wp2_with fail
                          go_ret2
                          exact ⟨16, 0, rfl, HP.out, K5.out⟩
                        by_cases hhip : 100000 < C.pause
                        · have HP : Hid (IsFirst rulR C 16 0) := hid (HFA.out (Or.inr hhip))
                          have d1 : decide (C.pause < 1) = false := decide_eq_false hlop
                          have d2 : decide (C.pause > 100000) = true := decide_eq_true hhip
                          have d3 : decide (100000 < C.pause) = true := decide_eq_true hhip
                          go_wp2_with fail
                          go_ret2
                          exact ⟨16, 0, rfl, HP.out, K5.out⟩
                        have d1p : decide (C.pause < 1) = false := decide_eq_false hlop
                        have d2p : decide (C.pause > 100000) = false := decide_eq_false hhip
                        have d3p : decide (100000 < C.pause) = false := decide_eq_false hhip
                        by_cases hloo : C.off < 1
                        · have HP : Hid (IsFirst rulR C 16 0) := hid (HFB.out (Or.inl hloo))
                          have d1 : decide (C.off < 1) = true := decide_eq_true hloo
                          go_wp2_with fail
                          go_ret2
                          exact ⟨16, 0, rfl, HP.out, K5.out⟩
                        by_cases hhio : 100000 < C.off
                        · have HP : Hid (IsFirst rulR C 16 0) := hid (HFB.out (Or.inr hhio))
                          have d1 : decide (C.off < 1) = false := decide_eq_false hloo
                          have d2 : decide (C.off > 100000) = true := decide_eq_true hhio
                          have d3 : decide (100000 < C.off) = true := decide_eq_true hhio
                          go_wp2_with fail
                          go_ret2
                          exact ⟨16, 0, rfl, HP.out, K5.out⟩
                        have d1o : decide (C.off < 1) = false := decide_eq_false hloo
                        have d2o : decide (C.off > 100000) = false := decide_eq_false hhio
                        have d3o : decide (100000 < C.off) = false := decide_eq_false hhio
                        have HKEPT16 : Hid (Kept C 16) := hid (Kept.next (m := 15) HKEPT15.out (fun b hb => show (inB C.pause 1 100000 && inB C.off 1 100000) = true by rw [inB_true.2 ⟨by omega, by omega⟩, inB_true.2 ⟨by omega, by omega⟩]; rfl))
                        have hf16 : (C.log < 1 ∨ 256 < C.log) → IsFirst rulR C 17 0 := fun h => Kept.first (m := 16) HKEPT16.out (by decide) (show 0 < 1 by decide) (show inB C.log 1 256 = false from inB_false.2 h) (fun b hb => absurd hb (by omega))
                        have HFC := hid hf16
                        clear hf16
                        by_cases hlol : C.log < 1
                        · have HP : Hid (IsFirst rulR C 17 0) := hid (HFC.out (Or.inl hlol))
                          have d1 : decide (C.log < 1) = true := decide_eq_true hlol
                          go_wp2_with fail
                          go_ret2
                          exact ⟨17, 0, rfl, HP.out, K5.out⟩
                        by_cases hhil : 256 < C.log
                        · have HP : Hid (IsFirst rulR C 17 0) := hid (HFC.out (Or.inr hhil))
                          have d1 : decide (C.log < 1) = false := decide_eq_false hlol
                          have d2 : decide (C.log > 256) = true := decide_eq_true hhil
                          have d3 : decide (256 < C.log) = true := decide_eq_true hhil
                          go_wp2_with fail
                          go_ret2
                          exact ⟨17, 0, rfl, HP.out, K5.out⟩
                        have d1l : decide (C.log < 1) = false := decide_eq_false hlol
                        have d2l : decide (C.log > 256) = false := decide_eq_false hhil
                        have d3l : decide (256 < C.log) = false := decide_eq_false hhil
                        have HP : Hid (IsFirst rulR C 0 0) := hid (Kept.none (Kept.next (m := 16) HKEPT16.out (fun b hb => show inB C.log 1 256 = true from inB_true.2 ⟨by omega, by omega⟩)))
                        go_wp2_with fail
                        go_ret2
                        exact ⟨0, 0, rfl, HP.out, K5.out⟩
                      · have HP : Hid (IsFirst rulR C 15 0) := hid (Kept.first (m := 14) HKEPT14.out (by decide) (show 0 < 1 by decide) (by rw [HKD.out, decide_eq_false hlt3, Bool.and_false]) (fun b hb => absurd hb (by omega)))
                        have d4 : decide (pr ≤ (en : Int)) = true := decide_eq_true (by omega)
                        clear HKD HKEPT14
                        go_wp2_with fail
                        go_region_held3 (fun w' => w'.cell? ⟨w.heap.size, 0, none⟩ = some (.slice sa C.sigs.length sc) ∧ w'.cell? ⟨w.heap.size, 1, none⟩ = some (.slice ra C.ruls.length rc) ∧ w'.cell? ⟨w.heap.size, 2, none⟩ = some (.slice ta nt tc) ∧ w'.cell? ⟨w.heap.size, 3, none⟩ = some (.int .i64 C.b0) ∧ w'.cell? ⟨w.heap.size, 4, none⟩ = some (.int .i64 C.b1) ∧ w'.cell? ⟨w.heap.size, 5, none⟩ = some (.int .i64 C.b2) ∧ w'.cell? ⟨w.heap.size, 6, none⟩ = some (.int .i64 dr) ∧ w'.cell? ⟨w.heap.size, 7, none⟩ = some (.int .i64 C.pause) ∧ w'.cell? ⟨w.heap.size, 8, none⟩ = some (.int .i64 C.off) ∧ w'.cell? ⟨w.heap.size, 9, none⟩ = some (.bool C.brk) ∧ w'.cell? ⟨w.heap.size, 10, none⟩ = some (.int .i64 C.log)) (first | exact ⟨x0, x1, x2, x3, x4, x5, x6, x7, x8, x9, x10⟩ | go_keep) ((go_at_call 29; (with_reducible refine (HBR.out _ ?hk).mono ?_); (case hk => exact (by repeat' (first | with_reducible exact Keeps.refl _ _ | with_reducible refine Keeps.drewN ?_ _ | with_reducible refine Keeps.drew ?_))); rintro e w5 ⟨rfl, k5⟩; have k6 : Keeps No wd w5 := Keeps.trans (by repeat' (first | with_reducible exact Keeps.refl _ _ | with_reducible refine Keeps.drewN ?_ _ | with_reducible refine Keeps.drew ?_)) k5; have h5 := HBK.out.keep k6 (fun h => h); have x0 := h5.cell (o := 0) rfl; have x1 := h5.cell (o := 1) rfl; have x2 := h5.cell (o := 2) rfl; have x3 := h5.cell (o := 3) rfl; have x4 := h5.cell (o := 4) rfl; have x5 := h5.cell (o := 5) rfl; have x6 := h5.cell (o := 6) rfl; have x7 := h5.cell (o := 7) rfl; have x8 := h5.cell (o := 8) rfl; have x9 := h5.cell (o := 9) rfl; have x10 := h5.cell (o := 10) rfl; have K6 := hid k6; clear k5 k6 h5))
                        all_goals
                          go_wp2_with fail
                          go_ret2
                          exact ⟨15, 0, rfl, HP.out, KDD.out.trans K6.out⟩

end
end Go.Proofs.Ytaakmlgkfbpdoaa
