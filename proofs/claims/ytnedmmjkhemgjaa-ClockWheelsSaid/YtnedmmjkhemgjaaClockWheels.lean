/- Whatever is set, stopped, and asked: what is answered. No conditions. -/
import Derived.Test.YtnedmmjkhemgjaaRows
import Derived.Test.YtnedmmjkhemgjaaTimL
import Derived.BigQuiet
import Derived.ProofKit
import Derived.OpenShut
import Derived.Deep.DeepCutAuto
import Derived.Deep.CutBlock
namespace Go.Proofs.Ytnedmmjkhemgjaa.clockWheels
open Go.ChangeShapes Go.WideShapes Go.ChangeAt Go.RowKit
open Go.ChangeMaps (open_string shut_string)
set_option linter.unusedVariables false

set_option maxHeartbeats 32000000 in
set_option maxRecDepth 100000 in
theorem walk (w : World) (s : Option Addr) (cap : Nat) (l : List ActD) (hs : Sl w 3 (.slice s l.length cap) l.length (l.flatMap encAct)) (hb : ∀ x ∈ l, goodActD x) (near : Bool) :
    Calls Try.prog 3 #[.slice s l.length cap, .bool near] w fun e w' => e = .returned (.bool true) ∧ Below w.heap.size w w' := by
  have HS := hid hs
  have HB : Hid (∀ (i : Nat) (h : i < l.length), goodActD l[i]) := hid (fun i h => hb _ (List.getElem_mem h))
  clear hs hb
  obtain ⟨N, hN⟩ : ∃ q, l.length = q := ⟨_, rfl⟩
  have HN := hid hN
  rw [hN] at HS ⊢
  clear hN
  by_cases hl : 60 < N
  · have hd : decide ((N : Int) > 60) = true := decide_eq_true (by omega)
    go_enter Try.func3, Try.ntmps3
    go_wp2_with fail
    refine (dues_true _).mono ?_
    rintro e w1 ⟨rfl, k1⟩
    have K1 := hid k1
    clear k1
    go_wp2_with fail
    refine (dues_true _).mono ?_
    rintro e w2 ⟨rfl, k2⟩
    have K2 := hid (K1.out.trans k2)
    clear k2
    go_wp2_with fail
    go_ret
    exact ⟨rfl, K2.out.toBelow⟩
  · have hd : decide ((N : Int) > 60) = false := decide_eq_false (by omega)
    go_enter Try.func3, Try.ntmps3
    go_wp2_with fail
    refine (dues_true _).mono ?_
    rintro e w1 ⟨rfl, k1⟩
    have K1 := hid k1
    clear k1 hd
    go_wp2_with fail
    refine (wnew_any _).mono ?_
    rintro e w2 ⟨b, F0, rfl, h2, k2, n2⟩
    have K2 := hid (K1.out.trans k2)
    have H2 := hid h2
    have N2 : Hid (∀ i, F0 i → w.heap.size ≤ i) := hid (fun i hi => Nat.le_trans K1.out.size (n2 i hi))
    clear h2 k2 n2
    go_wp2_with fail
    go_loopw [6, 7] (fun v6 v7 wr => ∃ (i : Nat) (F : Nat → Prop) (T : List Tmr) (n : Nat) (a : Option Addr) (c : Nat), i ≤ N ∧ n ≤ i ∧ v7 = .int .i64 i ∧ v6 = .slice a n c ∧ Hid (T.length = n) ∧ Hid (Whl wr b F i T) ∧ Hid (SlT wr (.slice a n c) T) ∧ Hid (0 < n → ∀ k, (Value.slice a n c).ownBlock = some k → ¬ F k) ∧ Hid (∀ i, F i → w.heap.size ≤ i) ∧ Hid (Keeps No w wr)) (fun _ v7 _ => N - (intOf v7).toNat)
    case atStart => exact ⟨0, F0, [], 0, none, 0, Nat.zero_le _, Nat.le_refl _, rfl, rfl, hid rfl, H2, hid (Sl.nil _ _), hid (fun h => by omega), N2, K2⟩
    case round =>
      clear H2 N2 K2 K1
      obtain ⟨i, F, T, n, a, c, hi, hni, rfl, rfl, HTN, HW, HM, HAP, HNF, HK⟩ := hrel
      by_cases hlt : i < N
      · have hil : i < l.length := by rw [HN.out]; exact hlt
        obtain ⟨⟨d, id, at_⟩, hx⟩ : ∃ x, l[i] = x := ⟨_, rfl⟩
        have hg := HB.out i hil
        rw [hx] at hg
        have hID : I64 id := bounds_i64 hg.2.1
        have hAT : I64 at_ := bounds_i64 hg.2.2
        obtain ⟨d0, d1⟩ : 0 ≤ d ∧ d ≤ 255 := bounds_u8 hg.1
        obtain ⟨g, off, rfl, _, hc⟩ := Sl.itemC (enc := encAct) (size := 3) (fun _ => rfl) (by decide) HS.out hil hx
        have c0 := HK.out.cell (fun h => h) (hc 0 _ rfl)
        have c1 := HK.out.cell (fun h => h) (hc 1 _ rfl)
        have c2 := HK.out.cell (fun h => h) (hc 2 _ rfl)
        simp only [Nat.add_zero] at c0
        have HID0 := hid hID
        have HAT0 := hid hAT
        clear hc hx hg hID hAT hil
        obtain ⟨w0, hw0⟩ : ∃ x, x = wr := ⟨_, rfl⟩
        go_upto_region 8 with fail
        go_cut [8, 9] from 33 to 42 (fun v8 v9 wx => v8 = .int .i64 id ∧ v9 = .int .i64 at_ ∧ Hid (∃ q, wx = wr.drewN q))
        case first =>
          go_quiet (fail)
          go_wp2_with fail
          go_meet
          exact ⟨rfl, rfl, hid ⟨_, rfl⟩⟩
        case rest =>
        obtain ⟨rfl, rfl, HQ⟩ := hcut
        obtain ⟨q0, hq0⟩ := HQ.out
        subst hq0
        go_upto_if 43 with fail
        go_cut [8, 9] from 43 to 47 (fun v8 v9 wx => ∃ id2 at2 : Int, v8 = .int .i64 id2 ∧ v9 = .int .i64 at2 ∧ Hid (I64 id2) ∧ Hid (I64 at2) ∧ Hid (wx = wr.drewN q0))
        case first =>
          cases near
          · go_wp2_with fail
            go_meet
            exact ⟨id, at_, rfl, rfl, HID0, HAT0, hid rfl⟩
          · go_wp2_with fail
            go_meet
            exact ⟨_, _, rfl, rfl, hid (tmod_i64 HID0.out 6 (by decide) (by decide)), hid (tmod_i64 HAT0.out 20 (by decide) (by decide)), hid rfl⟩
        case rest =>
        obtain ⟨id2, at2, rfl, rfl, HID, HAT, HWX⟩ := hcut
        have hwx := HWX.out
        subst hwx
        have HW1 := hid (HW.out.kept ((Keeps.refl No wr).drewN q0))
        have HM1 := hid (HM.out.keep ((Keeps.refl No wr).drewN q0) (fun _ _ h => h))
        have HK1 := hid (HK.out.drewN q0)
        obtain ⟨w3, hw3⟩ : ∃ x, x = wr.drewN q0 := ⟨_, rfl⟩
        have cD := cellD q0 c0
        rw [← hw3] at HW1 HM1 HK1 cD ⊢
        clear c0 c1 c2
        have hT60 : T.length ≤ 60 := by have := HW1.out.len; omega
        have hTn : 0 < T.length → 0 < n := fun h => by have := HTN.out; omega
        have HLT := hid HW1.out.lt
        have HTT := hid hTn
        clear hw3 hTn HW HM HK hw0
        rcases (show d % 4 = 0 ∨ d % 4 = 1 ∨ d % 4 = 2 ∨ d % 4 = 3 by omega) with hm | hm | hm | hm
        · clear HTN
          go_wp2_with fail
          with_reducible refine (wset_any HW1.out (by omega) HID.out HAT.out).mono ?_
          rintro e w4 ⟨rfl, F4, hw4, u4⟩
          have HW4 := hid hw4
          have HM4 := hid (HM1.out.keep' u4.keeps (fun hn0 b hb hlt0 => HAP.out (HTT.out hn0) b hb))
          have hnk := newUpd HNF.out HK1.out u4
          have NF4 := hid hnk.1
          have K4 := hid hnk.2
          clear hw4 u4 hnk HW1 HM1 HK1
          go_wp2_with fail
          with_reducible refine (mset_any HM4.out (by omega) id2 at2).mono ?_
          rintro e w5 ⟨v5, rfl, ho5, k5⟩
          obtain ⟨a5, c5, rfl⟩ := own_any ho5.1
          have HLT4 := hid HW4.out.lt
          have HW5 := hid (HW4.out.kept k5)
          have HM5 := hid ho5.sl
          have HF5 := hid ho5.2
          have K5 := hid (K4.out.trans k5)
          clear ho5 k5 HW4 HM4 K4 hm
          obtain ⟨L5, hL5⟩ : ∃ q, stopT T id2 ++ [(id2, at2)] = q := ⟨_, rfl⟩
          rw [hL5] at HW5 HM5 HF5 ⊢
          clear hL5
          go_wp2_with fail
          with_reducible refine (wat_any HW5.out HID.out).mono ?_
          rintro e x1 ⟨rfl, kx1⟩
          have HX1 := hid (HM5.out.keep kx1 (fun _ _ h => h))
          have HV1 := hid (HW5.out.kept kx1)
          have KX1 := hid (K5.out.trans kx1)
          have HMA := hid (mat_any HX1.out (by have := HW5.out.len; omega) HW5.out.rng.1 id2)
          obtain ⟨tv, htv⟩ : ∃ q, tmOf (L5) id2 = q := ⟨_, rfl⟩
          obtain ⟨bv, hbv⟩ : ∃ q, decide (id2 ∈ idsT (L5)) = q := ⟨_, rfl⟩
          rw [htv, hbv] at HMA ⊢
          clear htv hbv kx1
          go_wp2_with fail
          with_reducible refine HMA.out.mono ?_
          rintro e x2 ⟨rfl, kx2⟩
          have HX2 := hid (HX1.out.keep kx2 (fun _ _ h => h))
          have HV2 := hid (HV1.out.kept kx2)
          have KX2 := hid (KX1.out.trans kx2)
          have q1 : (tv != tv) = false := by simp
          have q2 : (bv != bv) = false := by simp
          have q3 : decide (tv ≠ tv) = false := by simp
          have hln := HW5.out.len
          obtain ⟨ln, hl2⟩ : ∃ q, (L5).length = q := ⟨_, rfl⟩
          have HLN := hid hl2
          have HWL := hid (wlen_any HV2.out)
          rw [hl2] at HWL hln ⊢
          have HSX := hid HX2.out
          clear kx2 HX1 HV1 KX1 HMA hl2
          go_wp2_with fail
          with_reducible refine HWL.out.mono ?_
          rintro e x3 ⟨rfl, kx3⟩
          have q4 : ((ln : Int) != (ln : Int)) = false := by simp
          have q5 : decide ((ln : Int) ≠ (ln : Int)) = false := by simp
          have HX3 := hid (HX2.out.keep kx3 (fun _ _ h => h))
          have HV3 := hid (HV2.out.kept kx3)
          have KX3 := hid (KX2.out.trans kx3)
          rw [HLN.out] at HX3
          clear kx3 HX2 HV2 KX2 HWL HSX
          go_wp2_with fail
          go_roundw
          case rel => exact ⟨i + 1, F4, _, ln, _, _, by omega, by omega, by go_num, rfl, HLN, HV3, hid (by unfold SlT; rw [HLN.out]; exact HX3.out), hid (fun _ k hk e => by have h1 := HF5.out k (by rw [HLN.out]; exact hk); have h2 := HLT4.out k e; omega), hid (NF4.out), KX3⟩
          case measure => simp [intOf]; omega
        · clear HTN
          go_wp2_with fail
          with_reducible refine (wset_any HW1.out (by omega) HID.out HAT.out).mono ?_
          rintro e w4 ⟨rfl, F4, hw4, u4⟩
          have HW4 := hid hw4
          have HM4 := hid (HM1.out.keep' u4.keeps (fun hn0 b hb hlt0 => HAP.out (HTT.out hn0) b hb))
          have hnk := newUpd HNF.out HK1.out u4
          have NF4 := hid hnk.1
          have K4 := hid hnk.2
          clear hw4 u4 hnk HW1 HM1 HK1
          go_wp2_with fail
          with_reducible refine (mset_any HM4.out (by omega) id2 at2).mono ?_
          rintro e w5 ⟨v5, rfl, ho5, k5⟩
          obtain ⟨a5, c5, rfl⟩ := own_any ho5.1
          have HLT4 := hid HW4.out.lt
          have HW5 := hid (HW4.out.kept k5)
          have HM5 := hid ho5.sl
          have HF5 := hid ho5.2
          have K5 := hid (K4.out.trans k5)
          clear ho5 k5 HW4 HM4 K4 hm
          obtain ⟨L5, hL5⟩ : ∃ q, stopT T id2 ++ [(id2, at2)] = q := ⟨_, rfl⟩
          rw [hL5] at HW5 HM5 HF5 ⊢
          clear hL5
          go_wp2_with fail
          with_reducible refine (wat_any HW5.out HID.out).mono ?_
          rintro e x1 ⟨rfl, kx1⟩
          have HX1 := hid (HM5.out.keep kx1 (fun _ _ h => h))
          have HV1 := hid (HW5.out.kept kx1)
          have KX1 := hid (K5.out.trans kx1)
          have HMA := hid (mat_any HX1.out (by have := HW5.out.len; omega) HW5.out.rng.1 id2)
          obtain ⟨tv, htv⟩ : ∃ q, tmOf (L5) id2 = q := ⟨_, rfl⟩
          obtain ⟨bv, hbv⟩ : ∃ q, decide (id2 ∈ idsT (L5)) = q := ⟨_, rfl⟩
          rw [htv, hbv] at HMA ⊢
          clear htv hbv kx1
          go_wp2_with fail
          with_reducible refine HMA.out.mono ?_
          rintro e x2 ⟨rfl, kx2⟩
          have HX2 := hid (HX1.out.keep kx2 (fun _ _ h => h))
          have HV2 := hid (HV1.out.kept kx2)
          have KX2 := hid (KX1.out.trans kx2)
          have q1 : (tv != tv) = false := by simp
          have q2 : (bv != bv) = false := by simp
          have q3 : decide (tv ≠ tv) = false := by simp
          have hln := HW5.out.len
          obtain ⟨ln, hl2⟩ : ∃ q, (L5).length = q := ⟨_, rfl⟩
          have HLN := hid hl2
          have HWL := hid (wlen_any HV2.out)
          rw [hl2] at HWL hln ⊢
          have HSX := hid HX2.out
          clear kx2 HX1 HV1 KX1 HMA hl2
          go_wp2_with fail
          with_reducible refine HWL.out.mono ?_
          rintro e x3 ⟨rfl, kx3⟩
          have q4 : ((ln : Int) != (ln : Int)) = false := by simp
          have q5 : decide ((ln : Int) ≠ (ln : Int)) = false := by simp
          have HX3 := hid (HX2.out.keep kx3 (fun _ _ h => h))
          have HV3 := hid (HV2.out.kept kx3)
          have KX3 := hid (KX2.out.trans kx3)
          rw [HLN.out] at HX3
          clear kx3 HX2 HV2 KX2 HWL HSX
          go_wp2_with fail
          go_roundw
          case rel => exact ⟨i + 1, F4, _, ln, _, _, by omega, by omega, by go_num, rfl, HLN, HV3, hid (by unfold SlT; rw [HLN.out]; exact HX3.out), hid (fun _ k hk e => by have h1 := HF5.out k (by rw [HLN.out]; exact hk); have h2 := HLT4.out k e; omega), hid (NF4.out), KX3⟩
          case measure => simp [intOf]; omega
        · clear HTN
          go_wp2_with fail
          with_reducible refine (mstop_any HM1.out (by omega) id2).mono ?_
          rintro e w4 ⟨v4, rfl, ho4, k4⟩
          obtain ⟨a4, c4, rfl⟩ := own_any ho4.1
          have HW4 := hid (HW1.out.kept k4)
          have HS4 := hid ho4.sl
          have HF4 := hid ho4.2
          have K4 := hid (HK1.out.trans k4)
          have HST := hid (wstop_any HW4.out HID.out)
          obtain ⟨bq, hbq⟩ : ∃ q, decide (id2 ∈ idsT T) = q := ⟨_, rfl⟩
          rw [hbq] at HST ⊢
          have qq : (bq != bq) = false := by simp
          clear ho4 k4 HW1 HM1 HK1 hbq HW4
          go_wp2_with fail
          with_reducible refine HST.out.mono ?_
          rintro e w5 ⟨rfl, hw5, kk5⟩
          have HW5 := hid hw5.more
          have HM5 := hid (HS4.out.keep kk5 (fun b hb e => by have h1 := HF4.out b hb; have h2 := HLT.out b e; omega))
          have K5 : Hid (Keeps No w w5) := hid (K4.out.trans' kk5 (fun _ _ h => h) (fun b hb e => by have := HNF.out b e; omega))
          clear hw5 kk5 HST HS4 K4 hm
          go_wp2_with fail
          with_reducible refine (wat_any HW5.out HID.out).mono ?_
          rintro e x1 ⟨rfl, kx1⟩
          have HX1 := hid (HM5.out.keep kx1 (fun _ _ h => h))
          have HV1 := hid (HW5.out.kept kx1)
          have KX1 := hid (K5.out.trans kx1)
          have HMA := hid (mat_any HX1.out (by have := HW5.out.len; omega) HW5.out.rng.1 id2)
          obtain ⟨tv, htv⟩ : ∃ q, tmOf (stopT T id2) id2 = q := ⟨_, rfl⟩
          obtain ⟨bv, hbv⟩ : ∃ q, decide (id2 ∈ idsT (stopT T id2)) = q := ⟨_, rfl⟩
          rw [htv, hbv] at HMA ⊢
          clear htv hbv kx1
          go_wp2_with fail
          with_reducible refine HMA.out.mono ?_
          rintro e x2 ⟨rfl, kx2⟩
          have HX2 := hid (HX1.out.keep kx2 (fun _ _ h => h))
          have HV2 := hid (HV1.out.kept kx2)
          have KX2 := hid (KX1.out.trans kx2)
          have q1 : (tv != tv) = false := by simp
          have q2 : (bv != bv) = false := by simp
          have q3 : decide (tv ≠ tv) = false := by simp
          have hln := HW5.out.len
          obtain ⟨ln, hl2⟩ : ∃ q, (stopT T id2).length = q := ⟨_, rfl⟩
          have HLN := hid hl2
          have HWL := hid (wlen_any HV2.out)
          rw [hl2] at HWL hln ⊢
          have HSX := hid HX2.out
          clear kx2 HX1 HV1 KX1 HMA hl2
          go_wp2_with fail
          with_reducible refine HWL.out.mono ?_
          rintro e x3 ⟨rfl, kx3⟩
          have q4 : ((ln : Int) != (ln : Int)) = false := by simp
          have q5 : decide ((ln : Int) ≠ (ln : Int)) = false := by simp
          have HX3 := hid (HX2.out.keep kx3 (fun _ _ h => h))
          have HV3 := hid (HV2.out.kept kx3)
          have KX3 := hid (KX2.out.trans kx3)
          rw [HLN.out] at HX3
          clear kx3 HX2 HV2 KX2 HWL HSX
          go_wp2_with fail
          go_roundw
          case rel => exact ⟨i + 1, F, _, ln, _, _, by omega, by omega, by go_num, rfl, HLN, HV3, hid (by unfold SlT; rw [HLN.out]; exact HX3.out), hid (fun _ k hk e => by have h1 := HF4.out k (by rw [HLN.out]; exact hk); have h2 := HLT.out k e; omega), hid (HNF.out), KX3⟩
          case measure => simp [intOf]; omega
        · clear HTN
          go_wp2_with fail
          with_reducible refine (mdue_any at2 HM1.out hT60 HW1.out.rng.1).mono ?_
          rintro e w4 ⟨v4, v42, xs, rfl, HS4, HB4, HI4, HF4, HO4, HX4, HK4⟩
          obtain ⟨a4, c4, rfl⟩ := HS4.out.any
          obtain ⟨a42, c42, rfl⟩ := HI4.out.any
          have HW4 := hid (HW1.out.kept HK4.out)
          have K4 := hid (HK1.out.trans HK4.out)
          clear HW1 HM1 HK1 HK4
          go_wp2_with fail
          with_reducible refine (wdue_any at2 HW4.out (by omega)).mono ?_
          rintro e w5 ⟨v5, rfl, xs2, hd5⟩
          have hxe : xs2 = xs := one_list (tmOf T) hd5.ordered HO4.out (fun x => by rw [hd5.iff, HX4.out])
          subst hxe
          have HV5 : Hid (SlI w5 v5 xs2) := hid (by simpa [SlI] using Sl.ofOwn hd5.row)
          have HI5 := hid (HI4.out.keep hd5.keeps (fun b hb e => by have h1 := HF4.out b hb; have h2 := HLT.out b e; omega))
          have hap : 0 < (dropT T xs2).length → ∀ k, (Value.slice a4 (dropT T xs2).length c4).ownBlock = some k → ¬ F k := fun hn0 k hk e => by
            have hlen : (dropT T xs2).length ≤ T.length := List.length_filter_le _ _
            rcases HB4.out k hk with h1 | h1
            · exact HAP.out (HTT.out (by omega)) k h1 e
            · have h2 := HLT.out k e; omega
          have HAP5 := hid hap
          have HM5 := hid (HS4.out.keep' hd5.keeps (fun hn0 b hb _ => hap hn0 b hb))
          have HW5 := hid hd5.wheel
          have K5 : Hid (Keeps No w w5) := hid (K4.out.trans' hd5.keeps (fun _ _ h => h) (fun b hb e => by have := HNF.out b e; omega))
          obtain ⟨a5, c5, rfl⟩ := HV5.out.any
          clear hd5 hap HI4 HS4 HW4 K4 HX4 HO4
          go_wp2_with fail
          with_reducible refine (msame_true HV5.out HI5.out).mono ?_
          rintro e w6 ⟨rfl, k6⟩
          have HW6 := hid (HW5.out.kept k6).more
          have HM6 := hid (HM5.out.keep k6 (fun _ _ h => h))
          have K6 := hid (K5.out.trans k6)
          clear k6 HW5 HM5 K5 HV5 HI5 hm
          go_wp2_with fail
          with_reducible refine (wat_any HW6.out HID.out).mono ?_
          rintro e x1 ⟨rfl, kx1⟩
          have HX1 := hid (HM6.out.keep kx1 (fun _ _ h => h))
          have HV1 := hid (HW6.out.kept kx1)
          have KX1 := hid (K6.out.trans kx1)
          have HMA := hid (mat_any HX1.out (by have := HW6.out.len; omega) HW6.out.rng.1 id2)
          obtain ⟨tv, htv⟩ : ∃ q, tmOf (dropT T xs2) id2 = q := ⟨_, rfl⟩
          obtain ⟨bv, hbv⟩ : ∃ q, decide (id2 ∈ idsT (dropT T xs2)) = q := ⟨_, rfl⟩
          rw [htv, hbv] at HMA ⊢
          clear htv hbv kx1
          go_wp2_with fail
          with_reducible refine HMA.out.mono ?_
          rintro e x2 ⟨rfl, kx2⟩
          have HX2 := hid (HX1.out.keep kx2 (fun _ _ h => h))
          have HV2 := hid (HV1.out.kept kx2)
          have KX2 := hid (KX1.out.trans kx2)
          have q1 : (tv != tv) = false := by simp
          have q2 : (bv != bv) = false := by simp
          have q3 : decide (tv ≠ tv) = false := by simp
          have hln := HW6.out.len
          obtain ⟨ln, hl2⟩ : ∃ q, (dropT T xs2).length = q := ⟨_, rfl⟩
          have HLN := hid hl2
          have HWL := hid (wlen_any HV2.out)
          rw [hl2] at HWL hln ⊢
          have HSX := hid HX2.out
          clear kx2 HX1 HV1 KX1 HMA hl2
          go_wp2_with fail
          with_reducible refine HWL.out.mono ?_
          rintro e x3 ⟨rfl, kx3⟩
          have q4 : ((ln : Int) != (ln : Int)) = false := by simp
          have q5 : decide ((ln : Int) ≠ (ln : Int)) = false := by simp
          have HX3 := hid (HX2.out.keep kx3 (fun _ _ h => h))
          have HV3 := hid (HV2.out.kept kx3)
          have KX3 := hid (KX2.out.trans kx3)
          rw [HLN.out] at HX3
          clear kx3 HX2 HV2 KX2 HWL HSX
          go_wp2_with fail
          go_roundw
          case rel => exact ⟨i + 1, F, _, ln, _, _, by omega, by omega, by go_num, rfl, HLN, HV3, hid (by unfold SlT; rw [HLN.out]; exact HX3.out), hid (by rw [← HLN.out]; exact HAP5.out), hid (HNF.out), KX3⟩
          case measure => simp [intOf]; omega

      · have hdi : decide ((i : Int) < (N : Int)) = false := decide_eq_false (by omega)
        go_wp2_with fail
        go_ret
        exact ⟨rfl, HK.out.toBelow⟩

theorem own : ownKnob Try.prog.godebug = none := by kernel_rfl
theorem laidOut : laidOutB Try.prog = true := by kernel_rfl
set_option maxRecDepth 100000 in
theorem lifted (os : Os) (started : os.Started) (H : Type) (enc : TypeId × Value → H) :
    ReturnsInHanded {} Try.checked os 3 .any (Rows.clockWheelsSpec.pre6 enc Try.prog Try.f3 Rows.clockWheelsRow.domain false) (Rows.clockWheelsSpec.post enc Try.prog Try.f3 false true false false) := by
  refine returnsInHanded_of_change (C := Try.checked) own started (by kernel_rfl) Try.func3
    (ChangeSpec.witness6 (enc := enc) (C := Try.checked) false ⟨#[], #[.slice none 0 0, .bool false], []⟩ 8 (by kernel_rfl) (by kernel_rfl) (by kernel_rfl) (by kernel_rfl)) ?_
  intro W base args ds gs before hval0 hW hcnd _
  have hval : ∀ (j : Nat) t v, Try.f3.params[j]? = some t → args[j]? = some v → Value.okWide Try.prog W .any base t v := hval0
  have hW' := hW
  obtain ⟨p, q, hA0, hV, rfl, hfz, hnd⟩ := hW
  have hA : DataW.TrodAll enc Try.prog W 0 (fun _ => true) true Try.f3.params.toList args.toList ds p := hA0
  rw [Try.params3] at hA hval
  obtain ⟨v0, vs0, d0, ds0, p0, q0, hargs, rfl, rfl, h0, r0⟩ := trodAll_cons hA
  obtain ⟨v1, vs1, d1, ds1, p1, q1, rfl, rfl, rfl, h1, r1⟩ := trodAll_cons r0
  obtain ⟨rfl, rfl, rfl⟩ := trodAll_nil r1
  obtain rfl : args = #[v0, v1] := by cases args; simp_all
  obtain ⟨rfl, rfl⟩ := trodVars_none hV
  have k0 := h0
  have lt0 : ∀ x ∈ p0, x.block < W.heap.size := by obtain ⟨m, hm⟩ := k0; exact DataW.trod_lt m _ _ _ hm
  have k1 := h1
  have lt1 : ∀ x ∈ p1, x.block < W.heap.size := by obtain ⟨m, hm⟩ := k1; exact DataW.trod_lt m _ _ _ hm
  obtain ⟨s0, len0, cap0, rfl⟩ := okWide_slice Try.underlying22 (hval 0 22 v0 rfl rfl)
  obtain ⟨l0, rfl, w0, b0⟩ := argSlice (encE := encAct) (good := goodActD) (size := 3) (fun _ => rfl) (by decide) Try.underlying22 (by kernel_rfl) (fun n cs x hx => decAct hx) h0
  obtain ⟨a1, rfl, rfl, rfl⟩ := open_bool Try.underlying4 (hval 1 4 v1 rfl rfl) h1
  clear hA0 hval0
  refine (walk W s0 cap0 l0 w0 b0 a1).mono fun e W' ⟨he, bel⟩ => ?_
  subst he
  exact ⟨_, rfl, _, _, _, [], _, [], hW', trodAll_mk1 (shut_bool Try.underlying4 _), (trodAll_cons_mk (Below.trod laidOut (by kernel_rfl) (of_decide_eq_true (by kernel_rfl)) k0 bel lt0) (trodAll_cons_mk (Below.trod laidOut (by kernel_rfl) (of_decide_eq_true (by kernel_rfl)) k1 bel lt1) trodAll_mk0)), rfl, bel.frame _, fun h => by cases h⟩

theorem over : Rows.clockWheelsRow.holds Try.pinned (OpenSpec.ofChange Rows.clockWheelsSpec) :=
  OpenClaim.holds_of_wide 3 Try.f3 rfl rfl rfl rfl rfl rfl rfl ⟨rfl, rfl, rfl, rfl, rfl⟩ rfl rfl rfl rfl rfl (by kernel_rfl) Try.func3 (by kernel_rfl)
    (of_decide_eq_true (by kernel_rfl)) (by unfold Func.isWrapper; first | (rw [if_pos (by decide +kernel)]; kernel_rfl) | (rw [if_neg (by decide +kernel)]; exact ⟨rfl, rfl⟩))
    (fun os started H enc _ => lifted os started H enc)

theorem proved : Rows.ClockWheelsSaid := over
#print axioms proved
end Go.Proofs.Ytnedmmjkhemgjaa.clockWheels
