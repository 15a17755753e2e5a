/- As many signals, rules and slots as may be, and one more, are judged as the document says. No conditions. -/
import Derived.Test.YthfjihpfcollfaaMany
import Derived.Test.YthfjihpfcollfaaArgs
import Derived.Test.YthfjihpfcollfaaRows
import Derived.Test.YthfjihpfcollfaaChkL
import Derived.ProofKit
import Derived.OpenShut
import Derived.Deep.RegionHeld3
namespace Go.Proofs.Ythfjihpfcollfaa.checkMany
open Go.ChangeShapes Go.WideShapes Go.ChangeAt Go.RowKit
open Go.ChangeMaps (open_string shut_string)
set_option linter.unusedVariables false

set_option maxHeartbeats 8000000 in
set_option maxRecDepth 100000 in
theorem walk (w : World) (a0 : Int) (wa0 : (Lit.int .u8 a0).wf = true) (a1 : Int) (wa1 : (Lit.int .u8 a1).wf = true) (a2 : Int) (wa2 : (Lit.int .u8 a2).wf = true) :
    Calls Try.prog 13 #[.int .u8 a0, .int .u8 a1, .int .u8 a2] w fun e w' => e = .returned (.bool true) ∧ Below w.heap.size w w' := by
  have b0 := bounds_u8 wa0
  have b1 := bounds_u8 wa1
  have b2 := bounds_u8 wa2
  obtain ⟨N1, hN1, l1, m1⟩ : ∃ N : Nat, 1 + a0 % 10 = (N : Int) ∧ 1 ≤ N ∧ N ≤ 10 := ⟨(1 + a0 % 10).toNat, by omega, by omega, by omega⟩
  obtain ⟨N2, hN2, l2, m2⟩ : ∃ N : Nat, 1 + a1 % 40 = (N : Int) ∧ 1 ≤ N ∧ N ≤ 40 := ⟨(1 + a1 % 40).toNat, by omega, by omega, by omega⟩
  obtain ⟨N3, hN3, l3, m3⟩ : ∃ N : Nat, 1 + a2 % 70 = (N : Int) ∧ 1 ≤ N ∧ N ≤ 70 := ⟨(1 + a2 % 70).toNat, by omega, by omega, by omega⟩
  obtain ⟨i0, hi, za0, zb0, zc0⟩ := info_parts info_sigA
  have HI0 := hid hi
  obtain ⟨i1, hi', za1, zb1, zc1⟩ := info_parts info_rulA
  have HI1 := hid hi'
  obtain ⟨i2, hi'', za2, zb2, zc2⟩ := info_parts info_slotA
  have HI2 := hid hi''
  obtain ⟨i3, hi''', za3, zb3, zc3⟩ := info_parts info_intA
  have HI3 := hid hi'''
  obtain ⟨b00, b01⟩ := b0
  obtain ⟨b10, b11⟩ := b1
  obtain ⟨b20, b21⟩ := b2
  clear wa0 wa1 wa2 hi hi' hi'' hi'''
  go_enter Try.func13, Try.ntmps13
  go_wp2_with fail
  refine (nothing_true _).mono ?_
  rintro e w1 ⟨rfl, k1⟩
  have HM0 := hid (CM.start k1)
  clear k1
  go_wp2_with fail
  go_loopw [8] (fun v8 wr => ∃ (k : Nat) (v : Nat → Value) (n : Nat → Nat), k ≤ N1 ∧ v8 = .int .i64 k ∧ Hid (CM w wr w1.heap.size v n) ∧ Hid (n 0 = k ∧ n 1 = 0 ∧ n 2 = 0 ∧ n 3 = 0) ∧ Hid (v 3 = .slice none 0 0)) (fun v8 _ => N1 - (intOf v8).toNat)
  case atStart => exact ⟨0, _, _, Nat.zero_le _, rfl, HM0, hid ⟨rfl, rfl, rfl, rfl⟩, hid rfl⟩
  case round =>
    clear HM0
    obtain ⟨k, v, n, hk, rfl, HM, HN, HV3⟩ := hrel
    by_cases hlt : k < N1
    · skip
      have ho := HM.out.rows 0 (by decide)
      have e0 : n 0 = k := HN.out.1
      rw [e0] at ho
      obtain ⟨ax, cx, ex⟩ := own_any ho
      rw [ex] at ho
      have x0 : BlkL _ w1.heap.size _ _ := HM.out.blk
      have c0 := x0.cell (o := 0) rfl
      have hnc : ¬ Bl (.slice ax k cx) w1.heap.size := fun hB => (HM.out.new 0 (by decide) _ (by rw [ex]; exact hB)).2 rfl
      rw [ex] at c0
      have HX0 := hid x0
      have HNC := hid hnc
      clear x0 hnc
      have HO := hid ho
      have EX := hid ex
      clear ho ex
      go_wp2_with (at_builtin; refine wpl_append rfl _ _ 46 rfl 66 i0 (.agg #[.int .i64 0, .int .i64 0]) 2 16 Try.underlying46 HI0.out za0 zb0 zc0 rfl (by decide) _ _ _ _ _ _ rfl rfl (HO.out.alloc _) (Sl.new _ _ _ 2 1 rfl (by decide)) ?c2 ?c3 ?c4 ?_)
      case c2 => first | rfl | (simp [Value.oneCell']; done) | (intro u hu; simp at hu; first | (subst hu; rfl) | (rcases hu with rfl | rfl | rfl | rfl | rfl | rfl | rfl | rfl | rfl <;> rfl) | (rcases hu with rfl | rfl <;> rfl))
      case c3 => unfold maxLen; omega
      case c4 => omega
      intro v1 w1x ho1 k1x hb1
      obtain ⟨a1, c1, rfl⟩ := own_any ho1
      have kk1 := ((Keeps.refl No _).alloc _).trans' k1x (T := Bl (.slice ax k cx)) (fun _ _ h => h.elim) (fun _ _ h => h)
      have y0 := (HX0.out.keep kk1 HNC.out).cell (o := 0) rfl
      have y1 := (HX0.out.keep kk1 HNC.out).free 0
      clear kk1
      have HG : Hid (∀ w3, w3 = (if 0 = 3 then w1x else w1x.setCell ⟨w1.heap.size, 0, none⟩ (.slice a1 (k + 1) c1)) → CM w w3 w1.heap.size (upV v 0 (.slice a1 (k + 1) c1)) (upN n 0 (n 0 + 1))) := hid (fun w3 hw3 => HM.out.grow (i := 0) (by decide) (by rw [e0]; exact ho1) (by rw [EX.out]; exact k1x) (by rw [EX.out]; simpa using hb1) hw3)
      clear ho1 k1x hb1 HO
      go_wp2_with fail
      go_roundw
      case rel => exact ⟨k + 1, _, _, by omega, by go_num, hid (HG.out _ rfl), hid ⟨by simp [upN, e0], HN.out.2.1, HN.out.2.2.1, HN.out.2.2.2⟩, hid HV3.out⟩
      case measure => simp [intOf]; omega
    · have hkN : k = N1 := by omega
      subst hkN
      go_wp2_with fail
      go_loopw [9, 10] (fun v9 v10 wr => ∃ (q : Nat) (v : Nat → Value) (n : Nat → Nat), q ≤ N2 ∧ v10 = .int .i64 q ∧ v9 = v 3 ∧ Hid (CM w wr w1.heap.size v n) ∧ Hid (n 0 = k ∧ n 1 = q ∧ n 2 = 0 ∧ n 3 = q)) (fun _ v10 _ => N2 - (intOf v10).toNat)
      case atStart =>
        have h3 := HM.out.rows 3 (by decide)
        rw [HN.out.2.2.2] at h3
        have e3 : v 3 = .slice none 0 0 := HV3.out
        exact ⟨0, v, n, Nat.zero_le _, rfl, e3.symm, HM, hid HN.out⟩
      case round =>
        clear HM HN HV3
        obtain ⟨q, v, n, hq, rfl, h9, HM, HN⟩ := hrel
        obtain ⟨a3, c3, ea3⟩ := own_any (HM.out.rows 3 (by decide))
        rw [HN.out.2.2.2] at ea3
        rw [ea3] at h9
        subst h9
        have HA3 := hid ea3
        clear ea3
        by_cases hlt2 : q < N2
        · skip
          have ho := HM.out.rows 1 (by decide)
          have e1 : n 1 = q := HN.out.2.1
          rw [e1] at ho
          obtain ⟨ax, cx, ex⟩ := own_any ho
          rw [ex] at ho
          have x0 : BlkL _ w1.heap.size _ _ := HM.out.blk
          have c0 := x0.cell (o := 1) rfl
          have hnc : ¬ Bl (.slice ax q cx) w1.heap.size := fun hB => (HM.out.new 1 (by decide) _ (by rw [ex]; exact hB)).2 rfl
          rw [ex] at c0
          have HX0 := hid x0
          have HNC := hid hnc
          clear x0 hnc
          have HO := hid ho
          have EX := hid ex
          clear ho ex
          go_wp2_with (at_builtin; refine wpl_append rfl _ _ 47 rfl 58 i1 (.agg #[.int .u8 0, .int .i64 0, .int .i64 0, .int .i64 0, .int .i64 0, .int .i64 0, .int .u8 0, .bool false, .slice none 0 0]) 9 80 Try.underlying47 HI1.out za1 zb1 zc1 rfl (by decide) _ _ _ _ _ _ rfl rfl (HO.out.alloc _) (Sl.new _ _ _ 9 1 rfl (by decide)) ?c2 ?c3 ?c4 ?_)
          case c2 => first | rfl | (simp [Value.oneCell']; done) | (intro u hu; simp at hu; first | (subst hu; rfl) | (rcases hu with rfl | rfl | rfl | rfl | rfl | rfl | rfl | rfl | rfl <;> rfl) | (rcases hu with rfl | rfl <;> rfl))
          case c3 => unfold maxLen; omega
          case c4 => omega
          intro v1 w1x ho1 k1x hb1
          obtain ⟨a1, c1, rfl⟩ := own_any ho1
          have kk1 := ((Keeps.refl No _).alloc _).trans' k1x (T := Bl (.slice ax q cx)) (fun _ _ h => h.elim) (fun _ _ h => h)
          have y0 := (HX0.out.keep kk1 HNC.out).cell (o := 1) rfl
          have y1 := (HX0.out.keep kk1 HNC.out).free 1
          clear kk1
          have HG : Hid (∀ w3, w3 = (if 1 = 3 then w1x else w1x.setCell ⟨w1.heap.size, 1, none⟩ (.slice a1 (q + 1) c1)) → CM w w3 w1.heap.size (upV v 1 (.slice a1 (q + 1) c1)) (upN n 1 (n 1 + 1))) := hid (fun w3 hw3 => HM.out.grow (i := 1) (by decide) (by rw [e1]; exact ho1) (by rw [EX.out]; exact k1x) (by rw [EX.out]; simpa using hb1) hw3)
          clear ho1 k1x hb1 HO
          obtain ⟨v2, hv2⟩ : ∃ v2, upV v 1 (.slice a1 (q + 1) c1) = v2 := ⟨_, rfl⟩
          have ev3 : v2 3 = .slice a3 q c3 := by rw [← hv2]; exact HA3.out
          obtain ⟨n2, hn2⟩ : ∃ n2, upN n 1 (n 1 + 1) = n2 := ⟨_, rfl⟩
          have HNN : Hid (n2 0 = k ∧ n2 1 = q + 1 ∧ n2 2 = 0 ∧ n2 3 = q) := hid (by rw [← hn2]; exact ⟨HN.out.1, by simp [upN, e1], HN.out.2.2.1, HN.out.2.2.2⟩)
          have hg2 := HG.out _ rfl
          rw [hv2, hn2] at hg2
          have HEV := hid ev3
          have HG2 : Hid (CM w (w1x.setCell ⟨w1.heap.size, 1, none⟩ (.slice a1 (q + 1) c1)) w1.heap.size v2 n2) := hid hg2
          clear hv2 hn2 hg2 ev3 HG HN HM HA3 EX e1
          go_upto_region 13 with fail
          obtain ⟨wm, hwm⟩ : ∃ wm, w1x.setCell ⟨w1.heap.size, 1, none⟩ (.slice a1 (q + 1) c1) = wm := ⟨_, rfl⟩
          rw [hwm] at HG2 ⊢
          clear hwm y0 y1
          have HM := HG2
          have HN := HNN
          obtain ⟨v, hvv⟩ : ∃ v, v = v2 := ⟨_, rfl⟩
          subst hvv
          obtain ⟨n, hnn⟩ : ∃ n, n = n2 := ⟨_, rfl⟩
          subst hnn
          clear HG2 HNN
          have ho := HM.out.rows 3 (by decide)
          have e3 : n 3 = q := HN.out.2.2.2
          rw [e3] at ho
          have ex := HEV.out
          rw [ex] at ho
          have HO := hid ho
          have EX := hid ex
          clear ho ex
          go_wp2_with (at_builtin; refine wpl_append rfl _ _ 62 rfl 3 i3 (.int .i64 0) 1 8 Try.underlying62 HI3.out za3 zb3 zc3 rfl (by decide) _ _ _ _ _ _ rfl rfl (HO.out.alloc _) (Sl.new _ _ _ 1 1 rfl (by decide)) ?c2 ?c3 ?c4 ?_)
          case c2 => first | rfl | (simp [Value.oneCell']; done) | (intro u hu; simp at hu; first | (subst hu; rfl) | (rcases hu with rfl | rfl | rfl | rfl | rfl | rfl | rfl | rfl | rfl <;> rfl) | (rcases hu with rfl | rfl <;> rfl))
          case c3 => unfold maxLen; omega
          case c4 => omega
          intro v1 w1x ho1 k1x hb1
          obtain ⟨a1, c1, rfl⟩ := own_any ho1
          have HG : Hid (∀ w3, w3 = (if 3 = 3 then w1x else w1x.setCell ⟨w1.heap.size, 3, none⟩ (.slice a1 (q + 1) c1)) → CM w w3 w1.heap.size (upV v 3 (.slice a1 (q + 1) c1)) (upN n 3 (n 3 + 1))) := hid (fun w3 hw3 => HM.out.grow (i := 3) (by decide) (by rw [e3]; exact ho1) (by rw [EX.out]; exact k1x) (by rw [EX.out]; simpa using hb1) hw3)
          clear ho1 k1x hb1 HO
          go_wp2_with fail
          go_roundw
          case rel => exact ⟨q + 1, _, _, by omega, by go_num, rfl, hid (HG.out w1x (by rw [if_pos rfl])), hid ⟨HN.out.1, HN.out.2.1, HN.out.2.2.1, by simp [upN, e3]⟩⟩
          case measure => simp [intOf]; omega
        · have hqN : q = N2 := by omega
          subst hqN
          go_wp2_with fail
          go_loopw [11] (fun v11 wr => ∃ (t : Nat) (v : Nat → Value) (n : Nat → Nat), t ≤ N3 ∧ v11 = .int .i64 t ∧ Hid (v 3 = .slice a3 q c3) ∧ Hid (CM w wr w1.heap.size v n) ∧ Hid (n 0 = k ∧ n 1 = q ∧ n 2 = t ∧ n 3 = q)) (fun v11 _ => N3 - (intOf v11).toNat)
          case atStart => exact ⟨0, v, n, Nat.zero_le _, rfl, HA3, HM, HN⟩
          case round =>
            clear HM HN HA3
            obtain ⟨wf, hwf⟩ : ∃ x, x = wr := ⟨_, rfl⟩
            subst hwf
            obtain ⟨t, v, n, ht, rfl, HA3, HM, HN⟩ := hrel
            by_cases hlt3 : t < N3
            · skip
              have ho := HM.out.rows 2 (by decide)
              have e2 : n 2 = t := HN.out.2.2.1
              rw [e2] at ho
              obtain ⟨ax, cx, ex⟩ := own_any ho
              rw [ex] at ho
              have x0 : BlkL _ w1.heap.size _ _ := HM.out.blk
              have c0 := x0.cell (o := 2) rfl
              have hnc : ¬ Bl (.slice ax t cx) w1.heap.size := fun hB => (HM.out.new 2 (by decide) _ (by rw [ex]; exact hB)).2 rfl
              rw [ex] at c0
              have HX0 := hid x0
              have HNC := hid hnc
              clear x0 hnc
              have HO := hid ho
              have EX := hid ex
              clear ho ex
              go_wp2_with (at_builtin; refine wpl_append rfl _ _ 48 rfl 62 i2 (.slice none 0 0) 1 24 Try.underlying48 HI2.out za2 zb2 zc2 rfl (by decide) _ _ _ _ _ _ rfl rfl (HO.out.alloc _) (Sl.new _ _ _ 1 1 rfl (by decide)) ?c2 ?c3 ?c4 ?_)
              case c2 => first | rfl | (simp [Value.oneCell']; done) | (intro u hu; simp at hu; first | (subst hu; rfl) | (rcases hu with rfl | rfl | rfl | rfl | rfl | rfl | rfl | rfl | rfl <;> rfl) | (rcases hu with rfl | rfl <;> rfl))
              case c3 => unfold maxLen; omega
              case c4 => omega
              intro v1 w1x ho1 k1x hb1
              obtain ⟨a1, c1, rfl⟩ := own_any ho1
              have kk1 := ((Keeps.refl No _).alloc _).trans' k1x (T := Bl (.slice ax t cx)) (fun _ _ h => h.elim) (fun _ _ h => h)
              have y0 := (HX0.out.keep kk1 HNC.out).cell (o := 2) rfl
              have y1 := (HX0.out.keep kk1 HNC.out).free 2
              clear kk1
              have HG : Hid (∀ w3, w3 = (if 2 = 3 then w1x else w1x.setCell ⟨w1.heap.size, 2, none⟩ (.slice a1 (t + 1) c1)) → CM w w3 w1.heap.size (upV v 2 (.slice a1 (t + 1) c1)) (upN n 2 (n 2 + 1))) := hid (fun w3 hw3 => HM.out.grow (i := 2) (by decide) (by rw [e2]; exact ho1) (by rw [EX.out]; exact k1x) (by rw [EX.out]; simpa using hb1) hw3)
              clear ho1 k1x hb1 HO
              go_wp2_with fail
              go_roundw
              case rel => exact ⟨t + 1, upV v 2 (.slice a1 (t + 1) c1), upN n 2 (n 2 + 1), by omega, by go_num, hid HA3.out, hid (HG.out _ rfl), hid ⟨HN.out.1, HN.out.2.1, by simp [upN, e2], HN.out.2.2.2⟩⟩
              case measure => simp [intOf]; omega
            · have htN : t = N3 := by omega
              subst htN
              have s0 := HM.out.rows 0 (by decide)
              have s1 := HM.out.rows 1 (by decide)
              have s2 := HM.out.rows 2 (by decide)
              obtain ⟨as0, cs0, es0⟩ := own_any s0
              obtain ⟨ar0, cr0, er0⟩ := own_any s1
              obtain ⟨gt, ct0, et0⟩ := own_some s2 (by rw [HN.out.2.2.1]; omega)
              have hfin := HM.out.final (by rw [HN.out.2.2.1]; omega) (by rw [HN.out.2.2.2, HN.out.2.1]) et0
              rw [HN.out.1] at es0
              rw [HN.out.2.1] at er0
              rw [et0] at s2
              have hfz := Sl.ofOwn s2
              obtain ⟨_, _, eg, _, ctc⟩ := Sl.cellAt (j := 0) (u := .slice none 0 0) hfz (by rw [HN.out.2.2.1]; show (List.replicate t (Value.slice none 0 0))[0]? = _; rw [List.getElem?_replicate, if_pos (by omega)])
              simp only [Option.some.injEq, Addr.mk.injEq, and_true] at eg
              obtain ⟨rfl, rfl⟩ := eg
              have hfr := Room.own s2
              obtain ⟨_, hf0⟩ := hfr.at (i := 0) (by rw [HN.out.2.2.1]; omega)
              rw [HN.out.2.2.1] at et0
              have hb := HM.out.blk
              rw [es0, er0, et0] at hb
              have x2 := hb.cell (o := 2) rfl
              rw [HN.out.1, HN.out.2.1, HN.out.2.2.1, HA3.out, es0, er0, et0] at hfin
              obtain ⟨hcf, hbf, hkf⟩ := hfin
              obtain ⟨WF, hWF⟩ : ∃ WF, wf.setCell ⟨gt, 0, none⟩ (.slice a3 q c3) = WF := ⟨_, rfl⟩
              rw [hWF] at hcf hbf hkf
              have hsl : (manyC k q t (.slice a3 q c3)).sigs.length = k := by simp [manyC]
              have hrl : (manyC k q t (.slice a3 q c3)).ruls.length = q := by simp [manyC]
              have htl : (manyC k q t (.slice a3 q c3)).tab.length = t := by simp [manyC]; omega
              have hen := many_entries k q t (.slice a3 q c3)
              have hcf2 : CfgR WF (manyC k q t (.slice a3 q c3)) (.slice as0 (manyC k q t (.slice a3 q c3)).sigs.length cs0) (.slice ar0 (manyC k q t (.slice a3 q c3)).ruls.length cr0) (.slice (some ⟨gt, 0, none⟩) (manyC k q t (.slice a3 q c3)).tab.length ct0) := by rw [hsl, hrl, htl]; exact hcf
              have hs := csame_true hcf2 (by rw [hen]; omega) (by rw [htl]; omega) (by rw [hrl]; omega) (by rw [hsl]; omega)
              have hrg := fun (w' : World) (kk : Keeps No WF w') => right_any (hcf2.calm kk) (by rw [hen]; omega) (by rw [htl]; omega) (by rw [hrl]; omega) (by rw [hsl]; omega)
              unfold cfgV at hrg
              simp only [hsl, hrl, htl] at hs hrg
              have HS : Hid (Calls Try.prog 31 #[.agg #[.slice as0 k cs0, .slice ar0 q cr0, .slice (some ⟨gt, 0, none⟩) t ct0, .int .i64 1, .int .i64 1, .int .i64 1, .int .i64 33, .int .i64 1, .int .i64 1, .bool false, .int .i64 1]] WF fun e w' => e = .returned (.bool true) ∧ Keeps No WF w') := hid hs
              have HR : Hid (∀ w', Keeps No WF w' → Calls Try.prog 30 #[.agg #[.slice as0 k cs0, .slice ar0 q cr0, .slice (some ⟨gt, 0, none⟩) t ct0, .int .i64 1, .int .i64 1, .int .i64 1, .int .i64 33, .int .i64 1, .int .i64 1, .bool false, .int .i64 1]] w' (RightPost (manyC k q t (.slice a3 q c3)) w')) := hid hrg
              have HMR : Hid (∀ n' a', IsFirst rulP (manyC k q t (.slice a3 q c3)) n' a' → ((n' : Int) == 0) = (decide (k ≤ 8) && (decide (q ≤ 32) && decide (t ≤ 64)))) := hid (fun n' a' h => many_right (by omega) (by omega) (by omega) h)
              have HCB := hid hbf
              have KF := hid hkf
              have HWF := hid hWF
              clear hWF hcf hbf hkf hsl hrl htl hen hcf2 hs hrg hb s0 s1 s2 hfz es0 er0 et0 hfr HM HN HA3
              go_upto_region 19 with fail
              rw [HWF.out]
              have q0 := HCB.out.cell (o := 0) rfl
              have q1 := HCB.out.cell (o := 1) rfl
              have q2 := HCB.out.cell (o := 2) rfl
              have q3 := HCB.out.cell (o := 3) rfl
              have q4 := HCB.out.cell (o := 4) rfl
              have q5 := HCB.out.cell (o := 5) rfl
              have q6 := HCB.out.cell (o := 6) rfl
              have q7 := HCB.out.cell (o := 7) rfl
              have q8 := HCB.out.cell (o := 8) rfl
              have q9 := HCB.out.cell (o := 9) rfl
              have q10 := HCB.out.cell (o := 10) rfl
              clear x2 ctc hf0
              by_cases g1 : k ≤ 8
              · by_cases g2 : q ≤ 32
                · by_cases g3 : t ≤ 64
                  · skip
                    have ddk : decide ((k : Int) ≤ 8) = true := decide_eq_true (by omega)
                    have ddq : decide ((q : Int) ≤ 32) = true := decide_eq_true (by omega)
                    have ddt : decide ((t : Int) ≤ 64) = true := decide_eq_true (by omega)
                    have hrt : (decide (k ≤ 8) && (decide (q ≤ 32) && decide (t ≤ 64))) = true := by rw [decide_eq_true g1, decide_eq_true g2, decide_eq_true g3]; rfl
                    have HRT := hid hrt
                    clear hrt
                    go_wp2_with fail
                    refine (HS.out).mono ?_
                    rintro e w6 ⟨rfl, k6⟩
                    have hb6 := HCB.out.keep k6 (fun h => h)
                    have K6 := hid k6
                    clear k6 q0 q1 q2 q3 q4 q5 q6 q7 q8 q9 q10
                    have q0 := hb6.cell (o := 0) rfl
                    have q1 := hb6.cell (o := 1) rfl
                    have q2 := hb6.cell (o := 2) rfl
                    have q3 := hb6.cell (o := 3) rfl
                    have q4 := hb6.cell (o := 4) rfl
                    have q5 := hb6.cell (o := 5) rfl
                    have q6 := hb6.cell (o := 6) rfl
                    have q7 := hb6.cell (o := 7) rfl
                    have q8 := hb6.cell (o := 8) rfl
                    have q9 := hb6.cell (o := 9) rfl
                    have q10 := hb6.cell (o := 10) rfl
                    clear hb6
                    go_wp2_with fail
                    refine (HR.out _ K6.out).mono ?_
                    rintro e w7 ⟨n', a', rfl, hn', k7⟩
                    have hx := HMR.out n' a' hn'
                    rw [HRT.out] at hx
                    rw [hx]
                    have K7 := hid ((KF.out.trans K6.out).trans k7)
                    clear hn' k7 hx
                    go_wp2_with fail
                    go_ret
                    exact ⟨by simp, K7.out.toBelow⟩
                  · skip
                    have ddk : decide ((k : Int) ≤ 8) = true := decide_eq_true (by omega)
                    have ddq : decide ((q : Int) ≤ 32) = true := decide_eq_true (by omega)
                    have ddt : decide ((t : Int) ≤ 64) = false := decide_eq_false (by omega)
                    have hrt : (decide (k ≤ 8) && (decide (q ≤ 32) && decide (t ≤ 64))) = false := by rw [decide_eq_true g1, decide_eq_true g2, decide_eq_false g3]; rfl
                    have HRT := hid hrt
                    clear hrt
                    go_wp2_with fail
                    refine (HS.out).mono ?_
                    rintro e w6 ⟨rfl, k6⟩
                    have hb6 := HCB.out.keep k6 (fun h => h)
                    have K6 := hid k6
                    clear k6 q0 q1 q2 q3 q4 q5 q6 q7 q8 q9 q10
                    have q0 := hb6.cell (o := 0) rfl
                    have q1 := hb6.cell (o := 1) rfl
                    have q2 := hb6.cell (o := 2) rfl
                    have q3 := hb6.cell (o := 3) rfl
                    have q4 := hb6.cell (o := 4) rfl
                    have q5 := hb6.cell (o := 5) rfl
                    have q6 := hb6.cell (o := 6) rfl
                    have q7 := hb6.cell (o := 7) rfl
                    have q8 := hb6.cell (o := 8) rfl
                    have q9 := hb6.cell (o := 9) rfl
                    have q10 := hb6.cell (o := 10) rfl
                    clear hb6
                    go_wp2_with fail
                    refine (HR.out _ K6.out).mono ?_
                    rintro e w7 ⟨n', a', rfl, hn', k7⟩
                    have hx := HMR.out n' a' hn'
                    rw [HRT.out] at hx
                    rw [hx]
                    have K7 := hid ((KF.out.trans K6.out).trans k7)
                    clear hn' k7 hx
                    go_wp2_with fail
                    go_ret
                    exact ⟨by simp, K7.out.toBelow⟩
                · by_cases g3 : t ≤ 64
                  · skip
                    have ddk : decide ((k : Int) ≤ 8) = true := decide_eq_true (by omega)
                    have ddq : decide ((q : Int) ≤ 32) = false := decide_eq_false (by omega)
                    have ddt : decide ((t : Int) ≤ 64) = true := decide_eq_true (by omega)
                    have hrt : (decide (k ≤ 8) && (decide (q ≤ 32) && decide (t ≤ 64))) = false := by rw [decide_eq_true g1, decide_eq_false g2, decide_eq_true g3]; rfl
                    have HRT := hid hrt
                    clear hrt
                    go_wp2_with fail
                    refine (HS.out).mono ?_
                    rintro e w6 ⟨rfl, k6⟩
                    have hb6 := HCB.out.keep k6 (fun h => h)
                    have K6 := hid k6
                    clear k6 q0 q1 q2 q3 q4 q5 q6 q7 q8 q9 q10
                    have q0 := hb6.cell (o := 0) rfl
                    have q1 := hb6.cell (o := 1) rfl
                    have q2 := hb6.cell (o := 2) rfl
                    have q3 := hb6.cell (o := 3) rfl
                    have q4 := hb6.cell (o := 4) rfl
                    have q5 := hb6.cell (o := 5) rfl
                    have q6 := hb6.cell (o := 6) rfl
                    have q7 := hb6.cell (o := 7) rfl
                    have q8 := hb6.cell (o := 8) rfl
                    have q9 := hb6.cell (o := 9) rfl
                    have q10 := hb6.cell (o := 10) rfl
                    clear hb6
                    go_wp2_with fail
                    refine (HR.out _ K6.out).mono ?_
                    rintro e w7 ⟨n', a', rfl, hn', k7⟩
                    have hx := HMR.out n' a' hn'
                    rw [HRT.out] at hx
                    rw [hx]
                    have K7 := hid ((KF.out.trans K6.out).trans k7)
                    clear hn' k7 hx
                    go_wp2_with fail
                    go_ret
                    exact ⟨by simp, K7.out.toBelow⟩
                  · skip
                    have ddk : decide ((k : Int) ≤ 8) = true := decide_eq_true (by omega)
                    have ddq : decide ((q : Int) ≤ 32) = false := decide_eq_false (by omega)
                    have ddt : decide ((t : Int) ≤ 64) = false := decide_eq_false (by omega)
                    have hrt : (decide (k ≤ 8) && (decide (q ≤ 32) && decide (t ≤ 64))) = false := by rw [decide_eq_true g1, decide_eq_false g2, decide_eq_false g3]; rfl
                    have HRT := hid hrt
                    clear hrt
                    go_wp2_with fail
                    refine (HS.out).mono ?_
                    rintro e w6 ⟨rfl, k6⟩
                    have hb6 := HCB.out.keep k6 (fun h => h)
                    have K6 := hid k6
                    clear k6 q0 q1 q2 q3 q4 q5 q6 q7 q8 q9 q10
                    have q0 := hb6.cell (o := 0) rfl
                    have q1 := hb6.cell (o := 1) rfl
                    have q2 := hb6.cell (o := 2) rfl
                    have q3 := hb6.cell (o := 3) rfl
                    have q4 := hb6.cell (o := 4) rfl
                    have q5 := hb6.cell (o := 5) rfl
                    have q6 := hb6.cell (o := 6) rfl
                    have q7 := hb6.cell (o := 7) rfl
                    have q8 := hb6.cell (o := 8) rfl
                    have q9 := hb6.cell (o := 9) rfl
                    have q10 := hb6.cell (o := 10) rfl
                    clear hb6
                    go_wp2_with fail
                    refine (HR.out _ K6.out).mono ?_
                    rintro e w7 ⟨n', a', rfl, hn', k7⟩
                    have hx := HMR.out n' a' hn'
                    rw [HRT.out] at hx
                    rw [hx]
                    have K7 := hid ((KF.out.trans K6.out).trans k7)
                    clear hn' k7 hx
                    go_wp2_with fail
                    go_ret
                    exact ⟨by simp, K7.out.toBelow⟩
              · by_cases g2 : q ≤ 32
                · by_cases g3 : t ≤ 64
                  · skip
                    have ddk : decide ((k : Int) ≤ 8) = false := decide_eq_false (by omega)
                    have ddq : decide ((q : Int) ≤ 32) = true := decide_eq_true (by omega)
                    have ddt : decide ((t : Int) ≤ 64) = true := decide_eq_true (by omega)
                    have hrt : (decide (k ≤ 8) && (decide (q ≤ 32) && decide (t ≤ 64))) = false := by rw [decide_eq_false g1, decide_eq_true g2, decide_eq_true g3]; rfl
                    have HRT := hid hrt
                    clear hrt
                    go_wp2_with fail
                    refine (HS.out).mono ?_
                    rintro e w6 ⟨rfl, k6⟩
                    have hb6 := HCB.out.keep k6 (fun h => h)
                    have K6 := hid k6
                    clear k6 q0 q1 q2 q3 q4 q5 q6 q7 q8 q9 q10
                    have q0 := hb6.cell (o := 0) rfl
                    have q1 := hb6.cell (o := 1) rfl
                    have q2 := hb6.cell (o := 2) rfl
                    have q3 := hb6.cell (o := 3) rfl
                    have q4 := hb6.cell (o := 4) rfl
                    have q5 := hb6.cell (o := 5) rfl
                    have q6 := hb6.cell (o := 6) rfl
                    have q7 := hb6.cell (o := 7) rfl
                    have q8 := hb6.cell (o := 8) rfl
                    have q9 := hb6.cell (o := 9) rfl
                    have q10 := hb6.cell (o := 10) rfl
                    clear hb6
                    go_wp2_with fail
                    refine (HR.out _ K6.out).mono ?_
                    rintro e w7 ⟨n', a', rfl, hn', k7⟩
                    have hx := HMR.out n' a' hn'
                    rw [HRT.out] at hx
                    rw [hx]
                    have K7 := hid ((KF.out.trans K6.out).trans k7)
                    clear hn' k7 hx
                    go_wp2_with fail
                    go_ret
                    exact ⟨by simp, K7.out.toBelow⟩
                  · skip
                    have ddk : decide ((k : Int) ≤ 8) = false := decide_eq_false (by omega)
                    have ddq : decide ((q : Int) ≤ 32) = true := decide_eq_true (by omega)
                    have ddt : decide ((t : Int) ≤ 64) = false := decide_eq_false (by omega)
                    have hrt : (decide (k ≤ 8) && (decide (q ≤ 32) && decide (t ≤ 64))) = false := by rw [decide_eq_false g1, decide_eq_true g2, decide_eq_false g3]; rfl
                    have HRT := hid hrt
                    clear hrt
                    go_wp2_with fail
                    refine (HS.out).mono ?_
                    rintro e w6 ⟨rfl, k6⟩
                    have hb6 := HCB.out.keep k6 (fun h => h)
                    have K6 := hid k6
                    clear k6 q0 q1 q2 q3 q4 q5 q6 q7 q8 q9 q10
                    have q0 := hb6.cell (o := 0) rfl
                    have q1 := hb6.cell (o := 1) rfl
                    have q2 := hb6.cell (o := 2) rfl
                    have q3 := hb6.cell (o := 3) rfl
                    have q4 := hb6.cell (o := 4) rfl
                    have q5 := hb6.cell (o := 5) rfl
                    have q6 := hb6.cell (o := 6) rfl
                    have q7 := hb6.cell (o := 7) rfl
                    have q8 := hb6.cell (o := 8) rfl
                    have q9 := hb6.cell (o := 9) rfl
                    have q10 := hb6.cell (o := 10) rfl
                    clear hb6
                    go_wp2_with fail
                    refine (HR.out _ K6.out).mono ?_
                    rintro e w7 ⟨n', a', rfl, hn', k7⟩
                    have hx := HMR.out n' a' hn'
                    rw [HRT.out] at hx
                    rw [hx]
                    have K7 := hid ((KF.out.trans K6.out).trans k7)
                    clear hn' k7 hx
                    go_wp2_with fail
                    go_ret
                    exact ⟨by simp, K7.out.toBelow⟩
                · by_cases g3 : t ≤ 64
                  · skip
                    have ddk : decide ((k : Int) ≤ 8) = false := decide_eq_false (by omega)
                    have ddq : decide ((q : Int) ≤ 32) = false := decide_eq_false (by omega)
                    have ddt : decide ((t : Int) ≤ 64) = true := decide_eq_true (by omega)
                    have hrt : (decide (k ≤ 8) && (decide (q ≤ 32) && decide (t ≤ 64))) = false := by rw [decide_eq_false g1, decide_eq_false g2, decide_eq_true g3]; rfl
                    have HRT := hid hrt
                    clear hrt
                    go_wp2_with fail
                    refine (HS.out).mono ?_
                    rintro e w6 ⟨rfl, k6⟩
                    have hb6 := HCB.out.keep k6 (fun h => h)
                    have K6 := hid k6
                    clear k6 q0 q1 q2 q3 q4 q5 q6 q7 q8 q9 q10
                    have q0 := hb6.cell (o := 0) rfl
                    have q1 := hb6.cell (o := 1) rfl
                    have q2 := hb6.cell (o := 2) rfl
                    have q3 := hb6.cell (o := 3) rfl
                    have q4 := hb6.cell (o := 4) rfl
                    have q5 := hb6.cell (o := 5) rfl
                    have q6 := hb6.cell (o := 6) rfl
                    have q7 := hb6.cell (o := 7) rfl
                    have q8 := hb6.cell (o := 8) rfl
                    have q9 := hb6.cell (o := 9) rfl
                    have q10 := hb6.cell (o := 10) rfl
                    clear hb6
                    go_wp2_with fail
                    refine (HR.out _ K6.out).mono ?_
                    rintro e w7 ⟨n', a', rfl, hn', k7⟩
                    have hx := HMR.out n' a' hn'
                    rw [HRT.out] at hx
                    rw [hx]
                    have K7 := hid ((KF.out.trans K6.out).trans k7)
                    clear hn' k7 hx
                    go_wp2_with fail
                    go_ret
                    exact ⟨by simp, K7.out.toBelow⟩
                  · skip
                    have ddk : decide ((k : Int) ≤ 8) = false := decide_eq_false (by omega)
                    have ddq : decide ((q : Int) ≤ 32) = false := decide_eq_false (by omega)
                    have ddt : decide ((t : Int) ≤ 64) = false := decide_eq_false (by omega)
                    have hrt : (decide (k ≤ 8) && (decide (q ≤ 32) && decide (t ≤ 64))) = false := by rw [decide_eq_false g1, decide_eq_false g2, decide_eq_false g3]; rfl
                    have HRT := hid hrt
                    clear hrt
                    go_wp2_with fail
                    refine (HS.out).mono ?_
                    rintro e w6 ⟨rfl, k6⟩
                    have hb6 := HCB.out.keep k6 (fun h => h)
                    have K6 := hid k6
                    clear k6 q0 q1 q2 q3 q4 q5 q6 q7 q8 q9 q10
                    have q0 := hb6.cell (o := 0) rfl
                    have q1 := hb6.cell (o := 1) rfl
                    have q2 := hb6.cell (o := 2) rfl
                    have q3 := hb6.cell (o := 3) rfl
                    have q4 := hb6.cell (o := 4) rfl
                    have q5 := hb6.cell (o := 5) rfl
                    have q6 := hb6.cell (o := 6) rfl
                    have q7 := hb6.cell (o := 7) rfl
                    have q8 := hb6.cell (o := 8) rfl
                    have q9 := hb6.cell (o := 9) rfl
                    have q10 := hb6.cell (o := 10) rfl
                    clear hb6
                    go_wp2_with fail
                    refine (HR.out _ K6.out).mono ?_
                    rintro e w7 ⟨n', a', rfl, hn', k7⟩
                    have hx := HMR.out n' a' hn'
                    rw [HRT.out] at hx
                    rw [hx]
                    have K7 := hid ((KF.out.trans K6.out).trans k7)
                    clear hn' k7 hx
                    go_wp2_with fail
                    go_ret
                    exact ⟨by simp, K7.out.toBelow⟩

theorem own : ownKnob Try.prog.godebug = none := by kernel_rfl
theorem laidOut : laidOutB Try.prog = true := by kernel_rfl
set_option maxRecDepth 100000 in
theorem lifted (os : Os) (started : os.Started) (H : Type) (enc : TypeId × Value → H) :
    ReturnsInHanded {} Try.checked os 13 .any (Rows.checkManySpec.pre6 enc Try.prog Try.f13 Rows.checkManyRow.domain false) (Rows.checkManySpec.post enc Try.prog Try.f13 false true false false) := by
  refine returnsInHanded_of_change (C := Try.checked) own started (by kernel_rfl) Try.func13
    (ChangeSpec.witness6 (enc := enc) (C := Try.checked) false ⟨#[], #[.int .u8 0, .int .u8 0, .int .u8 0], []⟩ 8 (by kernel_rfl) (by kernel_rfl) (by kernel_rfl) (by kernel_rfl)) ?_
  intro W base args ds gs before hval0 hW hcnd _
  have hval : ∀ (j : Nat) t v, Try.f13.params[j]? = some t → args[j]? = some v → Value.okWide Try.prog W .any base t v := hval0
  have hW' := hW
  obtain ⟨p, q, hA0, hV, rfl, hfz, hnd⟩ := hW
  have hA : DataW.TrodAll enc Try.prog W 0 (fun _ => true) true Try.f13.params.toList args.toList ds p := hA0
  rw [Try.params13] at hA hval
  obtain ⟨v0, vs0, d0, ds0, p0, q0, hargs, rfl, rfl, h0, r0⟩ := trodAll_cons hA
  obtain ⟨v1, vs1, d1, ds1, p1, q1, rfl, rfl, rfl, h1, r1⟩ := trodAll_cons r0
  obtain ⟨v2, vs2, d2, ds2, p2, q2, rfl, rfl, rfl, h2, r2⟩ := trodAll_cons r1
  obtain ⟨rfl, rfl, rfl⟩ := trodAll_nil r2
  obtain rfl : args = #[v0, v1, v2] := by cases args; simp_all
  obtain ⟨rfl, rfl⟩ := trodVars_none hV
  have k0 := h0
  have lt0 : ∀ x ∈ p0, x.block < W.heap.size := by obtain ⟨m, hm⟩ := k0; exact DataW.trod_lt m _ _ _ hm
  have k1 := h1
  have lt1 : ∀ x ∈ p1, x.block < W.heap.size := by obtain ⟨m, hm⟩ := k1; exact DataW.trod_lt m _ _ _ hm
  have k2 := h2
  have lt2 : ∀ x ∈ p2, x.block < W.heap.size := by obtain ⟨m, hm⟩ := k2; exact DataW.trod_lt m _ _ _ hm
  obtain ⟨a0, rfl, rfl, rfl, w0⟩ := open_int Try.underlying5 (hval 0 5 v0 rfl rfl) h0
  obtain ⟨a1, rfl, rfl, rfl, w1⟩ := open_int Try.underlying5 (hval 1 5 v1 rfl rfl) h1
  obtain ⟨a2, rfl, rfl, rfl, w2⟩ := open_int Try.underlying5 (hval 2 5 v2 rfl rfl) h2
  clear hA0 hval0
  refine (walk W a0 w0 a1 w1 a2 w2).mono fun e W' ⟨he, bel⟩ => ?_
  subst he
  exact ⟨_, rfl, _, _, _, [], _, [], hW', trodAll_mk1 (shut_bool Try.underlying4 _), (trodAll_cons_mk (Below.trod laidOut (by kernel_rfl) (of_decide_eq_true (by kernel_rfl)) k0 bel lt0) (trodAll_cons_mk (Below.trod laidOut (by kernel_rfl) (of_decide_eq_true (by kernel_rfl)) k1 bel lt1) (trodAll_cons_mk (Below.trod laidOut (by kernel_rfl) (of_decide_eq_true (by kernel_rfl)) k2 bel lt2) trodAll_mk0))), rfl, bel.frame _, fun h => by cases h⟩

theorem over : Rows.checkManyRow.holds Try.pinned (OpenSpec.ofChange Rows.checkManySpec) :=
  OpenClaim.holds_of_wide 13 Try.f13 rfl rfl rfl rfl rfl rfl rfl ⟨rfl, rfl, rfl, rfl, rfl⟩ rfl rfl rfl rfl rfl (by kernel_rfl) Try.func13 (by kernel_rfl)
    (of_decide_eq_true (by kernel_rfl)) (by unfold Func.isWrapper; first | (rw [if_pos (by decide +kernel)]; kernel_rfl) | (rw [if_neg (by decide +kernel)]; exact ⟨rfl, rfl⟩))
    (fun os started H enc _ => lifted os started H enc)

theorem proved : Rows.CheckManySaid := over
#print axioms proved
end Go.Proofs.Ythfjihpfcollfaa.checkMany
