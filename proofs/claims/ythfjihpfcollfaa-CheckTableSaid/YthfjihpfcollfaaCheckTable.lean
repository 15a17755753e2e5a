/- A configuration with any table is judged as the document says, and has as many numbers in it. No conditions. -/
import Derived.Test.YthfjihpfcollfaaArgsE
import Derived.Test.YthfjihpfcollfaaTabl
import Derived.Test.YthfjihpfcollfaaRows
import Derived.Test.YthfjihpfcollfaaChkL
import Derived.Test.YthfjihpfcollfaaChkU
import Derived.ProofKit
import Derived.OpenShut
import Derived.Deep.RegionHeld3
namespace Go.Proofs.Ythfjihpfcollfaa.checkTable
open Go.ChangeShapes Go.WideShapes Go.ChangeAt Go.RowKit
open Go.ChangeMaps (open_string shut_string)
set_option linter.unusedVariables false

set_option maxHeartbeats 8000000 in
set_option maxRecDepth 100000 in
theorem walk (w : World) (rules : List (LineD × Value)) (rv : Value) (slots : List Int) (sv : Value) (ba dr pa of_ : Int) (br : Bool) (lo : Int) (hd : DraftR w rules rv slots sv) (u1 : U8 ba) (u2 : U8 dr) (u3 : U8 pa) (u4 : U8 of_) (u5 : U8 lo) (s : Option Addr) (cap : Nat) (l : List (List Int × Value)) (hsl : Sl w 1 (.slice s l.length cap) l.length (l.flatMap encSlot)) (hgl : ∀ y ∈ l, SlI w y.2 y.1) (near : Bool) :
    Calls Try.prog 11 #[.agg #[rv, sv, .int .u8 ba, .int .u8 dr, .int .u8 pa, .int .u8 of_, .bool br, .int .u8 lo], .slice s l.length cap, .bool near] w fun e w' => e = .returned (.bool true) ∧ Below w.heap.size w w' := by
  have HSL := hid hsl
  have HGL := hid hgl
  clear hsl hgl
  obtain ⟨ra, rc, rfl⟩ := hd.rul.any
  obtain ⟨sa, sc, rfl⟩ := hd.slo.any
  obtain ⟨W1, hW1⟩ : ∃ W1, w.alloc (.cells #[.slice ra rules.length rc, .slice sa slots.length sc, .int .u8 ba, .int .u8 dr, .int .u8 pa, .int .u8 of_, .bool br, .int .u8 lo] 44) = W1 := ⟨_, rfl⟩
  have k1 : Keeps No w W1 := by rw [← hW1]; exact (Keeps.refl _ _).alloc _
  have hb : BlkL W1 w.heap.size 44 [.slice ra rules.length rc, .slice sa slots.length sc, .int .u8 ba, .int .u8 dr, .int .u8 pa, .int .u8 of_, .bool br, .int .u8 lo] := by rw [← hW1]; exact heap_alloc_new w _
  have H1 := hid (hd.calm k1)
  have HB := hid hb
  have HW1 := hid hW1
  have K1 := hid k1
  have U := hid (show U8 ba ∧ U8 dr ∧ U8 pa ∧ U8 of_ ∧ U8 lo from ⟨u1, u2, u3, u4, u5⟩)
  clear hd hW1 k1 hb u1 u2 u3 u4 u5
  go_enter Try.func11, Try.ntmps11
  go_upto_region 1 with fail
  rw [HW1.out]
  go_wp2_with fail
  refine (nothing_true _).mono ?_
  rintro e w2 ⟨rfl, k2⟩
  have hb := HB.out.keep k2 (fun h => h)
  have K2 := hid (K1.out.trans k2)
  have H2 := hid (H1.out.calm k2)
  have HB2 := hid hb
  have x0 := hb.cell (o := 0) rfl
  have x1 := hb.cell (o := 1) rfl
  have x2 := hb.cell (o := 2) rfl
  have x3 := hb.cell (o := 3) rfl
  have x4 := hb.cell (o := 4) rfl
  have x5 := hb.cell (o := 5) rfl
  have x6 := hb.cell (o := 6) rfl
  have x7 := hb.cell (o := 7) rfl
  clear hb k2
  go_wp2_with fail
  refine (short_any H2.out ba dr pa of_ br lo).mono ?_
  rintro e w3 ⟨bs, rfl, k3⟩
  clear x0 x1 x2 x3 x4 x5 x6 x7
  have K3 := hid (K2.out.trans k3)
  have H3 := hid (H2.out.calm k3)
  have hb := HB2.out.keep k3 (fun h => h)
  clear k3
  cases bs
  · clear hb
    go_wp2_with fail
    refine (nothing_true _).mono ?_
    rintro e w4 ⟨rfl, k4⟩
    have K4 := hid (K3.out.trans k4)
    clear k4
    go_wp2_with fail
    go_ret
    exact ⟨rfl, K4.out.toBelow⟩
  have x0 := hb.cell (o := 0) rfl
  have x1 := hb.cell (o := 1) rfl
  have x2 := hb.cell (o := 2) rfl
  have x3 := hb.cell (o := 3) rfl
  have x4 := hb.cell (o := 4) rfl
  have x5 := hb.cell (o := 5) rfl
  have x6 := hb.cell (o := 6) rfl
  have x7 := hb.cell (o := 7) rfl
  clear hb
  by_cases h80 : 80 < l.length
  · have d1 : decide ((l.length : Int) > 80) = true := decide_eq_true (by omega)
    have d2 : decide ((80 : Int) < (l.length : Int)) = true := decide_eq_true (by omega)
    go_wp2_with fail
    refine (nothing_true _).mono ?_
    rintro e w4 ⟨rfl, k4⟩
    have K4 := hid (K3.out.trans k4)
    clear k4
    go_wp2_with fail
    go_ret
    exact ⟨rfl, K4.out.toBelow⟩
  have d1 : decide ((l.length : Int) > 80) = false := decide_eq_false (by omega)
  have d2 : decide ((80 : Int) < (l.length : Int)) = false := decide_eq_false (by omega)
  go_wp2_with fail
  clear d1 d2
  refine (make_any H3.out ba dr pa of_ br lo U.out.1 U.out.2.1 U.out.2.2.1 U.out.2.2.2.1 U.out.2.2.2.2).mono ?_
  rintro e w4 ⟨C, csv, crv, ctv, rfl, hc, hm, k4⟩
  clear x0 x1 x2 x3 x4 x5 x6 x7
  obtain ⟨sg, sgc, ru, ruc, tb, tbc, rfl, rfl, rfl⟩ := hc.shape
  unfold Cfg.val Cfg.cells
  have hm1 := hm.few
  have hs3 := hm.few'.2.2.2
  have K4 := hid (K3.out.trans k4)
  have HC4 := hid hc
  clear k4 hm hc H1 H2 H3 HB HB2 K1 K2 K3 HW1 U
  obtain ⟨W5, hW5⟩ : ∃ W5, w4.alloc (.cells #[.slice sg C.sigs.length sgc, .slice ru C.ruls.length ruc, .slice none 0 0, .int .i64 C.b0, .int .i64 C.b1, .int .i64 C.b2, .int .i64 C.drain, .int .i64 C.pause, .int .i64 C.off, .bool C.brk, .int .i64 C.log] 51) = W5 := ⟨_, rfl⟩
  have hb5 : BlkL W5 w4.heap.size 51 [.slice sg C.sigs.length sgc, .slice ru C.ruls.length ruc, .slice none 0 0, .int .i64 C.b0, .int .i64 C.b1, .int .i64 C.b2, .int .i64 C.drain, .int .i64 C.pause, .int .i64 C.off, .bool C.brk, .int .i64 C.log] := by rw [← hW5]; exact heap_alloc_new w4 _
  have k5 : Keeps No w4 W5 := by rw [← hW5]; exact (Keeps.refl No w4).alloc _
  have HT0 : Hid (CT W5 W5 w4.heap.size (.slice sg C.sigs.length sgc) (.slice ru C.ruls.length ruc) (.slice none 0 0) C []) := hid ⟨hb5, Keeps.refl _ _, World.ownsRow_nil _ _ _ _, fun x hx => by simp at hx, fun k hk => by simp [Value.ownBlock] at hk, fun x hx => by simp at hx⟩
  have hcb := hb5.lt
  have HW5 := hid hW5
  have K5 := hid k5
  have KW := hid (K4.out.trans k5)
  obtain ⟨nr, hnr⟩ : ∃ nr, C.ruls.length = nr := ⟨_, rfl⟩
  have hnr1 : 1 ≤ nr := by omega
  have hnr8 : nr ≤ 8 := by omega
  have HNR := hid hnr
  obtain ⟨i0, hi, hz0, hz1, hz2⟩ := info_parts info_intA
  have HI := hid hi
  obtain ⟨j0, hj, hy0, hy1, hy2⟩ := info_parts info_slotA
  have HJ := hid hj
  clear hW5 hb5 k5 hnr hi hj hm1
  go_upto_region 5 with fail
  rw [HW5.out]
  go_wp2_with fail
  go_loopw [8] (fun v8 wr => ∃ (k : Nat) (tv : Value) (T : List (List Int × Value)), k ≤ l.length ∧ v8 = .int .i64 k ∧ Hid (T.length = k ∧ ∀ x ∈ T, x.1.length ≤ 20) ∧ Hid (CT W5 wr w4.heap.size (.slice sg C.sigs.length sgc) (.slice ru C.ruls.length ruc) tv C T)) (fun v8 _ => l.length - (intOf v8).toNat)
  case atStart => exact ⟨0, _, [], Nat.zero_le _, rfl, hid ⟨rfl, fun x hx => by simp at hx⟩, HT0⟩
  case round =>
    clear HT0
    obtain ⟨wo, hwo⟩ : ∃ x, x = wr := ⟨_, rfl⟩
    subst hwo
    obtain ⟨k, tv, T, hk, rfl, HTL, HT⟩ := hrel
    by_cases hlt : k < l.length
    · obtain ⟨y, hy⟩ : ∃ y, l[k] = y := ⟨_, rfl⟩
      obtain ⟨ys, yv⟩ := y
      obtain ⟨g, off, rfl, _, hcell⟩ := Sl.cellAt HSL.out (j := k * 1 + 0) (u := yv) (by rw [getElem?_flatMap_enc (size := 1) (fun _ => rfl) l k 0 (by omega) hlt, hy]; rfl)
      rw [Nat.mul_one, Nat.add_zero] at hcell
      have hys := HGL.out l[k] (List.getElem_mem hlt)
      rw [hy] at hys
      dsimp only at hys
      obtain ⟨ya, yc, rfl⟩ := hys.any
      have HY := hid hys
      have HCELL := hid hcell
      have hko := (KW.out.trans' HT.out.keep (T := No) (fun _ _ h => h) (fun i hi e => by have := K4.out.size; omega))
      have x0 := hko.cell (fun h => h) hcell
      have HKO := hid hko
      have hyl := hys.2.1
      unfold maxLen at hyl
      clear hy hys hcell hko
      by_cases h20 : 20 < ys.length
      · have d1 : decide ((ys.length : Int) > 20) = true := decide_eq_true (by omega)
        have d2 : decide ((20 : Int) < (ys.length : Int)) = true := decide_eq_true (by omega)
        go_wp2_with fail
        go_ret
        exact ⟨rfl, HKO.out.toBelow⟩
      have d1 : decide ((ys.length : Int) > 20) = false := decide_eq_false (by omega)
      have d2 : decide ((20 : Int) < (ys.length : Int)) = false := decide_eq_false (by omega)
      have HS0 : Hid (CS W5 wo w4.heap.size tv (.slice none 0 0) T []) := hid ⟨World.ownsRow_nil _ _ _ _, fun k hk => by simp [Value.ownBlock] at hk, fun x hx k hk => by simp [Value.ownBlock] at hk⟩
      go_wp2_with fail
      clear d1 d2 x0
      go_loopw [9, 10] (fun v9 v10 wk => ∃ (q : Nat) (v : Value) (m : List Int), q ≤ ys.length ∧ v10 = .int .i64 q ∧ v9 = v ∧ Hid (m.length = q) ∧ Hid (CT W5 wk w4.heap.size (.slice sg C.sigs.length sgc) (.slice ru C.ruls.length ruc) tv C T) ∧ Hid (CS W5 wk w4.heap.size tv v T m)) (fun _ v10 _ => ys.length - (intOf v10).toNat)
      case atStart => exact ⟨0, _, [], Nat.zero_le _, rfl, rfl, hid rfl, HT, HS0⟩
      case round =>
        clear HS0
        obtain ⟨wk, hwk⟩ : ∃ x, x = wr := ⟨_, rfl⟩
        subst hwk
        obtain ⟨q, v, m, hq, rfl, hv9, HML, HTK, HS⟩ := hrel
        obtain ⟨a9, c9, e9⟩ := own_any HS.out.own
        have e9 : v = .slice a9 q c9 := by rw [e9, HML.out]
        rw [e9] at hv9 HS
        subst hv9
        clear e9
        have hko := (KW.out.trans' HTK.out.keep (T := No) (fun _ _ h => h) (fun i hi e => by have := K4.out.size; omega))
        have x0 := hko.cell (fun h => h) HCELL.out
        have hyk : SlI _ (.slice ya ys.length yc) ys := Sl.keep HY.out hko (fun _ _ h => h)
        by_cases hq2 : q < ys.length
        · obtain ⟨gy, offy, rfl, _, hcy⟩ := SlI.cellAt hyk hq2
          obtain ⟨z, hz⟩ : ∃ z, ys[q] = z := ⟨_, rfl⟩
          rw [hz] at hcy
          have HSO : Hid (wk.ownsRow 0 3 1 (.slice a9 q c9) q (m.map (Value.int .i64))) := hid (by have := HS.out.own; rw [HML.out] at this; exact this)
          have HCT : Hid (∀ (w2 : World) (v' : Value) (z : Int) (x : Obj), w2.ownsRow 0 3 1 v' (q + 1) (m.map (Value.int .i64) ++ [.int .i64 z]) → Keeps (Bl (.slice a9 q c9)) (wk.alloc x) w2 → (∀ k, v'.ownBlock = some k → (Value.slice a9 q c9).ownBlock = some k ∨ (wk.alloc x).heap.size ≤ k) → CT W5 w2 w4.heap.size (.slice sg C.sigs.length sgc) (.slice ru C.ruls.length ruc) tv C T ∧ CS W5 w2 w4.heap.size tv v' T (m ++ [z])) :=
            hid (fun w2 v' z x h1 h2 h3 => CS.app HTK.out hcb HS.out (by rw [HML.out]; exact h1) h2 h3)
          clear hz hko hyk
          cases near
          · skip
            go_wp2_with (at_builtin; refine wpl_append rfl _ _ 62 rfl 3 i0 (.int .i64 0) 1 8 Try.underlying62 HI.out hz0 hz1 hz2 rfl (by decide) _ _ _ _ _ _ rfl rfl (HSO.out.alloc _) (Sl.new _ _ _ 1 1 rfl (by decide)) ?c2 ?c3 ?c4 ?_)
            case c2 => first | rfl | (intro u hu; simp at hu; subst hu; rfl)
            case c3 => unfold maxLen; omega
            case c4 => omega
            intro v2 w2 ho2 k2 hb2
            obtain ⟨a2, c2, rfl⟩ := own_any ho2
            have HNEW := hid (HCT.out _ _ _ _ ho2 k2 (by simpa using hb2))
            clear ho2 k2 hb2
            go_wp2_with fail
            go_roundw
            case rel => exact ⟨q + 1, _, m ++ [_], by omega, by go_num, rfl, hid (by rw [List.length_append, HML.out]; rfl), hid HNEW.out.1, hid HNEW.out.2⟩
            case measure => simp [intOf]; omega
          · have y1 := HTK.out.blk.cell (o := 1) rfl
            rw [HNR.out] at y1
            have hu : IntKind.u64.wrap (nr : Int) = (nr : Int) := by rw [IntKind.wrap_u64]; omega
            have hnz : ((nr : Int) == 0) = false := by simp; omega
            have hnz2 : ¬ (nr : Int) = 0 := by omega
            go_wp2_with (at_builtin; refine wpl_append rfl _ _ 62 rfl 3 i0 (.int .i64 0) 1 8 Try.underlying62 HI.out hz0 hz1 hz2 rfl (by decide) _ _ _ _ _ _ rfl rfl (HSO.out.alloc _) (Sl.new _ _ _ 1 1 rfl (by decide)) ?c2 ?c3 ?c4 ?_)
            case c2 => first | rfl | (intro u hu; simp at hu; subst hu; rfl)
            case c3 => unfold maxLen; omega
            case c4 => omega
            intro v2 w2 ho2 k2 hb2
            obtain ⟨a2, c2, rfl⟩ := own_any ho2
            have HNEW := hid (HCT.out _ _ _ _ ho2 k2 (by simpa using hb2))
            clear ho2 k2 hb2
            go_wp2_with fail
            go_roundw
            case rel => exact ⟨q + 1, _, m ++ [_], by omega, by go_num, rfl, hid (by rw [List.length_append, HML.out]; rfl), hid HNEW.out.1, hid HNEW.out.2⟩
            case measure => simp [intOf]; omega
        · obtain ⟨at2, ct2, et⟩ := own_any HTK.out.own
          have hTl : T.length ≤ 80 := by have := HTL.out.1; omega
          have hbk := HTK.out.blk
          have HBK := hid hbk
          have x2 := hbk.cell (o := 2) rfl
          rw [et] at x2
          have HTO : Hid (wk.ownsRow 0 62 1 (.slice at2 T.length ct2) T.length (T.map (·.2))) := hid (by have := HTK.out.own; rw [et] at this; exact this)
          have HNC : Hid (¬ Bl (.slice at2 T.length ct2) w4.heap.size) := hid (fun hB => by have := HTK.out.new _ (by rw [et]; exact hB); omega)
          have HPUT : Hid (∀ (w2 : World) (tv' : Value) (x : Obj), w2.ownsRow 0 62 1 tv' (T.length + 1) (T.map (·.2) ++ [.slice a9 q c9]) → Keeps (Bl (.slice at2 T.length ct2)) (wk.alloc x) w2 → (∀ k, tv'.ownBlock = some k → (Value.slice at2 T.length ct2).ownBlock = some k ∨ (wk.alloc x).heap.size ≤ k) → CT W5 (w2.setCell ⟨w4.heap.size, 2, none⟩ tv') w4.heap.size (.slice sg C.sigs.length sgc) (.slice ru C.ruls.length ruc) tv' C (T ++ [(m, .slice a9 q c9)])) :=
            hid (fun w2 tv' x h1 h2 h3 => HTK.out.put hcb HS.out h1 (by rw [et]; exact h2) (by rw [et]; exact h3))
          clear et hbk hko hyk
          go_wp2_with (at_builtin; refine wpl_append rfl _ _ 48 rfl 62 j0 (.slice none 0 0) 1 24 Try.underlying48 HJ.out hy0 hy1 hy2 rfl (by decide) _ _ _ _ _ _ rfl rfl (HTO.out.alloc _) (Sl.new _ _ _ 1 1 rfl (by decide)) ?c2 ?c3 ?c4 ?_)
          case c2 => first | rfl | (intro u hu; simp at hu; subst hu; rfl)
          case c3 => unfold maxLen; omega
          case c4 => omega
          intro v2 w2 ho2 k2 hb2
          obtain ⟨a2, c2, rfl⟩ := own_any ho2
          have HNEW := hid (HPUT.out _ _ _ ho2 k2 (by simpa using hb2))
          have kk1 := ((Keeps.refl No _).alloc _).trans' k2 (T := Bl (.slice at2 T.length ct2)) (fun _ _ h => h.elim) (fun _ _ h => h)
          have y0 := (HBK.out.keep kk1 HNC.out).cell (o := 2) rfl
          have y1 := (HBK.out.keep kk1 HNC.out).free 2
          clear ho2 k2 hb2 kk1
          go_wp2_with fail
          go_roundw
          case rel => exact ⟨k + 1, _, T ++ [(m, .slice a9 q c9)], by omega, by go_num, hid ⟨by rw [List.length_append, HTL.out.1]; rfl, fun x hx => by
            rcases List.mem_append.1 hx with hx | hx
            · exact HTL.out.2 x hx
            · simp at hx
              subst hx
              have := HML.out
              simp only
              omega⟩, hid HNEW.out⟩
          case measure => simp [intOf]; omega
    · have hkl : ¬ k < l.length := hlt
      obtain ⟨wF, hwF⟩ : ∃ x, x = wo := ⟨_, rfl⟩
      subst hwF
      obtain ⟨tb2, tbc2, et⟩ := own_any HT.out.own
      have hTl : T.length ≤ 80 := by have := HTL.out.1; omega
      have hen : entries (T.map (·.1)) ≤ 1000000 := by
        have h1 := tab_few HTL.out.2
        have h2 : T.length * 20 ≤ 80 * 20 := Nat.mul_le_mul_right _ hTl
        omega
      have hcf := HT.out.reads HC4.out K5.out (Nat.le_refl _)
      rw [et] at hcf
      have hbf := HT.out.blk
      rw [et] at hbf
      have hr8 : C.ruls.length ≤ 1000 := by rw [HNR.out]; omega
      have HS : Hid (∀ w', Keeps No wF w' → Calls Try.prog 31 #[.agg #[.slice sg C.sigs.length sgc, .slice ru C.ruls.length ruc, .slice tb2 T.length tbc2, .int .i64 C.b0, .int .i64 C.b1, .int .i64 C.b2, .int .i64 C.drain, .int .i64 C.pause, .int .i64 C.off, .bool C.brk, .int .i64 C.log]] w' fun e w'' => e = .returned (.bool true) ∧ Keeps No w' w'') := hid (fun (w' : World) (k : Keeps No wF w') => csame_true (C := withTab C T) (sa := sg) (ra := ru) (ta := tb2) (sc := sgc) (rc := ruc) (tc := tbc2) (hcf.calm k) hen (by show T.length ≤ 1000; omega) hr8 hs3)
      have HE1 := hid (fun (w' : World) (k : Keeps No wF w') => centries_any (sa := sg) (ra := ru) (sc := sgc) (rc := ruc) (sn := C.sigs.length) (rn := C.ruls.length) (ta := tb2) (tc := tbc2) (hcf.calm k).tabR hen C.b0 C.b1 C.b2 C.drain C.pause C.off C.log C.brk)
      have HE2 := hid (fun (w' : World) (k : Keeps No wF w') => mentries_any (sa := sg) (ra := ru) (sc := sgc) (rc := ruc) (sn := C.sigs.length) (rn := C.ruls.length) (ta := tb2) (tc := tbc2) (hcf.calm k).tabR hen C.b0 C.b1 C.b2 C.drain C.pause C.off C.log C.brk)
      unfold cfgV at HE1 HE2
      have KF := hid (KW.out.trans' HT.out.keep (T := No) (fun _ _ h => h) (fun i hi e => by have := K4.out.size; omega))
      have HCF := hid hbf
      have x0 := hbf.cell (o := 0) rfl
      have x1 := hbf.cell (o := 1) rfl
      have x2 := hbf.cell (o := 2) rfl
      have x3 := hbf.cell (o := 3) rfl
      have x4 := hbf.cell (o := 4) rfl
      have x5 := hbf.cell (o := 5) rfl
      have x6 := hbf.cell (o := 6) rfl
      have x7 := hbf.cell (o := 7) rfl
      have x8 := hbf.cell (o := 8) rfl
      have x9 := hbf.cell (o := 9) rfl
      have x10 := hbf.cell (o := 10) rfl
      clear hcf hbf et hen HT
      go_wp2_with fail
      go_region_held3 (fun w' => w'.cell? ⟨w4.heap.size, 0, none⟩ = some (.slice sg C.sigs.length sgc) ∧ w'.cell? ⟨w4.heap.size, 1, none⟩ = some (.slice ru C.ruls.length ruc) ∧ w'.cell? ⟨w4.heap.size, 2, none⟩ = some (.slice tb2 T.length tbc2) ∧ w'.cell? ⟨w4.heap.size, 3, none⟩ = some (.int .i64 C.b0) ∧ w'.cell? ⟨w4.heap.size, 4, none⟩ = some (.int .i64 C.b1) ∧ w'.cell? ⟨w4.heap.size, 5, none⟩ = some (.int .i64 C.b2) ∧ w'.cell? ⟨w4.heap.size, 6, none⟩ = some (.int .i64 C.drain) ∧ w'.cell? ⟨w4.heap.size, 7, none⟩ = some (.int .i64 C.pause) ∧ w'.cell? ⟨w4.heap.size, 8, none⟩ = some (.int .i64 C.off) ∧ w'.cell? ⟨w4.heap.size, 9, none⟩ = some (.bool C.brk) ∧ w'.cell? ⟨w4.heap.size, 10, none⟩ = some (.int .i64 C.log)) (first | exact ⟨x0, x1, x2, x3, x4, x5, x6, x7, x8, x9, x10⟩ | go_keep) (first | (go_at_call 31; (with_reducible refine (HS.out _ ?hk).mono ?_); (case hk => exact (by repeat' (first | with_reducible exact Keeps.refl _ _ | with_reducible assumption | with_reducible refine Keeps.drewN ?_ _ | with_reducible refine Keeps.drew ?_))); rintro e w' ⟨rfl, k⟩; have kk : Keeps No wF w' := Keeps.trans (by repeat' (first | with_reducible exact Keeps.refl _ _ | with_reducible assumption | with_reducible refine Keeps.drewN ?_ _ | with_reducible refine Keeps.drew ?_)) k; have h5 := HCF.out.keep kk (fun h => h); have x0 := h5.cell (o := 0) rfl; have x1 := h5.cell (o := 1) rfl; have x2 := h5.cell (o := 2) rfl; have x3 := h5.cell (o := 3) rfl; have x4 := h5.cell (o := 4) rfl; have x5 := h5.cell (o := 5) rfl; have x6 := h5.cell (o := 6) rfl; have x7 := h5.cell (o := 7) rfl; have x8 := h5.cell (o := 8) rfl; have x9 := h5.cell (o := 9) rfl; have x10 := h5.cell (o := 10) rfl; clear h5 k) | (go_at_call 32; (with_reducible refine (HE1.out _ ?hk).mono ?_); (case hk => exact (by repeat' (first | with_reducible exact Keeps.refl _ _ | with_reducible assumption | with_reducible refine Keeps.drewN ?_ _ | with_reducible refine Keeps.drew ?_))); rintro e w' ⟨rfl, k⟩; have kk : Keeps No wF w' := Keeps.trans (by repeat' (first | with_reducible exact Keeps.refl _ _ | with_reducible assumption | with_reducible refine Keeps.drewN ?_ _ | with_reducible refine Keeps.drew ?_)) k; have h5 := HCF.out.keep kk (fun h => h); have x0 := h5.cell (o := 0) rfl; have x1 := h5.cell (o := 1) rfl; have x2 := h5.cell (o := 2) rfl; have x3 := h5.cell (o := 3) rfl; have x4 := h5.cell (o := 4) rfl; have x5 := h5.cell (o := 5) rfl; have x6 := h5.cell (o := 6) rfl; have x7 := h5.cell (o := 7) rfl; have x8 := h5.cell (o := 8) rfl; have x9 := h5.cell (o := 9) rfl; have x10 := h5.cell (o := 10) rfl; clear h5 k) | (go_at_call 33; (with_reducible refine (HE2.out _ ?hk).mono ?_); (case hk => exact (by repeat' (first | with_reducible exact Keeps.refl _ _ | with_reducible assumption | with_reducible refine Keeps.drewN ?_ _ | with_reducible refine Keeps.drew ?_))); rintro e w' ⟨rfl, k⟩; have kk : Keeps No wF w' := Keeps.trans (by repeat' (first | with_reducible exact Keeps.refl _ _ | with_reducible assumption | with_reducible refine Keeps.drewN ?_ _ | with_reducible refine Keeps.drew ?_)) k; have h5 := HCF.out.keep kk (fun h => h); have x0 := h5.cell (o := 0) rfl; have x1 := h5.cell (o := 1) rfl; have x2 := h5.cell (o := 2) rfl; have x3 := h5.cell (o := 3) rfl; have x4 := h5.cell (o := 4) rfl; have x5 := h5.cell (o := 5) rfl; have x6 := h5.cell (o := 6) rfl; have x7 := h5.cell (o := 7) rfl; have x8 := h5.cell (o := 8) rfl; have x9 := h5.cell (o := 9) rfl; have x10 := h5.cell (o := 10) rfl; clear h5 k))
      all_goals
        go_wp2_with fail
        go_ret
        exact ⟨by simp, (KF.out.trans kk).toBelow⟩

theorem own : ownKnob Try.prog.godebug = none := by kernel_rfl
theorem laidOut : laidOutB Try.prog = true := by kernel_rfl
set_option maxRecDepth 100000 in
theorem lifted (os : Os) (started : os.Started) (H : Type) (enc : TypeId × Value → H) :
    ReturnsInHanded {} Try.checked os 11 .any (Rows.checkTableSpec.pre6 enc Try.prog Try.f11 Rows.checkTableRow.domain false) (Rows.checkTableSpec.post enc Try.prog Try.f11 false true false false) := by
  refine returnsInHanded_of_change (C := Try.checked) own started (by kernel_rfl) Try.func11
    (ChangeSpec.witness6 (enc := enc) (C := Try.checked) false ⟨#[], #[.agg #[.slice none 0 0, .slice none 0 0, .int .u8 0, .int .u8 0, .int .u8 0, .int .u8 0, .bool false, .int .u8 0], .slice none 0 0, .bool false], []⟩ 8 (by kernel_rfl) (by kernel_rfl) (by kernel_rfl) (by kernel_rfl)) ?_
  intro W base args ds gs before hval0 hW hcnd _
  have hval : ∀ (j : Nat) t v, Try.f11.params[j]? = some t → args[j]? = some v → Value.okWide Try.prog W .any base t v := hval0
  have hW' := hW
  obtain ⟨p, q, hA0, hV, rfl, hfz, hnd⟩ := hW
  have hA : DataW.TrodAll enc Try.prog W 0 (fun _ => true) true Try.f11.params.toList args.toList ds p := hA0
  rw [Try.params11] at hA hval
  obtain ⟨v0, vs0, d0, ds0, p0, q0, hargs, rfl, rfl, h0, r0⟩ := trodAll_cons hA
  obtain ⟨v1, vs1, d1, ds1, p1, q1, rfl, rfl, rfl, h1, r1⟩ := trodAll_cons r0
  obtain ⟨v2, vs2, d2, ds2, p2, q2, rfl, rfl, rfl, h2, r2⟩ := trodAll_cons r1
  obtain ⟨rfl, rfl, rfl⟩ := trodAll_nil r2
  obtain rfl : args = #[v0, v1, v2] := by cases args; simp_all
  obtain ⟨rfl, rfl⟩ := trodVars_none hV
  have k0 := h0
  have lt0 : ∀ x ∈ p0, x.block < W.heap.size := by obtain ⟨m, hm⟩ := k0; exact DataW.trod_lt m _ _ _ hm
  have k1 := h1
  have lt1 : ∀ x ∈ p1, x.block < W.heap.size := by obtain ⟨m, hm⟩ := k1; exact DataW.trod_lt m _ _ _ hm
  have k2 := h2
  have lt2 : ∀ x ∈ p2, x.block < W.heap.size := by obtain ⟨m, hm⟩ := k2; exact DataW.trod_lt m _ _ _ hm
  obtain ⟨rules, rv, slots, sv, ba, dr, pa, of_, br, lo, rfl, hd, u1, u2, u3, u4, u5⟩ := argDraft (hval 0 44 v0 rfl rfl) h0
  obtain ⟨s1, len1, cap1, rfl⟩ := okWide_slice Try.underlying48 (hval 1 48 v1 rfl rfl)
  obtain ⟨l1, rfl, w1, b1⟩ := argSlice (encE := encSlot) (good := (fun y => SlI W y.2 y.1)) (size := 1) (fun _ => rfl) (by decide) Try.underlying48 (by kernel_rfl) (fun n cs x hx => decSlot hx) h1
  obtain ⟨a2, rfl, rfl, rfl⟩ := open_bool Try.underlying4 (hval 2 4 v2 rfl rfl) h2
  clear hA0 hval0
  refine (walk W rules rv slots sv ba dr pa of_ br lo hd u1 u2 u3 u4 u5 s1 cap1 l1 w1 b1 a2).mono fun e W' ⟨he, bel⟩ => ?_
  subst he
  exact ⟨_, rfl, _, _, _, [], _, [], hW', trodAll_mk1 (shut_bool Try.underlying4 _), (trodAll_cons_mk (Below.trod laidOut (by kernel_rfl) (of_decide_eq_true (by kernel_rfl)) k0 bel lt0) (trodAll_cons_mk (Below.trod laidOut (by kernel_rfl) (of_decide_eq_true (by kernel_rfl)) k1 bel lt1) (trodAll_cons_mk (Below.trod laidOut (by kernel_rfl) (of_decide_eq_true (by kernel_rfl)) k2 bel lt2) trodAll_mk0))), rfl, bel.frame _, fun h => by cases h⟩

theorem over : Rows.checkTableRow.holds Try.pinned (OpenSpec.ofChange Rows.checkTableSpec) :=
  OpenClaim.holds_of_wide 11 Try.f11 rfl rfl rfl rfl rfl rfl rfl ⟨rfl, rfl, rfl, rfl, rfl⟩ rfl rfl rfl rfl rfl (by kernel_rfl) Try.func11 (by kernel_rfl)
    (of_decide_eq_true (by kernel_rfl)) (by unfold Func.isWrapper; first | (rw [if_pos (by decide +kernel)]; kernel_rfl) | (rw [if_neg (by decide +kernel)]; exact ⟨rfl, rfl⟩))
    (fun os started H enc _ => lifted os started H enc)

theorem proved : Rows.CheckTableSaid := over
#print axioms proved
end Go.Proofs.Ythfjihpfcollfaa.checkTable
