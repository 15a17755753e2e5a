/-
  The document's gaps and bounds of a table.
-/
import Derived.Test.YtdibdjllcdnhaaaTblM
import Derived.Test.YtdibdjllcdnhaaaTblD
import Derived.Test.YtdibdjllcdnhaaaBlk
import Derived.BigQuiet
import Derived.Deep.RegionHeld3
import Derived.Deep.DeepCutAuto
import Derived.Deep.CutBlock
namespace Go.Proofs.Ytdibdjllcdnhaaa
open Go.RowKit
set_option linter.unusedVariables false

section
variable {w : World} {sa ra ta : Option Addr} {sn sc rn rc tc N : Nat} {t : List (List Int × Value)}

set_option maxHeartbeats 4000000 in
set_option maxRecDepth 100000 in
theorem mhas_any (h : TabR w (.slice ta N tc) t) (hN : t.length = N) (hL : 1 ≤ N) (r now : Int) (hn : -9223372036854775808 ≤ now ∧ now ≤ 9223372036854775807) (hm : ∀ l ∈ t, l.1.length ≤ 100000) (i0 i1 i2 i3 i4 i5 i6 : Int) (b : Bool) :
    Calls Try.prog 21 #[.agg #[.slice sa sn sc, .slice ra rn rc, .slice ta N tc, .int .i64 i0, .int .i64 i1, .int .i64 i2, .int .i64 i3, .int .i64 i4, .int .i64 i5, .bool b, .int .i64 i6], .int .i64 r, .int .i64 now] w fun e w' => e = .returned (.bool (decide (r ∈ slotD (t.map (·.1)) now))) ∧ Keeps No w w' := by
  obtain ⟨W1, hW1⟩ : ∃ W1, w.alloc (.cells #[.slice sa sn sc, .slice ra rn rc, .slice ta N tc, .int .i64 i0, .int .i64 i1, .int .i64 i2, .int .i64 i3, .int .i64 i4, .int .i64 i5, .bool b, .int .i64 i6] 33) = W1 := ⟨_, rfl⟩
  have k1 : Keeps No w W1 := by rw [← hW1]; exact (Keeps.refl _ _).alloc _
  have HBK : Hid (Bk W1 w.heap.size 33 [.slice sa sn sc, .slice ra rn rc, .slice ta N tc, .int .i64 i0, .int .i64 i1, .int .i64 i2, .int .i64 i3, .int .i64 i4, .int .i64 i5, .bool b, .int .i64 i6]) := hid (by rw [← hW1]; exact Bk.new rfl _ _)
  have K1 := hid k1
  have HW1 := hid hW1
  have HT := hid (h.calm k1)
  have HM := hid hm
  have HNN := hid hN
  have hs := fun x => mslot_any (sa := sa) (ra := ra) (sn := sn) (sc := sc) (rn := rn) (rc := rc) (tc := tc) (show TabR W1 (.slice ta t.length tc) t by rw [hN]; exact HT.out) (by omega) now hn hm i0 i1 i2 i3 i4 i5 i6 x
  have hs2 := hs b
  unfold cfgV at hs2
  rw [hN] at hs2
  have HSL := hid hs2
  obtain ⟨sl, hsl⟩ : ∃ q, slotD (t.map (·.1)) now = q := ⟨_, rfl⟩
  rw [hsl] at HSL ⊢
  have hml : sl.length ≤ 100000 := by
    rw [← hsl]; unfold slotD; split
    · simp
    · rw [List.getD_eq_getElem?_getD]
      cases hg : (t.map (·.1))[((now - 1) % (t.map (·.1)).length).toNat]? with
      | none => simp
      | some q =>
        obtain ⟨p, hp, rfl⟩ := List.mem_map.1 (List.mem_of_getElem? hg)
        exact hm p hp
  clear hs hs2 k1 hW1 h hm hsl
  have x0 := HBK.out.cell 0 rfl
  have x1 := HBK.out.cell 1 rfl
  have x2 := HBK.out.cell 2 rfl
  have x3 := HBK.out.cell 3 rfl
  have x4 := HBK.out.cell 4 rfl
  have x5 := HBK.out.cell 5 rfl
  have x6 := HBK.out.cell 6 rfl
  have x7 := HBK.out.cell 7 rfl
  have x8 := HBK.out.cell 8 rfl
  have x9 := HBK.out.cell 9 rfl
  have x10 := HBK.out.cell 10 rfl
  go_enter Try.func21, Try.ntmps21
  go_upto_region 1 with fail
  rw [HW1.out]
  go_wp2_with fail
  refine HSL.out.mono ?_
  rintro e w2 ⟨v, rfl, hv, k2⟩
  obtain ⟨va, vc, rfl⟩ := hv.any
  have HV := hid hv
  have K2 := hid (K1.out.trans k2)
  clear hv k2 HSL x0 x1 x2 x3 x4 x5 x6 x7 x8 x9 x10
  go_wp2_with fail
  go_loopw [8] (fun v8 wr => ∃ i : Nat, i ≤ sl.length ∧ v8 = .int .i64 i ∧ Hid (r ∉ sl.take i) ∧ Hid (Keeps No w2 wr)) (fun v8 _ => sl.length - (intOf v8).toNat)
  case atStart => exact ⟨0, Nat.zero_le _, rfl, hid (by simp), hid (Keeps.refl _ _)⟩
  case round =>
    obtain ⟨i, hi, rfl, HQ, HK⟩ := hrel
    by_cases hlt : i < sl.length
    · obtain ⟨g, off, rfl, _, hc⟩ := SlI.cellAt HV.out hlt
      have c0 := HK.out.cell (fun h => h) hc
      obtain ⟨y, hy⟩ : ∃ y, sl[i] = y := ⟨_, rfl⟩
      rw [hy] at c0
      have HY : Hid (sl.take (i + 1) = sl.take i ++ [y]) := hid (by rw [List.take_succ_eq_append_getElem hlt, hy])
      have HM2 : Hid (y ∈ sl) := hid (by rw [← hy]; exact List.getElem_mem hlt)
      clear hc hy
      by_cases he : y = r
      · subst he
        have HD : Hid (decide (y ∈ sl) = true) := hid (decide_eq_true HM2.out)
        go_wp2_with fail
        go_ret
        exact ⟨by rw [HD.out]; rfl, K2.out.trans HK.out⟩
      · have q1 : (y == r) = false := by simpa using he
        have q2 : decide (y = r) = false := decide_eq_false he
        have HE := hid he
        clear he
        go_wp2_with fail
        go_roundw
        case rel => exact ⟨i + 1, by omega, by go_num, hid (by rw [HY.out]; simp only [List.mem_append, List.mem_singleton]; exact fun h => h.elim HQ.out (fun e => HE.out e.symm)), HK⟩
        case measure => simp [intOf]; omega
    · obtain rfl : i = sl.length := by omega
      have HD : Hid (decide (r ∈ sl) = false) := hid (decide_eq_false (by have := HQ.out; rwa [List.take_length] at this))
      go_wp2_with fail
      go_ret
      exact ⟨by rw [HD.out]; rfl, K2.out.trans HK.out⟩

theorem gapF_succ_no {h : Nat → Bool} {n : Nat} (hh : h (n + 1) = false) : gapF h (n + 1) = gapF h n := by simp [gapF, hh]
theorem gapF_succ_yes {h : Nat → Bool} {n : Nat} (hh : h (n + 1) = true) : gapF h (n + 1) = (if 0 < (gapF h n).2 ∧ (gapF h n).1 < n + 1 - (gapF h n).2 then n + 1 - (gapF h n).2 else (gapF h n).1, n + 1) := by simp [gapF, hh]

set_option maxHeartbeats 8000000 in
set_option maxRecDepth 100000 in
theorem mgap_any (h : TabR w (.slice ta N tc) t) (hN : t.length = N) (hL : 1 ≤ N ∧ N ≤ 64) (hm : ∀ l ∈ t, l.1.length ≤ 100000) (r : Int) (i0 i1 i2 i3 i4 i5 i6 : Int) (b : Bool) :
    Calls Try.prog 8 #[.agg #[.slice sa sn sc, .slice ra rn rc, .slice ta N tc, .int .i64 i0, .int .i64 i1, .int .i64 i2, .int .i64 i3, .int .i64 i4, .int .i64 i5, .bool b, .int .i64 i6], .int .i64 r] w fun e w' => e = .returned (.int .i64 (gapD (t.map (·.1)) r)) ∧ Keeps No w w' := by
  obtain ⟨W1, hW1⟩ : ∃ W1, w.alloc (.cells #[.slice sa sn sc, .slice ra rn rc, .slice ta N tc, .int .i64 i0, .int .i64 i1, .int .i64 i2, .int .i64 i3, .int .i64 i4, .int .i64 i5, .bool b, .int .i64 i6] 33) = W1 := ⟨_, rfl⟩
  have k1 : Keeps No w W1 := by rw [← hW1]; exact (Keeps.refl _ _).alloc _
  have HBK : Hid (Bk W1 w.heap.size 33 [.slice sa sn sc, .slice ra rn rc, .slice ta N tc, .int .i64 i0, .int .i64 i1, .int .i64 i2, .int .i64 i3, .int .i64 i4, .int .i64 i5, .bool b, .int .i64 i6]) := hid (by rw [← hW1]; exact Bk.new rfl _ _)
  have K1 := hid k1
  have HW1 := hid hW1
  have HT := hid (h.calm k1)
  have HM := hid hm
  have HNN := hid hN
  obtain ⟨L1, L2⟩ := hL
  obtain ⟨f, hf⟩ : ∃ f, hasD (t.map (·.1)) r = f := ⟨_, rfl⟩
  have HF : Hid (∀ n : Nat, decide (r ∈ slotD (t.map (·.1)) (n : Int)) = f n) := hid (fun n => by rw [← hf]; unfold hasD; simp)
  have HG : Hid (gapD (t.map (·.1)) r = (gapF f (2 * N)).1) := hid (by unfold gapD; rw [hf, List.length_map, hN])
  rw [HG.out]
  clear k1 hW1 h hm hf hN
  obtain ⟨wb, hwb⟩ : ∃ q, w.heap.size = q := ⟨_, rfl⟩
  rw [hwb] at HBK
  have HWB := hid hwb
  clear hwb
  have x0 := HBK.out.cell 0 rfl
  have x1 := HBK.out.cell 1 rfl
  have x2 := HBK.out.cell 2 rfl
  have x3 := HBK.out.cell 3 rfl
  have x4 := HBK.out.cell 4 rfl
  have x5 := HBK.out.cell 5 rfl
  have x6 := HBK.out.cell 6 rfl
  have x7 := HBK.out.cell 7 rfl
  have x8 := HBK.out.cell 8 rfl
  have x9 := HBK.out.cell 9 rfl
  have x10 := HBK.out.cell 10 rfl
  go_enter Try.func8, Try.ntmps8
  go_upto_region 1 with fail
  rw [HW1.out, HWB.out]
  clear x0 x1 x2 x3 x4 x5 x6 x7 x8 x9 x10 HW1 HWB
  go_wp2_with fail
  go_loopw [5, 6, 7] (fun v5 v6 v7 wr => ∃ (n m l : Nat), n ≤ 2 * N ∧ m ≤ n ∧ l ≤ n ∧ v7 = .int .i64 ((n : Int) + 1) ∧ v5 = .int .i64 m ∧ v6 = .int .i64 l ∧ Hid (gapF f n = (m, l)) ∧ Hid (Keeps No W1 wr)) (fun _ _ v7 _ => 2 * N + 1 - (intOf v7).toNat)
  case atStart => exact ⟨0, 0, 0, Nat.zero_le _, Nat.le_refl _, Nat.le_refl _, rfl, rfl, rfl, hid rfl, hid (Keeps.refl _ _)⟩
  case round =>
    obtain ⟨n, m, l, hn, hmn, hln, rfl, rfl, rfl, HGF, HK⟩ := hrel
    have HB := hid (HBK.out.kept HK.out)
    have x0 := HB.out.cell 0 rfl
    have x1 := HB.out.cell 1 rfl
    have x2 := HB.out.cell 2 rfl
    have x3 := HB.out.cell 3 rfl
    have x4 := HB.out.cell 4 rfl
    have x5 := HB.out.cell 5 rfl
    have x6 := HB.out.cell 6 rfl
    have x7 := HB.out.cell 7 rfl
    have x8 := HB.out.cell 8 rfl
    have x9 := HB.out.cell 9 rfl
    have x10 := HB.out.cell 10 rfl
    by_cases hlt : n < 2 * N
    · have hd : decide ((n : Int) + 1 ≤ 2 * (N : Int)) = true := decide_eq_true (by omega)
      have HH1 := hid (mhas_any (sa := sa) (ra := ra) (sn := sn) (sc := sc) (rn := rn) (rc := rc) (tc := tc) (HT.out.calm HK.out) HNN.out L1 r ((n : Int) + 1) ⟨by omega, by omega⟩ HM.out i0 i1 i2 i3 i4 i5 i6 b)
      have hfn : decide (r ∈ slotD (t.map (·.1)) ((n : Int) + 1)) = f (n + 1) := by have := HF.out (n + 1); push_cast at this; exact this
      rw [hfn] at HH1
      clear hfn
      cases hh : f (n + 1)
      · rw [hh] at HH1
        have HS := hid ((gapF_succ_no hh).trans HGF.out)
        clear hh
        go_wp2_with fail
        refine HH1.out.mono ?_
        rintro e w3 ⟨rfl, k3⟩
        have K3 := hid (HK.out.trans k3)
        clear k3 HH1 HK HB x0 x1 x2 x3 x4 x5 x6 x7 x8 x9 x10
        go_wp2_with fail
        go_roundw
        case rel => exact ⟨n + 1, m, l, by omega, by omega, by omega, by go_num, rfl, rfl, HS, K3⟩
        case measure => simp [intOf]; omega
      · rw [hh] at HH1
        have hs := gapF_succ_yes hh
        rw [HGF.out] at hs
        dsimp only at hs
        have HS := hid hs
        clear hh hs
        go_wp2_with fail
        refine HH1.out.mono ?_
        rintro e w3 ⟨rfl, k3⟩
        have K3 := hid (HK.out.trans k3)
        clear k3 HH1 HK HB x0 x1 x2 x3 x4 x5 x6 x7 x8 x9 x10
        by_cases hl0 : 0 < l
        · have q1 : decide ((l : Int) > 0) = true := decide_eq_true (by omega)
          by_cases hg : m < n + 1 - l
          · have q2 : decide ((n : Int) + 1 - (l : Int) > (m : Int)) = true := decide_eq_true (by omega)
            have HS2 : Hid (gapF f (n + 1) = (n + 1 - l, n + 1)) := hid (by rw [HS.out, if_pos ⟨hl0, hg⟩])
            go_wp2_with fail
            go_roundw
            case rel => exact ⟨n + 1, n + 1 - l, n + 1, by omega, by omega, by omega, by go_num, by go_num, by go_num, HS2, K3⟩
            case measure => simp [intOf]; omega
          · have q2 : decide ((n : Int) + 1 - (l : Int) > (m : Int)) = false := decide_eq_false (by omega)
            have HS2 : Hid (gapF f (n + 1) = (m, n + 1)) := hid (by rw [HS.out, if_neg (fun e => hg e.2)])
            go_wp2_with fail
            go_roundw
            case rel => exact ⟨n + 1, m, n + 1, by omega, by omega, by omega, by go_num, rfl, by go_num, HS2, K3⟩
            case measure => simp [intOf]; omega
        · have q1 : decide ((l : Int) > 0) = false := decide_eq_false (by omega)
          have HS2 : Hid (gapF f (n + 1) = (m, n + 1)) := hid (by rw [HS.out, if_neg (fun e => hl0 e.1)])
          go_wp2_with fail
          go_roundw
          case rel => exact ⟨n + 1, m, n + 1, by omega, by omega, by omega, by go_num, rfl, by go_num, HS2, K3⟩
          case measure => simp [intOf]; omega
    · have hd : decide ((n : Int) + 1 ≤ 2 * (N : Int)) = false := decide_eq_false (by omega)
      obtain rfl : n = 2 * N := by omega
      have HE : Hid ((gapF f (2 * N)).1 = m) := hid (by rw [HGF.out])
      clear hlt
      go_wp2_with fail
      go_ret
      exact ⟨by rw [HE.out]; rfl, K1.out.trans HK.out⟩

set_option maxHeartbeats 4000000 in
set_option maxRecDepth 100000 in
theorem mwait_any (w : World) (hn : rn ≤ 64) (hL : N ≤ 64) (i0 i1 i2 i3 i4 i5 i6 : Int) (b : Bool) :
    Calls Try.prog 14 #[.agg #[.slice sa sn sc, .slice ra rn rc, .slice ta N tc, .int .i64 i0, .int .i64 i1, .int .i64 i2, .int .i64 i3, .int .i64 i4, .int .i64 i5, .bool b, .int .i64 i6]] w fun e w' => e = .returned (.int .i64 (waitD rn N)) ∧ Keeps No w w' := by
  obtain ⟨W1, hW1⟩ : ∃ W1, w.alloc (.cells #[.slice sa sn sc, .slice ra rn rc, .slice ta N tc, .int .i64 i0, .int .i64 i1, .int .i64 i2, .int .i64 i3, .int .i64 i4, .int .i64 i5, .bool b, .int .i64 i6] 33) = W1 := ⟨_, rfl⟩
  have k1 : Keeps No w W1 := by rw [← hW1]; exact (Keeps.refl _ _).alloc _
  have HBK : Hid (Bk W1 w.heap.size 33 [.slice sa sn sc, .slice ra rn rc, .slice ta N tc, .int .i64 i0, .int .i64 i1, .int .i64 i2, .int .i64 i3, .int .i64 i4, .int .i64 i5, .bool b, .int .i64 i6]) := hid (by rw [← hW1]; exact Bk.new rfl _ _)
  have K1 := hid k1
  have HW1 := hid hW1
  clear k1 hW1
  obtain ⟨wb, hwb⟩ : ∃ q, w.heap.size = q := ⟨_, rfl⟩
  rw [hwb] at HBK
  have HWB := hid hwb
  clear hwb
  have x0 := HBK.out.cell 0 rfl
  have x1 := HBK.out.cell 1 rfl
  have x2 := HBK.out.cell 2 rfl
  have x3 := HBK.out.cell 3 rfl
  have x4 := HBK.out.cell 4 rfl
  have x5 := HBK.out.cell 5 rfl
  have x6 := HBK.out.cell 6 rfl
  have x7 := HBK.out.cell 7 rfl
  have x8 := HBK.out.cell 8 rfl
  have x9 := HBK.out.cell 9 rfl
  have x10 := HBK.out.cell 10 rfl
  go_enter Try.func14, Try.ntmps14
  go_upto_region 1 with fail
  rw [HW1.out, HWB.out]
  clear HW1 HWB
  go_wp2_with fail
  clear x0 x1 x2 x3 x4 x5 x6 x7 x8 x9 x10
  go_loopw [3, 4] (fun v3 v4 wr => ∃ (n : Nat) (s : Int), n ≤ rn + 1 ∧ 0 ≤ s ∧ s ≤ 10000 ∧ v4 = .int .i64 n ∧ v3 = .int .i64 s ∧ Hid (s = (n : Int) * N) ∧ Hid (Keeps No W1 wr)) (fun _ v4 _ => rn + 1 - (intOf v4).toNat)
  case atStart => exact ⟨0, 0, Nat.zero_le _, by omega, by omega, rfl, rfl, hid (by simp), hid (Keeps.refl _ _)⟩
  case round =>
    obtain ⟨n, s, hnr, hs0, hs1, rfl, rfl, HE, HK⟩ := hrel
    have HB := hid (HBK.out.kept HK.out)
    have x0 := HB.out.cell 0 rfl
    have x1 := HB.out.cell 1 rfl
    have x2 := HB.out.cell 2 rfl
    have x3 := HB.out.cell 3 rfl
    have x4 := HB.out.cell 4 rfl
    have x5 := HB.out.cell 5 rfl
    have x6 := HB.out.cell 6 rfl
    have x7 := HB.out.cell 7 rfl
    have x8 := HB.out.cell 8 rfl
    have x9 := HB.out.cell 9 rfl
    have x10 := HB.out.cell 10 rfl
    by_cases hlt : n ≤ rn
    · have hd : decide ((n : Int) ≤ (rn : Int)) = true := decide_eq_true (by omega)
      have he : s + (N : Int) = ((n + 1 : Nat) : Int) * N := by rw [HE.out]; push_cast; rw [Int.add_mul]; omega
      have hle : s + (N : Int) ≤ 10000 := by
        rw [he]
        have h1 : ((n + 1 : Nat) : Int) * N ≤ 65 * 64 := Int.mul_le_mul (by omega) (by omega) (by omega) (by omega)
        omega
      have HE2 := hid he
      clear he
      go_wp2_with fail
      go_roundw
      case rel => exact ⟨n + 1, s + N, by omega, by omega, hle, by go_num, by first | rfl | go_num, HE2, HK⟩
      case measure => simp [intOf]; omega
    · have hd : decide ((n : Int) ≤ (rn : Int)) = false := decide_eq_false (by omega)
      have HE2 : Hid (waitD rn N = s) := hid (by obtain rfl : n = rn + 1 := by omega
                                                 rw [HE.out]; unfold waitD; push_cast; rfl)
      go_wp2_with fail
      go_ret
      exact ⟨by rw [HE2.out]; rfl, K1.out.trans HK.out⟩
end

end Go.Proofs.Ytdibdjllcdnhaaa
