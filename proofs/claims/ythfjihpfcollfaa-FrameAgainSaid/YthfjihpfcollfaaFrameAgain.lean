/- Behind any bytes the scanner finds again into frames: of fifty bytes of 0 and a frame the frame is told, and nothing waits. No conditions. -/
import Derived.Test.YthfjihpfcollfaaRows
import Derived.Test.YthfjihpfcollfaaArgs
import Derived.Test.YthfjihpfcollfaaFr12
import Derived.ProofKit
import Derived.OpenShut
namespace Go.Proofs.Ythfjihpfcollfaa.frameAgain
open Go.ChangeShapes Go.WideShapes Go.ChangeAt Go.RowKit
open Go.ChangeMaps (open_string shut_string)
set_option linter.unusedVariables false

set_option maxHeartbeats 8000000 in
set_option maxRecDepth 100000 in
theorem walk (w : World) (s0 : Option Addr) (cap0 : Nat) (p0 : List Int) (hp0 : Sl w 1 (.slice s0 p0.length cap0) p0.length (p0.map (Value.int .u8))) (hb0 : ∀ n ∈ p0, (Lit.int .u8 n).wf = true) (s1 : Option Addr) (cap1 : Nat) (p1 : List Int) (hp1 : Sl w 1 (.slice s1 p1.length cap1) p1.length (p1.map (Value.int .u8))) (hb1 : ∀ n ∈ p1, (Lit.int .u8 n).wf = true) :
    Calls Try.prog 6 #[.slice s0 p0.length cap0, .slice s1 p1.length cap1] w fun e w' => e = .returned (.bool true) ∧ Below w.heap.size w w' := by
  have HP0 : Hid (SlB w (.slice s0 p0.length cap0) p0) := hid hp0
  have HB0 : Hid (Bytes p0) := hid (fun x hx => bounds_u8 (hb0 x hx))
  have HP1 : Hid (SlB w (.slice s1 p1.length cap1) p1) := hid hp1
  have HB1 : Hid (Bytes p1) := hid (fun x hx => bounds_u8 (hb1 x hx))
  clear hp0 hb0 hp1 hb1
  by_cases h200 : 200 < p0.length
  · have hd1 : decide ((p0.length : Int) > 200) = true := by simp; omega
    have hd2 : decide ((200 : Int) < (p0.length : Int)) = true := by simp; omega
    go_enter Try.func6, Try.ntmps6
    go_wp2_with fail
    refine (told_true _).mono ?_
    rintro e w1 ⟨rfl, k1⟩
    have K1 := hid k1
    clear k1
    go_wp2_with fail
    refine (told_true _).mono ?_
    rintro e w2 ⟨rfl, k2⟩
    have K2 := hid (K1.out.trans k2)
    clear k2
    go_wp2_with fail
    go_ret
    exact ⟨rfl, K2.out.toBelow⟩
  · have hd1 : decide ((p0.length : Int) > 200) = false := by simp; omega
    have hd2 : decide ((200 : Int) < (p0.length : Int)) = false := by simp; omega
    by_cases h0 : p1.length = 0
    · have hd3 : ((p1.length : Int) == 0) = true := by simp [h0]
      clear h0
      go_enter Try.func6, Try.ntmps6
      go_wp2_with fail
      refine (told_true _).mono ?_
      rintro e w1 ⟨rfl, k1⟩
      have K1 := hid k1
      clear k1
      go_wp2_with fail
      refine (told_true _).mono ?_
      rintro e w2 ⟨rfl, k2⟩
      have K2 := hid (K1.out.trans k2)
      clear k2
      go_wp2_with fail
      go_ret
      exact ⟨rfl, K2.out.toBelow⟩
    · have hd3 : ((p1.length : Int) == 0) = false := by simp; intro h; exact h0 (by simp [h])
      by_cases h32 : 32 < p1.length
      · have hd4 : decide ((p1.length : Int) > 32) = true := by simp; omega
        have hd5 : decide ((32 : Int) < (p1.length : Int)) = true := by simp; omega
        go_enter Try.func6, Try.ntmps6
        go_wp2_with fail
        refine (told_true _).mono ?_
        rintro e w1 ⟨rfl, k1⟩
        have K1 := hid k1
        clear k1
        go_wp2_with fail
        refine (told_true _).mono ?_
        rintro e w2 ⟨rfl, k2⟩
        have K2 := hid (K1.out.trans k2)
        clear k2
        go_wp2_with fail
        go_ret
        exact ⟨rfl, K2.out.toBelow⟩
      · have hd4 : decide ((p1.length : Int) > 32) = false := by simp; omega
        have hd5 : decide ((32 : Int) < (p1.length : Int)) = false := by simp; omega
        obtain ⟨i0, hi, hz0, hz1, hz2⟩ := info_parts info_byte
        have HI := hid hi
        clear hi
        go_enter Try.func6, Try.ntmps6
        go_wp2_with fail
        refine (told_true _).mono ?_
        rintro e w1 ⟨rfl, k1⟩
        have K1 := hid k1
        clear k1
        go_wp2_with fail
        refine new_any.mono ?_
        rintro e w3 ⟨F, rfl, h3, k3, f3⟩
        have H3 := hid (OwnS.made K1.out h3 k3 f3)
        clear h3 k3 f3
        have hfeed := feed_any H3.out.sc (p := p0) (HP0.out.keep H3.out.keep (fun _ _ h => h)) HB0.out (by simp; omega) (by omega)
        rw [List.nil_append] at hfeed
        have HFE := hid hfeed
        clear hfeed
        go_wp2_with fail
        refine HFE.out.mono ?_
        rintro e w4 ⟨tv, rfl, hf⟩
        obtain ⟨vs, F', hsc, _, ho4, hr4, _⟩ := H3.out.fed hf
        obtain ⟨a4, c4, rfl⟩ := own_any ho4
        rw [Nat.zero_add] at hsc
        have hco := scan_counts p0
        have hrl := scan_rest_len p0
        obtain ⟨S, hS⟩ : ∃ S, scan p0 = S := ⟨_, rfl⟩
        rw [hS] at hsc hco hrl
        have H4 := hid hsc
        have hlo : S.lost ≤ 200 := by omega
        have hdv : decide ((vs.length : Int) ≥ 0) = true := by simp
        have hdv2 : decide (0 ≤ (vs.length : Int)) = true := by simp
        clear hf hsc ho4 hr4 hco hS HFE
        obtain ⟨Z, hZ, hmk⟩ := make50
        have hz50 : Z.size = 50 := by have := congrArg List.length hZ; simpa using this
        have HZ : Hid (SlB (w4.alloc (.cells Z 5)) (.slice (some ⟨w4.heap.size, 0, none⟩) 50 50) (List.replicate 50 0)) := hid (by
          have := Sl.new w4 Z 5 1 50 (by omega) (by decide)
          rw [hZ] at this
          exact this)
        clear hZ hz50
        have K4 : Hid (Keeps No w (w4.alloc (.cells Z 5))) := hid (H4.out.keep.alloc _)
        go_wp2_with fail
        refine (mframe_any (HP1.out.keep K4.out (fun _ _ h => h)) HB1.out (by omega)).mono ?_
        rintro e w5 ⟨v5, rfl, ho5, k5, _⟩
        obtain ⟨a5, c5, rfl⟩ := own_any ho5
        have hs5 := Sl.ofOwn ho5
        have HS5 : Hid (SlB w5 (.slice a5 (frm p1).length c5) (frm p1)) := hid hs5
        have H5 := hid (H4.out.calm (((Keeps.refl No w4).alloc (.cells Z 5)).trans k5))
        have HZ5 := hid (HZ.out.keep k5 (fun _ _ h => h))
        have hfl := frm_len p1
        have hfb := frm_bytes HB1.out (by omega)
        have hag := scan_again p1 (by omega) (by omega) S.rest.length S.rest 50 (Nat.le_refl _) (by omega)
        have HHB : Hid (Bytes (List.replicate 50 (0 : Int) ++ frm p1)) := hid ((show Bytes (List.replicate 50 (0 : Int)) from fun x hx => by rw [List.eq_of_mem_replicate hx]; omega).append hfb)
        obtain ⟨X, hX⟩ : ∃ X, frm p1 = X := ⟨_, rfl⟩
        rw [hX] at HS5 hfl hag HHB ⊢
        obtain ⟨ZL, hZL⟩ : ∃ ZL, List.replicate 50 (0 : Int) = ZL := ⟨_, rfl⟩
        have hZLl : ZL.length = 50 := by rw [← hZL]; simp
        rw [hZL] at hag HHB HZ5
        clear HZ hZL
        have HAG := hid hag
        have HZL := hid hZLl
        have HFL := hid hfl
        clear hZLl hfl
        clear ho5 hs5 k5 hfb hX hag K4
        go_wp2_with fail
        refine (mjoin_any HZ5.out HS5.out (by have := HZL.out; have := HFL.out; omega)).mono ?_
        rintro e w6 ⟨v6, rfl, ho6, k6, _⟩
        have hs6 : SlB w6 v6 (ZL ++ X) := by
          have := Sl.ofOwn ho6
          unfold SlB
          rw [List.length_append]
          exact this
        have H6 := hid (H5.out.calm k6)
        obtain ⟨R, hR⟩ : ∃ R, ZL ++ X = R := ⟨_, rfl⟩
        have hRl : R.length = 50 + X.length := by rw [← hR, List.length_append, HZL.out]
        rw [hR] at hs6 HHB HAG
        obtain ⟨a6, c6, rfl⟩ := hs6.any
        have hfeed := feed_any H6.out.sc (p := R) hs6 HHB.out (by have := HFL.out; omega) (by omega)
        have HFE := hid hfeed
        clear ho6 hs6 k6 hfeed hR hRl
        go_wp2_with fail
        refine HFE.out.mono ?_
        rintro e w7 ⟨tv, rfl, hf⟩
        obtain ⟨us, F', hsc, _, ho7, hr7, _⟩ := H6.out.fed hf
        obtain ⟨⟨pre, hpre⟩, hrest⟩ := HAG.out
        have hs7 := Sl.ofOwn ho7
        rw [hpre] at hr7
        have hul := hr7.len
        rw [List.length_append, List.length_singleton] at hul
        obtain ⟨u, hu1, hu2⟩ := hr7.at pre.length (by simp)
        rw [List.getElem_append_right (Nat.le_refl _)] at hu2
        simp only [Nat.sub_self, List.getElem_singleton] at hu2
        rw [hul] at hs7
        obtain ⟨a7, c7, rfl⟩ := hs7.any
        obtain ⟨au, cu, rfl⟩ := hu2.any
        obtain ⟨g, off, rfl, _, c0⟩ := Sl.cellAt hs7 hu1
        rw [hrest] at hsc
        have H7 := hid hsc
        have HU := hid hu2
        have hM := hs7.2.1
        unfold maxLen at hM
        obtain ⟨M, hMM⟩ : ∃ M, pre.length = M := ⟨_, rfl⟩
        rw [hMM] at c0 hM ⊢
        have hd8 : decide (((M + 1 : Nat) : Int) > 0) = true := decide_eq_true (by omega)
        have hd9 : decide ((0 : Int) < (M : Int) + 1) = true := decide_eq_true (by omega)
        have hK7 : Hid (Keeps No w w7) := hid hsc.keep
        clear hf hsc ho7 hr7 hul hu1 hu2 hs7 hpre hrest hMM HFE HAG
        go_wp2_with fail
        refine (mbytes_true (l := p1) HU.out (HP1.out.keep hK7.out (fun _ _ h => h))).mono ?_
        rintro e w8 ⟨rfl, k8⟩
        have H8 := hid (H7.out.calm k8)
        clear k8
        go_wp2_with fail
        refine (held_any H8.out.sc).mono ?_
        rintro e w' ⟨rfl, rfl⟩
        go_wp2_with fail
        go_ret
        exact ⟨rfl, H8.out.keep.toBelow⟩

theorem own : ownKnob Try.prog.godebug = none := by kernel_rfl
theorem laidOut : laidOutB Try.prog = true := by kernel_rfl
set_option maxRecDepth 100000 in
theorem lifted (os : Os) (started : os.Started) (H : Type) (enc : TypeId × Value → H) :
    ReturnsInHanded {} Try.checked os 6 .any (Rows.frameAgainSpec.pre6 enc Try.prog Try.f6 Rows.frameAgainRow.domain false) (Rows.frameAgainSpec.post enc Try.prog Try.f6 false true false false) := by
  refine returnsInHanded_of_change (C := Try.checked) own started (by kernel_rfl) Try.func6
    (ChangeSpec.witness6 (enc := enc) (C := Try.checked) false ⟨#[], #[.slice none 0 0, .slice none 0 0], []⟩ 8 (by kernel_rfl) (by kernel_rfl) (by kernel_rfl) (by kernel_rfl)) ?_
  intro W base args ds gs before hval0 hW hcnd _
  have hval : ∀ (j : Nat) t v, Try.f6.params[j]? = some t → args[j]? = some v → Value.okWide Try.prog W .any base t v := hval0
  have hW' := hW
  obtain ⟨p, q, hA0, hV, rfl, hfz, hnd⟩ := hW
  have hA : DataW.TrodAll enc Try.prog W 0 (fun _ => true) true Try.f6.params.toList args.toList ds p := hA0
  rw [Try.params6] at hA hval
  obtain ⟨v0, vs0, d0, ds0, p0, q0, hargs, rfl, rfl, h0, r0⟩ := trodAll_cons hA
  obtain ⟨v1, vs1, d1, ds1, p1, q1, rfl, rfl, rfl, h1, r1⟩ := trodAll_cons r0
  obtain ⟨rfl, rfl, rfl⟩ := trodAll_nil r1
  obtain rfl : args = #[v0, v1] := by cases args; simp_all
  obtain ⟨rfl, rfl⟩ := trodVars_none hV
  have k0 := h0
  have lt0 : ∀ x ∈ p0, x.block < W.heap.size := by obtain ⟨m, hm⟩ := k0; exact DataW.trod_lt m _ _ _ hm
  have k1 := h1
  have lt1 : ∀ x ∈ p1, x.block < W.heap.size := by obtain ⟨m, hm⟩ := k1; exact DataW.trod_lt m _ _ _ hm
  obtain ⟨s0, len0, cap0, rfl⟩ := okWide_slice Try.underlying26 (hval 0 26 v0 rfl rfl)
  obtain ⟨l0, rfl, w0, b0⟩ := argInts .u8 Try.underlying26 Try.underlying5 (by kernel_rfl) h0
  obtain ⟨s1, len1, cap1, rfl⟩ := okWide_slice Try.underlying26 (hval 1 26 v1 rfl rfl)
  obtain ⟨l1, rfl, w1, b1⟩ := argInts .u8 Try.underlying26 Try.underlying5 (by kernel_rfl) h1
  clear hA0 hval0
  refine (walk W s0 cap0 l0 w0 b0 s1 cap1 l1 w1 b1).mono fun e W' ⟨he, bel⟩ => ?_
  subst he
  exact ⟨_, rfl, _, _, _, [], _, [], hW', trodAll_mk1 (shut_bool Try.underlying4 _), (trodAll_cons_mk (Below.trod laidOut (by kernel_rfl) (of_decide_eq_true (by kernel_rfl)) k0 bel lt0) (trodAll_cons_mk (Below.trod laidOut (by kernel_rfl) (of_decide_eq_true (by kernel_rfl)) k1 bel lt1) trodAll_mk0)), rfl, bel.frame _, fun h => by cases h⟩

theorem over : Rows.frameAgainRow.holds Try.pinned (OpenSpec.ofChange Rows.frameAgainSpec) :=
  OpenClaim.holds_of_wide 6 Try.f6 rfl rfl rfl rfl rfl rfl rfl ⟨rfl, rfl, rfl, rfl, rfl⟩ rfl rfl rfl rfl rfl (by kernel_rfl) Try.func6 (by kernel_rfl)
    (of_decide_eq_true (by kernel_rfl)) (by unfold Func.isWrapper; first | (rw [if_pos (by decide +kernel)]; kernel_rfl) | (rw [if_neg (by decide +kernel)]; exact ⟨rfl, rfl⟩))
    (fun os started H enc _ => lifted os started H enc)

theorem proved : Rows.FrameAgainSaid := over
#print axioms proved
end Go.Proofs.Ythfjihpfcollfaa.frameAgain
