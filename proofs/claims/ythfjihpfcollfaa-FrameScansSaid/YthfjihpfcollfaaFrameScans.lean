/- Of any stream, spoilt anywhere, the same frames are told as the document tells, as many bytes are lost, as many wait. No conditions. -/
import Derived.Test.YthfjihpfcollfaaRows
import Derived.Test.YthfjihpfcollfaaArgs
import Derived.Test.YthfjihpfcollfaaFr11
import Derived.ProofKit
import Derived.OpenShut
namespace Go.Proofs.Ythfjihpfcollfaa.frameScans
open Go.ChangeShapes Go.WideShapes Go.ChangeAt Go.RowKit
open Go.ChangeMaps (open_string shut_string)
set_option linter.unusedVariables false

set_option maxHeartbeats 8000000 in
set_option maxRecDepth 100000 in
theorem walk (w : World) (s : Option Addr) (cap : Nat) (l : List Prt) (hs : Sl w 4 (.slice s l.length cap) l.length (l.flatMap encP)) (hg : ∀ y ∈ l, goodP w y) (s1 : Option Addr) (cap1 : Nat) (p1 : List Int) (hp1 : Sl w 1 (.slice s1 p1.length cap1) p1.length (p1.map (Value.int .u8))) (hb1 : ∀ n ∈ p1, (Lit.int .u8 n).wf = true) :
    Calls Try.prog 4 #[.slice s l.length cap, .slice s1 p1.length cap1] w fun e w' => e = .returned (.bool true) ∧ Below w.heap.size w w' := by
  have HS := hid hs
  have HG := hid hg
  have HP0 : Hid (SlB w (.slice s1 p1.length cap1) p1) := hid hp1
  have HB0 : Hid (Bytes p1) := hid (fun x hx => bounds_u8 (hb1 x hx))
  clear hs hg hp1 hb1
  by_cases hl : l.length ≤ 12
  · by_cases h200 : 200 < p1.length
    · have hd1 : decide ((p1.length : Int) > 200) = true := by simp; omega
      have hd2 : decide ((200 : Int) < (p1.length : Int)) = true := by simp; omega
      go_enter Try.func4, Try.ntmps4
      go_wp2_with fail
      refine (told_true _).mono ?_
      rintro e w1 ⟨rfl, k1⟩
      have K1 := hid k1
      clear k1
      go_wp2_with fail
      refine (few_yes hl).mono ?_
      rintro e w' ⟨rfl, rfl⟩
      go_wp2_with fail
      refine (told_true _).mono ?_
      rintro e w2 ⟨rfl, k2⟩
      have K2 := hid (K1.out.trans k2)
      clear k2
      go_wp2_with fail
      go_ret
      exact ⟨rfl, K2.out.toBelow⟩
    · have hd1 : decide ((p1.length : Int) > 200) = false := by simp; omega
      have hd2 : decide ((200 : Int) < (p1.length : Int)) = false := by simp; omega
      go_enter Try.func4, Try.ntmps4
      go_wp2_with fail
      refine (told_true _).mono ?_
      rintro e w1 ⟨rfl, k1⟩
      have K1 := hid k1
      clear k1
      go_wp2_with fail
      refine (few_yes hl).mono ?_
      rintro e w' ⟨rfl, rfl⟩
      go_wp2_with fail
      go_loopw [1, 5] (fun v1 v5 wr => ∃ (i : Nat) (p : List Int), i ≤ 2 ∧ v5 = .int .i64 i ∧ p.length ≤ 200 + 444 * i ∧ Hid (SlB wr v1 p) ∧ Hid (Bytes p) ∧ Hid (Keeps No w wr)) (fun _ v5 _ => 2 - (intOf v5).toNat)
      case atStart => exact ⟨0, p1, by omega, rfl, by omega, hid (HP0.out.keep K1.out (fun _ _ h => h)), HB0, K1⟩
      case round =>
        obtain ⟨i, p, hi, rfl, hpl, HX, HB, HK⟩ := hrel
        obtain ⟨a1, c1, rfl⟩ := HX.out.any
        by_cases hlt : i < 2
        · have hi2 : decide ((i : Int) < 2) = true := by simp; omega
          go_wp2_with fail
          refine new_any.mono ?_
          rintro e w3 ⟨F, rfl, h3, k3, f3⟩
          have H3 := hid (OwnS.made HK.out h3 k3 f3)
          have K3 := hid k3
          have HF3 := hid f3
          clear h3 k3 f3
          go_wp2_with fail
          refine (all_any (HX.out.keep K3.out (fun _ _ h => h)) HB.out (by omega)).mono ?_
          rintro e w4 ⟨tv, vs, rfl, ho4, hr4, k4, n4, b4⟩
          obtain ⟨a4, c4, rfl⟩ := own_any ho4
          have hfeed := feed_any (H3.out.calm k4).sc (p := p) ((HX.out.keep K3.out (fun _ _ h => h)).keep k4 (fun _ _ h => h)) HB.out (by simp; omega) (by omega)
          rw [List.nil_append] at hfeed
          have H4 := hid (H3.out.calm k4)
          have hsb := lt_of_block H3.out.sc.choose_spec.blk
          have hF4 : ∀ k, (Value.slice a4 vs.length c4).ownBlock = some k → ¬ F k := fun k hk hF => by
            have h1 := (n4 k hk).1
            have h2 := HF3.out k hF
            omega
          have hv4 : ∀ u ∈ vs, ∀ k, u.ownBlock = some k → ¬ F k := fun u hu k hk hF => by
            have h1 := b4 u hu k hk
            have h2 := HF3.out k hF
            have h5 := hr4.len
            have h6 := List.length_pos_of_mem hu
            have h7 := scan_counts p
            have h8 := sizes_len (scan p).out
            have h9 := HX.out.lt (by omega) k h1
            omega
          have HF4 := hid hF4
          have HV4 := hid hv4
          have HO4 := hid ho4
          have HR4 := hid hr4
          have K4 := hid (K3.out.trans k4)
          have hvl := hr4.len
          obtain ⟨S, hS⟩ : ∃ S, scan p = S := ⟨_, rfl⟩
          rw [hS] at hfeed HR4 hvl ⊢
          have HFE := hid hfeed
          have HVL := hid hvl
          clear hfeed ho4 hr4 k4 n4 b4 hsb hF4 hv4 hS hvl
          go_wp2_with fail
          refine HFE.out.mono ?_
          rintro e w5 ⟨tu, rfl, hf⟩
          obtain ⟨us, F', hsc, hu, ho5, hr5, n5, m5, x5, y5, z5⟩ := H4.out.fed hf
          rw [Nat.zero_add] at hsc
          have ho4' := hu.keeps.own HO4.out HF4.out
          have hr4' := RdAll.keep hu.keeps HR4.out HV4.out
          have hul := hr5.len
          have hs5 := Sl.ofOwn ho5
          obtain ⟨a5, c5, rfl⟩ := own_any ho5
          have H5 := hid hsc
          have HS5 := hid hs5
          have HS4 := hid (Sl.ofOwn ho4')
          have HR4' := hid hr4'
          have HR5 := hid hr5
          have HX5 : Hid (SlB w5 (.slice a1 p.length c1) p) := hid (by
            by_cases h0 : p.length = 0
            · have := List.length_eq_zero_iff.1 h0
              subst this
              exact HX.out.keep' (K4.out.trans' hu.keeps (fun _ _ h => h.elim) (fun _ _ h => h)) (fun h => absurd h (by simp))
            · exact HX.out.keep' (K4.out.trans' hu.keeps (fun _ _ h => h.elim) (fun _ _ h => h)) (fun _ b _ hlt hF => by have := HF3.out b hF; omega))
          have HFEW := hid (hsc.keep)
          clear hf hsc hu ho5 hr5 n5 m5 x5 y5 z5 ho4' hr4' hs5 hul
          go_wp2_with fail
          refine (same_true HS5.out HS4.out HR5.out HR4'.out).mono ?_
          rintro e w6 ⟨rfl, k6⟩
          have H6 := hid (H5.out.calm k6)
          have HX6 := hid (HX5.out.keep k6 (fun _ _ h => h))
          clear k6
          go_wp2_with fail
          refine (lost_any H6.out.sc).mono ?_
          rintro e w' ⟨rfl, rfl⟩
          go_wp2_with fail
          refine (held_any H6.out.sc).mono ?_
          rintro e w' ⟨rfl, rfl⟩
          go_wp2_with fail
          refine (stream_any (HS.out.keep H6.out.keep (fun _ _ h => h)) (fun y hy => (HG.out y hy).keep H6.out.keep) hl).mono ?_
          rintro e w7 ⟨q, v7, rfl, HT⟩
          obtain ⟨a7, c7, rfl⟩ := own_any HT.out.own
          have hql := HT.out.len
          go_wp2_with fail
          refine (mjoin_any (HX6.out.keep HT.out.keep (fun _ _ h => h)) (Sl.ofOwn HT.out.own) (by omega)).mono ?_
          rintro e w8 ⟨v8, rfl, ho8, k8, f8⟩
          have hs8 : SlB w8 v8 (p ++ q) := by
            have := Sl.ofOwn ho8
            unfold SlB
            rw [List.length_append]
            exact this
          obtain ⟨R, hR⟩ : ∃ R, p ++ q = R := ⟨_, rfl⟩
          have hRl : R.length = p.length + q.length := by rw [← hR, List.length_append]
          have HRB : Hid (Bytes R) := hid (hR ▸ HB.out.append HT.out.byt)
          rw [hR] at hs8
          obtain ⟨a8, c8, rfl⟩ := hs8.any
          have HS8 := hid hs8
          have K8 := hid ((H6.out.keep.trans HT.out.keep).trans k8)
          have hRl2 : R.length ≤ 200 + 444 * (i + 1) := by omega
          clear hs8 ho8 k8 f8 hR hRl
          go_wp2_with fail
          go_roundw
          case rel => exact ⟨i + 1, R, by omega, by go_num, hRl2, HS8, HRB, K8⟩
          case measure => simp [intOf]; omega
        · have hi2 : decide ((i : Int) < 2) = false := by simp; omega
          go_wp2_with fail
          go_ret
          exact ⟨rfl, HK.out.toBelow⟩
  · go_enter Try.func4, Try.ntmps4
    go_wp2_with fail
    refine (told_true _).mono ?_
    rintro e w1 ⟨rfl, k1⟩
    have K1 := hid k1
    clear k1
    go_wp2_with fail
    refine (few_no hl).mono ?_
    rintro e w' ⟨rfl, rfl⟩
    go_wp2_with fail
    refine (told_true _).mono ?_
    rintro e w2 ⟨rfl, k2⟩
    have K2 := hid (K1.out.trans k2)
    clear k2
    go_wp2_with fail
    go_ret
    exact ⟨rfl, K2.out.toBelow⟩

theorem own : ownKnob Try.prog.godebug = none := by kernel_rfl
theorem laidOut : laidOutB Try.prog = true := by kernel_rfl
set_option maxRecDepth 100000 in
theorem lifted (os : Os) (started : os.Started) (H : Type) (enc : TypeId × Value → H) :
    ReturnsInHanded {} Try.checked os 4 .any (Rows.frameScansSpec.pre6 enc Try.prog Try.f4 Rows.frameScansRow.domain false) (Rows.frameScansSpec.post enc Try.prog Try.f4 false true false false) := by
  refine returnsInHanded_of_change (C := Try.checked) own started (by kernel_rfl) Try.func4
    (ChangeSpec.witness6 (enc := enc) (C := Try.checked) false ⟨#[], #[.slice none 0 0, .slice none 0 0], []⟩ 8 (by kernel_rfl) (by kernel_rfl) (by kernel_rfl) (by kernel_rfl)) ?_
  intro W base args ds gs before hval0 hW hcnd _
  have hval : ∀ (j : Nat) t v, Try.f4.params[j]? = some t → args[j]? = some v → Value.okWide Try.prog W .any base t v := hval0
  have hW' := hW
  obtain ⟨p, q, hA0, hV, rfl, hfz, hnd⟩ := hW
  have hA : DataW.TrodAll enc Try.prog W 0 (fun _ => true) true Try.f4.params.toList args.toList ds p := hA0
  rw [Try.params4] at hA hval
  obtain ⟨v0, vs0, d0, ds0, p0, q0, hargs, rfl, rfl, h0, r0⟩ := trodAll_cons hA
  obtain ⟨v1, vs1, d1, ds1, p1, q1, rfl, rfl, rfl, h1, r1⟩ := trodAll_cons r0
  obtain ⟨rfl, rfl, rfl⟩ := trodAll_nil r1
  obtain rfl : args = #[v0, v1] := by cases args; simp_all
  obtain ⟨rfl, rfl⟩ := trodVars_none hV
  have k0 := h0
  have lt0 : ∀ x ∈ p0, x.block < W.heap.size := by obtain ⟨m, hm⟩ := k0; exact DataW.trod_lt m _ _ _ hm
  have k1 := h1
  have lt1 : ∀ x ∈ p1, x.block < W.heap.size := by obtain ⟨m, hm⟩ := k1; exact DataW.trod_lt m _ _ _ hm
  obtain ⟨s0, len0, cap0, rfl⟩ := okWide_slice Try.underlying22 (hval 0 22 v0 rfl rfl)
  obtain ⟨l0, rfl, w0, b0⟩ := argSlice (encE := encP) (good := (goodP W)) (size := 4) (fun _ => rfl) (by decide) Try.underlying22 (by kernel_rfl) (fun n cs x hx => decP hx) h0
  obtain ⟨s1, len1, cap1, rfl⟩ := okWide_slice Try.underlying26 (hval 1 26 v1 rfl rfl)
  obtain ⟨l1, rfl, w1, b1⟩ := argInts .u8 Try.underlying26 Try.underlying5 (by kernel_rfl) h1
  clear hA0 hval0
  refine (walk W s0 cap0 l0 w0 b0 s1 cap1 l1 w1 b1).mono fun e W' ⟨he, bel⟩ => ?_
  subst he
  exact ⟨_, rfl, _, _, _, [], _, [], hW', trodAll_mk1 (shut_bool Try.underlying4 _), (trodAll_cons_mk (Below.trod laidOut (by kernel_rfl) (of_decide_eq_true (by kernel_rfl)) k0 bel lt0) (trodAll_cons_mk (Below.trod laidOut (by kernel_rfl) (of_decide_eq_true (by kernel_rfl)) k1 bel lt1) trodAll_mk0)), rfl, bel.frame _, fun h => by cases h⟩

theorem over : Rows.frameScansRow.holds Try.pinned (OpenSpec.ofChange Rows.frameScansSpec) :=
  OpenClaim.holds_of_wide 4 Try.f4 rfl rfl rfl rfl rfl rfl rfl ⟨rfl, rfl, rfl, rfl, rfl⟩ rfl rfl rfl rfl rfl (by kernel_rfl) Try.func4 (by kernel_rfl)
    (of_decide_eq_true (by kernel_rfl)) (by unfold Func.isWrapper; first | (rw [if_pos (by decide +kernel)]; kernel_rfl) | (rw [if_neg (by decide +kernel)]; exact ⟨rfl, rfl⟩))
    (fun os started H enc _ => lifted os started H enc)

theorem proved : Rows.FrameScansSaid := over
#print axioms proved
end Go.Proofs.Ythfjihpfcollfaa.frameScans
