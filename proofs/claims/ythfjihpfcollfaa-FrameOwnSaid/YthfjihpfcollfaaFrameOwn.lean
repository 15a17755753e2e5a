/- What was fed to a scanner, and what it told, may be written over; a nil scanner tells nothing. No conditions. -/
import Derived.Test.YthfjihpfcollfaaRows
import Derived.Test.YthfjihpfcollfaaArgs
import Derived.Test.YthfjihpfcollfaaFr14
import Derived.ProofKit
import Derived.OpenShut
namespace Go.Proofs.Ythfjihpfcollfaa.frameOwn
open Go.ChangeShapes Go.WideShapes Go.ChangeAt Go.RowKit
open Go.ChangeMaps (open_string shut_string)
set_option linter.unusedVariables false

set_option maxHeartbeats 8000000 in
set_option maxRecDepth 100000 in
theorem walk (w : World) (s0 : Option Addr) (cap0 : Nat) (p0 : List Int) (hp0 : Sl w 1 (.slice s0 p0.length cap0) p0.length (p0.map (Value.int .u8))) (hb0 : ∀ n ∈ p0, (Lit.int .u8 n).wf = true) (b : Int) (wb : (Lit.int .u8 b).wf = true) :
    Calls Try.prog 8 #[.slice s0 p0.length cap0, .int .u8 b] w fun e w' => e = .returned (.bool true) ∧ Below w.heap.size w w' := by
  have HP0 : Hid (SlB w (.slice s0 p0.length cap0) p0) := hid hp0
  have HB0 : Hid (Bytes p0) := hid (fun x hx => bounds_u8 (hb0 x hx))
  clear hp0 hb0
  by_cases h0 : p0.length = 0
  · have hd3 : ((p0.length : Int) == 0) = true := by simp [h0]
    clear h0
    go_enter Try.func8, Try.ntmps8
    go_wp2_with fail
    refine (told_true _).mono ?_
    rintro e w1 ⟨rfl, k1⟩
    have K1 := hid k1
    clear k1
    go_wp2_with fail
    refine (told_true _).mono ?_
    rintro e w2 ⟨rfl, k2⟩
    have K2 := hid (K1.out.trans k2)
    clear k2
    go_wp2_with fail
    go_ret
    exact ⟨rfl, K2.out.toBelow⟩
  · have hd3 : ((p0.length : Int) == 0) = false := by simp; intro h; exact h0 (by simp [h])
    by_cases h32 : 32 < p0.length
    · have hd4 : decide ((p0.length : Int) > 32) = true := decide_eq_true (by omega)
      have hd5 : decide ((32 : Int) < (p0.length : Int)) = true := decide_eq_true (by omega)
      go_enter Try.func8, Try.ntmps8
      go_wp2_with fail
      refine (told_true _).mono ?_
      rintro e w1 ⟨rfl, k1⟩
      have K1 := hid k1
      clear k1
      go_wp2_with fail
      refine (told_true _).mono ?_
      rintro e w2 ⟨rfl, k2⟩
      have K2 := hid (K1.out.trans k2)
      clear k2
      go_wp2_with fail
      go_ret
      exact ⟨rfl, K2.out.toBelow⟩
    · have hd4 : decide ((p0.length : Int) > 32) = false := decide_eq_false (by omega)
      have hd5 : decide ((32 : Int) < (p0.length : Int)) = false := decide_eq_false (by omega)
      have hpart := scan_part (m := p0) (by omega) (by omega) (i := 4 + p0.length) (by rw [frm_len]; omega)
      have hone := scan_one (m := p0) (by omega) (by omega)
      have hXl := frm_len p0
      have hXb := frm_bytes HB0.out (by omega)
      obtain ⟨X, hX⟩ : ∃ X, frm p0 = X := ⟨_, rfl⟩
      rw [hX] at hpart hone hXl hXb
      obtain ⟨n, hn⟩ : ∃ n, 4 + p0.length = n := ⟨_, rfl⟩
      have hXl : X.length = n + 1 := by omega
      rw [hn] at hpart
      have hn37 : n ≤ 36 := by omega
      have HPART := hid hpart
      have HONE := hid hone
      have HXL := hid hXl
      have HXB := hid hXb
      have HX := hid hX
      clear hpart hone hXl hXb hX
      go_enter Try.func8, Try.ntmps8
      go_wp2_with fail
      refine (told_true _).mono ?_
      rintro e w1 ⟨rfl, k1⟩
      have K1 := hid k1
      clear k1
      go_wp2_with fail
      refine new_any.mono ?_
      rintro e w3 ⟨F, rfl, h3, k3, f3⟩
      have H3 := hid (OwnS.made K1.out h3 k3 f3)
      have HF3 := hid f3
      have hsb := lt_of_block h3.choose_spec.blk
      clear h3 k3 f3
      go_wp2_with fail
      refine (mframe_any (HP0.out.keep H3.out.keep (fun _ _ h => h)) HB0.out (by omega)).mono ?_
      rintro e w4 ⟨v4, rfl, ho4, k4, f4⟩
      obtain ⟨a4, c4, rfl⟩ := own_any ho4
      rw [HX.out, HXL.out] at ho4 f4
      rw [HX.out, HXL.out]
      have HO4 := hid ho4
      have H4 := hid (H3.out.calm k4)
      have hF4 : ∀ k, (Value.slice a4 (n + 1) c4).ownBlock = some k → ¬ F k := fun k hk hF => by
        have h1 := f4 k hk
        have h2 := HF3.out k hF
        omega
      have HF4 := hid hF4
      have hb4 := own_lt ho4
      have HB4 := hid hb4
      have hcap4 := Sl.cap (Sl.ofOwn ho4)
      have HS4 : Hid (SlB w4 (.slice a4 X.length c4) X) := hid (by unfold SlB; rw [HXL.out]; exact Sl.ofOwn ho4)
      have HH4 : Hid (SlB w4 (.slice a4 n c4) (X.take n)) := hid (SlB.frontN HS4.out (by have := HXL.out; omega))
      clear ho4 k4 f4 hF4 hb4 hsb
      have hnn : ((n + 1 : Nat) : Int) - 1 = (n : Int) := by omega
      have hnc : n ≤ c4 := by omega
      go_wp2_with fail
      have HJ := hid (mjoin_any (w := w4) (va := .slice a4 n c4) (vb := .slice none 0 0) (p := X.take n) (q := []) HH4.out (Sl.nil _ _) (by rw [List.length_take]; simp; omega))
      refine HJ.out.mono ?_
      rintro e w5 ⟨v5, rfl, ho5, k5, f5⟩
      have hTn : (X.take n).length = n := by rw [List.length_take, HXL.out]; omega
      rw [List.append_nil, hTn] at ho5
      have ho5 : w5.ownsRow 0 5 1 v5 n ((X.take n).map (Value.int .u8)) := ho5
      obtain ⟨a5, c5, rfl⟩ := own_any ho5
      have H5 := hid (H4.out.calm k5)
      have HO5 := hid ho5
      have HX5 := hid (k5.own HO4.out (fun _ _ h => h))
      have hF5 : ∀ k, (Value.slice a5 n c5).ownBlock = some k → ¬ F k ∧ (Value.slice a4 (n + 1) c4).ownBlock ≠ some k := fun k hk => by
        have h1 := f5 k hk
        refine ⟨fun hF => ?_, fun h' => ?_⟩
        · have h2 := HF3.out k hF
          have h3 := lt_of_block H4.out.sc.choose_spec.blk
          omega
        · have := HB4.out k h'
          omega
      have HF5 := hid hF5
      have HN5 : Hid (∀ k, (Value.slice a5 n c5).ownBlock = some k → w.heap.size ≤ k) := hid (fun k hk => Nat.le_trans H4.out.keep.size (f5 k hk))
      have hfeed := feed_any H5.out.sc (p := X.take n) (by have := Sl.ofOwn ho5; unfold SlB; rw [hTn]; exact this) (HXB.out.take n) (by rw [hTn]; simp; omega) (by omega)
      rw [List.nil_append, HPART.out] at hfeed
      have HFE := hid hfeed
      clear ho5 k5 f5 hfeed hTn hF5 HJ HH4
      go_wp2_with fail
      refine HFE.out.mono ?_
      rintro e w6 ⟨tv, rfl, hf⟩
      obtain ⟨vs, F', hsc, hu, _⟩ := H5.out.fed hf
      rw [Nat.add_zero] at hsc
      have H6 := hid hsc
      have HX6 := hid (hu.keeps.own HX5.out HF4.out)
      have HO6 := hid (hu.keeps.own HO5.out (fun k hk => (HF5.out k hk).1))
      have hF6 : ∀ k, (Value.slice a5 n c5).ownBlock = some k → ¬ F' k := fun k hk => hu.out (own_lt HO5.out k hk) (HF5.out k hk).1
      have hG6 : ∀ k, (Value.slice a4 (n + 1) c4).ownBlock = some k → ¬ F' k := fun k hk => hu.out (own_lt HX5.out k hk) (HF4.out k hk)
      have HF6 := hid hF6
      have HG6 := hid hG6
      clear hf hsc hu hF6 hG6 HFE
      obtain ⟨g5, rfl⟩ : ∃ g5, a5 = some ⟨g5, 0, none⟩ := by
        obtain ⟨gf, cf, e⟩ := own_some HO6.out (by omega)
        simp only [Value.slice.injEq] at e
        exact ⟨gf, e.1⟩
      have HR6 := hid (Room.own HO6.out)
      go_wp2_with fail
      go_loopw [8] (fun v8 wr => ∃ i : Nat, i ≤ n ∧ v8 = .int .i64 i ∧ Hid (Room wr g5 n) ∧ Hid (Keeps (fun k => k = g5) w6 wr)) (fun v8 _ => n - (intOf v8).toNat)
      case atStart => exact ⟨0, Nat.zero_le _, rfl, HR6, hid (Keeps.refl _ _)⟩
      case round =>
        obtain ⟨i, hi, rfl, HR, HK⟩ := hrel
        by_cases hlt : i < n
        · obtain ⟨⟨u, hcu⟩, hfu⟩ := HR.out.at hlt
          go_wp2_with fail
          go_roundw
          case rel => exact ⟨i + 1, by omega, by go_num, hid (HR.out.set i _), hid (HK.out.at)⟩
          case measure => simp [intOf]; omega
        · have hgF : ∀ k, F' k → ¬ k = g5 := fun k hk e => HF6.out g5 rfl (e ▸ hk)
          have hgX : ∀ k, (Value.slice a4 (n + 1) c4).ownBlock = some k → ¬ k = g5 := fun k hk e => (HF5.out g5 rfl).2 (e ▸ hk)
          have hgn : w.heap.size ≤ g5 := HN5.out g5 rfl
          have H7 : Hid (OwnS w wr w1.heap.size F' (X.take n) 0) := hid ⟨H6.out.sc.keep HK.out hgF, H6.out.new, H6.out.keep.trans' HK.out (fun _ _ h => h) (fun k hk e => by omega)⟩
          have HX7 := hid (HK.out.own HX6.out hgX)
          have hs7 : SlB wr (.slice a4 X.length c4) X := by have := Sl.ofOwn HX7.out; unfold SlB; rw [HXL.out]; exact this
          obtain ⟨a8, c8, hs8, hr8, _⟩ := piece_from hs7 n (by rw [HXL.out]; omega)
          have hl8 : (X.drop n).length = 1 := by rw [List.length_drop, HXL.out]; omega
          rw [hl8] at hr8
          rw [HXL.out] at hr8
          have hr9 : ∀ (w : World), (Instr.slice 26 (.slice a4 (n + 1) c4) (some (.int .i64 (n : Int))) none none).run Try.prog w = .ok (.slice a8 1 c8) w := fun w => hr8 w _ rfl
          have hfeed := feed_any H7.out.sc (p := X.drop n) hs8 (HXB.out.drop n) (by rw [List.length_take, hl8, HXL.out]; omega) (by omega)
          rw [List.take_append_drop, HONE.out, hl8] at hfeed
          have HFE := hid hfeed
          have hni : ¬ i < n := hlt
          clear hs7 hs8 hr8 hfeed hl8 hgF hgX
          go_wp2_with fail
          refine HFE.out.mono ?_
          rintro e w8 ⟨tv, rfl, hf⟩
          obtain ⟨vs, F8, hsc, hu, ho8, hr8, n8, m8, x8, y8, z8, t8, q8⟩ := H7.out.fed hf
          rw [Nat.add_zero] at hsc
          have hv1 : vs.length = 1 := hr8.len
          obtain ⟨u, hu1, hu2⟩ := hr8.at 0 (by simp)
          have hu2 : SlB w8 u p0 := hu2
          have humem := List.mem_of_getElem? hu1
          have hnew := m8 u humem
          have huF := y8 u humem
          have huT := z8 u humem
          have huS := q8 u humem
          obtain ⟨au, cu, rfl⟩ := hu2.any
          obtain ⟨gu, offu, rfl, _, _⟩ := SlB.cellAt hu2 (k := 0) (by omega)
          rw [hv1] at ho8
          obtain ⟨a9, c9, rfl⟩ := own_any ho8
          have hs9 := Sl.ofOwn ho8
          obtain ⟨g9, off9, rfl, _, c0⟩ := Sl.cellAt hs9 hu1
          rw [Nat.add_zero] at c0
          have H8 := hid hsc
          have HU := hid hu2
          have hg9u : gu ≠ g9 := fun e => huT g9 rfl (by rw [← e]; rfl)
          have hguF : ∀ k, F8 k → ¬ k = gu := fun k hk e => huF gu rfl (e ▸ hk)
          have hguX : ∀ k, (Value.slice a4 (n + 1) c4).ownBlock = some k → ¬ k = gu := fun k hk e => by
            have h1 := own_lt HX7.out k hk
            have h2 := (hnew gu rfl).1
            omega
          have hXF : ∀ k, (Value.slice a4 (n + 1) c4).ownBlock = some k → ¬ F' k := HG6.out
          have HX8 := hid (hu.keeps.own HX7.out hXF)
          have hgun : w.heap.size ≤ gu := Nat.le_trans H7.out.keep.size (hnew gu rfl).1
          have HROOM := hid (Room.soft huS hu2 (by omega))
          have HGF := hid hguF
          have HGX := hid hguX
          clear hf hsc hu ho8 hr8 n8 m8 x8 y8 z8 t8 q8 hu1 hu2 humem hnew huF huT huS hv1 hs9 hguF hguX hXF HFE
          go_wp2_with fail
          refine (mbytes_true (l := p0) HU.out (HP0.out.keep H8.out.keep (fun _ _ h => h))).mono ?_
          rintro e w9 ⟨rfl, k9⟩
          have H9 := hid (H8.out.calm k9)
          have HX9 := hid (k9.own HX8.out (fun _ _ h => h))
          have c09 := k9.cell (fun h => h) c0
          have HROOM9 : Hid (Room w9 gu (offu + p0.length)) := hid (by obtain ⟨cs, t, e, hs⟩ := HROOM.out; exact ⟨cs, t, k9.heap (fun h => h) e, hs⟩)
          clear k9 c0
          go_wp2_with fail
          go_loopw [10] (fun v10 wr => ∃ i : Nat, i ≤ p0.length ∧ v10 = .int .i64 i ∧ Hid (Room wr gu (offu + p0.length)) ∧ Hid (Keeps (fun k => k = gu) w9 wr)) (fun v10 _ => p0.length - (intOf v10).toNat)
          case atStart => exact ⟨0, Nat.zero_le _, rfl, HROOM9, hid (Keeps.refl _ _)⟩
          case round =>
            obtain ⟨i2, hi2, rfl, HR2, HK2⟩ := hrel
            have c2 := HK2.out.cell (fun e => hg9u e.symm) c09
            by_cases hlt2 : i2 < p0.length
            · obtain ⟨⟨x, hcx⟩, hfx⟩ := HR2.out.at (i := offu + i2) (by omega)
              go_wp2_with fail
              go_roundw
              case rel => exact ⟨i2 + 1, by omega, by go_num, hid (HR2.out.set (offu + i2) _), hid (HK2.out.at)⟩
              case measure => simp [intOf]; omega
            · have HA := hid (OwnS.mk (H9.out.sc.keep HK2.out HGF.out) H9.out.new (H9.out.keep.trans' HK2.out (T := No) (fun _ _ h => h) (fun k hk e => by omega)))
              have HXZ := hid (HK2.out.own HX9.out HGX.out)
              have hsz := Sl.ofOwn HXZ.out
              have hfeed := feed_any HA.out.sc (v := .slice a4 (n + 1) c4) (p := X) (by unfold SlB; rw [HXL.out]; exact hsz) HXB.out (by rw [HXL.out]; simp; omega) (by omega)
              rw [List.nil_append, HONE.out] at hfeed
              have HFE := hid hfeed
              have hni2 : ¬ i2 < p0.length := hlt2
              clear hsz hfeed hlt2
              go_wp2_with fail
              refine HFE.out.mono ?_
              rintro e w11 ⟨tv, rfl, hf⟩
              obtain ⟨vs, F11, hsc, hu, ho8, hr8, _⟩ := HA.out.fed hf
              have hv1 : vs.length = 1 := hr8.len
              obtain ⟨u, hu1, hu2⟩ := hr8.at 0 (by simp)
              have hu2 : SlB w11 u p0 := hu2
              obtain ⟨au, cu2, rfl⟩ := hu2.any
              rw [hv1] at ho8
              obtain ⟨a12, c12, rfl⟩ := own_any ho8
              have hs12 := Sl.ofOwn ho8
              obtain ⟨g12, off12, rfl, _, c12c⟩ := Sl.cellAt hs12 hu1
              rw [Nat.add_zero] at c12c
              have H11 := hid hsc
              have HU11 := hid hu2
              clear hf hsc hu ho8 hr8 hu1 hu2 hv1 hs12 HFE
              go_wp2_with fail
              refine (mbytes_true (l := p0) HU11.out (HP0.out.keep H11.out.keep (fun _ _ h => h))).mono ?_
              rintro e w12 ⟨rfl, k12⟩
              have H12 := hid (H11.out.calm k12)
              clear k12
              go_wp2_with fail
              refine (feed_nil _).mono ?_
              rintro e w' ⟨rfl, rfl⟩
              go_wp2_with fail
              refine lost_nil.mono ?_
              rintro e w' ⟨rfl, rfl⟩
              go_wp2_with fail
              refine held_nil.mono ?_
              rintro e w' ⟨rfl, rfl⟩
              go_wp2_with fail
              go_ret
              exact ⟨rfl, H12.out.keep.toBelow⟩

theorem own : ownKnob Try.prog.godebug = none := by kernel_rfl
theorem laidOut : laidOutB Try.prog = true := by kernel_rfl
set_option maxRecDepth 100000 in
theorem lifted (os : Os) (started : os.Started) (H : Type) (enc : TypeId × Value → H) :
    ReturnsInHanded {} Try.checked os 8 .any (Rows.frameOwnSpec.pre6 enc Try.prog Try.f8 Rows.frameOwnRow.domain false) (Rows.frameOwnSpec.post enc Try.prog Try.f8 false true false false) := by
  refine returnsInHanded_of_change (C := Try.checked) own started (by kernel_rfl) Try.func8
    (ChangeSpec.witness6 (enc := enc) (C := Try.checked) false ⟨#[], #[.slice none 0 0, .int .u8 0], []⟩ 8 (by kernel_rfl) (by kernel_rfl) (by kernel_rfl) (by kernel_rfl)) ?_
  intro W base args ds gs before hval0 hW hcnd _
  have hval : ∀ (j : Nat) t v, Try.f8.params[j]? = some t → args[j]? = some v → Value.okWide Try.prog W .any base t v := hval0
  have hW' := hW
  obtain ⟨p, q, hA0, hV, rfl, hfz, hnd⟩ := hW
  have hA : DataW.TrodAll enc Try.prog W 0 (fun _ => true) true Try.f8.params.toList args.toList ds p := hA0
  rw [Try.params8] at hA hval
  obtain ⟨v0, vs0, d0, ds0, p0, q0, hargs, rfl, rfl, h0, r0⟩ := trodAll_cons hA
  obtain ⟨v1, vs1, d1, ds1, p1, q1, rfl, rfl, rfl, h1, r1⟩ := trodAll_cons r0
  obtain ⟨rfl, rfl, rfl⟩ := trodAll_nil r1
  obtain rfl : args = #[v0, v1] := by cases args; simp_all
  obtain ⟨rfl, rfl⟩ := trodVars_none hV
  have k0 := h0
  have lt0 : ∀ x ∈ p0, x.block < W.heap.size := by obtain ⟨m, hm⟩ := k0; exact DataW.trod_lt m _ _ _ hm
  have k1 := h1
  have lt1 : ∀ x ∈ p1, x.block < W.heap.size := by obtain ⟨m, hm⟩ := k1; exact DataW.trod_lt m _ _ _ hm
  obtain ⟨s0, len0, cap0, rfl⟩ := okWide_slice Try.underlying26 (hval 0 26 v0 rfl rfl)
  obtain ⟨l0, rfl, w0, b0⟩ := argInts .u8 Try.underlying26 Try.underlying5 (by kernel_rfl) h0
  obtain ⟨a1, rfl, rfl, rfl, w1⟩ := open_int Try.underlying5 (hval 1 5 v1 rfl rfl) h1
  clear hA0 hval0
  refine (walk W s0 cap0 l0 w0 b0 a1 w1).mono fun e W' ⟨he, bel⟩ => ?_
  subst he
  exact ⟨_, rfl, _, _, _, [], _, [], hW', trodAll_mk1 (shut_bool Try.underlying4 _), (trodAll_cons_mk (Below.trod laidOut (by kernel_rfl) (of_decide_eq_true (by kernel_rfl)) k0 bel lt0) (trodAll_cons_mk (Below.trod laidOut (by kernel_rfl) (of_decide_eq_true (by kernel_rfl)) k1 bel lt1) trodAll_mk0)), rfl, bel.frame _, fun h => by cases h⟩

theorem over : Rows.frameOwnRow.holds Try.pinned (OpenSpec.ofChange Rows.frameOwnSpec) :=
  OpenClaim.holds_of_wide 8 Try.f8 rfl rfl rfl rfl rfl rfl rfl ⟨rfl, rfl, rfl, rfl, rfl⟩ rfl rfl rfl rfl rfl (by kernel_rfl) Try.func8 (by kernel_rfl)
    (of_decide_eq_true (by kernel_rfl)) (by unfold Func.isWrapper; first | (rw [if_pos (by decide +kernel)]; kernel_rfl) | (rw [if_neg (by decide +kernel)]; exact ⟨rfl, rfl⟩))
    (fun os started H enc _ => lifted os started H enc)

theorem proved : Rows.FrameOwnSaid := over
#print axioms proved
end Go.Proofs.Ythfjihpfcollfaa.frameOwn
