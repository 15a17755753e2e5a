/- What was handed in may be written over; what was answered, too. No conditions. -/
import Derived.Test.YtmmgkcimobkbbaaRows
import Derived.Test.YtmmgkcimobkbbaaArgs
import Derived.Test.YtmmgkcimobkbbaaWordL
import Derived.ProofKit
import Derived.OpenShut
namespace Go.Proofs.Ytmmgkcimobkbbaa.wordFree
open Go.ChangeShapes Go.WideShapes Go.ChangeAt Go.RowKit
open Go.ChangeMaps (open_string shut_string)
set_option linter.unusedVariables false

set_option maxHeartbeats 8000000 in
set_option maxRecDepth 100000 in
theorem walk (w : World) (s : Option Addr) (cap : Nat) (l : List (Int × Int)) (hs : Sl w 2 (.slice s l.length cap) l.length (l.flatMap encIt)) (hb : ∀ y ∈ l, goodIt y) (b : Int) (wb : (Lit.int .u8 b).wf = true) :
    Calls Try.prog 6 #[.slice s l.length cap, .int .u8 b] w fun e w' => e = .returned (.bool true) ∧ Below w.heap.size w w' := by
  have HS := hid hs
  have HG := hid hb
  clear hs hb wb
  by_cases hl : 30 < l.length
  · have hd : decide ((l.length : Int) > 30) = true := decide_eq_true (by omega)
    go_enter Try.func6, Try.ntmps6
    go_wp2_with fail
    with_reducible refine (lays_true _).mono ?_
    rintro e w1 ⟨rfl, k1⟩
    have K1 := hid k1
    clear k1
    go_wp2_with fail
    with_reducible refine (lays_true _).mono ?_
    rintro e w2 ⟨rfl, k2⟩
    have K2 := hid (K1.out.trans k2)
    clear k2
    go_wp2_with fail
    go_ret
    exact ⟨rfl, K2.out.toBelow⟩
  · have hl0 : l.length ≤ 60 := by omega
    have hd : decide ((l.length : Int) > 30) = false := decide_eq_false (by omega)
    clear hl
    go_enter Try.func6, Try.ntmps6
    go_wp2_with fail
    with_reducible refine (lays_true _).mono ?_
    rintro e w1 ⟨rfl, k1⟩
    have K1 := hid k1
    clear k1
    go_wp2_with fail
    with_reducible refine (lay_law ?s1 HG.out hl0).mono ?_
    case s1 => exact HS.out.keep K1.out (fun _ _ h => h)
    rintro r w2 ⟨v1, v2, rfl, h1, h2, hk⟩
    have K2 := hid (K1.out.trans hk)
    have hql := layL_len l
    have hqb := layL_bytes l
    obtain ⟨q, hq⟩ : ∃ q, layL l = q := ⟨_, rfl⟩
    rw [hq] at h1 h2 hql hqb
    obtain ⟨a1, c1, rfl⟩ := h1.any
    obtain ⟨a2, c2, rfl⟩ := h2.any
    have H2 := hid h2
    have HQB := hid hqb
    clear h1 h2 hk K1 hq hqb
    go_wp2_with fail
    obtain ⟨wb, hwb⟩ : ∃ wb, wb = w2.heap.size := ⟨_, rfl⟩
    obtain ⟨w3, hw3⟩ : ∃ w3, w3 = w2.alloc (.cells #[.slice none 0 0] 44) := ⟨_, rfl⟩
    have HW3 : Hid (Wr w3 wb (fun k => k = wb) []) := hid (by rw [hw3, hwb]; exact Wr.new w2)
    have HK3 : Hid (Keeps No w2 w3) := hid (by rw [hw3]; exact (Keeps.refl _ _).alloc _)
    rw [← hwb, ← hw3]
    have hwb2 : w2.heap.size ≤ wb := by omega
    clear hwb hw3
    go_loopw [8] (fun v8 wr => ∃ (i : Nat) (F : Nat → Prop), i ≤ q.length ∧ v8 = .int .i64 i ∧ Hid (Wr wr wb F (q.take i)) ∧ Hid (∀ k, F k → w2.heap.size ≤ k) ∧ Hid (Keeps No w2 wr)) (fun v8 _ => q.length - (intOf v8).toNat)
    case atStart => exact ⟨0, _, Nat.zero_le _, rfl, HW3, hid (fun k hk => by omega), HK3⟩
    case round =>
      obtain ⟨i, F, hi, rfl, HW, HF, HK⟩ := hrel
      clear HW3 HK3
      by_cases hlt : i < q.length
      · obtain ⟨g, off, rfl, _, x0⟩ := SlB.cellAt (H2.out.keep HK.out (fun _ _ h => h)) hlt
        have HT := hid (List.take_succ_eq_append_getElem hlt)
        obtain ⟨y, hy⟩ : ∃ y, q[i] = y := ⟨_, rfl⟩
        rw [hy] at x0 HT
        clear hy
        go_wp2_with fail
        with_reducible refine (wbyte_any HW.out y ?s1).mono ?_
        case s1 => rw [List.length_take]; omega
        rintro r w4 ⟨rfl, F4, hw, hu⟩
        have hn := newUpd HF.out HK.out hu
        have HW4 := hid hw
        have HN4 := hid hn
        clear hw hu hn HW HF HK
        go_wp2_with fail
        go_roundw
        case rel => exact ⟨i + 1, _, by omega, by go_num, hid (by rw [HT.out]; exact HW4.out), hid HN4.out.1, hid HN4.out.2⟩
        case measure => simp [intOf]; omega
      · obtain rfl : i = q.length := by omega
        have hw := HW.out
        rw [List.take_length] at hw
        have HW := hid hw
        clear hw
        go_wp2_with fail
        with_reducible refine (wbytes_any HW.out ?s1).mono ?_
        case s1 => omega
        rintro r w5 ⟨v5, rfl, ho, hk, hb5⟩
        obtain ⟨a5, c5, rfl⟩ := own_any ho
        have HO5 := hid ho
        have HW5 := hid (HW.out.keep hk (fun _ _ h => h))
        have HK5 := hid (HK.out.trans hk)
        have HSEP : Hid (∀ k, (Value.slice a5 q.length c5).ownBlock = some k → ¬ F k ∧ w2.heap.size ≤ k) := hid (fun k hk' => ⟨fun hf => by have := hb5 k hk'; have := HW.out.lt k hf; omega, Nat.le_trans HK.out.size (hb5 k hk')⟩)
        clear ho hk hb5 HW HK
        go_wp2_with fail
        go_loopw [10] (fun v10 wr => ∃ i : Nat, i ≤ q.length ∧ v10 = .int .i64 i ∧ Hid (∃ ys : List Int, ys.length = q.length ∧ wr.ownsRow 0 5 1 (.slice a5 q.length c5) q.length (ys.map (Value.int .u8))) ∧ Hid (Keeps (Bl (.slice a5 q.length c5)) w5 wr)) (fun v10 _ => q.length - (intOf v10).toNat)
        case atStart => exact ⟨0, Nat.zero_le _, rfl, hid ⟨_, rfl, HO5.out⟩, hid (Keeps.refl _ _)⟩
        case round =>
          obtain ⟨i, hi, rfl, HY, HK⟩ := hrel
          by_cases hlt : i < q.length
          · obtain ⟨ys, hyl, hys⟩ := HY.out
            obtain ⟨g, cap, hv⟩ := own_some hys (by omega)
            simp only [Value.slice.injEq] at hv
            obtain ⟨hv1, _, hv2⟩ := hv
            subst hv1 hv2
            obtain ⟨y0, x0⟩ : ∃ y0, wr.cell? ⟨g, i, none⟩ = some (.int .u8 y0) := ⟨ys[i]'(by omega), by rw [hys.cellAt i (by omega), List.getElem?_map, List.getElem?_eq_getElem (by omega)]; rfl⟩
            have f0 := hys.frozenAt i
            have hst := (hys.stored i (.int .u8 b)).1
            rw [← List.map_set] at hst
            have HST := hid hst
            have HYL := hid hyl
            clear hys hst hyl HY
            go_wp2_with fail
            go_roundw
            case rel => exact ⟨i + 1, by omega, by go_num, hid ⟨_, by rw [List.length_set]; exact HYL.out, HST.out⟩, hid (HK.out.setCell (p := ⟨g, i, none⟩) (Or.inr rfl) _)⟩
            case measure => simp [intOf]; omega
          · clear HY
            go_wp2_with fail
            have HW6 := hid (HW5.out.keep HK.out (fun i hi hb => (HSEP.out i (by simpa [Bl] using hb)).1 hi))
            have HK6 := hid (HK5.out.trans' HK.out (fun _ _ h => h) (fun i hi hb => by have := (HSEP.out i (by simpa [Bl] using hb)).2; omega))
            clear HK HW5 HK5
            with_reducible refine (wbytes_any HW6.out ?s2).mono ?_
            case s2 => omega
            rintro r w7 ⟨v7, rfl, ho, hk, hb7⟩
            obtain ⟨a7, c7, rfl⟩ := own_any ho
            have HO7 := hid ho
            have HK7 := hid (HK6.out.trans hk)
            have HB7 := hid hb7
            have hz7 := HK6.out.size
            clear ho hk hb7 HW6 HK6
            go_wp2_with fail
            with_reducible refine (rnew_any ?s1 HQB.out ?s3).mono ?_
            case s1 => exact Sl.ofOwn HO7.out
            case s3 => omega
            rintro r w8 ⟨rb, F8, rfl, hr, hk, hf⟩
            have HO8 := hid (hk.own HO7.out (fun _ _ h => h))
            have HK8 := hid (HK7.out.trans hk)
            have HSEP8 : Hid (∀ k, (Value.slice a7 q.length c7).ownBlock = some k → ¬ F8 k ∧ w2.heap.size ≤ k) := hid (fun k hk' => ⟨fun h8 => by have := (hf k h8).1; have := (HO7.out.lt k hk').2; omega, Nat.le_trans hz7 (HB7.out k hk')⟩)
            have hrb0 : w2.heap.size ≤ rb := by obtain ⟨lv, h⟩ := hr; have := (hf rb h.rb).1; have := HK7.out.size; omega
            have HR8 := hid hr
            clear hr hk hf HO7 HK7 HB7 hz7
            go_wp2_with fail
            go_loopw [13] (fun v13 wr => ∃ i : Nat, i ≤ q.length ∧ v13 = .int .i64 i ∧ Hid (∃ ys : List Int, ys.length = q.length ∧ wr.ownsRow 0 5 1 (.slice a7 q.length c7) q.length (ys.map (Value.int .u8))) ∧ Hid (Keeps (Bl (.slice a7 q.length c7)) w8 wr)) (fun v13 _ => q.length - (intOf v13).toNat)
            case atStart => exact ⟨0, Nat.zero_le _, rfl, hid ⟨_, rfl, HO8.out⟩, hid (Keeps.refl _ _)⟩
            case round =>
              obtain ⟨i, hi, rfl, HY, HK⟩ := hrel
              by_cases hlt : i < q.length
              · obtain ⟨ys, hyl, hys⟩ := HY.out
                obtain ⟨g, cap, hv⟩ := own_some hys (by omega)
                simp only [Value.slice.injEq] at hv
                obtain ⟨hv1, _, hv2⟩ := hv
                subst hv1 hv2
                obtain ⟨y0, x0⟩ : ∃ y0, wr.cell? ⟨g, i, none⟩ = some (.int .u8 y0) := ⟨ys[i]'(by omega), by rw [hys.cellAt i (by omega), List.getElem?_map, List.getElem?_eq_getElem (by omega)]; rfl⟩
                have f0 := hys.frozenAt i
                have hst := (hys.stored i (.int .u8 b)).1
                rw [← List.map_set] at hst
                have HST := hid hst
                have HYL := hid hyl
                clear hys hst hyl HY
                go_wp2_with fail
                go_roundw
                case rel => exact ⟨i + 1, by omega, by go_num, hid ⟨_, by rw [List.length_set]; exact HYL.out, HST.out⟩, hid (HK.out.setCell (p := ⟨g, i, none⟩) (Or.inr rfl) _)⟩
                case measure => simp [intOf]; omega
              · clear HY
                go_wp2_with fail
                have HR9 := hid (HR8.out.keep HK.out (fun i hi hb => (HSEP8.out i (by simpa [Bl] using hb)).1 hi))
                have HK9 := hid (HK8.out.trans' HK.out (fun _ _ h => h) (fun i hi hb => by have := (HSEP8.out i (by simpa [Bl] using hb)).2; omega))
                clear HK HR8 HK8
                go_loopw [14] (fun v14 wr => ∃ i : Nat, i ≤ q.length ∧ v14 = .int .i64 i ∧ Hid (∃ k, Rd wr rb F8 ⟨q.drop i, k, 0⟩) ∧ Hid (Keeps No w2 wr)) (fun v14 _ => q.length - (intOf v14).toNat)
                case atStart => exact ⟨0, Nat.zero_le _, rfl, hid ⟨_, HR9.out⟩, HK9⟩
                case round =>
                  obtain ⟨i, hi, rfl, HRk, HK⟩ := hrel
                  obtain ⟨k, hrk⟩ := HRk.out
                  clear HR9 HK9 HRk
                  by_cases hlt : i < q.length
                  · obtain ⟨g, off, rfl, _, hx0⟩ := SlB.cellAt H2.out hlt
                    rw [List.drop_eq_getElem_cons hlt] at hrk
                    obtain ⟨y, hy⟩ : ∃ y, q[i] = y := ⟨_, rfl⟩
                    rw [hy] at hx0 hrk
                    have HX0 := hid hx0
                    have HR := hid hrk
                    have x0 := HK.out.cell (fun h => h) HX0.out
                    clear hy hrk hx0
                    go_wp2_with fail
                    go_region_with (go_at_call 12; refine (rbyte_one (HR.out.keep (S := No) (by repeat' (first | with_reducible exact Keeps.refl _ _ | with_reducible refine Keeps.drewN ?_ _ | with_reducible refine Keeps.drew ?_)) (fun _ _ h => h))).mono ?_; rintro r w1 ⟨rfl, hr, hk⟩; have HR1 := hid hr; have HK1 := hid (Keeps.trans' (S := No) (T := No) (show Keeps No w2 _ from by have hKK := HK.out; repeat' (first | with_reducible exact hKK | with_reducible refine Keeps.drewN ?_ _ | with_reducible refine Keeps.drew ?_)) hk (fun _ _ h => h) (fun i hi e => by omega)); have x1 := HK1.out.cell (fun h => h) HX0.out; clear hr hk)
                    all_goals
                      go_wp2_with fail
                      go_roundw
                      case rel => exact ⟨i + 1, by omega, by go_num, hid ⟨_, HR1.out⟩, HK1⟩
                      case measure => simp [intOf]; omega
                  · obtain rfl : i = q.length := by omega
                    rw [List.drop_length] at hrk
                    have HR := hid hrk
                    clear hrk
                    go_wp2_with fail
                    with_reducible refine (rleft_any HR.out).mono ?_
                    rintro r w' ⟨rfl, rfl⟩
                    go_wp2_with fail
                    go_ret
                    exact ⟨rfl, (K2.out.trans HK.out).toBelow⟩

theorem own : ownKnob Try.prog.godebug = none := by kernel_rfl
theorem laidOut : laidOutB Try.prog = true := by kernel_rfl
set_option maxRecDepth 100000 in
theorem lifted (os : Os) (started : os.Started) (H : Type) (enc : TypeId × Value → H) :
    ReturnsInHanded {} Try.checked os 6 .any (Rows.wordFreeSpec.pre6 enc Try.prog Try.f6 Rows.wordFreeRow.domain false) (Rows.wordFreeSpec.post enc Try.prog Try.f6 false true false false) := by
  refine returnsInHanded_of_change (C := Try.checked) own started (by kernel_rfl) Try.func6
    (ChangeSpec.witness6 (enc := enc) (C := Try.checked) false ⟨#[], #[.slice none 0 0, .int .u8 0], []⟩ 8 (by kernel_rfl) (by kernel_rfl) (by kernel_rfl) (by kernel_rfl)) ?_
  intro W base args ds gs before hval0 hW hcnd _
  have hval : ∀ (j : Nat) t v, Try.f6.params[j]? = some t → args[j]? = some v → Value.okWide Try.prog W .any base t v := hval0
  have hW' := hW
  obtain ⟨p, q, hA0, hV, rfl, hfz, hnd⟩ := hW
  have hA : DataW.TrodAll enc Try.prog W 0 (fun _ => true) true Try.f6.params.toList args.toList ds p := hA0
  rw [Try.params6] at hA hval
  obtain ⟨v0, vs0, d0, ds0, p0, q0, hargs, rfl, rfl, h0, r0⟩ := trodAll_cons hA
  obtain ⟨v1, vs1, d1, ds1, p1, q1, rfl, rfl, rfl, h1, r1⟩ := trodAll_cons r0
  obtain ⟨rfl, rfl, rfl⟩ := trodAll_nil r1
  obtain rfl : args = #[v0, v1] := by cases args; simp_all
  obtain ⟨rfl, rfl⟩ := trodVars_none hV
  have k0 := h0
  have lt0 : ∀ x ∈ p0, x.block < W.heap.size := by obtain ⟨m, hm⟩ := k0; exact DataW.trod_lt m _ _ _ hm
  have k1 := h1
  have lt1 : ∀ x ∈ p1, x.block < W.heap.size := by obtain ⟨m, hm⟩ := k1; exact DataW.trod_lt m _ _ _ hm
  obtain ⟨s0, len0, cap0, rfl⟩ := okWide_slice Try.underlying22 (hval 0 22 v0 rfl rfl)
  obtain ⟨l0, rfl, w0, b0⟩ := argSlice (encE := encIt) (good := goodIt) (size := 2) (fun _ => rfl) (by decide) Try.underlying22 (by kernel_rfl) (fun n cs x hx => decIt hx) h0
  obtain ⟨a1, rfl, rfl, rfl, w1⟩ := open_int Try.underlying5 (hval 1 5 v1 rfl rfl) h1
  clear hA0 hval0
  refine (walk W s0 cap0 l0 w0 b0 a1 w1).mono fun e W' ⟨he, bel⟩ => ?_
  subst he
  exact ⟨_, rfl, _, _, _, [], _, [], hW', trodAll_mk1 (shut_bool Try.underlying4 _), (trodAll_cons_mk (Below.trod laidOut (by kernel_rfl) (of_decide_eq_true (by kernel_rfl)) k0 bel lt0) (trodAll_cons_mk (Below.trod laidOut (by kernel_rfl) (of_decide_eq_true (by kernel_rfl)) k1 bel lt1) trodAll_mk0)), rfl, bel.frame _, fun h => by cases h⟩

theorem over : Rows.wordFreeRow.holds Try.pinned (OpenSpec.ofChange Rows.wordFreeSpec) :=
  OpenClaim.holds_of_wide 6 Try.f6 rfl rfl rfl rfl rfl rfl rfl ⟨rfl, rfl, rfl, rfl, rfl⟩ rfl rfl rfl rfl rfl (by kernel_rfl) Try.func6 (by kernel_rfl)
    (of_decide_eq_true (by kernel_rfl)) (by unfold Func.isWrapper; first | (rw [if_pos (by decide +kernel)]; kernel_rfl) | (rw [if_neg (by decide +kernel)]; exact ⟨rfl, rfl⟩))
    (fun os started H enc _ => lifted os started H enc)

theorem proved : Rows.WordFreeSaid := over
#print axioms proved
end Go.Proofs.Ytmmgkcimobkbbaa.wordFree
