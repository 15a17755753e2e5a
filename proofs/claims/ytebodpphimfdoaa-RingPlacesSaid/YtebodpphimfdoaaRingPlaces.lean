/- Each place of a ring reads as All tells it, can be set, and those that are not there are not. No conditions. -/
import Derived.Test.YtebodpphimfdoaaRows
import Derived.Test.YtebodpphimfdoaaArgs
import Derived.Test.YtebodpphimfdoaaRing8
import Derived.ProofKit
import Derived.OpenShut
namespace Go.Proofs.Ytebodpphimfdoaa.ringPlaces
open Go.ChangeShapes Go.WideShapes Go.ChangeAt Go.RowKit
open Go.ChangeMaps (open_string shut_string)
set_option linter.unusedVariables false

set_option maxHeartbeats 2000000 in
set_option maxRecDepth 100000 in
theorem walk (w : World) (n : Int) (wn : (Lit.int .u8 n).wf = true) (t : Int) (wt : (Lit.int .u8 t).wf = true) (s : Option Addr) (cap : Nat) (l : List Int) (hs : SlI w (.slice s l.length cap) l) (hb : ∀ n ∈ l, (Lit.int .i64 n).wf = true) (at_ : Int) (wat : (Lit.int .i64 at_).wf = true) :
    Calls Try.prog 6 #[.int .u8 n, .int .u8 t, .slice s l.length cap, .int .i64 at_] w fun e w' => e = .returned (.bool true) ∧ Below w.heap.size w w' := by
  have HS := hid hs
  obtain ⟨hn0, hn1⟩ := bounds_u8 wn
  obtain ⟨ht0, ht1⟩ := bounds_u8 wt
  clear hs hb wn wt wat
  by_cases hl : 60 < l.length
  · have hd : decide ((60 : Int) < l.length) = true := by simp; omega
    go_enter Try.func6, Try.ntmps6
    go_wp2_with fail
    refine (fits_true _).mono ?_
    rintro e w1 ⟨rfl, k1⟩
    have K1 := hid k1
    clear k1
    go_wp2_with fail
    refine (fits_true _).mono ?_
    rintro e w2 ⟨rfl, k2⟩
    have K2 := hid k2
    clear k2
    go_wp2_with fail
    go_ret
    exact ⟨rfl, (K1.out.trans K2.out).toBelow⟩
  · have hd : decide ((60 : Int) < l.length) = false := by simp; omega
    obtain ⟨m, rfl⟩ := Int.eq_ofNat_of_zero_le hn0
    obtain ⟨tn, rfl⟩ := Int.eq_ofNat_of_zero_le ht0
    obtain ⟨room, hr⟩ : ∃ room, room = m % 30 := ⟨_, rfl⟩
    have hroom : roomOf ((m : Int) % 30) = room := by unfold roomOf; rw [if_neg (by omega), if_neg (by omega)]; omega
    have hr20 : room < 30 := by omega
    have HR := hid hroom
    clear hroom hr
    go_enter Try.func6, Try.ntmps6
    go_wp2_with fail
    refine (fits_true _).mono ?_
    rintro e w1 ⟨rfl, k1⟩
    have K1 := hid k1
    clear k1
    go_wp2_with fail
    refine (inew_any _ _).mono ?_
    rintro e w2 ⟨rfl, h2, k2⟩
    rw [HR.out] at h2
    have H2 := hid h2
    have K2 := hid (K1.out.trans k2)
    obtain ⟨rb, hrb⟩ : ∃ rb, rb = w1.heap.size := ⟨_, rfl⟩
    have HRB : Hid (w.heap.size ≤ rb) := hid (by rw [hrb]; exact K1.out.size)
    rw [← hrb] at H2 ⊢
    clear h2 k2 hrb
    go_wp2_with fail
    go_loopw [10] (fun v6 wr => ∃ (k : Nat) (F : Nat → Prop) (L : List Int), k ≤ tn ∧ v6 = .int .i64 k ∧ Hid (RingI wr rb F room L) ∧ Hid (∀ i, F i → w.heap.size ≤ i) ∧ Hid (Keeps No w wr)) (fun v6 _ => tn - (intOf v6).toNat)
    case atStart => exact ⟨0, _, _, Nat.zero_le _, rfl, H2, hid (fun i hi => by have : i = rb := hi; rw [this]; exact HRB.out), K2⟩
    case round =>
      obtain ⟨k, F, L, hk, rfl, HRI, HF, HK⟩ := hrel
      by_cases hlt : k < tn
      · go_wp2_with fail
        refine (iforce_any HRI.out _).mono ?_
        rintro e w3 ⟨y3, t3, rfl, F3, h3, u3⟩
        have H3 := hid h3
        obtain ⟨hF3, hK3⟩ := newUpd HF.out HK.out u3
        have HF3 := hid hF3
        have HK3 := hid hK3
        clear h3 u3 hF3 hK3
        go_wp2_with fail
        go_roundw
        case rel => exact ⟨k + 1, F3, _, by omega, by go_num, H3, HF3, HK3⟩
        case measure => simp [intOf]; omega
      · have hkl : k = tn := by omega
        subst hkl
        go_wp2_with fail
        go_loopw [11] (fun v6 wr => ∃ (k : Nat) (F : Nat → Prop) (L : List Int), k ≤ l.length ∧ v6 = .int .i64 k ∧ Hid (RingI wr rb F room L) ∧ Hid (∀ i, F i → w.heap.size ≤ i) ∧ Hid (Keeps No w wr)) (fun v6 _ => l.length - (intOf v6).toNat)
        case atStart => exact ⟨0, _, _, Nat.zero_le _, rfl, HRI, HF, HK⟩
        case round =>
          obtain ⟨k, F, L, hk, rfl, HRI, HF, HK⟩ := hrel
          by_cases hlt : k < l.length
          · obtain ⟨g, off, rfl, _, hc⟩ := SlI.cellAt (HS.out.keep HK.out (fun _ _ h => h)) hlt
            go_wp2_with fail
            refine (iforce_any HRI.out _).mono ?_
            rintro e w3 ⟨y3, t3, rfl, F3, h3, u3⟩
            have H3 := hid h3
            obtain ⟨hF3, hK3⟩ := newUpd HF.out HK.out u3
            have HF3 := hid hF3
            have HK3 := hid hK3
            clear h3 u3 hF3 hK3
            go_wp2_with fail
            go_roundw
            case rel => exact ⟨k + 1, F3, _, by omega, by go_num, H3, HF3, HK3⟩
            case measure => simp [intOf]; omega
          · have hkl : k = l.length := by omega
            subst hkl
            go_wp2_with fail
            refine (iall_any HRI.out).mono ?_
            rintro e w4 ⟨av, rfl, ho, k4, hb4⟩
            obtain ⟨ao, acap, rfl⟩ := own_any ho
            have HA := hid (Sl.ofOwn ho)
            have HRI4 := hid (RingG.keep HRI.out k4 (fun _ _ h => h))
            have HK4 := hid (HK.out.trans k4)
            have hLr := (RingG.cnt HRI4.out).1
            clear HRI HK ho k4
            go_wp2_with fail
            go_loopw [13] (fun v13 wr' => ∃ (k : Nat), k ≤ L.length ∧ v13 = .int .i64 k ∧ Hid (∃ n, wr' = w4.drewN n)) (fun v13 _ => L.length - (intOf v13).toNat)
            case atStart => exact ⟨0, Nat.zero_le _, rfl, hid ⟨0, rfl⟩⟩
            case round =>
              obtain ⟨k, hk, rfl, HN⟩ := hrel
              obtain ⟨n0, rfl⟩ := HN.out
              by_cases hlt : k < L.length
              · obtain ⟨g, off, rfl, _, hc⟩ := SlI.cellAt HA.out hlt
                go_wp2_with fail
                refine (iat_ok (w := w4.drewN n0) (by exact HRI4.out) hlt).mono ?_
                rintro e w5 ⟨rfl, n5, rfl⟩
                go_wp2_with fail
                go_roundw
                case rel => exact ⟨k + 1, by omega, by go_num, hid ⟨_, rfl⟩⟩
                case measure => simp [intOf]; omega
              · have hkl : k = L.length := by omega
                subst hkl
                by_cases hneg : at_ < 0
                · go_wp2_with fail
                  refine (iat_none (w := w4.drewN n0) (by exact HRI4.out) (Or.inl hneg)).mono ?_
                  rintro e w5 ⟨rfl, rfl⟩
                  go_wp2_with fail
                  refine (iset_none (w := w4.drewN n0) (by exact HRI4.out) (Or.inl hneg) 5).mono ?_
                  rintro e w5 ⟨rfl, rfl⟩
                  go_wp2_with fail
                  refine (iall_any (w := w4.drewN n0) (by exact HRI4.out)).mono ?_
                  rintro e w5 ⟨bv, rfl, ho5, k5, hb5⟩
                  have HB := hid (Sl.ofOwn ho5)
                  have K5 := hid k5
                  clear ho5 k5
                  go_wp2_with fail
                  refine (msame_true HB.out (Sl.keep (Sl.drewN HA.out n0) K5.out (fun _ _ h => h))).mono ?_
                  rintro e w6 ⟨rfl, k6⟩
                  have K6 := hid k6
                  clear k6
                  go_wp2_with fail
                  go_ret
                  exact ⟨rfl, (((HK4.out.drewN n0).trans K5.out).trans K6.out).toBelow⟩
                · obtain ⟨i, rfl⟩ := Int.eq_ofNat_of_zero_le (show 0 ≤ at_ by omega)
                  by_cases hil : i < L.length
                  · go_wp2_with fail
                    refine (iat_ok (w := w4.drewN n0) (by exact HRI4.out) hil).mono ?_
                    rintro e w5 ⟨rfl, n5, rfl⟩
                    go_wp2_with fail
                    refine (iset_ok (w := w4.drewN (n0 + n5)) (by exact HRI4.out) hil 5).mono ?_
                    rintro e w6 ⟨rfl, F6, h6, u6⟩
                    have H6 := hid h6
                    obtain ⟨hF6, hK6⟩ := newUpd HF.out (HK4.out.drewN (n0 + n5)) u6
                    have HF6 := hid hF6
                    have HK6 := hid hK6
                    clear h6 u6 hF6 hK6
                    go_wp2_with fail
                    refine (iall_any H6.out).mono ?_
                    rintro e w7 ⟨v7, rfl, ho7, k7, hb7⟩
                    obtain ⟨a7, c7, rfl⟩ := own_any ho7
                    have H7 := hid (RingG.keep H6.out k7 (fun _ _ h => h))
                    have HK7 := hid (HK6.out.trans k7)
                    clear ho7 k7 hb7
                    rw [List.length_set]
                    go_wp2_with fail
                    refine (iall_any H7.out).mono ?_
                    rintro e w8 ⟨v8, rfl, ho8, k8, hb8⟩
                    have HS8 := hid (Sl.ofOwn ho8)
                    have HK8 := hid (HK7.out.trans k8)
                    obtain ⟨a8, c8, rfl⟩ := own_any ho8
                    obtain ⟨g, off, rfl, _, hc⟩ := SlI.cellAt HS8.out (k := i) (by simpa using hil)
                    rw [List.getElem_set_self] at hc
                    clear ho8 k8 hb8
                    rw [List.length_set]
                    go_wp2_with fail
                    go_ret
                    exact ⟨rfl, HK8.out.toBelow⟩
                  · have hge : ¬ ((i : Int) < (L.length : Int)) := by omega
                    go_wp2_with fail
                    refine (iat_none (w := w4.drewN n0) (by exact HRI4.out) (Or.inr (by omega))).mono ?_
                    rintro e w5 ⟨rfl, rfl⟩
                    go_wp2_with fail
                    refine (iset_none (w := w4.drewN n0) (by exact HRI4.out) (Or.inr (by omega)) 5).mono ?_
                    rintro e w5 ⟨rfl, rfl⟩
                    go_wp2_with fail
                    refine (iall_any (w := w4.drewN n0) (by exact HRI4.out)).mono ?_
                    rintro e w5 ⟨bv, rfl, ho5, k5, hb5⟩
                    have HB := hid (Sl.ofOwn ho5)
                    have K5 := hid k5
                    clear ho5 k5
                    go_wp2_with fail
                    refine (msame_true HB.out (Sl.keep (Sl.drewN HA.out n0) K5.out (fun _ _ h => h))).mono ?_
                    rintro e w6 ⟨rfl, k6⟩
                    have K6 := hid k6
                    clear k6
                    go_wp2_with fail
                    go_ret
                    exact ⟨rfl, (((HK4.out.drewN n0).trans K5.out).trans K6.out).toBelow⟩

theorem own : ownKnob Try.prog.godebug = none := by kernel_rfl
theorem laidOut : laidOutB Try.prog = true := by kernel_rfl
set_option maxRecDepth 100000 in
theorem lifted (os : Os) (started : os.Started) (H : Type) (enc : TypeId × Value → H) :
    ReturnsInHanded {} Try.checked os 6 .any (Rows.ringPlacesSpec.pre6 enc Try.prog Try.f6 Rows.ringPlacesRow.domain false) (Rows.ringPlacesSpec.post enc Try.prog Try.f6 false true false false) := by
  refine returnsInHanded_of_change (C := Try.checked) own started (by kernel_rfl) Try.func6
    (ChangeSpec.witness6 (enc := enc) (C := Try.checked) false ⟨#[], #[.int .u8 0, .int .u8 0, .slice none 0 0, .int .i64 0], []⟩ 8 (by kernel_rfl) (by kernel_rfl) (by kernel_rfl) (by kernel_rfl)) ?_
  intro W base args ds gs before hval0 hW hcnd _
  have hval : ∀ (j : Nat) t v, Try.f6.params[j]? = some t → args[j]? = some v → Value.okWide Try.prog W .any base t v := hval0
  have hW' := hW
  obtain ⟨p, q, hA0, hV, rfl, hfz, hnd⟩ := hW
  have hA : DataW.TrodAll enc Try.prog W 0 (fun _ => true) true Try.f6.params.toList args.toList ds p := hA0
  rw [Try.params6] at hA hval
  obtain ⟨v0, vs0, d0, ds0, p0, q0, hargs, rfl, rfl, h0, r0⟩ := trodAll_cons hA
  obtain ⟨v1, vs1, d1, ds1, p1, q1, rfl, rfl, rfl, h1, r1⟩ := trodAll_cons r0
  obtain ⟨v2, vs2, d2, ds2, p2, q2, rfl, rfl, rfl, h2, r2⟩ := trodAll_cons r1
  obtain ⟨v3, vs3, d3, ds3, p3, q3, rfl, rfl, rfl, h3, r3⟩ := trodAll_cons r2
  obtain ⟨rfl, rfl, rfl⟩ := trodAll_nil r3
  obtain rfl : args = #[v0, v1, v2, v3] := by cases args; simp_all
  obtain ⟨rfl, rfl⟩ := trodVars_none hV
  have k0 := h0
  have lt0 : ∀ x ∈ p0, x.block < W.heap.size := by obtain ⟨m, hm⟩ := k0; exact DataW.trod_lt m _ _ _ hm
  have k1 := h1
  have lt1 : ∀ x ∈ p1, x.block < W.heap.size := by obtain ⟨m, hm⟩ := k1; exact DataW.trod_lt m _ _ _ hm
  have k2 := h2
  have lt2 : ∀ x ∈ p2, x.block < W.heap.size := by obtain ⟨m, hm⟩ := k2; exact DataW.trod_lt m _ _ _ hm
  have k3 := h3
  have lt3 : ∀ x ∈ p3, x.block < W.heap.size := by obtain ⟨m, hm⟩ := k3; exact DataW.trod_lt m _ _ _ hm
  obtain ⟨a0, rfl, rfl, rfl, w0⟩ := open_int Try.underlying5 (hval 0 5 v0 rfl rfl) h0
  obtain ⟨a1, rfl, rfl, rfl, w1⟩ := open_int Try.underlying5 (hval 1 5 v1 rfl rfl) h1
  obtain ⟨s2, len2, cap2, rfl⟩ := okWide_slice Try.underlying26 (hval 2 26 v2 rfl rfl)
  obtain ⟨l2, rfl, w2, b2⟩ := argInts .i64 Try.underlying26 Try.underlying3 (by kernel_rfl) h2
  obtain ⟨a3, rfl, rfl, rfl, w3⟩ := open_int Try.underlying3 (hval 3 3 v3 rfl rfl) h3
  clear hA0 hval0
  refine (walk W a0 w0 a1 w1 s2 cap2 l2 w2 b2 a3 w3).mono fun e W' ⟨he, bel⟩ => ?_
  subst he
  exact ⟨_, rfl, _, _, _, [], _, [], hW', trodAll_mk1 (shut_bool Try.underlying4 _), (trodAll_cons_mk (Below.trod laidOut (by kernel_rfl) (of_decide_eq_true (by kernel_rfl)) k0 bel lt0) (trodAll_cons_mk (Below.trod laidOut (by kernel_rfl) (of_decide_eq_true (by kernel_rfl)) k1 bel lt1) (trodAll_cons_mk (Below.trod laidOut (by kernel_rfl) (of_decide_eq_true (by kernel_rfl)) k2 bel lt2) (trodAll_cons_mk (Below.trod laidOut (by kernel_rfl) (of_decide_eq_true (by kernel_rfl)) k3 bel lt3) trodAll_mk0)))), rfl, bel.frame _, fun h => by cases h⟩

theorem over : Rows.ringPlacesRow.holds Try.pinned (OpenSpec.ofChange Rows.ringPlacesSpec) :=
  OpenClaim.holds_of_wide 6 Try.f6 rfl rfl rfl rfl rfl rfl rfl ⟨rfl, rfl, rfl, rfl, rfl⟩ rfl rfl rfl rfl rfl (by kernel_rfl) Try.func6 (by kernel_rfl)
    (of_decide_eq_true (by kernel_rfl)) (by unfold Func.isWrapper; first | (rw [if_pos (by decide +kernel)]; kernel_rfl) | (rw [if_neg (by decide +kernel)]; exact ⟨rfl, rfl⟩))
    (fun os started H enc _ => lifted os started H enc)

theorem proved : Rows.RingPlacesSaid := over
#print axioms proved
end Go.Proofs.Ytebodpphimfdoaa.ringPlaces
