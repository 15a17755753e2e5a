/- What is pushed onto a ring of enough room is popped in its order, and no more. No conditions. -/
import Derived.Test.YtebodpphimfdoaaRows
import Derived.Test.YtebodpphimfdoaaArgs
import Derived.Test.YtebodpphimfdoaaRing8
import Derived.ProofKit
import Derived.OpenShut
namespace Go.Proofs.Ytebodpphimfdoaa.ringOrder
open Go.ChangeShapes Go.WideShapes Go.ChangeAt Go.RowKit
open Go.ChangeMaps (open_string shut_string)
set_option linter.unusedVariables false

set_option maxHeartbeats 1000000 in
set_option maxRecDepth 100000 in
theorem walk (w : World) (s : Option Addr) (cap : Nat) (l : List Int) (hs : SlI w (.slice s l.length cap) l) (hb : ∀ n ∈ l, (Lit.int .i64 n).wf = true) :
    Calls Try.prog 4 #[.slice s l.length cap] w fun e w' => e = .returned (.bool true) ∧ Below w.heap.size w w' := by
  have HS := hid hs
  clear hs hb
  by_cases hl : 200 < l.length
  · have hd : decide ((200 : Int) < l.length) = true := by simp; omega
    go_enter Try.func4, Try.ntmps4
    go_wp2_with fail
    refine (fits_true _).mono ?_
    rintro e w1 ⟨rfl, k1⟩
    have K1 := hid k1
    clear k1
    go_wp2_with fail
    refine (fits_true _).mono ?_
    rintro e w2 ⟨rfl, k2⟩
    have K2 := hid k2
    clear k2
    go_wp2_with fail
    go_ret
    exact ⟨rfl, (K1.out.trans K2.out).toBelow⟩
  · have hd : decide ((200 : Int) < l.length) = false := by simp; omega
    have hroom : roomOf l.length = l.length := by unfold roomOf; rw [if_neg (by omega), if_neg (by omega)]; omega
    have HR := hid hroom
    clear hroom
    go_enter Try.func4, Try.ntmps4
    go_wp2_with fail
    refine (fits_true _).mono ?_
    rintro e w1 ⟨rfl, k1⟩
    have K1 := hid k1
    clear k1
    go_wp2_with fail
    refine (inew_any _ _).mono ?_
    rintro e w2 ⟨rfl, h2, k2⟩
    rw [HR.out] at h2
    have H2 := hid h2
    have K2 := hid (K1.out.trans k2)
    obtain ⟨rb, hrb⟩ : ∃ rb, rb = w1.heap.size := ⟨_, rfl⟩
    have HRB : Hid (w.heap.size ≤ rb) := hid (by rw [hrb]; exact K1.out.size)
    rw [← hrb] at H2 ⊢
    clear h2 k2 hrb
    go_wp2_with fail
    go_loopw [4] (fun v4 wr => ∃ (k : Nat) (F : Nat → Prop), k ≤ l.length ∧ v4 = .int .i64 k ∧ Hid (RingI wr rb F l.length (l.take k)) ∧ Hid (∀ i, F i → w.heap.size ≤ i) ∧ Hid (Keeps No w wr)) (fun v4 _ => l.length - (intOf v4).toNat)
    case atStart => exact ⟨0, _, Nat.zero_le _, rfl, H2, hid (fun i hi => by rw [hi]; exact HRB.out), K2⟩
    case round =>
      obtain ⟨k, F, hk, rfl, HRI, HF, HK⟩ := hrel
      by_cases hlt : k < l.length
      · obtain ⟨g, off, rfl, _, hc⟩ := SlI.cellAt (HS.out.keep HK.out (fun _ _ h => h)) hlt
        obtain ⟨x, hx⟩ : ∃ x, l[k] = x := ⟨_, rfl⟩
        rw [hx] at hc
        have HX := hid hx
        clear hx
        go_wp2_with fail
        refine (ipush_ok HRI.out (by simp; omega) x).mono ?_
        rintro e w3 ⟨rfl, F3, h3, u3⟩
        have H3 := hid h3
        obtain ⟨hF3, hK3⟩ := newUpd HF.out HK.out u3
        have HF3 := hid hF3
        have HK3 := hid hK3
        clear h3 u3 hF3 hK3
        go_wp2_with fail
        go_roundw
        case rel => exact ⟨k + 1, F3, by omega, by go_num, hid (by rw [List.take_succ_eq_append_getElem hlt, HX.out]; exact H3.out), HF3, HK3⟩
        case measure => simp [intOf]; omega
      · have hkl : k = l.length := by omega
        subst hkl
        rw [List.take_length] at HRI
        go_wp2_with fail
        refine (ipush_full HRI.out rfl 7).mono ?_
        rintro e w' ⟨rfl, rfl⟩
        go_wp2_with fail
        go_loopw [5] (fun v5 wr' => ∃ (k : Nat) (F : Nat → Prop), k ≤ l.length ∧ v5 = .int .i64 k ∧ Hid (RingI wr' rb F l.length (l.drop k)) ∧ Hid (∀ i, F i → w.heap.size ≤ i) ∧ Hid (Keeps No w wr')) (fun v5 _ => l.length - (intOf v5).toNat)
        case atStart => exact ⟨0, _, Nat.zero_le _, rfl, HRI, HF, HK⟩
        case round =>
          obtain ⟨k, F', hk, rfl, HRI', HF', HK'⟩ := hrel
          clear HRI HF HK
          by_cases hlt : k < l.length
          · obtain ⟨x, hx⟩ : ∃ x, l[k] = x := ⟨_, rfl⟩
            have hdr : l.drop k = x :: l.drop (k + 1) := by rw [← hx]; exact List.drop_eq_getElem_cons hlt
            rw [hdr] at HRI'
            have HX := hid hx
            clear hx hdr
            go_wp2_with fail
            refine (ipop_ok HRI'.out).mono ?_
            rintro e w3 ⟨rfl, F3, h3, u3⟩
            have H3 := hid h3
            obtain ⟨hF3, hK3⟩ := newUpd HF'.out HK'.out u3
            have HF3 := hid hF3
            have HK3 := hid hK3
            obtain ⟨g, off, rfl, _, hc⟩ := SlI.cellAt (HS.out.keep HK3.out (fun _ _ h => h)) hlt
            rw [HX.out] at hc
            clear h3 u3 hF3 hK3
            go_wp2_with fail
            go_roundw
            case rel => exact ⟨k + 1, F3, by omega, by go_num, H3, HF3, HK3⟩
            case measure => simp [intOf]; omega
          · have hkl : k = l.length := by omega
            subst hkl
            rw [List.drop_length] at HRI'
            go_wp2_with fail
            refine (ipop_none HRI'.out).mono ?_
            rintro e w' ⟨rfl, rfl⟩
            have c2 := RingI.len_cell HRI'.out
            go_wp2_with fail
            refine (ilen_any _ _ _ c2).mono ?_
            rintro e w' ⟨rfl, rfl⟩
            go_wp2_with fail
            go_ret
            exact ⟨rfl, HK'.out.toBelow⟩

theorem own : ownKnob Try.prog.godebug = none := by kernel_rfl
theorem laidOut : laidOutB Try.prog = true := by kernel_rfl
set_option maxRecDepth 100000 in
theorem lifted (os : Os) (started : os.Started) (H : Type) (enc : TypeId × Value → H) :
    ReturnsInHanded {} Try.checked os 4 .any (Rows.ringOrderSpec.pre6 enc Try.prog Try.f4 Rows.ringOrderRow.domain false) (Rows.ringOrderSpec.post enc Try.prog Try.f4 false true false false) := by
  refine returnsInHanded_of_change (C := Try.checked) own started (by kernel_rfl) Try.func4
    (ChangeSpec.witness6 (enc := enc) (C := Try.checked) false ⟨#[], #[.slice none 0 0], []⟩ 8 (by kernel_rfl) (by kernel_rfl) (by kernel_rfl) (by kernel_rfl)) ?_
  intro W base args ds gs before hval0 hW hcnd _
  have hval : ∀ (j : Nat) t v, Try.f4.params[j]? = some t → args[j]? = some v → Value.okWide Try.prog W .any base t v := hval0
  have hW' := hW
  obtain ⟨p, q, hA0, hV, rfl, hfz, hnd⟩ := hW
  have hA : DataW.TrodAll enc Try.prog W 0 (fun _ => true) true Try.f4.params.toList args.toList ds p := hA0
  rw [Try.params4] at hA hval
  obtain ⟨v0, vs0, d0, ds0, p0, q0, hargs, rfl, rfl, h0, r0⟩ := trodAll_cons hA
  obtain ⟨rfl, rfl, rfl⟩ := trodAll_nil r0
  obtain rfl : args = #[v0] := by cases args; simp_all
  obtain ⟨rfl, rfl⟩ := trodVars_none hV
  have k0 := h0
  have lt0 : ∀ x ∈ p0, x.block < W.heap.size := by obtain ⟨m, hm⟩ := k0; exact DataW.trod_lt m _ _ _ hm
  obtain ⟨s0, len0, cap0, rfl⟩ := okWide_slice Try.underlying26 (hval 0 26 v0 rfl rfl)
  obtain ⟨l0, rfl, w0, b0⟩ := argInts .i64 Try.underlying26 Try.underlying3 (by kernel_rfl) h0
  clear hA0 hval0
  refine (walk W s0 cap0 l0 w0 b0).mono fun e W' ⟨he, bel⟩ => ?_
  subst he
  exact ⟨_, rfl, _, _, _, [], _, [], hW', trodAll_mk1 (shut_bool Try.underlying4 _), (trodAll_cons_mk (Below.trod laidOut (by kernel_rfl) (of_decide_eq_true (by kernel_rfl)) k0 bel lt0) trodAll_mk0), rfl, bel.frame _, fun h => by cases h⟩

theorem over : Rows.ringOrderRow.holds Try.pinned (OpenSpec.ofChange Rows.ringOrderSpec) :=
  OpenClaim.holds_of_wide 4 Try.f4 rfl rfl rfl rfl rfl rfl rfl ⟨rfl, rfl, rfl, rfl, rfl⟩ rfl rfl rfl rfl rfl (by kernel_rfl) Try.func4 (by kernel_rfl)
    (of_decide_eq_true (by kernel_rfl)) (by unfold Func.isWrapper; first | (rw [if_pos (by decide +kernel)]; kernel_rfl) | (rw [if_neg (by decide +kernel)]; exact ⟨rfl, rfl⟩))
    (fun os started H enc _ => lifted os started H enc)

theorem proved : Rows.RingOrderSaid := over
#print axioms proved
end Go.Proofs.Ytebodpphimfdoaa.ringOrder
