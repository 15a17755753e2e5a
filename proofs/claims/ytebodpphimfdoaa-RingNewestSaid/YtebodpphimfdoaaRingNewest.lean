/- Of what is forced into a ring the newest stay, as many as there is room for, in order. No conditions. -/
import Derived.Test.YtebodpphimfdoaaRows
import Derived.Test.YtebodpphimfdoaaArgs
import Derived.Test.YtebodpphimfdoaaRing8
import Derived.ProofKit
import Derived.OpenShut
namespace Go.Proofs.Ytebodpphimfdoaa.ringNewest
open Go.ChangeShapes Go.WideShapes Go.ChangeAt Go.RowKit
open Go.ChangeMaps (open_string shut_string)
set_option linter.unusedVariables false

set_option maxHeartbeats 1000000 in
set_option maxRecDepth 100000 in
theorem walk (w : World) (n : Int) (wn : (Lit.int .u8 n).wf = true) (s : Option Addr) (cap : Nat) (l : List Int) (hs : SlI w (.slice s l.length cap) l) (hb : ∀ n ∈ l, (Lit.int .i64 n).wf = true) :
    Calls Try.prog 5 #[.int .u8 n, .slice s l.length cap] w fun e w' => e = .returned (.bool true) ∧ Below w.heap.size w w' := by
  have HS := hid hs
  have hn : 0 ≤ n ∧ n ≤ 255 := bounds_u8 wn
  obtain ⟨hn0, hn1⟩ := hn
  clear hs hb wn
  by_cases hl : 200 < l.length
  · have hd : decide ((200 : Int) < l.length) = true := by simp; omega
    go_enter Try.func5, Try.ntmps5
    go_wp2_with fail
    refine (fits_true _).mono ?_
    rintro e w1 ⟨rfl, k1⟩
    have K1 := hid k1
    clear k1
    go_wp2_with fail
    refine (fits_true _).mono ?_
    rintro e w2 ⟨rfl, k2⟩
    have K2 := hid k2
    clear k2
    go_wp2_with fail
    go_ret
    exact ⟨rfl, (K1.out.trans K2.out).toBelow⟩
  · have hd : decide ((200 : Int) < l.length) = false := by simp; omega
    obtain ⟨m, rfl⟩ := Int.eq_ofNat_of_zero_le hn0
    obtain ⟨room, hr⟩ : ∃ room, room = m % 20 := ⟨_, rfl⟩
    have hroom : roomOf ((m : Int) % 20) = room := by unfold roomOf; rw [if_neg (by omega), if_neg (by omega)]; omega
    have hr20 : room < 20 := by omega
    have hrm : (m : Int) % 20 = room := by omega
    have HR := hid hroom
    have HM := hid hrm
    clear hroom hrm hr
    go_enter Try.func5, Try.ntmps5
    go_wp2_with fail
    refine (fits_true _).mono ?_
    rintro e w1 ⟨rfl, k1⟩
    have K1 := hid k1
    clear k1
    go_wp2_with fail
    refine (inew_any _ _).mono ?_
    rintro e w2 ⟨rfl, h2, k2⟩
    rw [HR.out] at h2
    have H2 := hid h2
    have K2 := hid (K1.out.trans k2)
    obtain ⟨rb, hrb⟩ : ∃ rb, rb = w1.heap.size := ⟨_, rfl⟩
    have HRB : Hid (w.heap.size ≤ rb) := hid (by rw [hrb]; exact K1.out.size)
    rw [← hrb] at H2 ⊢
    clear h2 k2 hrb
    go_wp2_with fail

    go_loopw [6] (fun v6 wr => ∃ (k : Nat) (F : Nat → Prop), k ≤ l.length ∧ v6 = .int .i64 k ∧ Hid (RingI wr rb F room (lastN room (l.take k))) ∧ Hid (∀ i, F i → w.heap.size ≤ i) ∧ Hid (Keeps No w wr)) (fun v6 _ => l.length - (intOf v6).toNat)
    case atStart => exact ⟨0, _, Nat.zero_le _, rfl, hid (by simpa [lastN] using H2.out), hid (fun i hi => by have : i = rb := hi; rw [this]; exact HRB.out), K2⟩
    case round =>
      obtain ⟨k, F, hk, rfl, HRI, HF, HK⟩ := hrel
      by_cases hlt : k < l.length
      · obtain ⟨g, off, rfl, _, hc⟩ := SlI.cellAt (HS.out.keep HK.out (fun _ _ h => h)) hlt
        obtain ⟨x, hx⟩ : ∃ x, l[k] = x := ⟨_, rfl⟩
        rw [hx] at hc
        have HX := hid hx
        clear hx
        go_wp2_with fail
        refine (iforce_any HRI.out x).mono ?_
        rintro e w3 ⟨y3, t3, rfl, F3, h3, u3⟩
        have H3 := hid h3
        obtain ⟨hF3, hK3⟩ := newUpd HF.out HK.out u3
        have HF3 := hid hF3
        have HK3 := hid hK3
        clear h3 u3 hF3 hK3
        go_wp2_with fail
        go_roundw
        case rel => exact ⟨k + 1, F3, by omega, by go_num, hid (by rw [List.take_succ_eq_append_getElem hlt, HX.out, ← lastN_snoc]; exact H3.out), HF3, HK3⟩
        case measure => simp [intOf]; omega
      · have hkl : k = l.length := by omega
        subst hkl
        rw [List.take_length] at HRI
        have hm' := HM.out
        by_cases hlr : l.length < room
        · have hneg : (l.length : Int) - (m : Int) % 20 < 0 := by omega
          obtain ⟨v', HV, hrun⟩ : ∃ v', Hid (SlI w v' (lastN room l)) ∧ ∀ w, (Instr.slice 26 (.slice s l.length cap) (some (.int .i64 0)) none none).run Try.prog w = .ok v' w :=
            ⟨_, hid (by rw [lastN_all (by omega)]; exact SlI.from HS.out (lo := 0) (by omega)), fun w => run_slice1From (lo := 0) Try.underlying26 (by kernel_rfl) rfl (by omega) w⟩
          clear hm'
          go_wp2_with fail
          go_region_with (first | (go_at_call 26; refine (iall_any (by exact HRI.out)).mono ?_; rintro e w3 ⟨v3, rfl, ho3, k3, hb3⟩; have HO3 := hid ho3; have K3 := hid k3; clear ho3 k3 hb3) | (go_at_call 25; refine (msame_true (l := lastN room l) (Sl.ofOwn HO3.out) (HV.out.keep ((HK.out.drew).trans K3.out) (fun _ _ h => h))).mono ?_; rintro e w4 ⟨rfl, k4⟩; have K4 := hid k4; clear k4))
          all_goals
            go_wp2_with fail
            go_ret
            exact ⟨rfl, (((HK.out.drew).trans K3.out).trans K4.out).toBelow⟩
        · have hneg : ¬ ((l.length : Int) - (m : Int) % 20 < 0) := by omega
          obtain ⟨v', HV, hrun⟩ : ∃ v', Hid (SlI w v' (lastN room l)) ∧ ∀ w, (Instr.slice 26 (.slice s l.length cap) (some (.int .i64 ((l.length : Int) - (m : Int) % 20))) none none).run Try.prog w = .ok v' w :=
            ⟨_, hid (SlI.from HS.out (lo := l.length - room) (by omega)), fun w => run_slice1From (lo := l.length - room) (n := l.length) (z := (l.length : Int) - (m : Int) % 20) Try.underlying26 (by kernel_rfl) (by omega) (by omega) w⟩
          clear hm'
          go_wp2_with fail
          go_region_with (first | (go_at_call 26; refine (iall_any (by exact HRI.out)).mono ?_; rintro e w3 ⟨v3, rfl, ho3, k3, hb3⟩; have HO3 := hid ho3; have K3 := hid k3; clear ho3 k3 hb3) | (go_at_call 25; refine (msame_true (l := lastN room l) (Sl.ofOwn HO3.out) (HV.out.keep ((HK.out.drew).trans K3.out) (fun _ _ h => h))).mono ?_; rintro e w4 ⟨rfl, k4⟩; have K4 := hid k4; clear k4))
          all_goals
            go_wp2_with fail
            go_ret
            exact ⟨rfl, (((HK.out.drew).trans K3.out).trans K4.out).toBelow⟩

theorem own : ownKnob Try.prog.godebug = none := by kernel_rfl
theorem laidOut : laidOutB Try.prog = true := by kernel_rfl
set_option maxRecDepth 100000 in
theorem lifted (os : Os) (started : os.Started) (H : Type) (enc : TypeId × Value → H) :
    ReturnsInHanded {} Try.checked os 5 .any (Rows.ringNewestSpec.pre6 enc Try.prog Try.f5 Rows.ringNewestRow.domain false) (Rows.ringNewestSpec.post enc Try.prog Try.f5 false true false false) := by
  refine returnsInHanded_of_change (C := Try.checked) own started (by kernel_rfl) Try.func5
    (ChangeSpec.witness6 (enc := enc) (C := Try.checked) false ⟨#[], #[.int .u8 0, .slice none 0 0], []⟩ 8 (by kernel_rfl) (by kernel_rfl) (by kernel_rfl) (by kernel_rfl)) ?_
  intro W base args ds gs before hval0 hW hcnd _
  have hval : ∀ (j : Nat) t v, Try.f5.params[j]? = some t → args[j]? = some v → Value.okWide Try.prog W .any base t v := hval0
  have hW' := hW
  obtain ⟨p, q, hA0, hV, rfl, hfz, hnd⟩ := hW
  have hA : DataW.TrodAll enc Try.prog W 0 (fun _ => true) true Try.f5.params.toList args.toList ds p := hA0
  rw [Try.params5] at hA hval
  obtain ⟨v0, vs0, d0, ds0, p0, q0, hargs, rfl, rfl, h0, r0⟩ := trodAll_cons hA
  obtain ⟨v1, vs1, d1, ds1, p1, q1, rfl, rfl, rfl, h1, r1⟩ := trodAll_cons r0
  obtain ⟨rfl, rfl, rfl⟩ := trodAll_nil r1
  obtain rfl : args = #[v0, v1] := by cases args; simp_all
  obtain ⟨rfl, rfl⟩ := trodVars_none hV
  have k0 := h0
  have lt0 : ∀ x ∈ p0, x.block < W.heap.size := by obtain ⟨m, hm⟩ := k0; exact DataW.trod_lt m _ _ _ hm
  have k1 := h1
  have lt1 : ∀ x ∈ p1, x.block < W.heap.size := by obtain ⟨m, hm⟩ := k1; exact DataW.trod_lt m _ _ _ hm
  obtain ⟨a0, rfl, rfl, rfl, w0⟩ := open_int Try.underlying5 (hval 0 5 v0 rfl rfl) h0
  obtain ⟨s1, len1, cap1, rfl⟩ := okWide_slice Try.underlying26 (hval 1 26 v1 rfl rfl)
  obtain ⟨l1, rfl, w1, b1⟩ := argInts .i64 Try.underlying26 Try.underlying3 (by kernel_rfl) h1
  clear hA0 hval0
  refine (walk W a0 w0 s1 cap1 l1 w1 b1).mono fun e W' ⟨he, bel⟩ => ?_
  subst he
  exact ⟨_, rfl, _, _, _, [], _, [], hW', trodAll_mk1 (shut_bool Try.underlying4 _), (trodAll_cons_mk (Below.trod laidOut (by kernel_rfl) (of_decide_eq_true (by kernel_rfl)) k0 bel lt0) (trodAll_cons_mk (Below.trod laidOut (by kernel_rfl) (of_decide_eq_true (by kernel_rfl)) k1 bel lt1) trodAll_mk0)), rfl, bel.frame _, fun h => by cases h⟩

theorem over : Rows.ringNewestRow.holds Try.pinned (OpenSpec.ofChange Rows.ringNewestSpec) :=
  OpenClaim.holds_of_wide 5 Try.f5 rfl rfl rfl rfl rfl rfl rfl ⟨rfl, rfl, rfl, rfl, rfl⟩ rfl rfl rfl rfl rfl (by kernel_rfl) Try.func5 (by kernel_rfl)
    (of_decide_eq_true (by kernel_rfl)) (by unfold Func.isWrapper; first | (rw [if_pos (by decide +kernel)]; kernel_rfl) | (rw [if_neg (by decide +kernel)]; exact ⟨rfl, rfl⟩))
    (fun os started H enc _ => lifted os started H enc)

theorem proved : Rows.RingNewestSaid := over
#print axioms proved
end Go.Proofs.Ytebodpphimfdoaa.ringNewest
