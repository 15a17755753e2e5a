/- A ring of texts keeps the first of what is pushed, as many as there is room for. No conditions. -/
import Derived.Test.YtebodpphimfdoaaRows
import Derived.Test.YtebodpphimfdoaaArgs
import Derived.Test.YtebodpphimfdoaaSRing
import Derived.ProofKit
import Derived.OpenShut
namespace Go.Proofs.Ytebodpphimfdoaa.ringTexts
open Go.ChangeShapes Go.WideShapes Go.ChangeAt Go.RowKit
open Go.ChangeMaps (open_string shut_string)
set_option linter.unusedVariables false

set_option maxHeartbeats 2000000 in
set_option maxRecDepth 100000 in
theorem walk (w : World) (s : Option Addr) (cap : Nat) (l : List ByteArray) (hs : Sl w 1 (.slice s l.length cap) l.length (l.map Value.string)) (hb : ∀ n ∈ l, n.size ≤ maxLen) (n : Int) (wn : (Lit.int .u8 n).wf = true) :
    Calls Try.prog 7 #[.slice s l.length cap, .int .u8 n] w fun e w' => e = .returned (.bool true) ∧ Below w.heap.size w w' := by
  have HS := hid hs
  obtain ⟨hn0, hn1⟩ := bounds_u8 wn
  clear hs hb wn
  by_cases hl : 60 < l.length
  · have hd : decide ((60 : Int) < l.length) = true := by simp; omega
    go_enter Try.func7, Try.ntmps7
    go_wp2_with fail
    refine (fits_true _).mono ?_
    rintro e w1 ⟨rfl, k1⟩
    have K1 := hid k1
    clear k1
    go_wp2_with fail
    refine (fits_true _).mono ?_
    rintro e w2 ⟨rfl, k2⟩
    have K2 := hid k2
    clear k2
    go_wp2_with fail
    go_ret
    exact ⟨rfl, (K1.out.trans K2.out).toBelow⟩
  · have hd : decide ((60 : Int) < l.length) = false := by simp; omega
    obtain ⟨m, rfl⟩ := Int.eq_ofNat_of_zero_le hn0
    obtain ⟨room, hr⟩ : ∃ room, room = m % 20 := ⟨_, rfl⟩
    have hroom : roomOf ((m : Int) % 20) = room := by unfold roomOf; rw [if_neg (by omega), if_neg (by omega)]; omega
    have hr20 : room < 20 := by omega
    have hrm : (m : Int) % 20 = room := by omega
    have HM := hid hrm
    have HR := hid hroom
    clear hroom hr hrm
    go_enter Try.func7, Try.ntmps7
    go_wp2_with fail
    refine (fits_true _).mono ?_
    rintro e w1 ⟨rfl, k1⟩
    have K1 := hid k1
    clear k1
    go_wp2_with fail
    refine (snew_any _ _).mono ?_
    rintro e w2 ⟨rfl, h2, k2⟩
    rw [HR.out] at h2
    have H2 := hid h2
    have K2 := hid (K1.out.trans k2)
    obtain ⟨rb, hrb⟩ : ∃ rb, rb = w1.heap.size := ⟨_, rfl⟩
    have HRB : Hid (w.heap.size ≤ rb) := hid (by rw [hrb]; exact K1.out.size)
    rw [← hrb] at H2 ⊢
    clear h2 k2 hrb
    go_wp2_with fail
    go_loopw [6] (fun v6 wr => ∃ (k : Nat) (F : Nat → Prop), k ≤ l.length ∧ v6 = .int .i64 k ∧ Hid (RingS wr rb F room ((l.take k).take room)) ∧ Hid (∀ i, F i → w.heap.size ≤ i) ∧ Hid (Keeps No w wr)) (fun v6 _ => l.length - (intOf v6).toNat)
    case atStart => exact ⟨0, _, Nat.zero_le _, rfl, hid (by simpa using H2.out), hid (fun i hi => by have : i = rb := hi; rw [this]; exact HRB.out), K2⟩
    case round =>
      obtain ⟨k, F, hk, rfl, HRI, HF, HK⟩ := hrel
      have hll := hid (show ((l.take k).take room).length = min k room by simp; omega)
      have c0 := RingS.room_cell HRI.out
      have c2 := RingS.len_cell HRI.out
      rw [hll.out] at c2
      by_cases hlt : k < l.length
      · obtain ⟨g, off, rfl, _, hc⟩ := Sl.cellAt (HS.out.keep HK.out (fun _ _ h => h)) (show (l.map Value.string)[k]? = some (.string l[k]) by simp [hlt])
        obtain ⟨x, hx⟩ : ∃ x, l[k] = x := ⟨_, rfl⟩
        rw [hx] at hc
        have HX := hid hx
        clear hx
        by_cases hkr : k < room
        · rw [show min k room = k by omega] at c2
          have hne : ((k : Int) == (room : Int)) = false := by rw [beq_eq_false_iff_ne]; omega
          go_wp2_with (first | (go_at_call 30; refine (slen_any _ _ _ c2).mono ?_; rintro e w' ⟨rfl, rfl⟩) | (go_at_call 31; refine (scap_any _ _ _ c0).mono ?_; rintro e w' ⟨rfl, rfl⟩) | (go_at_call 32; refine (spush_ok HRI.out (by rw [hll.out]; omega) x).mono ?_; rintro e w3 ⟨rfl, F3, h3, u3⟩; have H3 := hid h3; have U3 := hid u3; clear h3 u3))
          go_roundw
          case rel =>
            obtain ⟨hF3, hK3⟩ := newUpd HF.out HK.out U3.out
            refine ⟨k + 1, F3, by omega, by go_num, hid ?_, hid hF3, hid hK3⟩
            have h3 := H3.out
            rw [List.take_of_length_le (by simp; omega)] at h3
            rw [List.take_of_length_le (by simp; omega), List.take_succ_eq_append_getElem hlt, HX.out]
            exact h3
          case measure => simp [intOf]; omega
        · rw [show min k room = room by omega] at c2
          have hne : ((room : Int) == (room : Int)) = true := by simp
          go_wp2_with (first | (go_at_call 30; refine (slen_any _ _ _ c2).mono ?_; rintro e w' ⟨rfl, rfl⟩) | (go_at_call 31; refine (scap_any _ _ _ c0).mono ?_; rintro e w' ⟨rfl, rfl⟩) | (go_at_call 32; refine (spush_full HRI.out (by rw [hll.out]; omega) x).mono ?_; rintro e w3 ⟨rfl, rfl⟩))
          go_roundw
          case rel =>
            refine ⟨k + 1, F, by omega, by go_num, hid ?_, HF, HK⟩
            have h3 := HRI.out
            rw [List.take_take, show min room k = room by omega] at h3
            rw [List.take_take, show min room (k + 1) = room by omega]
            exact h3
          case measure => simp [intOf]; omega
      · have hkl : k = l.length := by omega
        subst hkl
        go_wp2_with fail
        refine (sall_any HRI.out).mono ?_
        rintro e w4 ⟨av, rfl, ho, k4, hb4⟩
        obtain ⟨ao, acap, rfl⟩ := own_any ho
        obtain ⟨L, hL⟩ : ∃ L, L = (l.take l.length).take room := ⟨_, rfl⟩
        rw [← hL] at ho ⊢
        have hLl : L.length ≤ room ∧ L.length ≤ l.length ∧ (L.length = l.length ∨ L.length = room) := by rw [hL]; simp; omega
        obtain ⟨hL1, hL2, hL3⟩ := hLl
        have HL3 := hid hL3
        have hLg : ∀ i (h : i < L.length) (h' : i < l.length), L[i] = l[i] := fun i h h' => by subst hL; simp
        have HLG := hid hLg
        have HA := hid (Sl.ofOwn ho)
        have HK4 := hid (HK.out.trans k4)
        clear HRI HK ho k4 hLg hL hll c0 c2 hL3
        go_wp2_with fail
        go_loopw [9] (fun v9 wr' => ∃ (k : Nat), k ≤ L.length ∧ v9 = .int .i64 k ∧ Hid (∃ n, wr' = w4.drewN n)) (fun v9 _ => L.length - (intOf v9).toNat)
        case atStart => exact ⟨0, Nat.zero_le _, rfl, hid ⟨0, rfl⟩⟩
        case round =>
          obtain ⟨k, hk, rfl, HN⟩ := hrel
          obtain ⟨n0, rfl⟩ := HN.out
          by_cases hlt : k < L.length
          · have hkl : k < l.length := by omega
            obtain ⟨x, hx⟩ : ∃ x, l[k] = x := ⟨_, rfl⟩
            obtain ⟨g, off, rfl, _, hc⟩ := Sl.cellAt HA.out (show (L.map Value.string)[k]? = some (.string x) by simp [hlt, HLG.out k hlt hkl, hx])
            obtain ⟨g2, off2, rfl, _, hc2⟩ := Sl.cellAt (HS.out.keep HK4.out (fun _ _ h => h)) (show (l.map Value.string)[k]? = some (.string x) by simp [hkl, hx])
            clear hx
            go_wp2_with fail
            go_quiet (fail)
            go_wp2_with fail
            go_roundw
            case rel => exact ⟨k + 1, by omega, by go_num, hid ⟨_, rfl⟩⟩
            case measure => simp [intOf]; omega
          · have hkl : k = L.length := by omega
            subst hkl
            have hm' := HM.out
            have hL3 := HL3.out
            have h1 : decide ((L.length : Int) ≤ (m : Int) % 20) = true := by simp; omega
            by_cases hlr : l.length ≤ room
            · have h2 : ((L.length : Int) == (l.length : Int)) = true := by rw [beq_iff_eq]; omega
              clear hm' hL3
              go_wp2_with fail
              go_ret
              exact ⟨rfl, (HK4.out.drewN n0).toBelow⟩
            · have h2 : ((L.length : Int) == (l.length : Int)) = false := by rw [beq_eq_false_iff_ne]; omega
              have h3 : ((L.length : Int) == (m : Int) % 20) = true := by rw [beq_iff_eq]; omega
              clear hm' hL3
              go_wp2_with fail
              go_ret
              exact ⟨rfl, (HK4.out.drewN n0).toBelow⟩

theorem own : ownKnob Try.prog.godebug = none := by kernel_rfl
theorem laidOut : laidOutB Try.prog = true := by kernel_rfl
set_option maxRecDepth 100000 in
theorem lifted (os : Os) (started : os.Started) (H : Type) (enc : TypeId × Value → H) :
    ReturnsInHanded {} Try.checked os 7 .any (Rows.ringTextsSpec.pre6 enc Try.prog Try.f7 Rows.ringTextsRow.domain false) (Rows.ringTextsSpec.post enc Try.prog Try.f7 false true false false) := by
  refine returnsInHanded_of_change (C := Try.checked) own started (by kernel_rfl) Try.func7
    (ChangeSpec.witness6 (enc := enc) (C := Try.checked) false ⟨#[], #[.slice none 0 0, .int .u8 0], []⟩ 8 (by kernel_rfl) (by kernel_rfl) (by kernel_rfl) (by kernel_rfl)) ?_
  intro W base args ds gs before hval0 hW hcnd _
  have hval : ∀ (j : Nat) t v, Try.f7.params[j]? = some t → args[j]? = some v → Value.okWide Try.prog W .any base t v := hval0
  have hW' := hW
  obtain ⟨p, q, hA0, hV, rfl, hfz, hnd⟩ := hW
  have hA : DataW.TrodAll enc Try.prog W 0 (fun _ => true) true Try.f7.params.toList args.toList ds p := hA0
  rw [Try.params7] at hA hval
  obtain ⟨v0, vs0, d0, ds0, p0, q0, hargs, rfl, rfl, h0, r0⟩ := trodAll_cons hA
  obtain ⟨v1, vs1, d1, ds1, p1, q1, rfl, rfl, rfl, h1, r1⟩ := trodAll_cons r0
  obtain ⟨rfl, rfl, rfl⟩ := trodAll_nil r1
  obtain rfl : args = #[v0, v1] := by cases args; simp_all
  obtain ⟨rfl, rfl⟩ := trodVars_none hV
  have k0 := h0
  have lt0 : ∀ x ∈ p0, x.block < W.heap.size := by obtain ⟨m, hm⟩ := k0; exact DataW.trod_lt m _ _ _ hm
  have k1 := h1
  have lt1 : ∀ x ∈ p1, x.block < W.heap.size := by obtain ⟨m, hm⟩ := k1; exact DataW.trod_lt m _ _ _ hm
  obtain ⟨s0, len0, cap0, rfl⟩ := okWide_slice Try.underlying49 (hval 0 49 v0 rfl rfl)
  obtain ⟨l0, rfl, w0, b0⟩ := argStrings Try.underlying49 Try.underlying9 (by kernel_rfl) h0
  obtain ⟨a1, rfl, rfl, rfl, w1⟩ := open_int Try.underlying5 (hval 1 5 v1 rfl rfl) h1
  clear hA0 hval0
  refine (walk W s0 cap0 l0 w0 b0 a1 w1).mono fun e W' ⟨he, bel⟩ => ?_
  subst he
  exact ⟨_, rfl, _, _, _, [], _, [], hW', trodAll_mk1 (shut_bool Try.underlying4 _), (trodAll_cons_mk (Below.trod laidOut (by kernel_rfl) (of_decide_eq_true (by kernel_rfl)) k0 bel lt0) (trodAll_cons_mk (Below.trod laidOut (by kernel_rfl) (of_decide_eq_true (by kernel_rfl)) k1 bel lt1) trodAll_mk0)), rfl, bel.frame _, fun h => by cases h⟩

theorem over : Rows.ringTextsRow.holds Try.pinned (OpenSpec.ofChange Rows.ringTextsSpec) :=
  OpenClaim.holds_of_wide 7 Try.f7 rfl rfl rfl rfl rfl rfl rfl ⟨rfl, rfl, rfl, rfl, rfl⟩ rfl rfl rfl rfl rfl (by kernel_rfl) Try.func7 (by kernel_rfl)
    (of_decide_eq_true (by kernel_rfl)) (by unfold Func.isWrapper; first | (rw [if_pos (by decide +kernel)]; kernel_rfl) | (rw [if_neg (by decide +kernel)]; exact ⟨rfl, rfl⟩))
    (fun os started H enc _ => lifted os started H enc)

theorem proved : Rows.RingTextsSaid := over
#print axioms proved
end Go.Proofs.Ytebodpphimfdoaa.ringTexts
