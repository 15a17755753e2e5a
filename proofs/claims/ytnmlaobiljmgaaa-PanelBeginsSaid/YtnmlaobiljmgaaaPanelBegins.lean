/- A burst begins with the sound that is told anew: its first sign is a pulse. No conditions. -/
import Derived.Test.YtnmlaobiljmgaaaRows
import Derived.Test.YtnmlaobiljmgaaaArgs
import Derived.Test.YtnmlaobiljmgaaaPanD
import Derived.ProofKit
import Derived.OpenShut
import Derived.Deep.DeepCutAuto
import Derived.Deep.CutBlock
import Derived.Deep.RegionHeld3
namespace Go.Proofs.Ytnmlaobiljmgaaa.panelBegins
open Go.ChangeShapes Go.WideShapes Go.ChangeAt Go.RowKit
open Go.ChangeMaps (open_string shut_string)
set_option linter.unusedVariables false
set_option linter.unusedSimpArgs false

def oneLit (A : Int) : List LightD := [⟨1, A, ⟨false, true, false, 0, 0⟩⟩]
theorem one_high {A : Int} (h : 1 ≤ A) : highD loudL (oneLit A) = A := by
  unfold highD oneLit loudL
  simp
  omega
theorem one_audio {A now : Int} (h : 1 ≤ A) (hn : 0 ≤ now) : audioD now (oneLit A) ⟨0, 0, 0⟩ = A := by
  unfold audioD
  rw [if_neg (by simp only; omega), one_high h]
theorem first_pulse {A : Int} (h : 1 ≤ A ∧ A ≤ 3) : soundD A 0 = true := by
  rcases (show A = 1 ∨ A = 2 ∨ A = 3 by omega) with rfl | rfl | rfl <;> decide
theorem held_self (now : Int) : held (now - now) = 0 := by rw [Int.sub_self]; rfl
theorem one_same {A pb now : Int} (h : 1 ≤ A) (hn : 0 ≤ now) : showP ⟨A, pb⟩ now (oneLit A) ⟨0, 0, 0⟩ = ⟨A, pb⟩ := by
  unfold showP; rw [one_audio h hn, if_pos rfl]
theorem one_new {A pa pb now : Int} (h : 1 ≤ A) (hn : 0 ≤ now) (hne : ¬ A = pa) : showP ⟨pa, pb⟩ now (oneLit A) ⟨0, 0, 0⟩ = ⟨A, now⟩ := by
  unfold showP; rw [one_audio h hn, if_neg hne]
theorem one_val {A now : Int} {p : PanelD} (h : 1 ≤ A) (hn : 0 ≤ now) (lv : Value) : (showD p now (oneLit A) ⟨0, 0, 0⟩).val lv = .agg #[.int .i64 now, lv, .int .u8 A, .bool (soundD A (held (now - (showP p now (oneLit A) ⟨0, 0, 0⟩).began))), .bool false, .bool false] := by
  unfold showD
  simp only [OutD.val]
  rw [one_audio h hn, decide_eq_false (show ¬ now < 0 by omega)]
/-- A panel is shown one light. -/
theorem show_one {w : World} {xb b : Nat} {A pa pb now : Int} (hA : 1 ≤ A ∧ A ≤ 3) (hx : SlPi w (.slice (some ⟨xb, 0, none⟩) 1 1) (oneLit A)) (hp : POb w b ⟨pa, pb⟩) (hpb : I64 pb) (hn : 0 ≤ now ∧ now ≤ 1000000) (hne : ¬ xb = b) {p' : PanelD} {s : Bool} (hP : showP ⟨pa, pb⟩ now (oneLit A) ⟨0, 0, 0⟩ = p') (hS : soundD A (held (now - p'.began)) = s) :
    Calls Try.prog 29 #[.pointer (some ⟨b, 0, none⟩), .int .i64 now, .slice (some ⟨xb, 0, none⟩) 1 1, .agg #[.int .i64 0, .int .i64 0, .int .u8 0]] w fun e w' => ∃ la ln lc, e = .returned (.agg #[.int .i64 now, .slice la ln lc, .int .u8 A, .bool s, .bool false, .bool false]) ∧ POb w' b p' ∧ Keeps (fun i => i = b) w w' := by
  refine (pshow_any hx (show (1 : Nat) ≤ 1000 by decide) (by intro x hx; unfold oneLit at hx; rw [List.mem_singleton] at hx; subst hx; simp only; omega) (by unfold Unlike oneLit; simp) hp now 0 0 0 hpb ⟨by omega, by omega⟩ (fun _ k hk e => by simp [Value.ownBlock] at hk; omega)).mono ?_
  rintro e w' ⟨lv, rfl, hsl, _, hb, kk⟩
  obtain ⟨la, lc, rfl⟩ := hsl.any
  rw [hP] at hb
  refine ⟨la, (lampsD (oneLit A)).length, lc, ?_, hb, kk⟩
  rw [one_val hA.1 hn.1, hP, hS]
theorem show_none {w : World} {xb : Nat} {A now : Int} (hA : 1 ≤ A ∧ A ≤ 3) (hx : SlPi w (.slice (some ⟨xb, 0, none⟩) 1 1) (oneLit A)) (hn : 0 ≤ now ∧ now ≤ 1000000) :
    Calls Try.prog 29 #[.pointer none, .int .i64 now, .slice (some ⟨xb, 0, none⟩) 1 1, .agg #[.int .i64 0, .int .i64 0, .int .u8 0]] w fun e w' => ∃ la ln lc, e = .returned (.agg #[.int .i64 now, .slice la ln lc, .int .u8 A, .bool true, .bool false, .bool false]) ∧ Keeps No w w' := by
  refine (pshow_nil hx (show (1 : Nat) ≤ 1000 by decide) (by intro x hx; unfold oneLit at hx; rw [List.mem_singleton] at hx; subst hx; simp only; omega) (by unfold Unlike oneLit; simp) now 0 0 0 ⟨by omega, by omega⟩).mono ?_
  rintro e w' ⟨lv, rfl, hsl, _, kk⟩
  obtain ⟨la, lc, rfl⟩ := hsl.any
  refine ⟨la, (lampsD (oneLit A)).length, lc, ?_, kk⟩
  rw [one_val hA.1 hn.1, one_new hA.1 hn.1 (by omega), held_self, first_pulse hA]

set_option maxHeartbeats 8000000 in
set_option maxRecDepth 100000 in
theorem walk (w : World) (a : Int) (wa : (Lit.int .u8 a).wf = true) (b : Int) (wb : (Lit.int .u8 b).wf = true) (n : Int) (wn : (Lit.int .u8 n).wf = true) :
    Calls Try.prog 11 #[.int .u8 a, .int .u8 b, .int .u8 n] w fun e w' => e = .returned (.bool true) ∧ Below w.heap.size w w' := by
  obtain ⟨a0, a1⟩ := bounds_u8 wa
  obtain ⟨b0, b1⟩ := bounds_u8 wb
  obtain ⟨n0, n1⟩ := bounds_u8 wn
  have ta : a.tmod 3 = a % 3 := Int.tmod_eq_emod_of_nonneg a0
  have tb : b.tmod 3 = b % 3 := Int.tmod_eq_emod_of_nonneg b0
  have tn : n.tmod 50 = n % 50 := Int.tmod_eq_emod_of_nonneg n0
  obtain ⟨a3, ha3⟩ : ∃ r, a % 3 = r := ⟨_, rfl⟩
  obtain ⟨b3, hb3⟩ : ∃ r, b % 3 = r := ⟨_, rfl⟩
  obtain ⟨m, hm⟩ : ∃ m : Nat, n % 50 = m := ⟨(n % 50).toNat, by omega⟩
  have hm50 : m < 50 := by omega
  have ha9 : 0 ≤ a3 ∧ a3 ≤ 2 := by omega
  have hb9 : 0 ≤ b3 ∧ b3 ≤ 2 := by omega
  rw [ha3] at ta
  rw [hb3] at tb
  rw [hm] at tn
  obtain ⟨A, hA⟩ : ∃ A, 1 + a3 = A := ⟨_, rfl⟩
  obtain ⟨B, hB⟩ : ∃ B, 1 + b3 = B := ⟨_, rfl⟩
  have u1 : IntKind.u8.wrap a3 = a3 := by simp only [IntKind.wrap, IntKind.bits, IntKind.signed]; simp; omega
  have u2 : IntKind.u8.wrap b3 = b3 := by simp only [IntKind.wrap, IntKind.bits, IntKind.signed]; simp; omega
  have u3 : IntKind.u8.wrap (1 + a3) = A := by rw [← hA]; simp only [IntKind.wrap, IntKind.bits, IntKind.signed]; simp; omega
  have u4 : IntKind.u8.wrap (1 + b3) = B := by rw [← hB]; simp only [IntKind.wrap, IntKind.bits, IntKind.signed]; simp; omega
  have u5 : IntKind.u8.wrap (m : Int) = m := by simp only [IntKind.wrap, IntKind.bits, IntKind.signed]; simp; omega
  have u6 : IntKind.i64.wrap (m : Int) = m := by simp only [IntKind.wrap_i64]; omega
  have hA3 : 1 ≤ A ∧ A ≤ 3 := by omega
  have hB3 : 1 ≤ B ∧ B ≤ 3 := by omega
  have HA3 := hid hA3
  have HB3 := hid hB3
  have HEQ : Hid (a3 = b3 ↔ A = B) := hid (by omega)
  clear ha3 hb3 hm wa wb wn hA hB hA3 hB3
  go_enter Try.func11, Try.ntmps11
  go_wp2_with fail
  refine (dark_true _).mono ?_
  rintro e w1 ⟨rfl, k1⟩
  have K1 := hid (k1)
  clear k1
  go_wp2_with fail
  refine (pnew_any _).mono ?_
  rintro e w2 ⟨pb, rfl, hbn, hpb, kp⟩
  have HPN : Hid (w.heap.size ≤ pb) := hid (by have := K1.out.size; omega)
  have HP2 := hid hpb
  have K2 := hid (K1.out.trans kp)
  clear hbn hpb kp
  obtain ⟨xb, hxb⟩ : ∃ r, w2.heap.size = r := ⟨_, rfl⟩
  obtain ⟨W, hW⟩ : ∃ W, (w2.alloc (.cells #[.int .i64 1, .int .u8 A, .bool false, .bool true, .bool false, .int .i64 0, .int .i64 0] 51)).alloc (.cells #[.int .i64 1, .int .u8 B, .bool false, .bool true, .bool false, .int .i64 0, .int .i64 0] 51) = W := ⟨_, rfl⟩
  have HX : Hid (SlPi W (.slice (some ⟨xb, 0, none⟩) 1 1) (oneLit A)) := hid (by rw [← hW]; exact (show SlPi _ _ (oneLit A) from Sl.newAt (w := w2) hxb #[.int .i64 1, .int .u8 A, .bool false, .bool true, .bool false, .int .i64 0, .int .i64 0] 51 7 1 rfl (by decide)).alloc _)
  have HY : Hid (SlPi W (.slice (some ⟨xb + 1, 0, none⟩) 1 1) (oneLit B)) := hid (by rw [← hW]; exact (show SlPi _ _ (oneLit B) from Sl.newAt (by simp [hxb]) #[.int .i64 1, .int .u8 B, .bool false, .bool true, .bool false, .int .i64 0, .int .i64 0] 51 7 1 rfl (by decide)))
  have HPW : Hid (POb W pb ⟨0, 0⟩) := hid (by rw [← hW]; exact Bk.alloc (Bk.alloc HP2.out _) _)
  have HXP : Hid (pb < xb) := hid (by have := HP2.out.lt; omega)
  have KW : Hid (Keeps No w W) := hid (by rw [← hW]; exact (K2.out.alloc _).alloc _)
  have HXBH := hid hxb
  have HWH := hid hW
  clear hxb hW
  go_upto_region 6 with fail
  rw [HXBH.out, HWH.out]
  clear HXBH HWH
  go_wp2_with fail
  go_loopw [10, 11] (fun v10 v11 wr => ∃ (i : Nat) (qa qb : Int), i ≤ m ∧ v11 = .int .i64 i ∧ v10 = .int .i64 (1 + (i : Int)) ∧ Hid ((i = 0 ∧ qa = 0 ∧ qb = 0) ∨ (0 < i ∧ qa = A ∧ qb = 1)) ∧ Hid (POb wr pb ⟨qa, qb⟩) ∧ Hid (SlPi wr (.slice (some ⟨xb, 0, none⟩) 1 1) (oneLit A)) ∧ Hid (SlPi wr (.slice (some ⟨xb + 1, 0, none⟩) 1 1) (oneLit B)) ∧ Hid (Keeps No w wr)) (fun _ v11 _ => m - (intOf v11).toNat)
  case atStart => exact ⟨0, 0, 0, Nat.zero_le _, rfl, rfl, hid (Or.inl ⟨rfl, rfl, rfl⟩), HPW, HX, HY, KW⟩
  case round =>
    obtain ⟨i, qa, qb, hi, rfl, rfl, HST, HP, HXR, HYR, HK⟩ := hrel
    by_cases hlt : i < m
    · have HSH : Hid (∃ s, (i = 0 → s = true) ∧ Calls Try.prog 29 #[.pointer (some ⟨pb, 0, none⟩), .int .i64 (1 + (i : Int)), .slice (some ⟨xb, 0, none⟩) 1 1, .agg #[.int .i64 0, .int .i64 0, .int .u8 0]] wr fun e w' => ∃ la ln lc, e = .returned (.agg #[.int .i64 (1 + (i : Int)), .slice la ln lc, .int .u8 A, .bool s, .bool false, .bool false]) ∧ POb w' pb ⟨A, 1⟩ ∧ Keeps (fun i => i = pb) wr w') := hid (by
        rcases HST.out with ⟨h0, h1, h2⟩ | ⟨h0, h1, h2⟩
        · subst h1 h2 h0
          have hc := HA3.out
          exact ⟨true, fun _ => rfl, show_one HA3.out HXR.out HP.out ⟨by decide, by decide⟩ ⟨by decide, by decide⟩ (by have := HXP.out; omega) (one_new hc.1 (by decide) (by omega)) (first_pulse hc)⟩
        · subst h1 h2
          have hc := HA3.out
          exact ⟨_, fun h => by omega, show_one HA3.out HXR.out HP.out ⟨by decide, by decide⟩ ⟨by omega, by omega⟩ (by have := HXP.out; omega) (one_same hc.1 (by omega)) rfl⟩)
      obtain ⟨s, hs0, hsh⟩ := HSH.out
      have HS0 := hid hs0
      have HSC := hid hsh
      clear hs0 hsh HSH
      go_wp2_with fail
      refine (HSC.out).mono ?_
      rintro e w5 ⟨la, ln, lc, rfl, hb5, k5⟩
      have hne : ¬ xb = pb := by have := HXP.out; omega
      have hne2 : ¬ xb + 1 = pb := by have := HXP.out; omega
      have HB5 := hid hb5
      have HX5 := hid (HXR.out.keep k5 (fun k hk e => by simp [Value.ownBlock] at hk; omega))
      have HY5 := hid (HYR.out.keep k5 (fun k hk e => by simp [Value.ownBlock] at hk; omega))
      have K5 : Hid (Keeps No w w5) := hid (HK.out.trans' k5 (fun _ _ h => h) (fun i hi e => by have := HPN.out; omega))
      clear hb5 k5 hne hne2
      by_cases hi0 : i = 0
      · subst hi0
        have hst := HS0.out rfl
        subst hst
        go_wp2_with fail
        go_roundw
        case rel => exact ⟨0 + 1, A, 1, by omega, by go_num, by go_num, hid (Or.inr ⟨by omega, rfl, rfl⟩), hid (Bk.alloc HB5.out _), hid (HX5.out.alloc _), hid (HY5.out.alloc _), hid (K5.out.alloc _)⟩
        case measure => simp [intOf]; omega
      · have hz : ((i : Int) == 0) = false := by simpa using hi0
        go_wp2_with fail
        go_roundw
        case rel => exact ⟨i + 1, A, 1, by omega, by go_num, by first | rfl | go_num, hid (Or.inr ⟨by omega, rfl, rfl⟩), hid (Bk.alloc HB5.out _), hid (HX5.out.alloc _), hid (HY5.out.alloc _), hid (K5.out.alloc _)⟩
        case measure => simp [intOf]; omega
    · obtain rfl : i = m := by omega
      have HSH : Hid (∃ s p', (¬ (a3 = b3 ∧ 0 < i) → s = true) ∧ Calls Try.prog 29 #[.pointer (some ⟨pb, 0, none⟩), .int .i64 (1 + (i : Int)), .slice (some ⟨xb + 1, 0, none⟩) 1 1, .agg #[.int .i64 0, .int .i64 0, .int .u8 0]] wr fun e w' => ∃ la ln lc, e = .returned (.agg #[.int .i64 (1 + (i : Int)), .slice la ln lc, .int .u8 B, .bool s, .bool false, .bool false]) ∧ POb w' pb p' ∧ Keeps (fun i => i = pb) wr w') := hid (by
        have hc := HB3.out
        have hne : ¬ xb + 1 = pb := by have := HXP.out; omega
        by_cases he : B = qa
        · subst he
          have hqb : I64 qb := by rcases HST.out with ⟨h0, h1, h2⟩ | ⟨h0, h1, h2⟩ <;> subst h2 <;> exact ⟨by decide, by decide⟩
          exact ⟨_, _, fun h => absurd (by rcases HST.out with ⟨h0, h1, h2⟩ | ⟨h0, h1, h2⟩; exact absurd h1 (by omega); exact ⟨HEQ.out.2 h1.symm, h0⟩) h, show_one HB3.out HYR.out HP.out hqb ⟨by omega, by omega⟩ hne rfl rfl⟩
        · have hqb : I64 qb := by rcases HST.out with ⟨h0, h1, h2⟩ | ⟨h0, h1, h2⟩ <;> subst h2 <;> exact ⟨by decide, by decide⟩
          exact ⟨true, _, fun _ => rfl, show_one HB3.out HYR.out HP.out hqb ⟨by omega, by omega⟩ hne (one_new hc.1 (by omega) he) (by simp only; rw [held_self, first_pulse hc])⟩)
      obtain ⟨s, p', hs0, hsh⟩ := HSH.out
      have HS0 := hid hs0
      have HSC := hid hsh
      clear hs0 hsh HSH
      go_wp2_with fail
      refine (HSC.out).mono ?_
      rintro e w5 ⟨la, ln, lc, rfl, hb5, k5⟩
      have hne2 : ¬ xb + 1 = pb := by have := HXP.out; omega
      have HY5 := hid (HYR.out.keep k5 (fun k hk e => by simp [Value.ownBlock] at hk; omega))
      have K5 : Hid (Keeps No w w5) := hid (HK.out.trans' k5 (fun _ _ h => h) (fun i hi e => by have := HPN.out; omega))
      clear hb5 k5 hne2
      obtain ⟨oa, hoa⟩ : ∃ r, w5.heap.size = r := ⟨_, rfl⟩
      have HO : Hid (Bk (w5.alloc (.cells #[.int .i64 (1 + (i : Int)), .slice la ln lc, .int .u8 B, .bool s, .bool false, .bool false] 43)) oa 43 [.int .i64 (1 + (i : Int)), .slice la ln lc, .int .u8 B, .bool s, .bool false, .bool false]) := hid (Bk.new hoa _ _)
      have HSN := hid (show_none (w := w5.alloc (.cells #[.int .i64 (1 + (i : Int)), .slice la ln lc, .int .u8 B, .bool s, .bool false, .bool false] 43)) HB3.out (HY5.out.alloc _) (now := 1 + (i : Int)) ⟨by omega, by omega⟩)
      rw [← hoa] at HO
      clear hoa
      go_wp2_with fail
      refine (HSN.out).mono ?_
      rintro e w6 ⟨lb, lbn, lbc, rfl, k6⟩
      have HO6 := hid (HO.out.kept k6)
      have K6 := hid ((K5.out.alloc _).trans k6)
      clear k6
      have o2 := HO6.out.cell 2 rfl
      have o3 := HO6.out.cell 3 rfl
      have ob2 := cellA (.cells #[.int .i64 (1 + (i : Int)), .slice lb lbn lbc, .int .u8 B, .bool true, .bool false, .bool false] 43) o2
      have ob3 := cellA (.cells #[.int .i64 (1 + (i : Int)), .slice lb lbn lbc, .int .u8 B, .bool true, .bool false, .bool false] 43) o3
      have e1 : (B == B) = true := by simp
      by_cases hab : a3 = b3
      · have d1 : (a3 == b3) = true := by simpa using hab
        by_cases hz : 0 < i
        · have d2 : decide ((i : Int) > 0) = true := decide_eq_true (by omega)
          go_wp2_with fail
          go_ret
          exact ⟨rfl, (K6.out.alloc _).toBelow⟩
        · have d2 : decide ((i : Int) > 0) = false := decide_eq_false (by omega)
          have hst := HS0.out (fun h => hz h.2)
          subst hst
          go_wp2_with fail
          go_ret
          exact ⟨rfl, (K6.out.alloc _).toBelow⟩
      · have d1 : (a3 == b3) = false := by simpa using hab
        have hst := HS0.out (fun h => hab h.1)
        subst hst
        go_wp2_with fail
        go_ret
        exact ⟨rfl, (K6.out.alloc _).toBelow⟩

theorem own : ownKnob Try.prog.godebug = none := by kernel_rfl
theorem laidOut : laidOutB Try.prog = true := by kernel_rfl
set_option maxRecDepth 100000 in
theorem lifted (os : Os) (started : os.Started) (H : Type) (enc : TypeId × Value → H) :
    ReturnsInHanded {} Try.checked os 11 .any (Rows.panelBeginsSpec.pre6 enc Try.prog Try.f11 Rows.panelBeginsRow.domain false) (Rows.panelBeginsSpec.post enc Try.prog Try.f11 false true false false) := by
  refine returnsInHanded_of_change (C := Try.checked) own started (by kernel_rfl) Try.func11
    (ChangeSpec.witness6 (enc := enc) (C := Try.checked) false ⟨#[], #[.int .u8 0, .int .u8 0, .int .u8 0], []⟩ 8 (by kernel_rfl) (by kernel_rfl) (by kernel_rfl) (by kernel_rfl)) ?_
  intro W base args ds gs before hval0 hW hcnd _
  have hval : ∀ (j : Nat) t v, Try.f11.params[j]? = some t → args[j]? = some v → Value.okWide Try.prog W .any base t v := hval0
  have hW' := hW
  obtain ⟨p, q, hA0, hV, rfl, hfz, hnd⟩ := hW
  have hA : DataW.TrodAll enc Try.prog W 0 (fun _ => true) true Try.f11.params.toList args.toList ds p := hA0
  rw [Try.params11] at hA hval
  obtain ⟨v0, vs0, d0, ds0, p0, q0, hargs, rfl, rfl, h0, r0⟩ := trodAll_cons hA
  obtain ⟨v1, vs1, d1, ds1, p1, q1, rfl, rfl, rfl, h1, r1⟩ := trodAll_cons r0
  obtain ⟨v2, vs2, d2, ds2, p2, q2, rfl, rfl, rfl, h2, r2⟩ := trodAll_cons r1
  obtain ⟨rfl, rfl, rfl⟩ := trodAll_nil r2
  obtain rfl : args = #[v0, v1, v2] := by cases args; simp_all
  obtain ⟨rfl, rfl⟩ := trodVars_none hV
  have k0 := h0
  have lt0 : ∀ x ∈ p0, x.block < W.heap.size := by obtain ⟨m, hm⟩ := k0; exact DataW.trod_lt m _ _ _ hm
  have k1 := h1
  have lt1 : ∀ x ∈ p1, x.block < W.heap.size := by obtain ⟨m, hm⟩ := k1; exact DataW.trod_lt m _ _ _ hm
  have k2 := h2
  have lt2 : ∀ x ∈ p2, x.block < W.heap.size := by obtain ⟨m, hm⟩ := k2; exact DataW.trod_lt m _ _ _ hm
  obtain ⟨a0, rfl, rfl, rfl, w0⟩ := open_int Try.underlying5 (hval 0 5 v0 rfl rfl) h0
  obtain ⟨a1, rfl, rfl, rfl, w1⟩ := open_int Try.underlying5 (hval 1 5 v1 rfl rfl) h1
  obtain ⟨a2, rfl, rfl, rfl, w2⟩ := open_int Try.underlying5 (hval 2 5 v2 rfl rfl) h2
  clear hA0 hval0
  refine (walk W a0 w0 a1 w1 a2 w2).mono fun e W' ⟨he, bel⟩ => ?_
  subst he
  exact ⟨_, rfl, _, _, _, [], _, [], hW', trodAll_mk1 (shut_bool Try.underlying4 _), (trodAll_cons_mk (Below.trod laidOut (by kernel_rfl) (of_decide_eq_true (by kernel_rfl)) k0 bel lt0) (trodAll_cons_mk (Below.trod laidOut (by kernel_rfl) (of_decide_eq_true (by kernel_rfl)) k1 bel lt1) (trodAll_cons_mk (Below.trod laidOut (by kernel_rfl) (of_decide_eq_true (by kernel_rfl)) k2 bel lt2) trodAll_mk0))), rfl, bel.frame _, fun h => by cases h⟩

theorem over : Rows.panelBeginsRow.holds Try.pinned (OpenSpec.ofChange Rows.panelBeginsSpec) :=
  OpenClaim.holds_of_wide 11 Try.f11 rfl rfl rfl rfl rfl rfl rfl ⟨rfl, rfl, rfl, rfl, rfl⟩ rfl rfl rfl rfl rfl (by kernel_rfl) Try.func11 (by kernel_rfl)
    (of_decide_eq_true (by kernel_rfl)) (by unfold Func.isWrapper; first | (rw [if_pos (by decide +kernel)]; kernel_rfl) | (rw [if_neg (by decide +kernel)]; exact ⟨rfl, rfl⟩))
    (fun os started H enc _ => lifted os started H enc)

theorem proved : Rows.PanelBeginsSaid := over
#print axioms proved
end Go.Proofs.Ytnmlaobiljmgaaa.panelBegins
