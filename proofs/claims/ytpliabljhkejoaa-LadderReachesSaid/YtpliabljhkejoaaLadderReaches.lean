/- Stage k is reached behind the first k waits, and not a tick ahead of that. No conditions. -/
import Derived.Test.YtpliabljhkejoaaRows
import Derived.Test.YtpliabljhkejoaaArgs
import Derived.Test.YtpliabljhkejoaaLadK
import Derived.Test.YtpliabljhkejoaaLadX
import Derived.ProofKit
import Derived.OpenShut
import Derived.Deep.RegionHeld3
import Derived.Deep.DeepCutAuto
import Derived.Deep.CutBlock
namespace Go.Proofs.Ytpliabljhkejoaa.ladderReaches
open Go.ChangeShapes Go.WideShapes Go.ChangeAt Go.RowKit
open Go.ChangeMaps (open_string shut_string)
set_option linter.unusedVariables false
set_option linter.unusedSimpArgs false

set_option maxHeartbeats 8000000 in
set_option maxRecDepth 100000 in
theorem walk (w : World) (p : Int) (wp : (Lit.int .u8 p).wf = true) (s0 : Option Addr) (cap : Nat) (q : List Int) (hs : Sl w 1 (.slice s0 q.length cap) q.length (q.map (.int .u16 ·))) (hq : ∀ x ∈ q, (Lit.int .u16 x).wf = true) (k : Int) (wk : (Lit.int .u8 k).wf = true) :
    Calls Try.prog 4 #[.int .u8 p, .slice s0 q.length cap, .int .u8 k] w fun e w' => e = .returned (.bool true) ∧ Below w.heap.size w w' := by
  obtain ⟨p0_, p1_⟩ := bounds_u8 wp
  obtain ⟨N, hN⟩ : ∃ N, q.length = N := ⟨_, rfl⟩
  have hqb : ∀ x ∈ q, 0 ≤ x ∧ x ≤ 65535 := fun x hx => bounds_u16 (hq x hx)
  rw [hN] at hs ⊢
  have HS := hid hs
  have HQ := hid hqb
  have HN := hid hN
  clear hs hq hN wp hqb
  obtain ⟨k0, k1⟩ := bounds_u8 wk
  clear wk
  by_cases hbig : 8 < N
  · have hd : decide ((N : Int) > 8) = true := decide_eq_true (by omega)
    go_enter Try.func4, Try.ntmps4
    go_wp2_with fail
    refine (steps_true _).mono ?_
    rintro e w1 ⟨rfl, k1⟩
    have K1 := hid k1
    clear k1
    go_wp2_with fail
    refine (steps_true _).mono ?_
    rintro e w2 ⟨rfl, k2⟩
    have K2 := hid (K1.out.trans k2)
    clear k2
    go_wp2_with fail
    go_ret
    exact ⟨rfl, K2.out.toBelow⟩
  have hd : decide ((N : Int) > 8) = false := decide_eq_false (by omega)
  by_cases hz : N = 0
  · have hz1 : ((N : Int) == 0) = true := by simp [hz]
    go_enter Try.func4, Try.ntmps4
    go_wp2_with fail
    refine (steps_true _).mono ?_
    rintro e w1 ⟨rfl, k1⟩
    have K1 := hid k1
    clear k1
    go_wp2_with fail
    refine (steps_true _).mono ?_
    rintro e w2 ⟨rfl, k2⟩
    have K2 := hid (K1.out.trans k2)
    clear k2
    go_wp2_with fail
    go_ret
    exact ⟨rfl, K2.out.toBelow⟩
  have hz1 : ((N : Int) == 0) = false := by simp; omega
  go_enter Try.func4, Try.ntmps4
  go_wp2_with fail
  refine (steps_true _).mono ?_
  rintro e w1 ⟨rfl, k1⟩
  have K1 := hid k1
  clear k1
  go_wp2_with fail
  refine (lrule_any p ⟨p0_, p1_⟩ HN.out (HS.out.keep K1.out (fun _ _ h => h)) HQ.out (by omega)).mono ?_
  rintro e w2 ⟨ls, v, rfl, hsl, hok, hlen, kp⟩
  obtain ⟨sa, sc, rfl⟩ := Sl.any hsl
  obtain ⟨p0, hp0⟩ : ∃ y, 1 + p % 3 = y := ⟨_, rfl⟩
  rw [hp0] at hok ⊢
  have HOK := hid hok
  have HSM : Hid (SmallSt ls) := hid (hok.small (by omega))
  have HLEN := hid hlen
  have HSL := hid hsl
  have K2 := hid (K1.out.trans kp)
  clear hsl hok hlen kp hp0 K1
  obtain ⟨rb, hrb⟩ : ∃ y, w2.heap.size = y := ⟨_, rfl⟩
  obtain ⟨W, hW⟩ : ∃ W, w2.alloc (.cells #[.int .u8 0, .int .i64 0, .int .i64 0, .int .i64 0, .int .i64 0, .int .i64 0, .int .u8 p0, .bool false, .slice sa ls.length sc] 26) = W := ⟨_, rfl⟩
  have HR : Hid (Bk W rb 26 [.int .u8 0, .int .i64 0, .int .i64 0, .int .i64 0, .int .i64 0, .int .i64 0, .int .u8 p0, .bool false, .slice sa ls.length sc]) := hid (by rw [← hW]; exact Bk.new hrb _ _)
  have HSW : Hid (SlS W (.slice sa ls.length sc) ls) := hid (Sl.keep HSL.out (by rw [← hW]; exact (Keeps.refl No _).alloc _) (fun _ _ h => h))
  have KW : Hid (Keeps No w W) := hid (by rw [← hW]; exact K2.out.alloc _)
  have HW := hid hW
  have HRB := hid hrb
  clear hW hrb K2 HSL
  have hlen := HLEN.out
  obtain ⟨m, hm⟩ : ∃ m : Nat, k.tmod (ls.length : Int) = m := ⟨(k.tmod (ls.length : Int)).toNat, by rw [Int.tmod_eq_emod_of_nonneg k0]; have := Int.emod_nonneg k (show (ls.length : Int) ≠ 0 by omega); omega⟩
  have hmN : m < ls.length := by rw [Int.tmod_eq_emod_of_nonneg k0] at hm; have := Int.emod_lt_of_pos k (show 0 < (ls.length : Int) by omega); omega
  have hr := reached_at HOK.out (k := m + 1) (by omega) (by omega)
  have hb := sumD_bound HOK.out (k := m + 1) (by omega)
  obtain ⟨s, hse⟩ : ∃ s, sumD ls (m + 1) = s := ⟨_, rfl⟩
  rw [hse] at hr hb
  have hb9 : 0 ≤ s ∧ s ≤ 1000000 := ⟨hb.1, by have := hb.2; omega⟩
  have HSUM : Hid (∀ w', Keeps No W w' → Calls Try.prog 10 #[.slice sa ls.length sc, .int .i64 (1 + (m : Int))] w' fun e w'' => e = .returned (.int .i64 s) ∧ Keeps No w' w'') := hid (fun w' kw => by
    have h := lsum_any (Sl.keep HSW.out kw (fun _ _ h => h)) HSM.out (1 + (m : Int)) ⟨by omega, by omega⟩
    rw [show (1 + (m : Int)).toNat = m + 1 by omega, hse] at h
    exact h)
  have HR1 : Hid (∀ w', Keeps No W w' → Calls Try.prog 12 #[.slice sa ls.length sc, .int .i64 s] w' fun e w'' => e = .returned (.int .i64 (1 + (m : Int))) ∧ Keeps No w' w'') := hid (fun w' kw => by
    have h := lreached_any (Sl.keep HSW.out kw (fun _ _ h => h)) HSM.out s
    rw [hr.1, show (((m + 1 : Nat) : Int)) = 1 + (m : Int) by omega] at h
    exact h)
  have HR2 : Hid (∀ w', Keeps No W w' → Calls Try.prog 12 #[.slice sa ls.length sc, .int .i64 (s - 1)] w' fun e w'' => e = .returned (.int .i64 (m : Int)) ∧ Keeps No w' w'') := hid (fun w' kw => by
    have h := lreached_any (Sl.keep HSW.out kw (fun _ _ h => h)) HSM.out (s - 1)
    rw [hr.2, show m + 1 - 1 = m by omega] at h
    exact h)
  have hz2 : ¬ (ls.length = 0) := by omega
  have hz3 : ((ls.length : Int) == 0) = false := by simpa using hz2
  have hwm : IntKind.i64.wrap (m : Int) = m := by simp only [IntKind.wrap_i64]; omega
  obtain ⟨hs0, hs9⟩ := hb9
  have e1 : ((m : Int) == 1 + (m : Int) - 1) = true := by simp; omega
  have hm9 : m ≤ 8 := by have := HSM.out.1; omega
  clear hr hb hse hlen
  go_upto_region 4 with fail
  rw [HW.out, HRB.out]
  clear HW HRB
  have x8 := HR.out.cell 8 rfl
  go_wp2_with fail
  refine (HSUM.out _ (Keeps.refl _ _)).mono ?_
  rintro e w3 ⟨rfl, kp⟩
  have K3 := hid kp
  have x8 := (HR.out.kept kp).cell 8 rfl
  clear kp
  go_wp2_with fail
  refine (HR1.out _ K3.out).mono ?_
  rintro e w4 ⟨rfl, kp⟩
  have K4 := hid (K3.out.trans kp)
  have x8 := (HR.out.kept K4.out).cell 8 rfl
  clear kp
  go_wp2_with fail
  refine (HR2.out _ K4.out).mono ?_
  rintro e w5 ⟨rfl, kp⟩
  have K5 := hid (K4.out.trans kp)
  clear kp
  go_wp2_with fail
  go_ret
  exact ⟨rfl, (KW.out.trans K5.out).toBelow⟩

theorem own : ownKnob Try.prog.godebug = none := by kernel_rfl
theorem laidOut : laidOutB Try.prog = true := by kernel_rfl
set_option maxRecDepth 100000 in
theorem lifted (os : Os) (started : os.Started) (H : Type) (enc : TypeId × Value → H) :
    ReturnsInHanded {} Try.checked os 4 .any (Rows.ladderReachesSpec.pre6 enc Try.prog Try.f4 Rows.ladderReachesRow.domain false) (Rows.ladderReachesSpec.post enc Try.prog Try.f4 false true false false) := by
  refine returnsInHanded_of_change (C := Try.checked) own started (by kernel_rfl) Try.func4
    (ChangeSpec.witness6 (enc := enc) (C := Try.checked) false ⟨#[], #[.int .u8 0, .slice none 0 0, .int .u8 0], []⟩ 8 (by kernel_rfl) (by kernel_rfl) (by kernel_rfl) (by kernel_rfl)) ?_
  intro W base args ds gs before hval0 hW hcnd _
  have hval : ∀ (j : Nat) t v, Try.f4.params[j]? = some t → args[j]? = some v → Value.okWide Try.prog W .any base t v := hval0
  have hW' := hW
  obtain ⟨p, q, hA0, hV, rfl, hfz, hnd⟩ := hW
  have hA : DataW.TrodAll enc Try.prog W 0 (fun _ => true) true Try.f4.params.toList args.toList ds p := hA0
  rw [Try.params4] at hA hval
  obtain ⟨v0, vs0, d0, ds0, p0, q0, hargs, rfl, rfl, h0, r0⟩ := trodAll_cons hA
  obtain ⟨v1, vs1, d1, ds1, p1, q1, rfl, rfl, rfl, h1, r1⟩ := trodAll_cons r0
  obtain ⟨v2, vs2, d2, ds2, p2, q2, rfl, rfl, rfl, h2, r2⟩ := trodAll_cons r1
  obtain ⟨rfl, rfl, rfl⟩ := trodAll_nil r2
  obtain rfl : args = #[v0, v1, v2] := by cases args; simp_all
  obtain ⟨rfl, rfl⟩ := trodVars_none hV
  have k0 := h0
  have lt0 : ∀ x ∈ p0, x.block < W.heap.size := by obtain ⟨m, hm⟩ := k0; exact DataW.trod_lt m _ _ _ hm
  have k1 := h1
  have lt1 : ∀ x ∈ p1, x.block < W.heap.size := by obtain ⟨m, hm⟩ := k1; exact DataW.trod_lt m _ _ _ hm
  have k2 := h2
  have lt2 : ∀ x ∈ p2, x.block < W.heap.size := by obtain ⟨m, hm⟩ := k2; exact DataW.trod_lt m _ _ _ hm
  obtain ⟨a0, rfl, rfl, rfl, w0⟩ := open_int Try.underlying5 (hval 0 5 v0 rfl rfl) h0
  obtain ⟨s1, len1, cap1, rfl⟩ := okWide_slice Try.underlying22 (hval 1 22 v1 rfl rfl)
  obtain ⟨l1, rfl, w1, b1⟩ := argInts .u16 Try.underlying22 Try.underlying40 (by kernel_rfl) h1
  obtain ⟨a2, rfl, rfl, rfl, w2⟩ := open_int Try.underlying5 (hval 2 5 v2 rfl rfl) h2
  clear hA0 hval0
  refine (walk W a0 w0 s1 cap1 l1 w1 b1 a2 w2).mono fun e W' ⟨he, bel⟩ => ?_
  subst he
  exact ⟨_, rfl, _, _, _, [], _, [], hW', trodAll_mk1 (shut_bool Try.underlying4 _), (trodAll_cons_mk (Below.trod laidOut (by kernel_rfl) (of_decide_eq_true (by kernel_rfl)) k0 bel lt0) (trodAll_cons_mk (Below.trod laidOut (by kernel_rfl) (of_decide_eq_true (by kernel_rfl)) k1 bel lt1) (trodAll_cons_mk (Below.trod laidOut (by kernel_rfl) (of_decide_eq_true (by kernel_rfl)) k2 bel lt2) trodAll_mk0))), rfl, bel.frame _, fun h => by cases h⟩

theorem over : Rows.ladderReachesRow.holds Try.pinned (OpenSpec.ofChange Rows.ladderReachesSpec) :=
  OpenClaim.holds_of_wide 4 Try.f4 rfl rfl rfl rfl rfl rfl rfl ⟨rfl, rfl, rfl, rfl, rfl⟩ rfl rfl rfl rfl rfl (by kernel_rfl) Try.func4 (by kernel_rfl)
    (of_decide_eq_true (by kernel_rfl)) (by unfold Func.isWrapper; first | (rw [if_pos (by decide +kernel)]; kernel_rfl) | (rw [if_neg (by decide +kernel)]; exact ⟨rfl, rfl⟩))
    (fun os started H enc _ => lifted os started H enc)

theorem proved : Rows.LadderReachesSaid := over
#print axioms proved
end Go.Proofs.Ytpliabljhkejoaa.ladderReaches
