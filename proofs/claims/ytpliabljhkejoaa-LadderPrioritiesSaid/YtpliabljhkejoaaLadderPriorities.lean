/- At any stage, also ones that there aren't; the higher the stage, the higher the priority, or the same. No conditions. -/
import Derived.Test.YtpliabljhkejoaaRows
import Derived.Test.YtpliabljhkejoaaArgs
import Derived.Test.YtpliabljhkejoaaLadK
import Derived.Test.YtpliabljhkejoaaLadX
import Derived.ProofKit
import Derived.OpenShut
import Derived.Deep.RegionHeld3
import Derived.Deep.DeepCutAuto
import Derived.Deep.CutBlock
namespace Go.Proofs.Ytpliabljhkejoaa.ladderPriorities
open Go.ChangeShapes Go.WideShapes Go.ChangeAt Go.RowKit
open Go.ChangeMaps (open_string shut_string)
set_option linter.unusedVariables false
set_option linter.unusedSimpArgs false

set_option maxHeartbeats 8000000 in
set_option maxRecDepth 100000 in
theorem walk (w : World) (p : Int) (wp : (Lit.int .u8 p).wf = true) (s0 : Option Addr) (cap : Nat) (q : List Int) (hs : Sl w 1 (.slice s0 q.length cap) q.length (q.map (.int .u16 ·))) (hq : ∀ x ∈ q, (Lit.int .u16 x).wf = true) (k : Int) (wk : (Lit.int .i64 k).wf = true) :
    Calls Try.prog 5 #[.int .u8 p, .slice s0 q.length cap, .int .i64 k] w fun e w' => e = .returned (.bool true) ∧ Below w.heap.size w w' := by
  obtain ⟨p0_, p1_⟩ := bounds_u8 wp
  obtain ⟨N, hN⟩ : ∃ N, q.length = N := ⟨_, rfl⟩
  have hqb : ∀ x ∈ q, 0 ≤ x ∧ x ≤ 65535 := fun x hx => bounds_u16 (hq x hx)
  rw [hN] at hs ⊢
  have HS := hid hs
  have HQ := hid hqb
  have HN := hid hN
  clear hs hq hN wp hqb
  have HKB : Hid (-9223372036854775808 ≤ k ∧ k ≤ 9223372036854775807) := hid (bounds_i64 wk)
  clear wk
  by_cases hbig : 8 < N
  · have hd : decide ((N : Int) > 8) = true := decide_eq_true (by omega)
    go_enter Try.func5, Try.ntmps5
    go_wp2_with fail
    refine (steps_true _).mono ?_
    rintro e w1 ⟨rfl, k1⟩
    have K1 := hid k1
    clear k1
    go_wp2_with fail
    refine (steps_true _).mono ?_
    rintro e w2 ⟨rfl, k2⟩
    have K2 := hid (K1.out.trans k2)
    clear k2
    go_wp2_with fail
    go_ret
    exact ⟨rfl, K2.out.toBelow⟩
  have hd : decide ((N : Int) > 8) = false := decide_eq_false (by omega)
  go_enter Try.func5, Try.ntmps5
  go_wp2_with fail
  refine (steps_true _).mono ?_
  rintro e w1 ⟨rfl, k1⟩
  have K1 := hid k1
  clear k1
  go_wp2_with fail
  refine (lrule_any p ⟨p0_, p1_⟩ HN.out (HS.out.keep K1.out (fun _ _ h => h)) HQ.out (by omega)).mono ?_
  rintro e w2 ⟨ls, v, rfl, hsl, hok, hlen, kp⟩
  obtain ⟨sa, sc, rfl⟩ := Sl.any hsl
  obtain ⟨p0, hp0⟩ : ∃ y, 1 + p % 3 = y := ⟨_, rfl⟩
  rw [hp0] at hok ⊢
  have HOK := hid hok
  have HSM : Hid (SmallSt ls) := hid (hok.small (by omega))
  have HLEN := hid hlen
  have HSL := hid hsl
  have K2 := hid (K1.out.trans kp)
  clear hsl hok hlen kp hp0 K1
  obtain ⟨rb, hrb⟩ : ∃ y, w2.heap.size = y := ⟨_, rfl⟩
  obtain ⟨W, hW⟩ : ∃ W, w2.alloc (.cells #[.int .u8 0, .int .i64 0, .int .i64 0, .int .i64 0, .int .i64 0, .int .i64 0, .int .u8 p0, .bool false, .slice sa ls.length sc] 26) = W := ⟨_, rfl⟩
  have HR : Hid (Bk W rb 26 [.int .u8 0, .int .i64 0, .int .i64 0, .int .i64 0, .int .i64 0, .int .i64 0, .int .u8 p0, .bool false, .slice sa ls.length sc]) := hid (by rw [← hW]; exact Bk.new hrb _ _)
  have HSW : Hid (SlS W (.slice sa ls.length sc) ls) := hid (Sl.keep HSL.out (by rw [← hW]; exact (Keeps.refl No _).alloc _) (fun _ _ h => h))
  have KW : Hid (Keeps No w W) := hid (by rw [← hW]; exact K2.out.alloc _)
  have HW := hid hW
  have HRB := hid hrb
  clear hW hrb K2 HSL
  have HPP := hid (fun (w' : World) (kw : Keeps No W w') (n : Int) (hn : -9223372036854775808 ≤ n ∧ n ≤ 9223372036854775807) => lpri_any (Sl.keep HSW.out kw (fun _ _ h => h)) HSM.out (.int .u8 0) (.int .i64 0) (.int .i64 0) (.int .i64 0) (.int .i64 0) (.int .i64 0) (.bool false) p0 n hn)
  have HPD := hid (fun (w' : World) (kw : Keeps No W w') (n : Int) (hn : -9223372036854775808 ≤ n ∧ n ≤ 9223372036854775807) => mpri_any (Sl.keep HSW.out kw (fun _ _ h => h)) HSM.out (.int .u8 0) (.int .i64 0) (.int .i64 0) (.int .i64 0) (.int .i64 0) (.int .i64 0) (.bool false) p0 n hn)
  clear hd
  go_upto_region 4 with fail
  rw [HW.out, HRB.out]
  clear HW HRB
  have x6 := HR.out.cell 6 rfl
  go_wp2_with fail
  clear x6
  go_loopw [8, 9] (fun v8 v9 wr => ∃ i : Nat, i ≤ 8 ∧ v9 = .int .i64 ((i : Int) - 1) ∧ v8 = .int .u8 (priD p0 ls (i - 2)) ∧ Hid (Keeps No W wr)) (fun _ v9 _ => 8 - (intOf v9 + 1).toNat)
  case atStart => exact ⟨0, by omega, rfl, rfl, hid (Keeps.refl _ _)⟩
  case round =>
    obtain ⟨i, hi, rfl, rfl, HK⟩ := hrel
    have x0_0 := (HR.out.kept HK.out).cell 0 rfl
    have x0_1 := (HR.out.kept HK.out).cell 1 rfl
    have x0_2 := (HR.out.kept HK.out).cell 2 rfl
    have x0_3 := (HR.out.kept HK.out).cell 3 rfl
    have x0_4 := (HR.out.kept HK.out).cell 4 rfl
    have x0_5 := (HR.out.kept HK.out).cell 5 rfl
    have x0_6 := (HR.out.kept HK.out).cell 6 rfl
    have x0_7 := (HR.out.kept HK.out).cell 7 rfl
    have x0_8 := (HR.out.kept HK.out).cell 8 rfl
    by_cases hlt : i < 8
    · have d1 : decide ((i : Int) - 1 < 7) = true := decide_eq_true (by omega)
      obtain ⟨n, hn⟩ : ∃ n : Int, (i : Int) - 1 = n := ⟨_, rfl⟩
      have HNB : Hid (-9223372036854775808 ≤ n ∧ n ≤ 9223372036854775807) := hid (by omega)
      have HNE := hid hn
      have hnn : n.toNat = i - 1 := by omega
      rw [hn] at d1 ⊢
      have ha := fun (w' : World) (kw : Keeps No W w') => HPP.out w' kw n HNB.out
      have hb := fun (w' : World) (kw : Keeps No W w') => HPD.out w' kw n HNB.out
      rw [hnn] at ha hb
      have hmono : priD p0 ls (i - 2) ≤ priD p0 ls (i - 1) := by
        rcases Nat.lt_or_ge i 2 with h | h
        · rw [show i - 2 = 0 by omega, show i - 1 = 0 by omega]; exact Int.le_refl _
        · rw [show i - 1 = i - 2 + 1 by omega]; exact HOK.out.2 _
      obtain ⟨s, hs⟩ : ∃ s, priD p0 ls (i - 1) = s := ⟨_, rfl⟩
      obtain ⟨r, hr⟩ : ∃ r, priD p0 ls (i - 2) = r := ⟨_, rfl⟩
      rw [hs] at ha hb hmono
      rw [hr] at hmono ⊢
      have HA := hid ha
      have HB := hid hb
      have HSE := hid hs
      have qs : (s != s) = false := by simp
      have ql : decide (s < r) = false := decide_eq_false (by omega)
      have hnb : -1 ≤ n ∧ n ≤ 6 := by omega
      obtain ⟨hnb0, hnb1⟩ := hnb
      clear hs hr hn ha hb hmono hnn
      go_wp2_with fail
      refine (HA.out _ HK.out).mono ?_
      rintro e w3 ⟨rfl, kp⟩
      have K3 := hid (HK.out.trans kp)
      clear kp x0_0 x0_1 x0_2 x0_3 x0_4 x0_5 x0_6 x0_7 x0_8
      have x0_0 := (HR.out.kept K3.out).cell 0 rfl
      have x0_1 := (HR.out.kept K3.out).cell 1 rfl
      have x0_2 := (HR.out.kept K3.out).cell 2 rfl
      have x0_3 := (HR.out.kept K3.out).cell 3 rfl
      have x0_4 := (HR.out.kept K3.out).cell 4 rfl
      have x0_5 := (HR.out.kept K3.out).cell 5 rfl
      have x0_6 := (HR.out.kept K3.out).cell 6 rfl
      have x0_7 := (HR.out.kept K3.out).cell 7 rfl
      have x0_8 := (HR.out.kept K3.out).cell 8 rfl
      go_wp2_with fail
      refine (HB.out _ K3.out).mono ?_
      rintro e w4 ⟨rfl, kp⟩
      have K4 := hid (K3.out.trans kp)
      clear kp x0_0 x0_1 x0_2 x0_3 x0_4 x0_5 x0_6 x0_7 x0_8
      go_wp2_with fail
      go_roundw
      case rel => exact ⟨i + 1, by omega, by rw [show (((i + 1 : Nat) : Int) - 1) = n + 1 by have := HNE.out; omega], by rw [show i + 1 - 2 = i - 1 by omega, HSE.out], K4⟩
      case measure => have hne := HNE.out; simp [intOf]; omega
    · obtain rfl : i = 8 := by omega
      have HA := hid (fun (w' : World) (kw : Keeps No W w') => HPP.out w' kw k HKB.out)
      have HB := hid (fun (w' : World) (kw : Keeps No W w') => HPD.out w' kw k HKB.out)
      obtain ⟨s, hs⟩ : ∃ s, priD p0 ls k.toNat = s := ⟨_, rfl⟩
      rw [hs] at HA HB
      have qs : (s == s) = true := by simp
      clear hs
      go_upto_region 12 with fail
      first | go_region_held3 (fun w' => w'.cell? ⟨rb, 0, none⟩ = some (.int .u8 0) ∧ w'.cell? ⟨rb, 1, none⟩ = some (.int .i64 0) ∧ w'.cell? ⟨rb, 2, none⟩ = some (.int .i64 0) ∧ w'.cell? ⟨rb, 3, none⟩ = some (.int .i64 0) ∧ w'.cell? ⟨rb, 4, none⟩ = some (.int .i64 0) ∧ w'.cell? ⟨rb, 5, none⟩ = some (.int .i64 0) ∧ w'.cell? ⟨rb, 6, none⟩ = some (.int .u8 p0) ∧ w'.cell? ⟨rb, 7, none⟩ = some (.bool false) ∧ w'.cell? ⟨rb, 8, none⟩ = some (.slice sa ls.length sc)) (first | with_reducible exact ⟨x0_0, x0_1, x0_2, x0_3, x0_4, x0_5, x0_6, x0_7, x0_8⟩ | with_reducible exact ⟨cellDr x0_0, cellDr x0_1, cellDr x0_2, cellDr x0_3, cellDr x0_4, cellDr x0_5, cellDr x0_6, cellDr x0_7, cellDr x0_8⟩ | with_reducible exact ⟨cellA _ x0_0, cellA _ x0_1, cellA _ x0_2, cellA _ x0_3, cellA _ x0_4, cellA _ x0_5, cellA _ x0_6, cellA _ x0_7, cellA _ x0_8⟩ | with_reducible exact ⟨cellDr (cellA _ x0_0), cellDr (cellA _ x0_1), cellDr (cellA _ x0_2), cellDr (cellA _ x0_3), cellDr (cellA _ x0_4), cellDr (cellA _ x0_5), cellDr (cellA _ x0_6), cellDr (cellA _ x0_7), cellDr (cellA _ x0_8)⟩ | (go_keep; done)) (first | (go_at_call 14; (with_reducible refine (HA.out _ (by refine Keeps.trans HK.out ?_; first | ((repeat' (first | with_reducible exact Keeps.refl _ _ | with_reducible assumption | with_reducible refine Keeps.drewN ?_ _ | with_reducible refine Keeps.drew ?_ | with_reducible refine Keeps.alloc ?_ _)); done) | (refine Keeps.trans kk ?_; repeat' (first | with_reducible exact Keeps.refl _ _ | with_reducible assumption | with_reducible refine Keeps.drewN ?_ _ | with_reducible refine Keeps.drew ?_ | with_reducible refine Keeps.alloc ?_ _)))).mono ?_); rintro e wq ⟨rfl, kq⟩; have kk : Keeps No wr wq := Keeps.trans (by first | ((repeat' (first | with_reducible exact Keeps.refl _ _ | with_reducible assumption | with_reducible refine Keeps.drewN ?_ _ | with_reducible refine Keeps.drew ?_ | with_reducible refine Keeps.alloc ?_ _)); done) | (refine Keeps.trans kk ?_; repeat' (first | with_reducible exact Keeps.refl _ _ | with_reducible assumption | with_reducible refine Keeps.drewN ?_ _ | with_reducible refine Keeps.drew ?_ | with_reducible refine Keeps.alloc ?_ _))) kq; have gR := HR.out.kept (Keeps.trans HK.out kk); have x0_0 := gR.cell 0 rfl; have x0_1 := gR.cell 1 rfl; have x0_2 := gR.cell 2 rfl; have x0_3 := gR.cell 3 rfl; have x0_4 := gR.cell 4 rfl; have x0_5 := gR.cell 5 rfl; have x0_6 := gR.cell 6 rfl; have x0_7 := gR.cell 7 rfl; have x0_8 := gR.cell 8 rfl; clear gR; clear kq) | (go_at_call 15; (with_reducible refine (HB.out _ (by refine Keeps.trans HK.out ?_; first | ((repeat' (first | with_reducible exact Keeps.refl _ _ | with_reducible assumption | with_reducible refine Keeps.drewN ?_ _ | with_reducible refine Keeps.drew ?_ | with_reducible refine Keeps.alloc ?_ _)); done) | (refine Keeps.trans kk ?_; repeat' (first | with_reducible exact Keeps.refl _ _ | with_reducible assumption | with_reducible refine Keeps.drewN ?_ _ | with_reducible refine Keeps.drew ?_ | with_reducible refine Keeps.alloc ?_ _)))).mono ?_); rintro e wq ⟨rfl, kq⟩; have kk : Keeps No wr wq := Keeps.trans (by first | ((repeat' (first | with_reducible exact Keeps.refl _ _ | with_reducible assumption | with_reducible refine Keeps.drewN ?_ _ | with_reducible refine Keeps.drew ?_ | with_reducible refine Keeps.alloc ?_ _)); done) | (refine Keeps.trans kk ?_; repeat' (first | with_reducible exact Keeps.refl _ _ | with_reducible assumption | with_reducible refine Keeps.drewN ?_ _ | with_reducible refine Keeps.drew ?_ | with_reducible refine Keeps.alloc ?_ _))) kq; have gR := HR.out.kept (Keeps.trans HK.out kk); have x0_0 := gR.cell 0 rfl; have x0_1 := gR.cell 1 rfl; have x0_2 := gR.cell 2 rfl; have x0_3 := gR.cell 3 rfl; have x0_4 := gR.cell 4 rfl; have x0_5 := gR.cell 5 rfl; have x0_6 := gR.cell 6 rfl; have x0_7 := gR.cell 7 rfl; have x0_8 := gR.cell 8 rfl; clear gR; clear kq)) | fail
      go_wp2_with fail
      go_ret
      exact ⟨rfl, (KW.out.trans (HK.out.trans kk)).toBelow⟩

theorem own : ownKnob Try.prog.godebug = none := by kernel_rfl
theorem laidOut : laidOutB Try.prog = true := by kernel_rfl
set_option maxRecDepth 100000 in
theorem lifted (os : Os) (started : os.Started) (H : Type) (enc : TypeId × Value → H) :
    ReturnsInHanded {} Try.checked os 5 .any (Rows.ladderPrioritiesSpec.pre6 enc Try.prog Try.f5 Rows.ladderPrioritiesRow.domain false) (Rows.ladderPrioritiesSpec.post enc Try.prog Try.f5 false true false false) := by
  refine returnsInHanded_of_change (C := Try.checked) own started (by kernel_rfl) Try.func5
    (ChangeSpec.witness6 (enc := enc) (C := Try.checked) false ⟨#[], #[.int .u8 0, .slice none 0 0, .int .i64 0], []⟩ 8 (by kernel_rfl) (by kernel_rfl) (by kernel_rfl) (by kernel_rfl)) ?_
  intro W base args ds gs before hval0 hW hcnd _
  have hval : ∀ (j : Nat) t v, Try.f5.params[j]? = some t → args[j]? = some v → Value.okWide Try.prog W .any base t v := hval0
  have hW' := hW
  obtain ⟨p, q, hA0, hV, rfl, hfz, hnd⟩ := hW
  have hA : DataW.TrodAll enc Try.prog W 0 (fun _ => true) true Try.f5.params.toList args.toList ds p := hA0
  rw [Try.params5] at hA hval
  obtain ⟨v0, vs0, d0, ds0, p0, q0, hargs, rfl, rfl, h0, r0⟩ := trodAll_cons hA
  obtain ⟨v1, vs1, d1, ds1, p1, q1, rfl, rfl, rfl, h1, r1⟩ := trodAll_cons r0
  obtain ⟨v2, vs2, d2, ds2, p2, q2, rfl, rfl, rfl, h2, r2⟩ := trodAll_cons r1
  obtain ⟨rfl, rfl, rfl⟩ := trodAll_nil r2
  obtain rfl : args = #[v0, v1, v2] := by cases args; simp_all
  obtain ⟨rfl, rfl⟩ := trodVars_none hV
  have k0 := h0
  have lt0 : ∀ x ∈ p0, x.block < W.heap.size := by obtain ⟨m, hm⟩ := k0; exact DataW.trod_lt m _ _ _ hm
  have k1 := h1
  have lt1 : ∀ x ∈ p1, x.block < W.heap.size := by obtain ⟨m, hm⟩ := k1; exact DataW.trod_lt m _ _ _ hm
  have k2 := h2
  have lt2 : ∀ x ∈ p2, x.block < W.heap.size := by obtain ⟨m, hm⟩ := k2; exact DataW.trod_lt m _ _ _ hm
  obtain ⟨a0, rfl, rfl, rfl, w0⟩ := open_int Try.underlying5 (hval 0 5 v0 rfl rfl) h0
  obtain ⟨s1, len1, cap1, rfl⟩ := okWide_slice Try.underlying22 (hval 1 22 v1 rfl rfl)
  obtain ⟨l1, rfl, w1, b1⟩ := argInts .u16 Try.underlying22 Try.underlying40 (by kernel_rfl) h1
  obtain ⟨a2, rfl, rfl, rfl, w2⟩ := open_int Try.underlying3 (hval 2 3 v2 rfl rfl) h2
  clear hA0 hval0
  refine (walk W a0 w0 s1 cap1 l1 w1 b1 a2 w2).mono fun e W' ⟨he, bel⟩ => ?_
  subst he
  exact ⟨_, rfl, _, _, _, [], _, [], hW', trodAll_mk1 (shut_bool Try.underlying4 _), (trodAll_cons_mk (Below.trod laidOut (by kernel_rfl) (of_decide_eq_true (by kernel_rfl)) k0 bel lt0) (trodAll_cons_mk (Below.trod laidOut (by kernel_rfl) (of_decide_eq_true (by kernel_rfl)) k1 bel lt1) (trodAll_cons_mk (Below.trod laidOut (by kernel_rfl) (of_decide_eq_true (by kernel_rfl)) k2 bel lt2) trodAll_mk0))), rfl, bel.frame _, fun h => by cases h⟩

theorem over : Rows.ladderPrioritiesRow.holds Try.pinned (OpenSpec.ofChange Rows.ladderPrioritiesSpec) :=
  OpenClaim.holds_of_wide 5 Try.f5 rfl rfl rfl rfl rfl rfl rfl ⟨rfl, rfl, rfl, rfl, rfl⟩ rfl rfl rfl rfl rfl (by kernel_rfl) Try.func5 (by kernel_rfl)
    (of_decide_eq_true (by kernel_rfl)) (by unfold Func.isWrapper; first | (rw [if_pos (by decide +kernel)]; kernel_rfl) | (rw [if_neg (by decide +kernel)]; exact ⟨rfl, rfl⟩))
    (fun os started H enc _ => lifted os started H enc)

theorem proved : Rows.LadderPrioritiesSaid := over
#print axioms proved
end Go.Proofs.Ytpliabljhkejoaa.ladderPriorities
