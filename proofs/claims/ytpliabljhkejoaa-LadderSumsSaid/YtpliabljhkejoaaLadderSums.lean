/- The first waits together; how many stages are reached behind any time. No conditions. -/
import Derived.Test.YtpliabljhkejoaaRows
import Derived.Test.YtpliabljhkejoaaArgs
import Derived.Test.YtpliabljhkejoaaLadK
import Derived.Test.YtpliabljhkejoaaLadX
import Derived.ProofKit
import Derived.OpenShut
import Derived.Deep.RegionHeld3
import Derived.Deep.DeepCutAuto
import Derived.Deep.CutBlock
namespace Go.Proofs.Ytpliabljhkejoaa.ladderSums
open Go.ChangeShapes Go.WideShapes Go.ChangeAt Go.RowKit
open Go.ChangeMaps (open_string shut_string)
set_option linter.unusedVariables false
set_option linter.unusedSimpArgs false

set_option maxHeartbeats 8000000 in
set_option maxRecDepth 100000 in
theorem walk (w : World) (p : Int) (wp : (Lit.int .u8 p).wf = true) (s0 : Option Addr) (cap : Nat) (q : List Int) (hs : Sl w 1 (.slice s0 q.length cap) q.length (q.map (.int .u16 ·))) (hq : ∀ x ∈ q, (Lit.int .u16 x).wf = true) (k : Int) (wk : (Lit.int .i64 k).wf = true) (d : Int) (wd : (Lit.int .i64 d).wf = true) :
    Calls Try.prog 3 #[.int .u8 p, .slice s0 q.length cap, .int .i64 k, .int .i64 d] w fun e w' => e = .returned (.bool true) ∧ Below w.heap.size w w' := by
  obtain ⟨p0_, p1_⟩ := bounds_u8 wp
  obtain ⟨N, hN⟩ : ∃ N, q.length = N := ⟨_, rfl⟩
  have hqb : ∀ x ∈ q, 0 ≤ x ∧ x ≤ 65535 := fun x hx => bounds_u16 (hq x hx)
  rw [hN] at hs ⊢
  have HS := hid hs
  have HQ := hid hqb
  have HN := hid hN
  clear hs hq hN wp hqb
  have HKB : Hid (-9223372036854775808 ≤ k ∧ k ≤ 9223372036854775807) := hid (bounds_i64 wk)
  clear wk wd
  by_cases hbig : 8 < N
  · have hd : decide ((N : Int) > 8) = true := decide_eq_true (by omega)
    go_enter Try.func3, Try.ntmps3
    go_wp2_with fail
    refine (steps_true _).mono ?_
    rintro e w1 ⟨rfl, k1⟩
    have K1 := hid k1
    clear k1
    go_wp2_with fail
    refine (steps_true _).mono ?_
    rintro e w2 ⟨rfl, k2⟩
    have K2 := hid (K1.out.trans k2)
    clear k2
    go_wp2_with fail
    go_ret
    exact ⟨rfl, K2.out.toBelow⟩
  have hd : decide ((N : Int) > 8) = false := decide_eq_false (by omega)
  go_enter Try.func3, Try.ntmps3
  go_wp2_with fail
  refine (steps_true _).mono ?_
  rintro e w1 ⟨rfl, k1⟩
  have K1 := hid k1
  clear k1
  go_wp2_with fail
  refine (lrule_any p ⟨p0_, p1_⟩ HN.out (HS.out.keep K1.out (fun _ _ h => h)) HQ.out (by omega)).mono ?_
  rintro e w2 ⟨ls, v, rfl, hsl, hok, hlen, kp⟩
  obtain ⟨sa, sc, rfl⟩ := Sl.any hsl
  obtain ⟨p0, hp0⟩ : ∃ y, 1 + p % 3 = y := ⟨_, rfl⟩
  rw [hp0] at hok ⊢
  have HOK := hid hok
  have HSM : Hid (SmallSt ls) := hid (hok.small (by omega))
  have HLEN := hid hlen
  have HSL := hid hsl
  have K2 := hid (K1.out.trans kp)
  clear hsl hok hlen kp hp0 K1
  obtain ⟨rb, hrb⟩ : ∃ y, w2.heap.size = y := ⟨_, rfl⟩
  obtain ⟨W, hW⟩ : ∃ W, w2.alloc (.cells #[.int .u8 0, .int .i64 0, .int .i64 0, .int .i64 0, .int .i64 0, .int .i64 0, .int .u8 p0, .bool false, .slice sa ls.length sc] 26) = W := ⟨_, rfl⟩
  have HR : Hid (Bk W rb 26 [.int .u8 0, .int .i64 0, .int .i64 0, .int .i64 0, .int .i64 0, .int .i64 0, .int .u8 p0, .bool false, .slice sa ls.length sc]) := hid (by rw [← hW]; exact Bk.new hrb _ _)
  have HSW : Hid (SlS W (.slice sa ls.length sc) ls) := hid (Sl.keep HSL.out (by rw [← hW]; exact (Keeps.refl No _).alloc _) (fun _ _ h => h))
  have KW : Hid (Keeps No w W) := hid (by rw [← hW]; exact K2.out.alloc _)
  have HW := hid hW
  have HRB := hid hrb
  clear hW hrb K2 HSL
  have HSP := hid (fun (w' : World) (kw : Keeps No W w') (n : Int) (hn : -9223372036854775808 ≤ n ∧ n ≤ 9223372036854775807) => lsum_any (Sl.keep HSW.out kw (fun _ _ h => h)) HSM.out n hn)
  have HSD := hid (fun (w' : World) (kw : Keeps No W w') (n : Int) (hn : -9223372036854775808 ≤ n ∧ n ≤ 9223372036854775807) => msum_any (Sl.keep HSW.out kw (fun _ _ h => h)) HSM.out n hn)
  have HRP := hid (fun (w' : World) (kw : Keeps No W w') => lreached_any (Sl.keep HSW.out kw (fun _ _ h => h)) HSM.out d)
  have HRD := hid (fun (w' : World) (kw : Keeps No W w') => mreached_any (Sl.keep HSW.out kw (fun _ _ h => h)) HSM.out d)
  obtain ⟨rd, hrd⟩ : ∃ r, reachedD ls d = r := ⟨_, rfl⟩
  rw [hrd] at HRP HRD
  clear hrd hd
  go_upto_region 4 with fail
  rw [HW.out, HRB.out]
  clear HW HRB
  go_wp2_with fail
  go_loopw [10] (fun v10 wr => ∃ i : Nat, i ≤ 7 ∧ v10 = .int .i64 ((i : Int) - 1) ∧ Hid (Keeps No W wr)) (fun v10 _ => 7 - (intOf v10 + 1).toNat)
  case atStart => exact ⟨0, by omega, rfl, hid (Keeps.refl _ _)⟩
  case round =>
    obtain ⟨i, hi, rfl, HK⟩ := hrel
    have x8 := (HR.out.kept HK.out).cell 8 rfl
    by_cases hlt : i < 7
    · have d1 : decide ((i : Int) - 1 < 6) = true := decide_eq_true (by omega)
      obtain ⟨n, hn⟩ : ∃ n : Int, (i : Int) - 1 = n := ⟨_, rfl⟩
      have HNB : Hid (-9223372036854775808 ≤ n ∧ n ≤ 9223372036854775807) := hid (by omega)
      have HNE := hid hn
      rw [hn] at d1 ⊢
      have HA := hid (fun (w' : World) (kw : Keeps No W w') => HSP.out w' kw n HNB.out)
      have HB := hid (fun (w' : World) (kw : Keeps No W w') => HSD.out w' kw n HNB.out)
      obtain ⟨s, hs⟩ : ∃ s, sumD ls n.toNat = s := ⟨_, rfl⟩
      rw [hs] at HA HB
      have qs : (s != s) = false := by simp
      have hn1 : n + 1 = i := by omega
      have HN1 := hid hn1
      have hnb : -1 ≤ n ∧ n ≤ 6 := by omega
      obtain ⟨hnb0, hnb1⟩ := hnb
      clear hs hn hn1
      go_upto_region 7 with fail
      first | go_region_held3 (fun w' => w'.cell? ⟨rb, 8, none⟩ = some (.slice sa ls.length sc)) (first | with_reducible exact x8 | with_reducible exact cellDr x8 | (go_keep; done)) (first | (go_at_call 10; (with_reducible refine (HA.out _ (by refine Keeps.trans HK.out ?_; first | ((repeat' (first | with_reducible exact Keeps.refl _ _ | with_reducible assumption | with_reducible refine Keeps.drewN ?_ _ | with_reducible refine Keeps.drew ?_ | with_reducible refine Keeps.alloc ?_ _)); done) | (refine Keeps.trans kk ?_; repeat' (first | with_reducible exact Keeps.refl _ _ | with_reducible assumption | with_reducible refine Keeps.drewN ?_ _ | with_reducible refine Keeps.drew ?_ | with_reducible refine Keeps.alloc ?_ _)))).mono ?_); rintro e wq ⟨rfl, kq⟩; have kk : Keeps No wr wq := Keeps.trans (by first | ((repeat' (first | with_reducible exact Keeps.refl _ _ | with_reducible assumption | with_reducible refine Keeps.drewN ?_ _ | with_reducible refine Keeps.drew ?_ | with_reducible refine Keeps.alloc ?_ _)); done) | (refine Keeps.trans kk ?_; repeat' (first | with_reducible exact Keeps.refl _ _ | with_reducible assumption | with_reducible refine Keeps.drewN ?_ _ | with_reducible refine Keeps.drew ?_ | with_reducible refine Keeps.alloc ?_ _))) kq; have x8 := (HR.out.kept (Keeps.trans HK.out kk)).cell 8 rfl; clear kq) | (go_at_call 11; (with_reducible refine (HB.out _ (by refine Keeps.trans HK.out ?_; first | ((repeat' (first | with_reducible exact Keeps.refl _ _ | with_reducible assumption | with_reducible refine Keeps.drewN ?_ _ | with_reducible refine Keeps.drew ?_ | with_reducible refine Keeps.alloc ?_ _)); done) | (refine Keeps.trans kk ?_; repeat' (first | with_reducible exact Keeps.refl _ _ | with_reducible assumption | with_reducible refine Keeps.drewN ?_ _ | with_reducible refine Keeps.drew ?_ | with_reducible refine Keeps.alloc ?_ _)))).mono ?_); rintro e wq ⟨rfl, kq⟩; have kk : Keeps No wr wq := Keeps.trans (by first | ((repeat' (first | with_reducible exact Keeps.refl _ _ | with_reducible assumption | with_reducible refine Keeps.drewN ?_ _ | with_reducible refine Keeps.drew ?_ | with_reducible refine Keeps.alloc ?_ _)); done) | (refine Keeps.trans kk ?_; repeat' (first | with_reducible exact Keeps.refl _ _ | with_reducible assumption | with_reducible refine Keeps.drewN ?_ _ | with_reducible refine Keeps.drew ?_ | with_reducible refine Keeps.alloc ?_ _))) kq; have x8 := (HR.out.kept (Keeps.trans HK.out kk)).cell 8 rfl; clear kq)) | fail
      go_wp2_with fail
      go_roundw
      case rel => exact ⟨i + 1, by omega, by rw [← HNE.out]; go_num, hid (HK.out.trans kk)⟩
      case measure => have hne := HNE.out; simp [intOf]; omega
    · obtain rfl : i = 7 := by omega
      have HA := hid (fun (w' : World) (kw : Keeps No W w') => HSP.out w' kw k HKB.out)
      have HB := hid (fun (w' : World) (kw : Keeps No W w') => HSD.out w' kw k HKB.out)
      obtain ⟨s, hs⟩ : ∃ s, sumD ls k.toNat = s := ⟨_, rfl⟩
      rw [hs] at HA HB
      have qs : (s == s) = true := by simp
      have qr : ((rd : Int) == (rd : Int)) = true := by simp
      clear hs
      go_upto_region 9 with fail
      first | go_region_held3 (fun w' => w'.cell? ⟨rb, 8, none⟩ = some (.slice sa ls.length sc)) (first | with_reducible exact x8 | with_reducible exact cellDr x8 | (go_keep; done)) (first | (go_at_call 10; (with_reducible refine (HA.out _ (by refine Keeps.trans HK.out ?_; first | ((repeat' (first | with_reducible exact Keeps.refl _ _ | with_reducible assumption | with_reducible refine Keeps.drewN ?_ _ | with_reducible refine Keeps.drew ?_ | with_reducible refine Keeps.alloc ?_ _)); done) | (refine Keeps.trans kk ?_; repeat' (first | with_reducible exact Keeps.refl _ _ | with_reducible assumption | with_reducible refine Keeps.drewN ?_ _ | with_reducible refine Keeps.drew ?_ | with_reducible refine Keeps.alloc ?_ _)))).mono ?_); rintro e wq ⟨rfl, kq⟩; have kk : Keeps No wr wq := Keeps.trans (by first | ((repeat' (first | with_reducible exact Keeps.refl _ _ | with_reducible assumption | with_reducible refine Keeps.drewN ?_ _ | with_reducible refine Keeps.drew ?_ | with_reducible refine Keeps.alloc ?_ _)); done) | (refine Keeps.trans kk ?_; repeat' (first | with_reducible exact Keeps.refl _ _ | with_reducible assumption | with_reducible refine Keeps.drewN ?_ _ | with_reducible refine Keeps.drew ?_ | with_reducible refine Keeps.alloc ?_ _))) kq; have x8 := (HR.out.kept (Keeps.trans HK.out kk)).cell 8 rfl; clear kq) | (go_at_call 11; (with_reducible refine (HB.out _ (by refine Keeps.trans HK.out ?_; first | ((repeat' (first | with_reducible exact Keeps.refl _ _ | with_reducible assumption | with_reducible refine Keeps.drewN ?_ _ | with_reducible refine Keeps.drew ?_ | with_reducible refine Keeps.alloc ?_ _)); done) | (refine Keeps.trans kk ?_; repeat' (first | with_reducible exact Keeps.refl _ _ | with_reducible assumption | with_reducible refine Keeps.drewN ?_ _ | with_reducible refine Keeps.drew ?_ | with_reducible refine Keeps.alloc ?_ _)))).mono ?_); rintro e wq ⟨rfl, kq⟩; have kk : Keeps No wr wq := Keeps.trans (by first | ((repeat' (first | with_reducible exact Keeps.refl _ _ | with_reducible assumption | with_reducible refine Keeps.drewN ?_ _ | with_reducible refine Keeps.drew ?_ | with_reducible refine Keeps.alloc ?_ _)); done) | (refine Keeps.trans kk ?_; repeat' (first | with_reducible exact Keeps.refl _ _ | with_reducible assumption | with_reducible refine Keeps.drewN ?_ _ | with_reducible refine Keeps.drew ?_ | with_reducible refine Keeps.alloc ?_ _))) kq; have x8 := (HR.out.kept (Keeps.trans HK.out kk)).cell 8 rfl; clear kq) | (go_at_call 12; (with_reducible refine (HRP.out _ (by refine Keeps.trans HK.out ?_; first | ((repeat' (first | with_reducible exact Keeps.refl _ _ | with_reducible assumption | with_reducible refine Keeps.drewN ?_ _ | with_reducible refine Keeps.drew ?_ | with_reducible refine Keeps.alloc ?_ _)); done) | (refine Keeps.trans kk ?_; repeat' (first | with_reducible exact Keeps.refl _ _ | with_reducible assumption | with_reducible refine Keeps.drewN ?_ _ | with_reducible refine Keeps.drew ?_ | with_reducible refine Keeps.alloc ?_ _)))).mono ?_); rintro e wq ⟨rfl, kq⟩; have kk : Keeps No wr wq := Keeps.trans (by first | ((repeat' (first | with_reducible exact Keeps.refl _ _ | with_reducible assumption | with_reducible refine Keeps.drewN ?_ _ | with_reducible refine Keeps.drew ?_ | with_reducible refine Keeps.alloc ?_ _)); done) | (refine Keeps.trans kk ?_; repeat' (first | with_reducible exact Keeps.refl _ _ | with_reducible assumption | with_reducible refine Keeps.drewN ?_ _ | with_reducible refine Keeps.drew ?_ | with_reducible refine Keeps.alloc ?_ _))) kq; have x8 := (HR.out.kept (Keeps.trans HK.out kk)).cell 8 rfl; clear kq) | (go_at_call 13; (with_reducible refine (HRD.out _ (by refine Keeps.trans HK.out ?_; first | ((repeat' (first | with_reducible exact Keeps.refl _ _ | with_reducible assumption | with_reducible refine Keeps.drewN ?_ _ | with_reducible refine Keeps.drew ?_ | with_reducible refine Keeps.alloc ?_ _)); done) | (refine Keeps.trans kk ?_; repeat' (first | with_reducible exact Keeps.refl _ _ | with_reducible assumption | with_reducible refine Keeps.drewN ?_ _ | with_reducible refine Keeps.drew ?_ | with_reducible refine Keeps.alloc ?_ _)))).mono ?_); rintro e wq ⟨rfl, kq⟩; have kk : Keeps No wr wq := Keeps.trans (by first | ((repeat' (first | with_reducible exact Keeps.refl _ _ | with_reducible assumption | with_reducible refine Keeps.drewN ?_ _ | with_reducible refine Keeps.drew ?_ | with_reducible refine Keeps.alloc ?_ _)); done) | (refine Keeps.trans kk ?_; repeat' (first | with_reducible exact Keeps.refl _ _ | with_reducible assumption | with_reducible refine Keeps.drewN ?_ _ | with_reducible refine Keeps.drew ?_ | with_reducible refine Keeps.alloc ?_ _))) kq; have x8 := (HR.out.kept (Keeps.trans HK.out kk)).cell 8 rfl; clear kq)) | fail
      go_wp2_with fail
      go_ret
      exact ⟨rfl, (KW.out.trans (HK.out.trans kk)).toBelow⟩

theorem own : ownKnob Try.prog.godebug = none := by kernel_rfl
theorem laidOut : laidOutB Try.prog = true := by kernel_rfl
set_option maxRecDepth 100000 in
theorem lifted (os : Os) (started : os.Started) (H : Type) (enc : TypeId × Value → H) :
    ReturnsInHanded {} Try.checked os 3 .any (Rows.ladderSumsSpec.pre6 enc Try.prog Try.f3 Rows.ladderSumsRow.domain false) (Rows.ladderSumsSpec.post enc Try.prog Try.f3 false true false false) := by
  refine returnsInHanded_of_change (C := Try.checked) own started (by kernel_rfl) Try.func3
    (ChangeSpec.witness6 (enc := enc) (C := Try.checked) false ⟨#[], #[.int .u8 0, .slice none 0 0, .int .i64 0, .int .i64 0], []⟩ 8 (by kernel_rfl) (by kernel_rfl) (by kernel_rfl) (by kernel_rfl)) ?_
  intro W base args ds gs before hval0 hW hcnd _
  have hval : ∀ (j : Nat) t v, Try.f3.params[j]? = some t → args[j]? = some v → Value.okWide Try.prog W .any base t v := hval0
  have hW' := hW
  obtain ⟨p, q, hA0, hV, rfl, hfz, hnd⟩ := hW
  have hA : DataW.TrodAll enc Try.prog W 0 (fun _ => true) true Try.f3.params.toList args.toList ds p := hA0
  rw [Try.params3] at hA hval
  obtain ⟨v0, vs0, d0, ds0, p0, q0, hargs, rfl, rfl, h0, r0⟩ := trodAll_cons hA
  obtain ⟨v1, vs1, d1, ds1, p1, q1, rfl, rfl, rfl, h1, r1⟩ := trodAll_cons r0
  obtain ⟨v2, vs2, d2, ds2, p2, q2, rfl, rfl, rfl, h2, r2⟩ := trodAll_cons r1
  obtain ⟨v3, vs3, d3, ds3, p3, q3, rfl, rfl, rfl, h3, r3⟩ := trodAll_cons r2
  obtain ⟨rfl, rfl, rfl⟩ := trodAll_nil r3
  obtain rfl : args = #[v0, v1, v2, v3] := by cases args; simp_all
  obtain ⟨rfl, rfl⟩ := trodVars_none hV
  have k0 := h0
  have lt0 : ∀ x ∈ p0, x.block < W.heap.size := by obtain ⟨m, hm⟩ := k0; exact DataW.trod_lt m _ _ _ hm
  have k1 := h1
  have lt1 : ∀ x ∈ p1, x.block < W.heap.size := by obtain ⟨m, hm⟩ := k1; exact DataW.trod_lt m _ _ _ hm
  have k2 := h2
  have lt2 : ∀ x ∈ p2, x.block < W.heap.size := by obtain ⟨m, hm⟩ := k2; exact DataW.trod_lt m _ _ _ hm
  have k3 := h3
  have lt3 : ∀ x ∈ p3, x.block < W.heap.size := by obtain ⟨m, hm⟩ := k3; exact DataW.trod_lt m _ _ _ hm
  obtain ⟨a0, rfl, rfl, rfl, w0⟩ := open_int Try.underlying5 (hval 0 5 v0 rfl rfl) h0
  obtain ⟨s1, len1, cap1, rfl⟩ := okWide_slice Try.underlying22 (hval 1 22 v1 rfl rfl)
  obtain ⟨l1, rfl, w1, b1⟩ := argInts .u16 Try.underlying22 Try.underlying40 (by kernel_rfl) h1
  obtain ⟨a2, rfl, rfl, rfl, w2⟩ := open_int Try.underlying3 (hval 2 3 v2 rfl rfl) h2
  obtain ⟨a3, rfl, rfl, rfl, w3⟩ := open_int Try.underlying2 (hval 3 2 v3 rfl rfl) h3
  clear hA0 hval0
  refine (walk W a0 w0 s1 cap1 l1 w1 b1 a2 w2 a3 w3).mono fun e W' ⟨he, bel⟩ => ?_
  subst he
  exact ⟨_, rfl, _, _, _, [], _, [], hW', trodAll_mk1 (shut_bool Try.underlying4 _), (trodAll_cons_mk (Below.trod laidOut (by kernel_rfl) (of_decide_eq_true (by kernel_rfl)) k0 bel lt0) (trodAll_cons_mk (Below.trod laidOut (by kernel_rfl) (of_decide_eq_true (by kernel_rfl)) k1 bel lt1) (trodAll_cons_mk (Below.trod laidOut (by kernel_rfl) (of_decide_eq_true (by kernel_rfl)) k2 bel lt2) (trodAll_cons_mk (Below.trod laidOut (by kernel_rfl) (of_decide_eq_true (by kernel_rfl)) k3 bel lt3) trodAll_mk0)))), rfl, bel.frame _, fun h => by cases h⟩

theorem over : Rows.ladderSumsRow.holds Try.pinned (OpenSpec.ofChange Rows.ladderSumsSpec) :=
  OpenClaim.holds_of_wide 3 Try.f3 rfl rfl rfl rfl rfl rfl rfl ⟨rfl, rfl, rfl, rfl, rfl⟩ rfl rfl rfl rfl rfl (by kernel_rfl) Try.func3 (by kernel_rfl)
    (of_decide_eq_true (by kernel_rfl)) (by unfold Func.isWrapper; first | (rw [if_pos (by decide +kernel)]; kernel_rfl) | (rw [if_neg (by decide +kernel)]; exact ⟨rfl, rfl⟩))
    (fun os started H enc _ => lifted os started H enc)

theorem proved : Rows.LadderSumsSaid := over
#print axioms proved
end Go.Proofs.Ytpliabljhkejoaa.ladderSums
