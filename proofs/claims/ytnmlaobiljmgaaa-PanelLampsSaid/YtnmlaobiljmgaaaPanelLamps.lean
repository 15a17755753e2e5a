/- Which conditions are indicated, in which order; how high the highest is, and the loudest. No conditions. -/
import Derived.Test.YtnmlaobiljmgaaaRows
import Derived.Test.YtnmlaobiljmgaaaArgs
import Derived.Test.YtnmlaobiljmgaaaPanD
import Derived.ProofKit
import Derived.OpenShut
import Derived.Deep.DeepCutAuto
import Derived.Deep.CutBlock
import Derived.Deep.RegionHeld3
namespace Go.Proofs.Ytnmlaobiljmgaaa.panelLamps
open Go.ChangeShapes Go.WideShapes Go.ChangeAt Go.RowKit
open Go.ChangeMaps (open_string shut_string)
set_option linter.unusedVariables false
set_option linter.unusedSimpArgs false

set_option maxHeartbeats 8000000 in
set_option maxRecDepth 100000 in
theorem walk (w : World) (s0 : Option Addr) (cap : Nat) (l : List One20) (hs : Sl w 4 (.slice s0 l.length cap) l.length (l.flatMap encOne)) (hg : ∀ x ∈ l, goodOne20 x) (turn : Bool) :
    Calls Try.prog 7 #[.slice s0 l.length cap, .bool turn] w fun e w' => e = .returned (.bool true) ∧ Below w.heap.size w w' := by
  obtain ⟨N, hN⟩ : ∃ N, l.length = N := ⟨_, rfl⟩
  have HN := hid hN
  have HS := hid hs
  have HG := hid hg
  clear hg hs
  rw [hN]
  by_cases hbig : 40 < N
  · have hd : decide ((N : Int) > 40) = true := decide_eq_true (by omega)
    clear hN
    go_enter Try.func7, Try.ntmps7
    go_wp2_with fail
    refine (dark_true _).mono ?_
    rintro e w1 ⟨rfl, k1⟩
    have K1 := hid (k1)
    clear k1
    go_wp2_with fail
    refine (dark_true _).mono ?_
    rintro e w2 ⟨rfl, k2⟩
    have K2 := hid (K1.out.trans k2)
    clear k2
    go_wp2_with fail
    go_ret
    exact ⟨rfl, K2.out.toBelow⟩
  have hd : decide ((N : Int) > 40) = false := decide_eq_false (by omega)
  cases turn
  · have HOF : Hid (∀ w', Keeps No w w' → Calls Try.prog 20 #[.slice s0 N cap, .bool false] w' fun e w'' => ∃ va vb, e = .returned (.tuple #[va, vb]) ∧ SlPi w'' va (ofL false l) ∧ SlLi w'' vb (ofL false l) ∧ (∀ k, va.ownBlock = some k → w'.heap.size ≤ k) ∧ (∀ k, vb.ownBlock = some k → w'.heap.size ≤ k) ∧ Keeps No w' w'') := hid (fun w' k => by
      have hlm : l.length ≤ 1000000 := by rw [HN.out]; omega
      have h := of_false (HS.out.keep k (fun _ _ h => h)) HG.out hlm
      rw [HN.out] at h
      exact h)
    have HLL := hid (ofL_len false l)
    have HPR := hid (ofL_pri false HG.out)
    have HUN := hid (ofL_unlike false l)
    obtain ⟨q, hq⟩ : ∃ q, ofL false l = q := ⟨_, rfl⟩
    rw [hq] at HOF HLL HPR HUN
    have HQ := hid hq
    clear hq hN
    have HB1000 : Hid (q.length ≤ 1000) := hid (by have := HLL.out; omega)
    have HPB : Hid (∀ x ∈ q, 0 ≤ x.pri ∧ x.pri ≤ 255) := hid (fun x hx => by have := HPR.out x hx; omega)
    go_enter Try.func7, Try.ntmps7
    go_wp2_with fail
    refine (dark_true _).mono ?_
    rintro e w1 ⟨rfl, k1⟩
    have K1 := hid (k1)
    clear k1
    go_wp2_with fail
    refine (HOF.out _ K1.out).mono ?_
    rintro e w2 ⟨va, vb, rfl, hva, hvb, hna, hnb, k2⟩
    obtain ⟨aa, ac, rfl⟩ := hva.any
    obtain ⟨ba, bc, rfl⟩ := hvb.any
    obtain ⟨n, hn⟩ : ∃ n, q.length = n := ⟨_, rfl⟩
    have HQN := hid hn
    have HVA : Hid (SlPi w2 (.slice aa n ac) q) := hid (by rw [← hn]; exact hva)
    have HVB : Hid (SlLi w2 (.slice ba n bc) q) := hid (by rw [← hn]; exact hvb)
    have HNA : Hid (∀ k, (Value.slice aa n ac).ownBlock = some k → w.heap.size ≤ k) := hid (fun k hk => by rw [← hn] at hk; exact Nat.le_trans K1.out.size (hna k hk))
    have KL := hid k2
    have K2 := hid (K1.out.trans k2)
    rw [hn]
    clear hva hvb hna hnb k2 hn
    go_wp2_with fail
    refine (plamps_any (l := q) HVA.out HB1000.out HUN.out).mono ?_
    rintro e w3 ⟨lv, rfl, hlv, kp, _⟩
    obtain ⟨la, lc, rfl⟩ := hlv.any
    have HLV := hid hlv
    have KP := hid kp
    clear hlv kp
    go_wp2_with fail
    refine (mlamps_any (l := q) (HVB.out.keep KP.out (fun _ _ h => h)) HB1000.out).mono ?_
    rintro e w4 ⟨mv, rfl, hmv, kp, _⟩
    obtain ⟨ma, mc, rfl⟩ := hmv.any
    have HMV := hid hmv
    have HLV2 := hid (HLV.out.keep kp (fun _ _ h => h))
    have KP2 := hid (KP.out.trans kp)
    have hlm : Hid ((lampsD q).length ≤ 1000) := hid (by have h1 := lampsD_len q; have h2 := HB1000.out; omega)
    clear hmv kp
    go_wp2_with fail
    refine (msameO_true HLV2.out HMV.out hlm.out 0 0 false false false).mono ?_
    rintro e w5 ⟨rfl, kp⟩
    have KP3 := hid (KP2.out.trans kp)
    clear kp
    go_wp2_with fail
    refine (phigh_any (l := q) (HVA.out.keep KP3.out (fun _ _ h => h)) HB1000.out HPB.out).mono ?_
    rintro e w6 ⟨rfl, kp⟩
    have KP4 := hid (KP3.out.trans kp)
    clear kp
    go_wp2_with fail
    refine (mhigh_any (l := q) (HVB.out.keep KP4.out (fun _ _ h => h)) HB1000.out HPB.out false).mono ?_
    rintro e w7 ⟨rfl, kp⟩
    have KP5 := hid (KP4.out.trans kp)
    clear kp
    rw [fL_lit]
    obtain ⟨hi, hhi⟩ : ∃ r, highD litD q = r := ⟨_, rfl⟩
    rw [hhi]
    have e1 : (hi == hi) = true := by simp
    clear hhi
    go_wp2_with fail
    refine (ploudest_any (l := q) (HVA.out.keep KP5.out (fun _ _ h => h)) HB1000.out HPB.out).mono ?_
    rintro e w8 ⟨rfl, kp⟩
    have KP6 := hid (KP5.out.trans kp)
    clear kp
    go_wp2_with fail
    refine (mhigh_any (l := q) (HVB.out.keep KP6.out (fun _ _ h => h)) HB1000.out HPB.out true).mono ?_
    rintro e w9 ⟨rfl, kp⟩
    have KP7 := hid (KP6.out.trans kp)
    clear kp
    rw [fL_loud]
    obtain ⟨ho, hho⟩ : ∃ r, highD loudL q = r := ⟨_, rfl⟩
    rw [hho]
    have e2 : (ho == ho) = true := by simp
    clear hho
    go_wp2_with fail
    go_ret
    exact ⟨rfl, (K2.out.trans KP7.out).toBelow⟩
  · have HOF : Hid (∀ w', Keeps No w w' → Calls Try.prog 20 #[.slice s0 N cap, .bool true] w' fun e w'' => ∃ va vb, e = .returned (.tuple #[va, vb]) ∧ SlPi w'' va (ofL true l) ∧ SlLi w'' vb (ofL true l) ∧ (∀ k, va.ownBlock = some k → w'.heap.size ≤ k) ∧ (∀ k, vb.ownBlock = some k → w'.heap.size ≤ k) ∧ Keeps No w' w'') := hid (fun w' k => by
      have hlm : l.length ≤ 1000000 := by rw [HN.out]; omega
      have h := of_true (HS.out.keep k (fun _ _ h => h)) HG.out hlm
      rw [HN.out] at h
      exact h)
    have HLL := hid (ofL_len true l)
    have HPR := hid (ofL_pri true HG.out)
    have HUN := hid (ofL_unlike true l)
    obtain ⟨q, hq⟩ : ∃ q, ofL true l = q := ⟨_, rfl⟩
    rw [hq] at HOF HLL HPR HUN
    have HQ := hid hq
    clear hq hN
    have HB1000 : Hid (q.length ≤ 1000) := hid (by have := HLL.out; omega)
    have HPB : Hid (∀ x ∈ q, 0 ≤ x.pri ∧ x.pri ≤ 255) := hid (fun x hx => by have := HPR.out x hx; omega)
    go_enter Try.func7, Try.ntmps7
    go_wp2_with fail
    refine (dark_true _).mono ?_
    rintro e w1 ⟨rfl, k1⟩
    have K1 := hid (k1)
    clear k1
    go_wp2_with fail
    refine (HOF.out _ K1.out).mono ?_
    rintro e w2 ⟨va, vb, rfl, hva, hvb, hna, hnb, k2⟩
    obtain ⟨aa, ac, rfl⟩ := hva.any
    obtain ⟨ba, bc, rfl⟩ := hvb.any
    obtain ⟨n, hn⟩ : ∃ n, q.length = n := ⟨_, rfl⟩
    have HQN := hid hn
    have HVA : Hid (SlPi w2 (.slice aa n ac) q) := hid (by rw [← hn]; exact hva)
    have HVB : Hid (SlLi w2 (.slice ba n bc) q) := hid (by rw [← hn]; exact hvb)
    have HNA : Hid (∀ k, (Value.slice aa n ac).ownBlock = some k → w.heap.size ≤ k) := hid (fun k hk => by rw [← hn] at hk; exact Nat.le_trans K1.out.size (hna k hk))
    have KL := hid k2
    have K2 := hid (K1.out.trans k2)
    rw [hn]
    clear hva hvb hna hnb k2 hn
    go_wp2_with fail
    refine (plamps_any (l := q) HVA.out HB1000.out HUN.out).mono ?_
    rintro e w3 ⟨lv, rfl, hlv, kp, _⟩
    obtain ⟨la, lc, rfl⟩ := hlv.any
    have HLV := hid hlv
    have KP := hid kp
    clear hlv kp
    go_wp2_with fail
    refine (mlamps_any (l := q) (HVB.out.keep KP.out (fun _ _ h => h)) HB1000.out).mono ?_
    rintro e w4 ⟨mv, rfl, hmv, kp, _⟩
    obtain ⟨ma, mc, rfl⟩ := hmv.any
    have HMV := hid hmv
    have HLV2 := hid (HLV.out.keep kp (fun _ _ h => h))
    have KP2 := hid (KP.out.trans kp)
    have hlm : Hid ((lampsD q).length ≤ 1000) := hid (by have h1 := lampsD_len q; have h2 := HB1000.out; omega)
    clear hmv kp
    go_wp2_with fail
    refine (msameO_true HLV2.out HMV.out hlm.out 0 0 false false false).mono ?_
    rintro e w5 ⟨rfl, kp⟩
    have KP3 := hid (KP2.out.trans kp)
    clear kp
    go_wp2_with fail
    refine (phigh_any (l := q) (HVA.out.keep KP3.out (fun _ _ h => h)) HB1000.out HPB.out).mono ?_
    rintro e w6 ⟨rfl, kp⟩
    have KP4 := hid (KP3.out.trans kp)
    clear kp
    go_wp2_with fail
    refine (mhigh_any (l := q) (HVB.out.keep KP4.out (fun _ _ h => h)) HB1000.out HPB.out false).mono ?_
    rintro e w7 ⟨rfl, kp⟩
    have KP5 := hid (KP4.out.trans kp)
    clear kp
    rw [fL_lit]
    obtain ⟨hi, hhi⟩ : ∃ r, highD litD q = r := ⟨_, rfl⟩
    rw [hhi]
    have e1 : (hi == hi) = true := by simp
    clear hhi
    go_wp2_with fail
    refine (ploudest_any (l := q) (HVA.out.keep KP5.out (fun _ _ h => h)) HB1000.out HPB.out).mono ?_
    rintro e w8 ⟨rfl, kp⟩
    have KP6 := hid (KP5.out.trans kp)
    clear kp
    go_wp2_with fail
    refine (mhigh_any (l := q) (HVB.out.keep KP6.out (fun _ _ h => h)) HB1000.out HPB.out true).mono ?_
    rintro e w9 ⟨rfl, kp⟩
    have KP7 := hid (KP6.out.trans kp)
    clear kp
    rw [fL_loud]
    obtain ⟨ho, hho⟩ : ∃ r, highD loudL q = r := ⟨_, rfl⟩
    rw [hho]
    have e2 : (ho == ho) = true := by simp
    clear hho
    go_wp2_with fail
    go_ret
    exact ⟨rfl, (K2.out.trans KP7.out).toBelow⟩

theorem own : ownKnob Try.prog.godebug = none := by kernel_rfl
theorem laidOut : laidOutB Try.prog = true := by kernel_rfl
set_option maxRecDepth 100000 in
theorem lifted (os : Os) (started : os.Started) (H : Type) (enc : TypeId × Value → H) :
    ReturnsInHanded {} Try.checked os 7 .any (Rows.panelLampsSpec.pre6 enc Try.prog Try.f7 Rows.panelLampsRow.domain false) (Rows.panelLampsSpec.post enc Try.prog Try.f7 false true false false) := by
  refine returnsInHanded_of_change (C := Try.checked) own started (by kernel_rfl) Try.func7
    (ChangeSpec.witness6 (enc := enc) (C := Try.checked) false ⟨#[], #[.slice none 0 0, .bool false], []⟩ 8 (by kernel_rfl) (by kernel_rfl) (by kernel_rfl) (by kernel_rfl)) ?_
  intro W base args ds gs before hval0 hW hcnd _
  have hval : ∀ (j : Nat) t v, Try.f7.params[j]? = some t → args[j]? = some v → Value.okWide Try.prog W .any base t v := hval0
  have hW' := hW
  obtain ⟨p, q, hA0, hV, rfl, hfz, hnd⟩ := hW
  have hA : DataW.TrodAll enc Try.prog W 0 (fun _ => true) true Try.f7.params.toList args.toList ds p := hA0
  rw [Try.params7] at hA hval
  obtain ⟨v0, vs0, d0, ds0, p0, q0, hargs, rfl, rfl, h0, r0⟩ := trodAll_cons hA
  obtain ⟨v1, vs1, d1, ds1, p1, q1, rfl, rfl, rfl, h1, r1⟩ := trodAll_cons r0
  obtain ⟨rfl, rfl, rfl⟩ := trodAll_nil r1
  obtain rfl : args = #[v0, v1] := by cases args; simp_all
  obtain ⟨rfl, rfl⟩ := trodVars_none hV
  have k0 := h0
  have lt0 : ∀ x ∈ p0, x.block < W.heap.size := by obtain ⟨m, hm⟩ := k0; exact DataW.trod_lt m _ _ _ hm
  have k1 := h1
  have lt1 : ∀ x ∈ p1, x.block < W.heap.size := by obtain ⟨m, hm⟩ := k1; exact DataW.trod_lt m _ _ _ hm
  obtain ⟨s0, len0, cap0, rfl⟩ := okWide_slice Try.underlying34 (hval 0 34 v0 rfl rfl)
  obtain ⟨l0, rfl, w0, b0⟩ := argSlice (encE := encOne) (good := goodOne20) (size := 4) (fun _ => rfl) (by decide) Try.underlying34 (by kernel_rfl) (fun n cs x hx => decOne hx) h0
  obtain ⟨a1, rfl, rfl, rfl⟩ := open_bool Try.underlying4 (hval 1 4 v1 rfl rfl) h1
  clear hA0 hval0
  refine (walk W s0 cap0 l0 w0 b0 a1).mono fun e W' ⟨he, bel⟩ => ?_
  subst he
  exact ⟨_, rfl, _, _, _, [], _, [], hW', trodAll_mk1 (shut_bool Try.underlying4 _), (trodAll_cons_mk (Below.trod laidOut (by kernel_rfl) (of_decide_eq_true (by kernel_rfl)) k0 bel lt0) (trodAll_cons_mk (Below.trod laidOut (by kernel_rfl) (of_decide_eq_true (by kernel_rfl)) k1 bel lt1) trodAll_mk0)), rfl, bel.frame _, fun h => by cases h⟩

theorem over : Rows.panelLampsRow.holds Try.pinned (OpenSpec.ofChange Rows.panelLampsSpec) :=
  OpenClaim.holds_of_wide 7 Try.f7 rfl rfl rfl rfl rfl rfl rfl ⟨rfl, rfl, rfl, rfl, rfl⟩ rfl rfl rfl rfl rfl (by kernel_rfl) Try.func7 (by kernel_rfl)
    (of_decide_eq_true (by kernel_rfl)) (by unfold Func.isWrapper; first | (rw [if_pos (by decide +kernel)]; kernel_rfl) | (rw [if_neg (by decide +kernel)]; exact ⟨rfl, rfl⟩))
    (fun os started H enc _ => lifted os started H enc)

theorem proved : Rows.PanelLampsSaid := over
#print axioms proved
end Go.Proofs.Ytnmlaobiljmgaaa.panelLamps
