/- A hush silences sound alone: what is shown stays. No conditions. -/
import Derived.Test.YtnmlaobiljmgaaaRows
import Derived.Test.YtnmlaobiljmgaaaArgs
import Derived.Test.YtnmlaobiljmgaaaPanD
import Derived.ProofKit
import Derived.OpenShut
import Derived.Deep.DeepCutAuto
import Derived.Deep.CutBlock
import Derived.Deep.RegionHeld3
namespace Go.Proofs.Ytnmlaobiljmgaaa.panelSilent
open Go.ChangeShapes Go.WideShapes Go.ChangeAt Go.RowKit
open Go.ChangeMaps (open_string shut_string)
set_option linter.unusedVariables false
set_option linter.unusedSimpArgs false

theorem silent_sound (ph : Int) : soundD 0 ph = false := by unfold soundD pulsesD; simp
set_option maxHeartbeats 8000000 in
set_option maxRecDepth 100000 in
theorem walk (w : World) (s0 : Option Addr) (cap : Nat) (l : List One20) (hs : Sl w 4 (.slice s0 l.length cap) l.length (l.flatMap encOne)) (hg : ∀ x ∈ l, goodOne20 x) (til : Int) (wti : (Lit.int .u16 til).wf = true) (off : Int) (wof : (Lit.int .u16 off).wf = true) (now : Int) (wno : (Lit.int .u16 now).wf = true) :
    Calls Try.prog 10 #[.slice s0 l.length cap, .int .u16 til, .int .u16 off, .int .u16 now] w fun e w' => e = .returned (.bool true) ∧ Below w.heap.size w w' := by
  obtain ⟨ti0, ti1⟩ := bounds_u16 wti
  obtain ⟨of0, of1⟩ := bounds_u16 wof
  obtain ⟨no0, no1⟩ := bounds_u16 wno
  have wt : IntKind.i64.wrap til = til := by simp only [IntKind.wrap_i64]; omega
  have wo : IntKind.i64.wrap off = off := by simp only [IntKind.wrap_i64]; omega
  have wn : IntKind.i64.wrap now = now := by simp only [IntKind.wrap_i64]; omega
  clear wti wof wno
  obtain ⟨N, hN⟩ : ∃ N, l.length = N := ⟨_, rfl⟩
  have HN := hid hN
  have HS := hid hs
  have HG := hid hg
  clear hg hs
  rw [hN]
  by_cases hbig : 20 < N
  · have hd : decide ((N : Int) > 20) = true := decide_eq_true (by omega)
    clear hN
    go_enter Try.func10, Try.ntmps10
    go_wp2_with fail
    refine (dark_true _).mono ?_
    rintro e w1 ⟨rfl, k1⟩
    have K1 := hid (k1)
    clear k1
    go_wp2_with fail
    refine (dark_true _).mono ?_
    rintro e w2 ⟨rfl, k2⟩
    have K2 := hid (K1.out.trans k2)
    clear k2
    go_wp2_with fail
    go_ret
    exact ⟨rfl, K2.out.toBelow⟩
  have hd : decide ((N : Int) > 20) = false := decide_eq_false (by omega)
  have HOF : Hid (∀ w', Keeps No w w' → Calls Try.prog 20 #[.slice s0 N cap, .bool false] w' fun e w'' => ∃ va vb, e = .returned (.tuple #[va, vb]) ∧ SlPi w'' va (ofL false l) ∧ SlLi w'' vb (ofL false l) ∧ (∀ k, va.ownBlock = some k → w'.heap.size ≤ k) ∧ (∀ k, vb.ownBlock = some k → w'.heap.size ≤ k) ∧ Keeps No w' w'') := hid (fun w' k => by
    have hlm : l.length ≤ 1000000 := by rw [HN.out]; omega
    have h := of_false (HS.out.keep k (fun _ _ h => h)) HG.out hlm
    rw [HN.out] at h
    exact h)
  have HLL := hid (ofL_len false l)
  have HPR := hid (ofL_pri false HG.out)
  have HUN := hid (ofL_unlike false l)
  obtain ⟨q, hq⟩ : ∃ q, ofL false l = q := ⟨_, rfl⟩
  rw [hq] at HOF HLL HPR HUN
  have HQ := hid hq
  clear hq hN
  have HB1000 : Hid (q.length ≤ 1000) := hid (by have := HLL.out; omega)
  have HPB : Hid (∀ x ∈ q, 0 ≤ x.pri ∧ x.pri ≤ 255) := hid (fun x hx => by have := HPR.out x hx; omega)
  obtain ⟨hi, hhi⟩ : ∃ r, highD loudL q = r := ⟨_, rfl⟩
  obtain ⟨pt, hpt⟩ : ∃ r, decide (now < til) = r := ⟨_, rfl⟩
  obtain ⟨po, hpo⟩ : ∃ r, decide (now < off) = r := ⟨_, rfl⟩
  have hpt2 : decide (til > now) = pt := by rw [← hpt]
  have hpo2 : decide (off > now) = po := by rw [← hpo]
  have ha0 : audioD now q ⟨0, 0, 0⟩ = hi := by unfold audioD; rw [if_neg (by simp only; omega), hhi]
  obtain ⟨sx, hsx⟩ : ∃ r, soundD hi (held (now - (showP ⟨0, 0⟩ now q ⟨0, 0, 0⟩).began)) = r := ⟨_, rfl⟩
  have HX : Hid (∀ lv, (showD ⟨0, 0⟩ now q ⟨0, 0, 0⟩).val lv = .agg #[.int .i64 now, lv, .int .u8 hi, .bool sx, .bool false, .bool false]) := hid (fun lv => by
    unfold showD; simp only [OutD.val]; rw [ha0, hsx, decide_eq_false (show ¬ now < 0 by omega)])
  have HY0 : Hid (pt = false → po = false → ∀ lv, (showD ⟨0, 0⟩ now q ⟨til, off, 0⟩).val lv = .agg #[.int .i64 now, lv, .int .u8 hi, .bool sx, .bool false, .bool false]) := hid (fun h1 h2 lv => by
    rw [h1] at hpt
    rw [h2] at hpo
    have hnt := of_decide_eq_false hpt
    have hno := of_decide_eq_false hpo
    have ha1 : audioD now q ⟨til, off, 0⟩ = hi := by unfold audioD; rw [if_neg (by simp only; omega), hhi]
    have hsp : showP ⟨0, 0⟩ now q ⟨til, off, 0⟩ = showP ⟨0, 0⟩ now q ⟨0, 0, 0⟩ := by unfold showP; rw [ha1, ha0]
    unfold showD; simp only [OutD.val]; rw [ha1, hsp, hsx, hpt, hpo])
  have HY1 : Hid (¬ (pt = false ∧ po = false) → ∀ lv, (showD ⟨0, 0⟩ now q ⟨til, off, 0⟩).val lv = .agg #[.int .i64 now, lv, .int .u8 0, .bool false, .bool pt, .bool po]) := hid (fun h1 lv => by
    have ha1 : audioD now q ⟨til, off, 0⟩ = 0 := by
      unfold audioD
      rw [if_pos]
      simp only
      by_cases h : now < til
      · exact Or.inl h
      · right
        rw [decide_eq_false h] at hpt
        by_cases h' : now < off
        · exact h'
        · rw [decide_eq_false h'] at hpo; exact absurd ⟨hpt.symm, hpo.symm⟩ h1
    unfold showD; simp only [OutD.val]; rw [ha1, silent_sound, hpt, hpo])
  have hnI : I64 now := ⟨by omega, by omega⟩
  have HNI := hid hnI
  clear ha0 hsx hpt hpo hnI hhi
  go_enter Try.func10, Try.ntmps10
  go_wp2_with fail
  refine (dark_true _).mono ?_
  rintro e w1 ⟨rfl, k1⟩
  have K1 := hid (k1)
  clear k1
  go_wp2_with fail
  refine (HOF.out _ K1.out).mono ?_
  rintro e w2 ⟨va, vb, rfl, hva, hvb, hna, hnb, k2⟩
  obtain ⟨aa, ac, rfl⟩ := hva.any
  obtain ⟨ba, bc, rfl⟩ := hvb.any
  obtain ⟨n, hn⟩ : ∃ n, q.length = n := ⟨_, rfl⟩
  have HQN := hid hn
  have HVA : Hid (SlPi w2 (.slice aa n ac) q) := hid (by rw [← hn]; exact hva)
  have HVB : Hid (SlLi w2 (.slice ba n bc) q) := hid (by rw [← hn]; exact hvb)
  have HNA : Hid (∀ k, (Value.slice aa n ac).ownBlock = some k → w.heap.size ≤ k) := hid (fun k hk => by rw [← hn] at hk; exact Nat.le_trans K1.out.size (hna k hk))
  have KL := hid k2
  have K2 := hid (K1.out.trans k2)
  rw [hn]
  clear hva hvb hna hnb k2 hn
  have hn20 : n ≤ 20 := by have h1 := HLL.out; have h2 := HQN.out; omega
  have HNB : Hid (∀ (w' : World) (b : Nat), w2.heap.size ≤ w'.heap.size → w'.heap.size ≤ b → 0 < q.length → ∀ k, (Value.slice aa n ac).ownBlock = some k → ¬ k = b) := hid (fun w' b h1 h2 h0 k hk e => by
    have h := Sl.lt HVA.out h0 k hk
    omega)
  go_wp2_with fail
  refine (pnew_any _).mono ?_
  rintro e w3 ⟨b1, rfl, hbn, hb1, kp⟩
  have KP := hid kp
  have HB1 := hid hb1
  have HBN := hid hbn
  clear kp hb1 hbn
  go_wp2_with fail
  refine (pshow_any (l := q) (HVA.out.keep KP.out (fun _ _ h => h)) HB1000.out HPB.out HUN.out HB1.out now 0 0 0 ⟨by decide, by decide⟩ HNI.out (fun h0 => HNB.out _ _ (Nat.le_refl _) HBN.out h0)).mono ?_
  rintro e w4 ⟨lv, rfl, hlv, _, _, kp⟩
  obtain ⟨la, lc, rfl⟩ := hlv.any
  rw [HX.out]
  have KP2 : Hid (Keeps No w2 w4) := hid (KP.out.trans' kp (fun _ _ h => h) (fun i hi e => by have := HBN.out; omega))
  have HLV := hid hlv
  clear kp hlv
  obtain ⟨ob, hob⟩ : ∃ r, w4.heap.size = r := ⟨_, rfl⟩
  obtain ⟨W, hW⟩ : ∃ W, w4.alloc (.cells #[.int .i64 now, .slice la (lampsD q).length lc, .int .u8 hi, .bool sx, .bool false, .bool false] 43) = W := ⟨_, rfl⟩
  have HO : Hid (Bk W ob 43 [.int .i64 now, .slice la (lampsD q).length lc, .int .u8 hi, .bool sx, .bool false, .bool false]) := hid (by rw [← hW]; exact Bk.new hob _ _)
  have KPW : Hid (Keeps No w2 W) := hid (by rw [← hW]; exact KP2.out.alloc _)
  have HLW : Hid (SlLa W (.slice la (lampsD q).length lc) (lampsD q)) := hid (by rw [← hW]; exact HLV.out.alloc _)
  have HOBH := hid hob
  have HWH := hid hW
  clear hob hW
  go_upto_region 5 with fail
  rw [HOBH.out, HWH.out]
  clear HOBH HWH
  go_wp2_with fail
  refine (pnew_any _).mono ?_
  rintro e w5 ⟨b2, rfl, hbn, hb1, kp⟩
  have KP5 := hid (KPW.out.trans kp)
  have HO5 := hid (HO.out.kept kp)
  have HL5 := hid (HLW.out.keep kp (fun _ _ h => h))
  have HB2 := hid hb1
  have HBN2 := hid hbn
  have HWb : Hid (w2.heap.size ≤ b2) := hid (by have := KPW.out.size; omega)
  have HOB : Hid (¬ ob = b2) := hid (by have := HO.out.lt; omega)
  have HLB : Hid (0 < (lampsD q).length → ∀ k, (Value.slice la (lampsD q).length lc).ownBlock = some k → ¬ k = b2) := hid (fun h0 k hk e => by have := Sl.lt HLW.out h0 k hk; omega)
  clear kp hb1 hbn
  go_wp2_with fail
  refine (pshow_any (l := q) (HVA.out.keep KP5.out (fun _ _ h => h)) HB1000.out HPB.out HUN.out HB2.out now til off 0 ⟨by decide, by decide⟩ HNI.out (fun h0 => HNB.out _ _ KPW.out.size HBN2.out h0)).mono ?_
  rintro e w6 ⟨mv, rfl, hmv, _, _, kp⟩
  obtain ⟨ma, mc, rfl⟩ := hmv.any
  have KP6 : Hid (Keeps No w2 w6) := hid (KP5.out.trans' kp (fun _ _ h => h) (fun i hi e => by have := HWb.out; omega))
  have HO6 := hid (HO5.out.keep kp (fun e => HOB.out e))
  have HL6 : Hid (SlLa w6 (.slice la (lampsD q).length lc) (lampsD q)) := hid (HL5.out.keep' kp (fun h0 k hk _ => HLB.out h0 k hk))
  have HM6 := hid hmv
  have hlm : Hid ((lampsD q).length ≤ 1000) := hid (by have h1 := lampsD_len q; have h2 := HB1000.out; omega)
  clear kp hmv
  by_cases hq0 : pt = false ∧ po = false
  · obtain ⟨hp0, hp1⟩ := hq0
    rw [HY0.out hp0 hp1]
    subst hp0 hp1
    obtain ⟨oc, hoc⟩ : ∃ r, w6.heap.size = r := ⟨_, rfl⟩
    obtain ⟨V, hV⟩ : ∃ V, w6.alloc (.cells #[.int .i64 now, .slice ma (lampsD q).length mc, .int .u8 hi, .bool sx, .bool false, .bool false] 43) = V := ⟨_, rfl⟩
    have HP : Hid (Bk V oc 43 [.int .i64 now, .slice ma (lampsD q).length mc, .int .u8 hi, .bool sx, .bool false, .bool false]) := hid (by rw [← hV]; exact Bk.new hoc _ _)
    have HO7 : Hid (Bk V ob 43 [.int .i64 now, .slice la (lampsD q).length lc, .int .u8 hi, .bool sx, .bool false, .bool false]) := hid (by rw [← hV]; exact HO6.out.alloc _)
    have KV : Hid (Keeps No w2 V) := hid (by rw [← hV]; exact KP6.out.alloc _)
    have HL7 : Hid (SlLa V (.slice la (lampsD q).length lc) (lampsD q)) := hid (by rw [← hV]; exact HL6.out.alloc _)
    have HM7 : Hid (SlLa V (.slice ma (lampsD q).length mc) (lampsD q)) := hid (by rw [← hV]; exact HM6.out.alloc _)
    have HOCH := hid hoc
    have HVH := hid hV
    clear hoc hV
    go_upto_region 6 with fail
    rw [HOCH.out, HVH.out]
    clear HOCH HVH
    have x0_0 := HO7.out.cell 0 rfl
    have x0_1 := HO7.out.cell 1 rfl
    have x0_2 := HO7.out.cell 2 rfl
    have x0_3 := HO7.out.cell 3 rfl
    have x0_4 := HO7.out.cell 4 rfl
    have x0_5 := HO7.out.cell 5 rfl
    have x1_0 := HP.out.cell 0 rfl
    have x1_1 := HP.out.cell 1 rfl
    have x1_2 := HP.out.cell 2 rfl
    have x1_3 := HP.out.cell 3 rfl
    have x1_4 := HP.out.cell 4 rfl
    have x1_5 := HP.out.cell 5 rfl
    go_wp2_with fail
    refine (msameO_true HL7.out HM7.out hlm.out 0 0 false false false).mono ?_
    rintro e w7 ⟨rfl, kp⟩
    have KV7 := hid (KV.out.trans kp)
    have HP7 := hid (HP.out.kept kp)
    have HO8 := hid (HO7.out.kept kp)
    have HL8 := hid (HL7.out.keep kp (fun _ _ h => h))
    have HM8 := hid (HM7.out.keep kp (fun _ _ h => h))
    clear kp x0_0 x0_1 x0_2 x0_3 x0_4 x0_5 x1_0 x1_1 x1_2 x1_3 x1_4 x1_5
    have x0_0 := HO8.out.cell 0 rfl
    have x0_1 := HO8.out.cell 1 rfl
    have x0_2 := HO8.out.cell 2 rfl
    have x0_3 := HO8.out.cell 3 rfl
    have x0_4 := HO8.out.cell 4 rfl
    have x0_5 := HO8.out.cell 5 rfl
    have x1_0 := HP7.out.cell 0 rfl
    have x1_1 := HP7.out.cell 1 rfl
    have x1_2 := HP7.out.cell 2 rfl
    have x1_3 := HP7.out.cell 3 rfl
    have x1_4 := HP7.out.cell 4 rfl
    have x1_5 := HP7.out.cell 5 rfl
    go_wp2_with fail
    refine (msameO_true HL8.out HM8.out hlm.out now hi sx false false).mono ?_
    rintro e w8 ⟨rfl, kp⟩
    have KV8 := hid (KV7.out.trans kp)
    have HP8 := hid (HP7.out.kept kp)
    clear kp x0_0 x0_1 x0_2 x0_3 x0_4 x0_5 x1_0 x1_1 x1_2 x1_3 x1_4 x1_5
    have x1_4 := HP8.out.cell 4 rfl
    have x1_5 := HP8.out.cell 5 rfl
    go_wp2_with fail
    go_ret
    exact ⟨rfl, (K2.out.trans KV8.out).toBelow⟩
  · rw [HY1.out hq0]
    cases pt
    · cases po
      · exact absurd ⟨rfl, rfl⟩ hq0
      · obtain ⟨oc, hoc⟩ : ∃ r, w6.heap.size = r := ⟨_, rfl⟩
        obtain ⟨V, hV⟩ : ∃ V, w6.alloc (.cells #[.int .i64 now, .slice ma (lampsD q).length mc, .int .u8 0, .bool false, .bool false, .bool true] 43) = V := ⟨_, rfl⟩
        have HP : Hid (Bk V oc 43 [.int .i64 now, .slice ma (lampsD q).length mc, .int .u8 0, .bool false, .bool false, .bool true]) := hid (by rw [← hV]; exact Bk.new hoc _ _)
        have HO7 : Hid (Bk V ob 43 [.int .i64 now, .slice la (lampsD q).length lc, .int .u8 hi, .bool sx, .bool false, .bool false]) := hid (by rw [← hV]; exact HO6.out.alloc _)
        have KV : Hid (Keeps No w2 V) := hid (by rw [← hV]; exact KP6.out.alloc _)
        have HL7 : Hid (SlLa V (.slice la (lampsD q).length lc) (lampsD q)) := hid (by rw [← hV]; exact HL6.out.alloc _)
        have HM7 : Hid (SlLa V (.slice ma (lampsD q).length mc) (lampsD q)) := hid (by rw [← hV]; exact HM6.out.alloc _)
        have HOCH := hid hoc
        have HVH := hid hV
        clear hoc hV
        go_upto_region 6 with fail
        rw [HOCH.out, HVH.out]
        clear HOCH HVH
        have x0_0 := HO7.out.cell 0 rfl
        have x0_1 := HO7.out.cell 1 rfl
        have x0_2 := HO7.out.cell 2 rfl
        have x0_3 := HO7.out.cell 3 rfl
        have x0_4 := HO7.out.cell 4 rfl
        have x0_5 := HO7.out.cell 5 rfl
        have x1_0 := HP.out.cell 0 rfl
        have x1_1 := HP.out.cell 1 rfl
        have x1_2 := HP.out.cell 2 rfl
        have x1_3 := HP.out.cell 3 rfl
        have x1_4 := HP.out.cell 4 rfl
        have x1_5 := HP.out.cell 5 rfl
        go_wp2_with fail
        refine (msameO_true HL7.out HM7.out hlm.out 0 0 false false false).mono ?_
        rintro e w7 ⟨rfl, kp⟩
        have KV7 := hid (KV.out.trans kp)
        have HP7 := hid (HP.out.kept kp)
        have HO8 := hid (HO7.out.kept kp)
        have HL8 := hid (HL7.out.keep kp (fun _ _ h => h))
        have HM8 := hid (HM7.out.keep kp (fun _ _ h => h))
        clear kp x0_0 x0_1 x0_2 x0_3 x0_4 x0_5 x1_0 x1_1 x1_2 x1_3 x1_4 x1_5
        have x0_0 := HO8.out.cell 0 rfl
        have x0_1 := HO8.out.cell 1 rfl
        have x0_2 := HO8.out.cell 2 rfl
        have x0_3 := HO8.out.cell 3 rfl
        have x0_4 := HO8.out.cell 4 rfl
        have x0_5 := HO8.out.cell 5 rfl
        have x1_0 := HP7.out.cell 0 rfl
        have x1_1 := HP7.out.cell 1 rfl
        have x1_2 := HP7.out.cell 2 rfl
        have x1_3 := HP7.out.cell 3 rfl
        have x1_4 := HP7.out.cell 4 rfl
        have x1_5 := HP7.out.cell 5 rfl
        go_wp2_with fail
        go_ret
        exact ⟨rfl, (K2.out.trans KV7.out).toBelow⟩
    · cases po
      · obtain ⟨oc, hoc⟩ : ∃ r, w6.heap.size = r := ⟨_, rfl⟩
        obtain ⟨V, hV⟩ : ∃ V, w6.alloc (.cells #[.int .i64 now, .slice ma (lampsD q).length mc, .int .u8 0, .bool false, .bool true, .bool false] 43) = V := ⟨_, rfl⟩
        have HP : Hid (Bk V oc 43 [.int .i64 now, .slice ma (lampsD q).length mc, .int .u8 0, .bool false, .bool true, .bool false]) := hid (by rw [← hV]; exact Bk.new hoc _ _)
        have HO7 : Hid (Bk V ob 43 [.int .i64 now, .slice la (lampsD q).length lc, .int .u8 hi, .bool sx, .bool false, .bool false]) := hid (by rw [← hV]; exact HO6.out.alloc _)
        have KV : Hid (Keeps No w2 V) := hid (by rw [← hV]; exact KP6.out.alloc _)
        have HL7 : Hid (SlLa V (.slice la (lampsD q).length lc) (lampsD q)) := hid (by rw [← hV]; exact HL6.out.alloc _)
        have HM7 : Hid (SlLa V (.slice ma (lampsD q).length mc) (lampsD q)) := hid (by rw [← hV]; exact HM6.out.alloc _)
        have HOCH := hid hoc
        have HVH := hid hV
        clear hoc hV
        go_upto_region 6 with fail
        rw [HOCH.out, HVH.out]
        clear HOCH HVH
        have x0_0 := HO7.out.cell 0 rfl
        have x0_1 := HO7.out.cell 1 rfl
        have x0_2 := HO7.out.cell 2 rfl
        have x0_3 := HO7.out.cell 3 rfl
        have x0_4 := HO7.out.cell 4 rfl
        have x0_5 := HO7.out.cell 5 rfl
        have x1_0 := HP.out.cell 0 rfl
        have x1_1 := HP.out.cell 1 rfl
        have x1_2 := HP.out.cell 2 rfl
        have x1_3 := HP.out.cell 3 rfl
        have x1_4 := HP.out.cell 4 rfl
        have x1_5 := HP.out.cell 5 rfl
        go_wp2_with fail
        refine (msameO_true HL7.out HM7.out hlm.out 0 0 false false false).mono ?_
        rintro e w7 ⟨rfl, kp⟩
        have KV7 := hid (KV.out.trans kp)
        have HP7 := hid (HP.out.kept kp)
        have HO8 := hid (HO7.out.kept kp)
        have HL8 := hid (HL7.out.keep kp (fun _ _ h => h))
        have HM8 := hid (HM7.out.keep kp (fun _ _ h => h))
        clear kp x0_0 x0_1 x0_2 x0_3 x0_4 x0_5 x1_0 x1_1 x1_2 x1_3 x1_4 x1_5
        have x0_0 := HO8.out.cell 0 rfl
        have x0_1 := HO8.out.cell 1 rfl
        have x0_2 := HO8.out.cell 2 rfl
        have x0_3 := HO8.out.cell 3 rfl
        have x0_4 := HO8.out.cell 4 rfl
        have x0_5 := HO8.out.cell 5 rfl
        have x1_0 := HP7.out.cell 0 rfl
        have x1_1 := HP7.out.cell 1 rfl
        have x1_2 := HP7.out.cell 2 rfl
        have x1_3 := HP7.out.cell 3 rfl
        have x1_4 := HP7.out.cell 4 rfl
        have x1_5 := HP7.out.cell 5 rfl
        go_wp2_with fail
        go_ret
        exact ⟨rfl, (K2.out.trans KV7.out).toBelow⟩
      · obtain ⟨oc, hoc⟩ : ∃ r, w6.heap.size = r := ⟨_, rfl⟩
        obtain ⟨V, hV⟩ : ∃ V, w6.alloc (.cells #[.int .i64 now, .slice ma (lampsD q).length mc, .int .u8 0, .bool false, .bool true, .bool true] 43) = V := ⟨_, rfl⟩
        have HP : Hid (Bk V oc 43 [.int .i64 now, .slice ma (lampsD q).length mc, .int .u8 0, .bool false, .bool true, .bool true]) := hid (by rw [← hV]; exact Bk.new hoc _ _)
        have HO7 : Hid (Bk V ob 43 [.int .i64 now, .slice la (lampsD q).length lc, .int .u8 hi, .bool sx, .bool false, .bool false]) := hid (by rw [← hV]; exact HO6.out.alloc _)
        have KV : Hid (Keeps No w2 V) := hid (by rw [← hV]; exact KP6.out.alloc _)
        have HL7 : Hid (SlLa V (.slice la (lampsD q).length lc) (lampsD q)) := hid (by rw [← hV]; exact HL6.out.alloc _)
        have HM7 : Hid (SlLa V (.slice ma (lampsD q).length mc) (lampsD q)) := hid (by rw [← hV]; exact HM6.out.alloc _)
        have HOCH := hid hoc
        have HVH := hid hV
        clear hoc hV
        go_upto_region 6 with fail
        rw [HOCH.out, HVH.out]
        clear HOCH HVH
        have x0_0 := HO7.out.cell 0 rfl
        have x0_1 := HO7.out.cell 1 rfl
        have x0_2 := HO7.out.cell 2 rfl
        have x0_3 := HO7.out.cell 3 rfl
        have x0_4 := HO7.out.cell 4 rfl
        have x0_5 := HO7.out.cell 5 rfl
        have x1_0 := HP.out.cell 0 rfl
        have x1_1 := HP.out.cell 1 rfl
        have x1_2 := HP.out.cell 2 rfl
        have x1_3 := HP.out.cell 3 rfl
        have x1_4 := HP.out.cell 4 rfl
        have x1_5 := HP.out.cell 5 rfl
        go_wp2_with fail
        refine (msameO_true HL7.out HM7.out hlm.out 0 0 false false false).mono ?_
        rintro e w7 ⟨rfl, kp⟩
        have KV7 := hid (KV.out.trans kp)
        have HP7 := hid (HP.out.kept kp)
        have HO8 := hid (HO7.out.kept kp)
        have HL8 := hid (HL7.out.keep kp (fun _ _ h => h))
        have HM8 := hid (HM7.out.keep kp (fun _ _ h => h))
        clear kp x0_0 x0_1 x0_2 x0_3 x0_4 x0_5 x1_0 x1_1 x1_2 x1_3 x1_4 x1_5
        have x0_0 := HO8.out.cell 0 rfl
        have x0_1 := HO8.out.cell 1 rfl
        have x0_2 := HO8.out.cell 2 rfl
        have x0_3 := HO8.out.cell 3 rfl
        have x0_4 := HO8.out.cell 4 rfl
        have x0_5 := HO8.out.cell 5 rfl
        have x1_0 := HP7.out.cell 0 rfl
        have x1_1 := HP7.out.cell 1 rfl
        have x1_2 := HP7.out.cell 2 rfl
        have x1_3 := HP7.out.cell 3 rfl
        have x1_4 := HP7.out.cell 4 rfl
        have x1_5 := HP7.out.cell 5 rfl
        go_wp2_with fail
        go_ret
        exact ⟨rfl, (K2.out.trans KV7.out).toBelow⟩


theorem own : ownKnob Try.prog.godebug = none := by kernel_rfl
theorem laidOut : laidOutB Try.prog = true := by kernel_rfl
set_option maxRecDepth 100000 in
theorem lifted (os : Os) (started : os.Started) (H : Type) (enc : TypeId × Value → H) :
    ReturnsInHanded {} Try.checked os 10 .any (Rows.panelSilentSpec.pre6 enc Try.prog Try.f10 Rows.panelSilentRow.domain false) (Rows.panelSilentSpec.post enc Try.prog Try.f10 false true false false) := by
  refine returnsInHanded_of_change (C := Try.checked) own started (by kernel_rfl) Try.func10
    (ChangeSpec.witness6 (enc := enc) (C := Try.checked) false ⟨#[], #[.slice none 0 0, .int .u16 0, .int .u16 0, .int .u16 0], []⟩ 8 (by kernel_rfl) (by kernel_rfl) (by kernel_rfl) (by kernel_rfl)) ?_
  intro W base args ds gs before hval0 hW hcnd _
  have hval : ∀ (j : Nat) t v, Try.f10.params[j]? = some t → args[j]? = some v → Value.okWide Try.prog W .any base t v := hval0
  have hW' := hW
  obtain ⟨p, q, hA0, hV, rfl, hfz, hnd⟩ := hW
  have hA : DataW.TrodAll enc Try.prog W 0 (fun _ => true) true Try.f10.params.toList args.toList ds p := hA0
  rw [Try.params10] at hA hval
  obtain ⟨v0, vs0, d0, ds0, p0, q0, hargs, rfl, rfl, h0, r0⟩ := trodAll_cons hA
  obtain ⟨v1, vs1, d1, ds1, p1, q1, rfl, rfl, rfl, h1, r1⟩ := trodAll_cons r0
  obtain ⟨v2, vs2, d2, ds2, p2, q2, rfl, rfl, rfl, h2, r2⟩ := trodAll_cons r1
  obtain ⟨v3, vs3, d3, ds3, p3, q3, rfl, rfl, rfl, h3, r3⟩ := trodAll_cons r2
  obtain ⟨rfl, rfl, rfl⟩ := trodAll_nil r3
  obtain rfl : args = #[v0, v1, v2, v3] := by cases args; simp_all
  obtain ⟨rfl, rfl⟩ := trodVars_none hV
  have k0 := h0
  have lt0 : ∀ x ∈ p0, x.block < W.heap.size := by obtain ⟨m, hm⟩ := k0; exact DataW.trod_lt m _ _ _ hm
  have k1 := h1
  have lt1 : ∀ x ∈ p1, x.block < W.heap.size := by obtain ⟨m, hm⟩ := k1; exact DataW.trod_lt m _ _ _ hm
  have k2 := h2
  have lt2 : ∀ x ∈ p2, x.block < W.heap.size := by obtain ⟨m, hm⟩ := k2; exact DataW.trod_lt m _ _ _ hm
  have k3 := h3
  have lt3 : ∀ x ∈ p3, x.block < W.heap.size := by obtain ⟨m, hm⟩ := k3; exact DataW.trod_lt m _ _ _ hm
  obtain ⟨s0, len0, cap0, rfl⟩ := okWide_slice Try.underlying34 (hval 0 34 v0 rfl rfl)
  obtain ⟨l0, rfl, w0, b0⟩ := argSlice (encE := encOne) (good := goodOne20) (size := 4) (fun _ => rfl) (by decide) Try.underlying34 (by kernel_rfl) (fun n cs x hx => decOne hx) h0
  obtain ⟨a1, rfl, rfl, rfl, w1⟩ := open_int Try.underlying54 (hval 1 54 v1 rfl rfl) h1
  obtain ⟨a2, rfl, rfl, rfl, w2⟩ := open_int Try.underlying54 (hval 2 54 v2 rfl rfl) h2
  obtain ⟨a3, rfl, rfl, rfl, w3⟩ := open_int Try.underlying54 (hval 3 54 v3 rfl rfl) h3
  clear hA0 hval0
  refine (walk W s0 cap0 l0 w0 b0 a1 w1 a2 w2 a3 w3).mono fun e W' ⟨he, bel⟩ => ?_
  subst he
  exact ⟨_, rfl, _, _, _, [], _, [], hW', trodAll_mk1 (shut_bool Try.underlying4 _), (trodAll_cons_mk (Below.trod laidOut (by kernel_rfl) (of_decide_eq_true (by kernel_rfl)) k0 bel lt0) (trodAll_cons_mk (Below.trod laidOut (by kernel_rfl) (of_decide_eq_true (by kernel_rfl)) k1 bel lt1) (trodAll_cons_mk (Below.trod laidOut (by kernel_rfl) (of_decide_eq_true (by kernel_rfl)) k2 bel lt2) (trodAll_cons_mk (Below.trod laidOut (by kernel_rfl) (of_decide_eq_true (by kernel_rfl)) k3 bel lt3) trodAll_mk0)))), rfl, bel.frame _, fun h => by cases h⟩

theorem over : Rows.panelSilentRow.holds Try.pinned (OpenSpec.ofChange Rows.panelSilentSpec) :=
  OpenClaim.holds_of_wide 10 Try.f10 rfl rfl rfl rfl rfl rfl rfl ⟨rfl, rfl, rfl, rfl, rfl⟩ rfl rfl rfl rfl rfl (by kernel_rfl) Try.func10 (by kernel_rfl)
    (of_decide_eq_true (by kernel_rfl)) (by unfold Func.isWrapper; first | (rw [if_pos (by decide +kernel)]; kernel_rfl) | (rw [if_neg (by decide +kernel)]; exact ⟨rfl, rfl⟩))
    (fun os started H enc _ => lifted os started H enc)

theorem proved : Rows.PanelSilentSaid := over
#print axioms proved
end Go.Proofs.Ytnmlaobiljmgaaa.panelSilent
