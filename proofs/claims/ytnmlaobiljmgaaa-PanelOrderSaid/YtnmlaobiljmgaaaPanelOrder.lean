/- In whichever order lights are told, the lamps are the same. No conditions. -/
import Derived.Test.YtnmlaobiljmgaaaRows
import Derived.Test.YtnmlaobiljmgaaaArgs
import Derived.Test.YtnmlaobiljmgaaaPanD
import Derived.ProofKit
import Derived.OpenShut
import Derived.Deep.DeepCutAuto
import Derived.Deep.CutBlock
import Derived.Deep.RegionHeld3
namespace Go.Proofs.Ytnmlaobiljmgaaa.panelOrder
open Go.ChangeShapes Go.WideShapes Go.ChangeAt Go.RowKit
open Go.ChangeMaps (open_string shut_string)
set_option linter.unusedVariables false
set_option linter.unusedSimpArgs false

def idxT (n t k : Nat) : Nat := ((((n : Int) - 1 - k) + t) % n).toNat
theorem idxT_is {n : Nat} (t k : Nat) (hn : 0 < n) : ((idxT n t k : Nat) : Int) = (((n : Int) - 1 - k) + t) % n := by
  unfold idxT; rw [Int.toNat_of_nonneg (Int.emod_nonneg _ (by omega))]
theorem idxT_lt {n : Nat} (t k : Nat) (hn : 0 < n) : idxT n t k < n := by
  have h := idxT_is t k hn
  have := Int.emod_lt_of_pos (((n : Int) - 1 - k) + t) (show (0 : Int) < n by omega)
  omega
theorem idxT_inv {n t k : Nat} (hk : k < n) : idxT n t (idxT n t k) = k := by
  have hn : 0 < n := by omega
  have h := idxT_is t k hn
  have h2 := idxT_is t (idxT n t k) hn
  obtain ⟨a, ha⟩ : ∃ a : Int, ((n : Int) - 1 - k) + t = a := ⟨_, rfl⟩
  rw [ha] at h
  have hd := Int.mul_ediv_add_emod a n
  rw [h, show (n : Int) - 1 - a % n + t = k + n * (a / n) by omega, Int.add_mul_emod_self_left, Int.emod_eq_of_lt (by omega) (by omega)] at h2
  omega
def turnL (t : Nat) (q : List LightD) (i : Nat) : List LightD := (List.range i).map (fun k => q.getD (idxT q.length t k) ⟨0, 0, ⟨false, false, false, 0, 0⟩⟩)
theorem turnL_succ (t : Nat) (q : List LightD) (i : Nat) : turnL t q (i + 1) = turnL t q i ++ [q.getD (idxT q.length t i) ⟨0, 0, ⟨false, false, false, 0, 0⟩⟩] := by
  unfold turnL; rw [List.range_succ, List.map_append]; rfl
theorem turnL_len (t : Nat) (q : List LightD) (i : Nat) : (turnL t q i).length = i := by unfold turnL; simp
theorem turnL_perm (t : Nat) (q : List LightD) : (turnL t q q.length).Perm q := by
  have h1 : ((List.range q.length).map (idxT q.length t)).Perm (List.range q.length) := by
    refine (List.perm_ext_iff_of_nodup ?_ List.nodup_range).2 (fun a => ?_)
    · refine List.Pairwise.map _ (R := fun a b => a ≠ b ∧ a < q.length ∧ b < q.length) (fun a b h e => h.1 ?_) ?_
      · rw [← idxT_inv (t := t) h.2.1, ← idxT_inv (t := t) h.2.2, e]
      · rw [List.pairwise_iff_getElem]
        intro i j hi hj hij
        simp at hi hj ⊢
        omega
    · rw [List.mem_map, List.mem_range]
      constructor
      · rintro ⟨k, hk, rfl⟩
        rw [List.mem_range] at hk
        exact idxT_lt t k (by omega)
      · intro ha
        exact ⟨idxT q.length t a, List.mem_range.2 (idxT_lt t a (by omega)), idxT_inv ha⟩
  have h2 : q = (List.range q.length).map (fun i => q.getD i ⟨0, 0, ⟨false, false, false, 0, 0⟩⟩) := by
    apply List.ext_getElem
    · simp
    · intro i hi hj
      rw [List.getElem_map, List.getElem_range, List.getD_eq_getElem?_getD, List.getElem?_eq_getElem hi]
      rfl
  have h3 := h1.map (fun i => q.getD i ⟨0, 0, ⟨false, false, false, 0, 0⟩⟩)
  rw [List.map_map, ← h2] at h3
  exact h3
theorem highD_perm {f : LightD → Bool} {l m : List LightD} (hp : l.Perm m) (h0 : ∀ x ∈ l, 0 < x.pri) : highD f l = highD f m := by
  refine highD_is h0 (fun x hx hf => highD_ge f m x (hp.mem_iff.1 hx) hf) ?_
  rcases highD_mem f m with h | ⟨x, hx, hf, e⟩
  · exact Or.inl h
  · exact Or.inr ⟨x, hp.mem_iff.2 hx, hf, e⟩

set_option maxHeartbeats 8000000 in
set_option maxRecDepth 100000 in
theorem walk (w : World) (s0 : Option Addr) (cap : Nat) (l : List One20) (hs : Sl w 4 (.slice s0 l.length cap) l.length (l.flatMap encOne)) (hg : ∀ x ∈ l, goodOne20 x) (t : Int) (wt : (Lit.int .u8 t).wf = true) :
    Calls Try.prog 8 #[.slice s0 l.length cap, .int .u8 t] w fun e w' => e = .returned (.bool true) ∧ Below w.heap.size w w' := by
  obtain ⟨t0, t1⟩ := bounds_u8 wt
  obtain ⟨i0, hi, hz0, hz1, hz2⟩ := info_parts info_light
  have HI := hid hi
  clear wt hi
  obtain ⟨N, hN⟩ : ∃ N, l.length = N := ⟨_, rfl⟩
  have HN := hid hN
  have HS := hid hs
  have HG := hid hg
  clear hg hs
  rw [hN]
  by_cases hbig : 20 < N
  · have hd : decide ((N : Int) > 20) = true := decide_eq_true (by omega)
    clear hN
    go_enter Try.func8, Try.ntmps8
    go_wp2_with fail
    refine (dark_true _).mono ?_
    rintro e w1 ⟨rfl, k1⟩
    have K1 := hid (k1)
    clear k1
    go_wp2_with fail
    refine (dark_true _).mono ?_
    rintro e w2 ⟨rfl, k2⟩
    have K2 := hid (K1.out.trans k2)
    clear k2
    go_wp2_with fail
    go_ret
    exact ⟨rfl, K2.out.toBelow⟩
  have hd : decide ((N : Int) > 20) = false := decide_eq_false (by omega)
  have HOF : Hid (∀ w', Keeps No w w' → Calls Try.prog 20 #[.slice s0 N cap, .bool false] w' fun e w'' => ∃ va vb, e = .returned (.tuple #[va, vb]) ∧ SlPi w'' va (ofL false l) ∧ SlLi w'' vb (ofL false l) ∧ (∀ k, va.ownBlock = some k → w'.heap.size ≤ k) ∧ (∀ k, vb.ownBlock = some k → w'.heap.size ≤ k) ∧ Keeps No w' w'') := hid (fun w' k => by
    have hlm : l.length ≤ 1000000 := by rw [HN.out]; omega
    have h := of_false (HS.out.keep k (fun _ _ h => h)) HG.out hlm
    rw [HN.out] at h
    exact h)
  have HLL := hid (ofL_len false l)
  have HPR := hid (ofL_pri false HG.out)
  have HUN := hid (ofL_unlike false l)
  obtain ⟨q, hq⟩ : ∃ q, ofL false l = q := ⟨_, rfl⟩
  rw [hq] at HOF HLL HPR HUN
  have HQ := hid hq
  clear hq hN
  have HB1000 : Hid (q.length ≤ 1000) := hid (by have := HLL.out; omega)
  have HPB : Hid (∀ x ∈ q, 0 ≤ x.pri ∧ x.pri ≤ 255) := hid (fun x hx => by have := HPR.out x hx; omega)
  obtain ⟨tn, htn⟩ : ∃ tn : Nat, t = tn := ⟨t.toNat, by omega⟩
  subst htn
  go_enter Try.func8, Try.ntmps8
  go_wp2_with fail
  refine (dark_true _).mono ?_
  rintro e w1 ⟨rfl, k1⟩
  have K1 := hid (k1)
  clear k1
  go_wp2_with fail
  refine (HOF.out _ K1.out).mono ?_
  rintro e w2 ⟨va, vb, rfl, hva, hvb, hna, hnb, k2⟩
  obtain ⟨aa, ac, rfl⟩ := hva.any
  obtain ⟨ba, bc, rfl⟩ := hvb.any
  obtain ⟨n, hn⟩ : ∃ n, q.length = n := ⟨_, rfl⟩
  have HQN := hid hn
  have HVA : Hid (SlPi w2 (.slice aa n ac) q) := hid (by rw [← hn]; exact hva)
  have HVB : Hid (SlLi w2 (.slice ba n bc) q) := hid (by rw [← hn]; exact hvb)
  have HNA : Hid (∀ k, (Value.slice aa n ac).ownBlock = some k → w.heap.size ≤ k) := hid (fun k hk => by rw [← hn] at hk; exact Nat.le_trans K1.out.size (hna k hk))
  have KL := hid k2
  have K2 := hid (K1.out.trans k2)
  rw [hn]
  clear hva hvb hna hnb k2 hn
  have hn20 : n ≤ 20 := by have h1 := HLL.out; have h2 := HQN.out; omega
  go_wp2_with fail
  go_loopw [7, 8] (fun v7 v8 wr => ∃ (i : Nat) (ma : Option Addr) (mc : Nat), i ≤ n ∧ v8 = .int .i64 i ∧ v7 = .slice ma i mc ∧ Hid (RowL 51 w2 wr (.slice ma i mc) i (turnL tn q i)) ∧ Hid (Keeps No w2 wr)) (fun _ v8 _ => n - (intOf v8).toNat)
  case atStart => exact ⟨0, none, 0, Nat.zero_le _, rfl, rfl, hid ⟨World.ownsRow_nil _ _ _ _, fun k hk => by simp [Value.ownBlock] at hk⟩, hid (Keeps.refl _ _)⟩
  case round =>
    obtain ⟨i, ma, mc, hi, rfl, rfl, HR, HK⟩ := hrel
    by_cases hlt : i < n
    · have hjn := idxT_lt tn i (show 0 < n by omega)
      have hji := idxT_is tn i (show 0 < n by omega)
      obtain ⟨j, hj⟩ : ∃ j, idxT n tn i = j := ⟨_, rfl⟩
      rw [hj] at hjn hji
      have hjl : j < q.length := by rw [HQN.out]; exact hjn
      obtain ⟨x, hx⟩ : ∃ x, q[j] = x := ⟨_, rfl⟩
      have HT : Hid (turnL tn q (i + 1) = turnL tn q i ++ [x]) := hid (by rw [turnL_succ, HQN.out, hj, List.getD_eq_getElem?_getD, List.getElem?_eq_getElem hjl, hx]; rfl)
      obtain ⟨g, off, ha, hg, c0, c1, c2, c3, c4, c5, c6⟩ := SlPi.at (HVA.out.keep HK.out (fun _ _ h => h)) HQN.out hjn hx
      obtain ⟨cond, pri, ⟨on, lit, ack, since, stage⟩⟩ := x
      simp only at c0 c1 c2 c3 c4 c5 c6
      subst ha
      have hm : ((n : Int) - 1 - i + tn).tmod n = j := by rw [Int.tmod_eq_emod_of_nonneg (by omega), ← hji]
      have hm2 : ((n : Int) - 1 - i + tn) % n = j := hji.symm
      have hnz : ¬ (n : Int) = 0 := by omega
      have hnz2 : ((n : Int) == 0) = false := by simpa using hnz
      have hnz3 : ¬ n = 0 := by omega
      have hwj : IntKind.i64.wrap (j : Int) = j := by simp only [IntKind.wrap_i64]; omega
      have hwt : IntKind.i64.wrap (tn : Int) = tn := by simp only [IntKind.wrap_i64]; omega
      clear hx hjl hj hji
      go_wp2_with (at_builtin; refine wpl_append rfl _ _ 35 rfl 51 i0 (.agg #[.int .i64 0, .int .u8 0, .bool false, .bool false, .bool false, .int .i64 0, .int .i64 0]) 7 40 Try.underlying35 HI.out hz0 hz1 hz2 rfl (by decide) _ _ _ _ _ _ rfl rfl ((HR.out.keep (show Keeps No _ _ from by repeat' (first | with_reducible exact Keeps.refl _ _ | with_reducible assumption | with_reducible refine Keeps.drewN ?_ _ | with_reducible refine Keeps.drew ?_ | with_reducible refine Keeps.alloc ?_ _)) (fun _ _ h => h)).own) (Sl.new _ _ _ 7 1 rfl (by decide)) ?c1 ?c2 ?c3 ?_)
      case c1 => exact ⟨rfl, rfl, rfl, rfl, rfl, rfl, rfl⟩
      case c2 => unfold maxLen; omega
      case c3 => omega
      intro u2 w4 hown2 hk2 hbl2
      obtain ⟨na, nc, rfl⟩ := own_any hown2
      have hb3 : ∀ k, (Value.slice na (i + 1) nc).ownBlock = some k → (Value.slice ma i mc).ownBlock = some k ∨ wr.heap.size ≤ k := fun k hk => by
        rcases hbl2 k hk with h | h
        · exact Or.inl h
        · exact Or.inr (by first | omega | (simp at h; omega))
      have K4 := hid (Keeps.trans (S := Bl (.slice ma i mc)) ((show Keeps No wr _ from by repeat' (first | with_reducible exact Keeps.refl _ _ | with_reducible assumption | with_reducible refine Keeps.drewN ?_ _ | with_reducible refine Keeps.drew ?_ | with_reducible refine Keeps.alloc ?_ _)).no) hk2)
      have HR4 := hid (RowL.app (w4 := w4) (v' := .slice na (i + 1) nc) (W := wr) ⟨cond, pri, ⟨on, lit, ack, since, stage⟩⟩ HR.out HK.out.size (by simpa [encLi] using hown2) hb3)
      have KALL : Hid (Keeps No w2 w4) := hid (HK.out.trans' K4.out (fun _ _ h => h) (fun k hk h => by have := HR.out.new k h; omega))
      clear hown2 hk2 hbl2 hb3
      go_wp2_with fail
      go_roundw
      case rel => exact ⟨i + 1, na, nc, by omega, by go_num, rfl, hid (by rw [HT.out]; exact HR4.out), KALL⟩
      case measure => simp [intOf]; omega
    · obtain rfl : i = n := by omega
      have HPM : Hid ((turnL tn q i).Perm q) := hid (by rw [← HQN.out]; exact turnL_perm tn q)
      have HUM : Hid (Unlike (turnL tn q i)) := hid ((HPM.out.pairwise_iff (fun {a b} h e => h e.symm)).2 HUN.out)
      have HLD : Hid (lampsD (turnL tn q i) = lampsD q) := hid (lampsD_turn HUM.out HPM.out)
      have HHD : Hid (highD loudL (turnL tn q i) = highD loudL q) := hid (highD_perm HPM.out (fun x hx => by have := HPR.out x (HPM.out.mem_iff.1 hx); omega))
      have HVM : Hid (SlPi wr (.slice ma i mc) (turnL tn q i)) := hid (by unfold SlPi; rw [turnL_len]; exact HR.out.sl)
      have HMB : Hid ((turnL tn q i).length ≤ 1000) := hid (by rw [turnL_len]; omega)
      have HMP : Hid (∀ x ∈ turnL tn q i, 0 ≤ x.pri ∧ x.pri ≤ 255) := hid (fun x hx => HPB.out x (HPM.out.mem_iff.1 hx))
      have HVA2 := hid (HVA.out.keep HK.out (fun _ _ h => h))
      go_wp2_with fail
      refine (plamps_any (l := q) HVA2.out HB1000.out HUN.out).mono ?_
      rintro e w3 ⟨lv, rfl, hlv, kp, _⟩
      obtain ⟨la, lc, rfl⟩ := hlv.any
      have HLV := hid hlv
      have KP := hid kp
      clear hlv kp
      go_wp2_with fail
      refine (plamps_any (l := turnL tn q i) (HVM.out.keep KP.out (fun _ _ h => h)) HMB.out HUM.out).mono ?_
      rintro e w4 ⟨mv, rfl, hmv, kp, _⟩
      rw [HLD.out] at hmv
      obtain ⟨mla, mlc, rfl⟩ := hmv.any
      have HMV := hid hmv
      have HLV2 := hid (HLV.out.keep kp (fun _ _ h => h))
      have KP2 := hid (KP.out.trans kp)
      have hlm : Hid ((lampsD q).length ≤ 1000) := hid (by have h1 := lampsD_len q; have h2 := HB1000.out; omega)
      clear hmv kp
      go_wp2_with fail
      refine (msameO_true HLV2.out HMV.out hlm.out 0 0 false false false).mono ?_
      rintro e w5 ⟨rfl, kp⟩
      have KP3 := hid (KP2.out.trans kp)
      clear kp
      go_wp2_with fail
      refine (ploudest_any (l := q) (HVA2.out.keep KP3.out (fun _ _ h => h)) HB1000.out HPB.out).mono ?_
      rintro e w6 ⟨rfl, kp⟩
      have KP4 := hid (KP3.out.trans kp)
      clear kp
      go_wp2_with fail
      refine (ploudest_any (l := turnL tn q i) (HVM.out.keep KP4.out (fun _ _ h => h)) HMB.out HMP.out).mono ?_
      rintro e w7 ⟨rfl, kp⟩
      have KP5 := hid (KP4.out.trans kp)
      clear kp
      rw [HHD.out]
      obtain ⟨ho, hho⟩ : ∃ r, highD loudL q = r := ⟨_, rfl⟩
      rw [hho]
      have e2 : (ho == ho) = true := by simp
      clear hho
      go_wp2_with fail
      go_ret
      exact ⟨rfl, ((K2.out.trans HK.out).trans KP5.out).toBelow⟩

theorem own : ownKnob Try.prog.godebug = none := by kernel_rfl
theorem laidOut : laidOutB Try.prog = true := by kernel_rfl
set_option maxRecDepth 100000 in
theorem lifted (os : Os) (started : os.Started) (H : Type) (enc : TypeId × Value → H) :
    ReturnsInHanded {} Try.checked os 8 .any (Rows.panelOrderSpec.pre6 enc Try.prog Try.f8 Rows.panelOrderRow.domain false) (Rows.panelOrderSpec.post enc Try.prog Try.f8 false true false false) := by
  refine returnsInHanded_of_change (C := Try.checked) own started (by kernel_rfl) Try.func8
    (ChangeSpec.witness6 (enc := enc) (C := Try.checked) false ⟨#[], #[.slice none 0 0, .int .u8 0], []⟩ 8 (by kernel_rfl) (by kernel_rfl) (by kernel_rfl) (by kernel_rfl)) ?_
  intro W base args ds gs before hval0 hW hcnd _
  have hval : ∀ (j : Nat) t v, Try.f8.params[j]? = some t → args[j]? = some v → Value.okWide Try.prog W .any base t v := hval0
  have hW' := hW
  obtain ⟨p, q, hA0, hV, rfl, hfz, hnd⟩ := hW
  have hA : DataW.TrodAll enc Try.prog W 0 (fun _ => true) true Try.f8.params.toList args.toList ds p := hA0
  rw [Try.params8] at hA hval
  obtain ⟨v0, vs0, d0, ds0, p0, q0, hargs, rfl, rfl, h0, r0⟩ := trodAll_cons hA
  obtain ⟨v1, vs1, d1, ds1, p1, q1, rfl, rfl, rfl, h1, r1⟩ := trodAll_cons r0
  obtain ⟨rfl, rfl, rfl⟩ := trodAll_nil r1
  obtain rfl : args = #[v0, v1] := by cases args; simp_all
  obtain ⟨rfl, rfl⟩ := trodVars_none hV
  have k0 := h0
  have lt0 : ∀ x ∈ p0, x.block < W.heap.size := by obtain ⟨m, hm⟩ := k0; exact DataW.trod_lt m _ _ _ hm
  have k1 := h1
  have lt1 : ∀ x ∈ p1, x.block < W.heap.size := by obtain ⟨m, hm⟩ := k1; exact DataW.trod_lt m _ _ _ hm
  obtain ⟨s0, len0, cap0, rfl⟩ := okWide_slice Try.underlying34 (hval 0 34 v0 rfl rfl)
  obtain ⟨l0, rfl, w0, b0⟩ := argSlice (encE := encOne) (good := goodOne20) (size := 4) (fun _ => rfl) (by decide) Try.underlying34 (by kernel_rfl) (fun n cs x hx => decOne hx) h0
  obtain ⟨a1, rfl, rfl, rfl, w1⟩ := open_int Try.underlying5 (hval 1 5 v1 rfl rfl) h1
  clear hA0 hval0
  refine (walk W s0 cap0 l0 w0 b0 a1 w1).mono fun e W' ⟨he, bel⟩ => ?_
  subst he
  exact ⟨_, rfl, _, _, _, [], _, [], hW', trodAll_mk1 (shut_bool Try.underlying4 _), (trodAll_cons_mk (Below.trod laidOut (by kernel_rfl) (of_decide_eq_true (by kernel_rfl)) k0 bel lt0) (trodAll_cons_mk (Below.trod laidOut (by kernel_rfl) (of_decide_eq_true (by kernel_rfl)) k1 bel lt1) trodAll_mk0)), rfl, bel.frame _, fun h => by cases h⟩

theorem over : Rows.panelOrderRow.holds Try.pinned (OpenSpec.ofChange Rows.panelOrderSpec) :=
  OpenClaim.holds_of_wide 8 Try.f8 rfl rfl rfl rfl rfl rfl rfl ⟨rfl, rfl, rfl, rfl, rfl⟩ rfl rfl rfl rfl rfl (by kernel_rfl) Try.func8 (by kernel_rfl)
    (of_decide_eq_true (by kernel_rfl)) (by unfold Func.isWrapper; first | (rw [if_pos (by decide +kernel)]; kernel_rfl) | (rw [if_neg (by decide +kernel)]; exact ⟨rfl, rfl⟩))
    (fun os started H enc _ => lifted os started H enc)

theorem proved : Rows.PanelOrderSaid := over
#print axioms proved
end Go.Proofs.Ytnmlaobiljmgaaa.panelOrder
