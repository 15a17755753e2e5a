/- Any bytes, read in any way: what is told, where the first fault is, what is left: as the document says. No conditions. -/
import Derived.Test.YtmmgkcimobkbbaaRows
import Derived.Test.YtmmgkcimobkbbaaArgs
import Derived.Test.YtmmgkcimobkbbaaWordL
import Derived.ProofKit
import Derived.OpenShut
namespace Go.Proofs.Ytmmgkcimobkbbaa.wordReads
open Go.ChangeShapes Go.WideShapes Go.ChangeAt Go.RowKit
open Go.ChangeMaps (open_string shut_string)
set_option linter.unusedVariables false

set_option maxHeartbeats 8000000 in
set_option maxRecDepth 100000 in
theorem walk (w : World) (s0 : Option Addr) (cap0 : Nat) (p : List Int) (hs0 : Sl w 1 (.slice s0 p.length cap0) p.length (p.map (Value.int .u8))) (hb0 : ∀ n ∈ p, (Lit.int .u8 n).wf = true) (s1 : Option Addr) (cap1 : Nat) (l : List Int) (hs1 : Sl w 1 (.slice s1 l.length cap1) l.length (l.map (Value.int .u8))) (hb1 : ∀ n ∈ l, (Lit.int .u8 n).wf = true) :
    Calls Try.prog 4 #[.slice s0 p.length cap0, .slice s1 l.length cap1] w fun e w' => e = .returned (.bool true) ∧ Below w.heap.size w w' := by
  have hb : Bytes p := fun x hx => bounds_u8 (hb0 x hx)
  have HB := hid hb
  have HS0 := hid hs0
  have HS1 := hid hs1
  have HB1 := hid hb1
  clear hb hs0 hs1 hb0 hb1
  by_cases hl : 100 < p.length ∨ 60 < l.length
  · have hd : (decide ((p.length : Int) > 100) = true) ∨ (decide ((p.length : Int) > 100) = false ∧ decide ((l.length : Int) > 60) = true) := by
      by_cases h1 : 100 < p.length
      · exact Or.inl (decide_eq_true (by omega))
      · exact Or.inr ⟨decide_eq_false (by omega), decide_eq_true (by omega)⟩
    clear hl
    rcases hd with hd | ⟨hd, hd2⟩
    all_goals
      go_enter Try.func4, Try.ntmps4
      go_wp2_with fail
      with_reducible refine (lays_true _).mono ?_
      rintro e w1 ⟨rfl, k1⟩
      have K1 := hid k1
      clear k1
      go_wp2_with fail
      with_reducible refine (lays_true _).mono ?_
      rintro e w2 ⟨rfl, k2⟩
      have K2 := hid (K1.out.trans k2)
      clear k2
      go_wp2_with fail
      go_ret
      exact ⟨rfl, K2.out.toBelow⟩
  · have hl0 : p.length ≤ 100 := by omega
    have hl1 : l.length ≤ 60 := by omega
    have hd : decide ((p.length : Int) > 100) = false := decide_eq_false (by omega)
    have hd2 : decide ((l.length : Int) > 60) = false := decide_eq_false (by omega)
    clear hl
    go_enter Try.func4, Try.ntmps4
    go_wp2_with fail
    with_reducible refine (lays_true _).mono ?_
    rintro e w1 ⟨rfl, k1⟩
    have K1 := hid k1
    clear k1
    go_wp2_with fail
    with_reducible refine (rnew_any ?s1 HB.out ?s3).mono ?_
    case s1 => exact HS0.out.keep K1.out (fun _ _ h => h)
    case s3 => omega
    rintro r w2 ⟨rb, F, rfl, hr, hk, hf⟩
    have HK2 := hid (K1.out.trans hk)
    have hz1 := K1.out.size
    have hz2 := hk.size
    have hrbF : F rb := by obtain ⟨lv, h⟩ := hr; exact h.rb
    have hrb := hf rb hrbF
    have hrb0 : w.heap.size ≤ rb := by omega
    have hrb1 : rb < w2.heap.size := hrb.2
    have HFL : Hid (∀ k, F k → w.heap.size ≤ k ∧ k < w2.heap.size) := hid (fun k hk' => by have := hf k hk'; omega)
    have HR := hid hr
    clear hr hk hf K1 hrb
    go_wp2_with fail
    obtain ⟨mb, hmb⟩ : ∃ mb, mb = w2.heap.size := ⟨_, rfl⟩
    obtain ⟨w3, hw3⟩ : ∃ w3, w3 = w2.alloc (.cells #[.slice s0 p.length cap0, .int .i64 0, .int .i64 0] 41) := ⟨_, rfl⟩
    have hk3 : Keeps No w2 w3 := by rw [hw3]; exact (Keeps.refl No _).alloc _
    have hm3 : In w3 mb (fun k => k = mb ∨ k < w.heap.size) p ⟨p, 0, 0⟩ := by
      refine ⟨.slice s0 p.length cap0, by rw [hw3, hmb]; exact heap_alloc_new w2 _, HS0.out.keep (HK2.out.trans hk3) (fun _ _ h => h), fun h0 e => ?_, Or.inl rfl, fun h0 k hk => Or.inr (HS0.out.lt h0 k hk), by omega, HB.out, Nat.zero_le _, rfl⟩
      have := HS0.out.lt h0 mb e; omega
    rw [← hmb, ← hw3]
    have HR3 := hid (HR.out.keep hk3 (fun _ _ h => h))
    have HM3 := hid hm3
    have HK3 := hid (HK2.out.trans hk3)
    have hmb0 : w.heap.size ≤ mb := by omega
    have HSEP : Hid (∀ i, (i = mb ∨ i < w.heap.size) → i ≠ rb) := hid (fun i hi => by omega)
    have HNM : Hid (∀ i, F i → i ≠ mb) := hid (fun i hi => by have := HFL.out i hi; omega)
    clear hw3 hk3 hm3 hmb HR HK2 HFL hz1 hz2
    go_loopw [7] (fun v7 wr => ∃ (k : Nat) (s : RS), k ≤ l.length ∧ v7 = .int .i64 k ∧ Hid (Rd wr rb F s) ∧ Hid (In wr mb (fun k => k = mb ∨ k < w.heap.size) p s) ∧ Hid (Keeps No w wr)) (fun v7 _ => l.length - (intOf v7).toNat)
    case atStart => exact ⟨0, _, Nat.zero_le _, rfl, HR3, HM3, HK3⟩
    case round =>
      obtain ⟨k, s, hk, rfl, HR, HM, HK⟩ := hrel
      clear HR3 HM3 HK3
      by_cases hlt : k < l.length
      · obtain ⟨g, off, rfl, _, x0⟩ := SlB.cellAt (HS1.out.keep HK.out (fun _ _ h => h)) hlt
        have hbd := bounds_u8 (HB1.out l[k] (List.getElem_mem hlt))
        obtain ⟨d, hy⟩ : ∃ d, l[k] = d := ⟨_, rfl⟩
        rw [hy] at x0 hbd
        obtain ⟨hd0, hd1⟩ := hbd
        clear hy
        rcases (show d % 3 = 0 ∨ d % 3 = 1 ∨ d % 3 = 2 by omega) with h3 | h3 | h3
        · have e0 : (d % 3 == 0) = true := by simp [h3]
          clear h3
          go_wp2_with fail
          with_reducible refine (rbyte_any HR.out).mono ?_
          rintro r w1 ⟨rfl, hr, hk⟩
          have HM1 := hid (HM.out.keep hk (fun i hi e => HSEP.out i hi e))
          have HK1 := hid (HK.out.trans' hk (fun _ _ h => h) (fun i hi e => by omega))
          have HR1 := hid hr
          clear hr hk
          go_wp2_with fail
          with_reducible refine (ibyte_any HM1.out).mono ?_
          rintro r w2 ⟨rfl, hm, hk⟩
          have HR2 := hid (HR1.out.keep hk (fun i hi e => HNM.out i hi e))
          have HK2 := hid (HK1.out.trans' hk (fun _ _ h => h) (fun i hi e => by omega))
          have HM2 := hid hm
          clear hm hk HR1 HM1 HK1
          obtain ⟨y, s', hy⟩ : ∃ y s', s.byte = (y, s') := ⟨_, _, rfl⟩
          rw [hy] at HR2 HM2 ⊢
          clear hy
          simp only at HR2 HM2 ⊢
          go_wp2_with fail
          with_reducible refine (rfault_any HR2.out).mono ?_
          rintro r w3 ⟨rfl, hk⟩
          have HR3 := hid (HR2.out.keep hk (fun _ _ h => h))
          have HM3 := hid (HM2.out.keep hk (fun _ _ h => h))
          have HK3 := hid (HK2.out.trans hk)
          clear hk HR2 HM2 HK2
          go_wp2_with fail
          with_reducible refine (ifault_any HM3.out).mono ?_
          rintro r w4 ⟨rfl, hk⟩
          have HR4 := hid (HR3.out.keep hk (fun _ _ h => h))
          have HM4 := hid (HM3.out.keep hk (fun _ _ h => h))
          have HK4 := hid (HK3.out.trans hk)
          clear hk HR3 HM3 HK3
          go_wp2_with fail
          with_reducible refine (rend_any HR4.out).mono ?_
          rintro r w5 ⟨rfl, hk⟩
          have HR5 := hid (HR4.out.keep hk (fun _ _ h => h))
          have HM5 := hid (HM4.out.keep hk (fun _ _ h => h))
          have HK5 := hid (HK4.out.trans hk)
          clear hk HR4 HM4 HK4
          go_wp2_with fail
          with_reducible refine (iend_any HM5.out).mono ?_
          rintro r w6 ⟨rfl, hk⟩
          have HR6 := hid (HR5.out.keep hk (fun _ _ h => h))
          have HM6 := hid (HM5.out.keep hk (fun _ _ h => h))
          have HK6 := hid (HK5.out.trans hk)
          clear hk HR5 HM5 HK5
          go_wp2_with fail
          with_reducible refine (rleft_any HR6.out).mono ?_
          rintro r w' ⟨rfl, rfl⟩
          go_wp2_with fail
          with_reducible refine (ileft_any HM6.out).mono ?_
          rintro r w7 ⟨rfl, hk⟩
          have HR7 := hid (HR6.out.keep hk (fun _ _ h => h))
          have HM7 := hid (HM6.out.keep hk (fun _ _ h => h))
          have HK7 := hid (HK6.out.trans hk)
          clear hk HR6 HM6 HK6
          go_wp2_with fail
          go_roundw
          case rel => exact ⟨k + 1, _, by omega, by go_num, HR7, HM7, HK7⟩
          case measure => simp [intOf]; omega
        · have e0 : (d % 3 == 0) = false := by simp [h3]
          have e1 : (d % 3 == 1) = true := by simp [h3]
          clear h3
          go_wp2_with fail
          with_reducible refine (rflag_any HR.out).mono ?_
          rintro r w1 ⟨rfl, hr, hk⟩
          have HM1 := hid (HM.out.keep hk (fun i hi e => HSEP.out i hi e))
          have HK1 := hid (HK.out.trans' hk (fun _ _ h => h) (fun i hi e => by omega))
          have HR1 := hid hr
          clear hr hk
          go_wp2_with fail
          with_reducible refine (iflag_any HM1.out).mono ?_
          rintro r w2 ⟨rfl, hm, hk⟩
          have HR2 := hid (HR1.out.keep hk (fun i hi e => HNM.out i hi e))
          have HK2 := hid (HK1.out.trans' hk (fun _ _ h => h) (fun i hi e => by omega))
          have HM2 := hid hm
          clear hm hk HR1 HM1 HK1
          obtain ⟨y, s', hy⟩ : ∃ y s', s.flag = (y, s') := ⟨_, _, rfl⟩
          rw [hy] at HR2 HM2 ⊢
          clear hy
          simp only at HR2 HM2 ⊢
          go_wp2_with fail
          with_reducible refine (rfault_any HR2.out).mono ?_
          rintro r w3 ⟨rfl, hk⟩
          have HR3 := hid (HR2.out.keep hk (fun _ _ h => h))
          have HM3 := hid (HM2.out.keep hk (fun _ _ h => h))
          have HK3 := hid (HK2.out.trans hk)
          clear hk HR2 HM2 HK2
          go_wp2_with fail
          with_reducible refine (ifault_any HM3.out).mono ?_
          rintro r w4 ⟨rfl, hk⟩
          have HR4 := hid (HR3.out.keep hk (fun _ _ h => h))
          have HM4 := hid (HM3.out.keep hk (fun _ _ h => h))
          have HK4 := hid (HK3.out.trans hk)
          clear hk HR3 HM3 HK3
          go_wp2_with fail
          with_reducible refine (rend_any HR4.out).mono ?_
          rintro r w5 ⟨rfl, hk⟩
          have HR5 := hid (HR4.out.keep hk (fun _ _ h => h))
          have HM5 := hid (HM4.out.keep hk (fun _ _ h => h))
          have HK5 := hid (HK4.out.trans hk)
          clear hk HR4 HM4 HK4
          go_wp2_with fail
          with_reducible refine (iend_any HM5.out).mono ?_
          rintro r w6 ⟨rfl, hk⟩
          have HR6 := hid (HR5.out.keep hk (fun _ _ h => h))
          have HM6 := hid (HM5.out.keep hk (fun _ _ h => h))
          have HK6 := hid (HK5.out.trans hk)
          clear hk HR5 HM5 HK5
          go_wp2_with fail
          with_reducible refine (rleft_any HR6.out).mono ?_
          rintro r w' ⟨rfl, rfl⟩
          go_wp2_with fail
          with_reducible refine (ileft_any HM6.out).mono ?_
          rintro r w7 ⟨rfl, hk⟩
          have HR7 := hid (HR6.out.keep hk (fun _ _ h => h))
          have HM7 := hid (HM6.out.keep hk (fun _ _ h => h))
          have HK7 := hid (HK6.out.trans hk)
          clear hk HR6 HM6 HK6
          go_wp2_with fail
          go_roundw
          case rel => exact ⟨k + 1, _, by omega, by go_num, HR7, HM7, HK7⟩
          case measure => simp [intOf]; omega
        · have e0 : (d % 3 == 0) = false := by simp [h3]
          have e1 : (d % 3 == 1) = false := by simp [h3]
          clear h3
          go_wp2_with fail
          with_reducible refine (rint_any HR.out).mono ?_
          rintro r w1 ⟨rfl, hr, hk⟩
          have HM1 := hid (HM.out.keep hk (fun i hi e => HSEP.out i hi e))
          have HK1 := hid (HK.out.trans' hk (fun _ _ h => h) (fun i hi e => by omega))
          have HR1 := hid hr
          clear hr hk
          go_wp2_with fail
          with_reducible refine (iint_any HM1.out).mono ?_
          rintro r w2 ⟨rfl, hm, hk⟩
          have HR2 := hid (HR1.out.keep hk (fun i hi e => HNM.out i hi e))
          have HK2 := hid (HK1.out.trans' hk (fun _ _ h => h) (fun i hi e => by omega))
          have HM2 := hid hm
          clear hm hk HR1 HM1 HK1
          obtain ⟨y, s', hy⟩ : ∃ y s', s.int = (y, s') := ⟨_, _, rfl⟩
          rw [hy] at HR2 HM2 ⊢
          clear hy
          simp only at HR2 HM2 ⊢
          go_wp2_with fail
          with_reducible refine (rfault_any HR2.out).mono ?_
          rintro r w3 ⟨rfl, hk⟩
          have HR3 := hid (HR2.out.keep hk (fun _ _ h => h))
          have HM3 := hid (HM2.out.keep hk (fun _ _ h => h))
          have HK3 := hid (HK2.out.trans hk)
          clear hk HR2 HM2 HK2
          go_wp2_with fail
          with_reducible refine (ifault_any HM3.out).mono ?_
          rintro r w4 ⟨rfl, hk⟩
          have HR4 := hid (HR3.out.keep hk (fun _ _ h => h))
          have HM4 := hid (HM3.out.keep hk (fun _ _ h => h))
          have HK4 := hid (HK3.out.trans hk)
          clear hk HR3 HM3 HK3
          go_wp2_with fail
          with_reducible refine (rend_any HR4.out).mono ?_
          rintro r w5 ⟨rfl, hk⟩
          have HR5 := hid (HR4.out.keep hk (fun _ _ h => h))
          have HM5 := hid (HM4.out.keep hk (fun _ _ h => h))
          have HK5 := hid (HK4.out.trans hk)
          clear hk HR4 HM4 HK4
          go_wp2_with fail
          with_reducible refine (iend_any HM5.out).mono ?_
          rintro r w6 ⟨rfl, hk⟩
          have HR6 := hid (HR5.out.keep hk (fun _ _ h => h))
          have HM6 := hid (HM5.out.keep hk (fun _ _ h => h))
          have HK6 := hid (HK5.out.trans hk)
          clear hk HR5 HM5 HK5
          go_wp2_with fail
          with_reducible refine (rleft_any HR6.out).mono ?_
          rintro r w' ⟨rfl, rfl⟩
          go_wp2_with fail
          with_reducible refine (ileft_any HM6.out).mono ?_
          rintro r w7 ⟨rfl, hk⟩
          have HR7 := hid (HR6.out.keep hk (fun _ _ h => h))
          have HM7 := hid (HM6.out.keep hk (fun _ _ h => h))
          have HK7 := hid (HK6.out.trans hk)
          clear hk HR6 HM6 HK6
          go_wp2_with fail
          go_roundw
          case rel => exact ⟨k + 1, _, by omega, by go_num, HR7, HM7, HK7⟩
          case measure => simp [intOf]; omega
      · obtain rfl : k = l.length := by omega
        go_wp2_with fail
        go_ret
        exact ⟨rfl, HK.out.toBelow⟩

theorem own : ownKnob Try.prog.godebug = none := by kernel_rfl
theorem laidOut : laidOutB Try.prog = true := by kernel_rfl
set_option maxRecDepth 100000 in
theorem lifted (os : Os) (started : os.Started) (H : Type) (enc : TypeId × Value → H) :
    ReturnsInHanded {} Try.checked os 4 .any (Rows.wordReadsSpec.pre6 enc Try.prog Try.f4 Rows.wordReadsRow.domain false) (Rows.wordReadsSpec.post enc Try.prog Try.f4 false true false false) := by
  refine returnsInHanded_of_change (C := Try.checked) own started (by kernel_rfl) Try.func4
    (ChangeSpec.witness6 (enc := enc) (C := Try.checked) false ⟨#[], #[.slice none 0 0, .slice none 0 0], []⟩ 8 (by kernel_rfl) (by kernel_rfl) (by kernel_rfl) (by kernel_rfl)) ?_
  intro W base args ds gs before hval0 hW hcnd _
  have hval : ∀ (j : Nat) t v, Try.f4.params[j]? = some t → args[j]? = some v → Value.okWide Try.prog W .any base t v := hval0
  have hW' := hW
  obtain ⟨p, q, hA0, hV, rfl, hfz, hnd⟩ := hW
  have hA : DataW.TrodAll enc Try.prog W 0 (fun _ => true) true Try.f4.params.toList args.toList ds p := hA0
  rw [Try.params4] at hA hval
  obtain ⟨v0, vs0, d0, ds0, p0, q0, hargs, rfl, rfl, h0, r0⟩ := trodAll_cons hA
  obtain ⟨v1, vs1, d1, ds1, p1, q1, rfl, rfl, rfl, h1, r1⟩ := trodAll_cons r0
  obtain ⟨rfl, rfl, rfl⟩ := trodAll_nil r1
  obtain rfl : args = #[v0, v1] := by cases args; simp_all
  obtain ⟨rfl, rfl⟩ := trodVars_none hV
  have k0 := h0
  have lt0 : ∀ x ∈ p0, x.block < W.heap.size := by obtain ⟨m, hm⟩ := k0; exact DataW.trod_lt m _ _ _ hm
  have k1 := h1
  have lt1 : ∀ x ∈ p1, x.block < W.heap.size := by obtain ⟨m, hm⟩ := k1; exact DataW.trod_lt m _ _ _ hm
  obtain ⟨s0, len0, cap0, rfl⟩ := okWide_slice Try.underlying24 (hval 0 24 v0 rfl rfl)
  obtain ⟨l0, rfl, w0, b0⟩ := argInts .u8 Try.underlying24 Try.underlying5 (by kernel_rfl) h0
  obtain ⟨s1, len1, cap1, rfl⟩ := okWide_slice Try.underlying24 (hval 1 24 v1 rfl rfl)
  obtain ⟨l1, rfl, w1, b1⟩ := argInts .u8 Try.underlying24 Try.underlying5 (by kernel_rfl) h1
  clear hA0 hval0
  refine (walk W s0 cap0 l0 w0 b0 s1 cap1 l1 w1 b1).mono fun e W' ⟨he, bel⟩ => ?_
  subst he
  exact ⟨_, rfl, _, _, _, [], _, [], hW', trodAll_mk1 (shut_bool Try.underlying4 _), (trodAll_cons_mk (Below.trod laidOut (by kernel_rfl) (of_decide_eq_true (by kernel_rfl)) k0 bel lt0) (trodAll_cons_mk (Below.trod laidOut (by kernel_rfl) (of_decide_eq_true (by kernel_rfl)) k1 bel lt1) trodAll_mk0)), rfl, bel.frame _, fun h => by cases h⟩

theorem over : Rows.wordReadsRow.holds Try.pinned (OpenSpec.ofChange Rows.wordReadsSpec) :=
  OpenClaim.holds_of_wide 4 Try.f4 rfl rfl rfl rfl rfl rfl rfl ⟨rfl, rfl, rfl, rfl, rfl⟩ rfl rfl rfl rfl rfl (by kernel_rfl) Try.func4 (by kernel_rfl)
    (of_decide_eq_true (by kernel_rfl)) (by unfold Func.isWrapper; first | (rw [if_pos (by decide +kernel)]; kernel_rfl) | (rw [if_neg (by decide +kernel)]; exact ⟨rfl, rfl⟩))
    (fun os started H enc _ => lifted os started H enc)

theorem proved : Rows.WordReadsSaid := over
#print axioms proved
end Go.Proofs.Ytmmgkcimobkbbaa.wordReads
