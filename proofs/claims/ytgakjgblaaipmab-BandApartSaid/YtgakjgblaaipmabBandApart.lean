/- The bands of a queue do not take one another their room, and there is no band of a priority that there is not. No conditions. -/
import Derived.Test.YtgakjgblaaipmabRows
import Derived.Test.YtgakjgblaaipmabArgs2
import Derived.Test.YtgakjgblaaipmabBandPlain2
import Derived.ProofKit
import Derived.OpenShut
namespace Go.Proofs.Ytgakjgblaaipmab.bandApart
open Go.ChangeShapes Go.WideShapes Go.ChangeAt Go.RowKit
open Go.ChangeMaps (open_string shut_string)
set_option linter.unusedVariables false

/-- Three rooms. -/
def RR (a b c : Nat) (p : Nat) : Nat := if p = 1 then a else if p = 2 then b else c

set_option maxHeartbeats 8000000 in
set_option maxRecDepth 100000 in
theorem walk (w : World) (x y z : Int) (wx : (Lit.int .u8 x).wf = true) (wy : (Lit.int .u8 y).wf = true) (wz : (Lit.int .u8 z).wf = true) (p : Int) (wp : (Lit.int .u8 p).wf = true) :
    Calls Try.prog 6 #[.agg #[.int .u8 x, .int .u8 y, .int .u8 z], .int .u8 p] w fun e w' => e = .returned (.bool true) ∧ Below w.heap.size w w' := by
  obtain ⟨hx0, hx1⟩ := bounds_u8 wx
  obtain ⟨hy0, hy1⟩ := bounds_u8 wy
  obtain ⟨hz0, hz1⟩ := bounds_u8 wz
  obtain ⟨hp0, hp1⟩ := bounds_u8 wp
  clear wx wy wz wp
  obtain ⟨a, ha⟩ : ∃ a : Nat, x % 9 = (a : Int) := ⟨(x % 9).toNat, by omega⟩
  obtain ⟨b, hb⟩ : ∃ b : Nat, y % 9 = (b : Int) := ⟨(y % 9).toNat, by omega⟩
  obtain ⟨c, hc⟩ : ∃ c : Nat, z % 9 = (c : Int) := ⟨(z % 9).toNat, by omega⟩
  have ha9 : a < 9 := by omega
  have hb9 : b < 9 := by omega
  have hc9 : c < 9 := by omega
  obtain ⟨w0, hw0⟩ : ∃ w0, w0 = w.alloc (.cells #[.int .u8 x, .int .u8 y, .int .u8 z] 51) := ⟨_, rfl⟩
  have hk0 : Keeps No w w0 := by rw [hw0]; exact (Keeps.refl No _).alloc _
  have hb0 : w0.heap[w.heap.size]? = some (.cells #[.int .u8 x, .int .u8 y, .int .u8 z] 51 (0, 0)) := by rw [hw0]; exact heap_alloc_new w _
  have HW0 := hid hw0
  have HB0 := hid hb0
  have HK0 := hid hk0
  clear hw0 hb0 hk0
  go_enter Try.func6, Try.ntmps6
  go_wp2_with fail
  rw [← HW0.out]
  refine (first_true _).mono ?_
  rintro e w1 ⟨rfl, k1⟩
  have hb1 := k1.heap (fun h => h) HB0.out
  have b0 := cell_at (i := 0) hb1 rfl
  have b1 := cell_at (i := 1) hb1 rfl
  have b2 := cell_at (i := 2) hb1 rfl
  have K1 := hid (HK0.out.trans k1)
  clear k1 hb1
  go_wp2_with fail
  go_quiet (fail)
  clear ha hb hc b0 b1 b2
  go_wp2_with fail
  refine (qnew_any _ _ _ _).mono ?_
  rintro e w2 ⟨qb, rfl, F2, h2, f2, k2⟩
  have hR : (fun i : Nat => roomOf (if i = 1 then (a : Int) else if i = 2 then (b : Int) else (c : Int))) = RR a b c := by
    funext i
    unfold RR roomOf
    split
    · rw [if_neg (by omega), if_neg (by omega)]; omega
    · split
      · rw [if_neg (by omega), if_neg (by omega)]; omega
      · rw [if_neg (by omega), if_neg (by omega)]; omega
  rw [hR] at h2
  have H2 := hid h2
  have k12 : Keeps No w w2 := (K1.out.drewN _).trans k2
  have O2 := hid (And.intro (fun i hi => Nat.le_trans K1.out.size (f2 i hi)) k12)
  clear h2 f2 k2 hR k12
  go_wp2_with fail
  go_loopw [9] (fun v9 wr => ∃ (i : Nat) (F : Nat → Prop) (L : Nat → List Ev), i ≤ 30 ∧ v9 = .int .i64 i ∧ Hid (QueueE wr qb F (RR a b c) L) ∧ Hid ((∀ i, F i → w.heap.size ≤ i) ∧ Keeps No w wr) ∧
    (∀ p, 1 ≤ p → p ≤ 3 → (L p).length = min (RR a b c p) ((i + 3 - p) / 3)) ∧ (∀ p, 1 ≤ p → p ≤ 3 → ∀ y ∈ L p, y.rule < (i : Int))) (fun v9 _ => 30 - (intOf v9).toNat)
  case atStart => exact ⟨0, _, _, by omega, rfl, H2, O2, fun p _ _ => by simp; omega, fun p _ _ y hy => by simp at hy⟩
  case round =>
    obtain ⟨i, F', L', hi, rfl, HQ, HO, hlen, hrule⟩ := hrel
    by_cases hlt : i < 30
    · rcases (show i % 3 = 0 ∨ i % 3 = 1 ∨ i % 3 = 2 by omega) with him | him | him
      · have e3 : (i : Int) % 3 = 0 := by omega
        have he := hlen 1 (by omega) (by omega)
        have hcn := QueueE.cnt HQ.out (i := 1) (by omega) (by omega)
        have HR := hid hrule
        have HL := hid hlen
        clear hrule hlen him
        by_cases hroom : (L' 1).length < RR a b c 1
        · go_wp2_with fail
          refine (qput_new HQ.out (i := 1) rfl (by omega) (by omega) ⟨i, false, 0⟩ (fun y hy => by have := HR.out 1 (by omega) (by omega) y hy; simp only; omega) hroom).mono ?_
          rintro e w5 ⟨rfl, F5, h5, u5⟩
          have H5 := hid h5
          have O5 := hid (newUpd HO.out.1 HO.out.2 u5)
          clear h5 u5
          go_wp2_with fail
          go_roundw
          case rel =>
            refine ⟨i + 1, F5, _, by omega, by go_num, H5, O5, fun p h1 h3 => ?_, fun p h1 h3 y hy => ?_⟩
            · by_cases e : p = 1
              · subst e; rw [upd_at, List.length_append, he]; simp only [List.length_singleton]; omega
              · rw [upd_ne _ _ e, HL.out p h1 h3]; congr 1; omega
            · by_cases e : p = 1
              · subst e
                rw [upd_at, List.mem_append] at hy
                rcases hy with hy | hy
                · have := HR.out _ h1 h3 y hy; omega
                · simp at hy; subst hy; simp; omega
              · rw [upd_ne _ _ e] at hy; have := HR.out p h1 h3 y hy; omega
          case measure => simp [intOf]; omega
        · go_wp2_with fail
          refine (qput_full HQ.out (i := 1) rfl (by omega) (by omega) ⟨i, false, 0⟩ (fun y hy => by have := HR.out 1 (by omega) (by omega) y hy; simp only; omega) (by omega)).mono ?_
          rintro e w5 ⟨rfl, k5⟩
          have K5 := hid k5
          clear k5
          go_wp2_with fail
          go_roundw
          case rel =>
            refine ⟨i + 1, F', L', by omega, by go_num, hid (HQ.out.keep K5.out (fun _ _ h => h)), hid ⟨HO.out.1, HO.out.2.trans K5.out⟩, fun p h1 h3 => ?_, fun p h1 h3 y hy => ?_⟩
            · by_cases e : p = 1
              · subst e; rw [he]; omega
              · rw [HL.out p h1 h3]; congr 1; omega
            · have := HR.out p h1 h3 y hy; omega
          case measure => simp [intOf]; omega
      · have e3 : (i : Int) % 3 = 1 := by omega
        have he := hlen 2 (by omega) (by omega)
        have hcn := QueueE.cnt HQ.out (i := 2) (by omega) (by omega)
        have HR := hid hrule
        have HL := hid hlen
        clear hrule hlen him
        by_cases hroom : (L' 2).length < RR a b c 2
        · go_wp2_with fail
          refine (qput_new HQ.out (i := 2) rfl (by omega) (by omega) ⟨i, false, 0⟩ (fun y hy => by have := HR.out 2 (by omega) (by omega) y hy; simp only; omega) hroom).mono ?_
          rintro e w5 ⟨rfl, F5, h5, u5⟩
          have H5 := hid h5
          have O5 := hid (newUpd HO.out.1 HO.out.2 u5)
          clear h5 u5
          go_wp2_with fail
          go_roundw
          case rel =>
            refine ⟨i + 1, F5, _, by omega, by go_num, H5, O5, fun p h1 h3 => ?_, fun p h1 h3 y hy => ?_⟩
            · by_cases e : p = 2
              · subst e; rw [upd_at, List.length_append, he]; simp only [List.length_singleton]; omega
              · rw [upd_ne _ _ e, HL.out p h1 h3]; congr 1; omega
            · by_cases e : p = 2
              · subst e
                rw [upd_at, List.mem_append] at hy
                rcases hy with hy | hy
                · have := HR.out _ h1 h3 y hy; omega
                · simp at hy; subst hy; simp; omega
              · rw [upd_ne _ _ e] at hy; have := HR.out p h1 h3 y hy; omega
          case measure => simp [intOf]; omega
        · go_wp2_with fail
          refine (qput_full HQ.out (i := 2) rfl (by omega) (by omega) ⟨i, false, 0⟩ (fun y hy => by have := HR.out 2 (by omega) (by omega) y hy; simp only; omega) (by omega)).mono ?_
          rintro e w5 ⟨rfl, k5⟩
          have K5 := hid k5
          clear k5
          go_wp2_with fail
          go_roundw
          case rel =>
            refine ⟨i + 1, F', L', by omega, by go_num, hid (HQ.out.keep K5.out (fun _ _ h => h)), hid ⟨HO.out.1, HO.out.2.trans K5.out⟩, fun p h1 h3 => ?_, fun p h1 h3 y hy => ?_⟩
            · by_cases e : p = 2
              · subst e; rw [he]; omega
              · rw [HL.out p h1 h3]; congr 1; omega
            · have := HR.out p h1 h3 y hy; omega
          case measure => simp [intOf]; omega
      · have e3 : (i : Int) % 3 = 2 := by omega
        have he := hlen 3 (by omega) (by omega)
        have hcn := QueueE.cnt HQ.out (i := 3) (by omega) (by omega)
        have HR := hid hrule
        have HL := hid hlen
        clear hrule hlen him
        by_cases hroom : (L' 3).length < RR a b c 3
        · go_wp2_with fail
          refine (qput_new HQ.out (i := 3) rfl (by omega) (by omega) ⟨i, false, 0⟩ (fun y hy => by have := HR.out 3 (by omega) (by omega) y hy; simp only; omega) hroom).mono ?_
          rintro e w5 ⟨rfl, F5, h5, u5⟩
          have H5 := hid h5
          have O5 := hid (newUpd HO.out.1 HO.out.2 u5)
          clear h5 u5
          go_wp2_with fail
          go_roundw
          case rel =>
            refine ⟨i + 1, F5, _, by omega, by go_num, H5, O5, fun p h1 h3 => ?_, fun p h1 h3 y hy => ?_⟩
            · by_cases e : p = 3
              · subst e; rw [upd_at, List.length_append, he]; simp only [List.length_singleton]; omega
              · rw [upd_ne _ _ e, HL.out p h1 h3]; congr 1; omega
            · by_cases e : p = 3
              · subst e
                rw [upd_at, List.mem_append] at hy
                rcases hy with hy | hy
                · have := HR.out _ h1 h3 y hy; omega
                · simp at hy; subst hy; simp; omega
              · rw [upd_ne _ _ e] at hy; have := HR.out p h1 h3 y hy; omega
          case measure => simp [intOf]; omega
        · go_wp2_with fail
          refine (qput_full HQ.out (i := 3) rfl (by omega) (by omega) ⟨i, false, 0⟩ (fun y hy => by have := HR.out 3 (by omega) (by omega) y hy; simp only; omega) (by omega)).mono ?_
          rintro e w5 ⟨rfl, k5⟩
          have K5 := hid k5
          clear k5
          go_wp2_with fail
          go_roundw
          case rel =>
            refine ⟨i + 1, F', L', by omega, by go_num, hid (HQ.out.keep K5.out (fun _ _ h => h)), hid ⟨HO.out.1, HO.out.2.trans K5.out⟩, fun p h1 h3 => ?_, fun p h1 h3 y hy => ?_⟩
            · by_cases e : p = 3
              · subst e; rw [he]; omega
              · rw [HL.out p h1 h3]; congr 1; omega
            · have := HR.out p h1 h3 y hy; omega
          case measure => simp [intOf]; omega
    · obtain rfl : i = 30 := by omega
      have l1 : (L' 1).length = a := by rw [hlen 1 (by omega) (by omega)]; simp [RR]; omega
      have l2 : (L' 2).length = b := by rw [hlen 2 (by omega) (by omega)]; simp [RR]; omega
      have l3 : (L' 3).length = c := by rw [hlen 3 (by omega) (by omega)]; simp [RR]; omega
      have L1 := hid l1
      have L2 := hid l2
      have L3 := hid l3
      clear hlen hrule l1 l2 l3 H2 O2
      go_wp2_with fail
      refine (qall_ok HQ.out (p := 1) (i := 1) rfl (by omega) (by omega)).mono ?_
      rintro e w3 ⟨v3, rfl, ho3, k3, _⟩
      obtain ⟨a3, c3, rfl⟩ := own_any ho3
      rw [L1.out]
      have H3 := hid (HQ.out.keep k3 (fun _ _ h => h))
      have K3 := hid (HO.out.2.trans k3)
      clear ho3 k3 HQ
      go_wp2_with fail
      refine (qall_ok H3.out (p := 2) (i := 2) rfl (by omega) (by omega)).mono ?_
      rintro e w4 ⟨v4, rfl, ho4, k4, _⟩
      obtain ⟨a4, c4, rfl⟩ := own_any ho4
      rw [L2.out]
      have H4 := hid (H3.out.keep k4 (fun _ _ h => h))
      have K4 := hid (K3.out.trans k4)
      clear ho4 k4 H3
      go_wp2_with fail
      refine (qall_ok H4.out (p := 3) (i := 3) rfl (by omega) (by omega)).mono ?_
      rintro e w5 ⟨v5, rfl, ho5, k5, _⟩
      obtain ⟨a5, c5, rfl⟩ := own_any ho5
      rw [L3.out]
      have H5 := hid (H4.out.keep k5 (fun _ _ h => h))
      have K5 := hid (K4.out.trans k5)
      clear ho5 k5 H4
      go_wp2_with fail
      refine (qlen_any H5.out).mono ?_
      rintro e w6 ⟨rfl, rfl⟩
      rw [L1.out, L2.out, L3.out, show ((a + b + c : Nat) : Int) = (a : Int) + (b : Int) + (c : Int) by omega]
      by_cases hp : 1 ≤ p
      · by_cases hp3 : p ≤ 3
        · have d1 : decide (1 ≤ p) = true := by simpa using hp
          have d2 : decide (p ≤ 3) = true := by simpa using hp3
          go_wp2_with fail
          go_ret
          exact ⟨rfl, K5.out.toBelow⟩
        · have d1 : decide (1 ≤ p) = true := by simpa using hp
          have d2 : decide (p ≤ 3) = false := by simpa using hp3
          go_wp2_with fail
          refine (qall_none qb p _ (by omega)).mono ?_
          rintro e w6 ⟨a6, c6, rfl, k6⟩
          have K6 := hid (K5.out.trans k6)
          clear k6
          go_wp2_with fail
          refine (qput_arg (some ⟨qb, 0, none⟩) p Ev.zero _ (by omega)).mono ?_
          rintro e w7 ⟨rfl, k7⟩
          have K7 := hid (K6.out.trans k7)
          clear k7
          go_wp2_with fail
          go_ret
          exact ⟨rfl, K7.out.toBelow⟩
      · have d1 : decide (1 ≤ p) = false := by simpa using hp
        go_wp2_with fail
        refine (qall_none qb p _ (by omega)).mono ?_
        rintro e w6 ⟨a6, c6, rfl, k6⟩
        have K6 := hid (K5.out.trans k6)
        clear k6
        go_wp2_with fail
        refine (qput_arg (some ⟨qb, 0, none⟩) p Ev.zero _ (by omega)).mono ?_
        rintro e w7 ⟨rfl, k7⟩
        have K7 := hid (K6.out.trans k7)
        clear k7
        go_wp2_with fail
        go_ret
        exact ⟨rfl, K7.out.toBelow⟩

theorem own : ownKnob Try.prog.godebug = none := by kernel_rfl
theorem laidOut : laidOutB Try.prog = true := by kernel_rfl
set_option maxRecDepth 100000 in
theorem lifted (os : Os) (started : os.Started) (H : Type) (enc : TypeId × Value → H) :
    ReturnsInHanded {} Try.checked os 6 .any (Rows.bandApartSpec.pre6 enc Try.prog Try.f6 Rows.bandApartRow.domain false) (Rows.bandApartSpec.post enc Try.prog Try.f6 false true false false) := by
  refine returnsInHanded_of_change (C := Try.checked) own started (by kernel_rfl) Try.func6
    (ChangeSpec.witness6 (enc := enc) (C := Try.checked) false ⟨#[], #[.agg #[.int .u8 0, .int .u8 0, .int .u8 0], .int .u8 0], []⟩ 8 (by kernel_rfl) (by kernel_rfl) (by kernel_rfl) (by kernel_rfl)) ?_
  intro W base args ds gs before hval0 hW hcnd _
  have hval : ∀ (j : Nat) t v, Try.f6.params[j]? = some t → args[j]? = some v → Value.okWide Try.prog W .any base t v := hval0
  have hW' := hW
  obtain ⟨p, q, hA0, hV, rfl, hfz, hnd⟩ := hW
  have hA : DataW.TrodAll enc Try.prog W 0 (fun _ => true) true Try.f6.params.toList args.toList ds p := hA0
  rw [Try.params6] at hA hval
  obtain ⟨v0, vs0, d0, ds0, p0, q0, hargs, rfl, rfl, h0, r0⟩ := trodAll_cons hA
  obtain ⟨v1, vs1, d1, ds1, p1, q1, rfl, rfl, rfl, h1, r1⟩ := trodAll_cons r0
  obtain ⟨rfl, rfl, rfl⟩ := trodAll_nil r1
  obtain rfl : args = #[v0, v1] := by cases args; simp_all
  obtain ⟨rfl, rfl⟩ := trodVars_none hV
  have k0 := h0
  have lt0 : ∀ x ∈ p0, x.block < W.heap.size := by obtain ⟨m, hm⟩ := k0; exact DataW.trod_lt m _ _ _ hm
  have k1 := h1
  have lt1 : ∀ x ∈ p1, x.block < W.heap.size := by obtain ⟨m, hm⟩ := k1; exact DataW.trod_lt m _ _ _ hm
  obtain ⟨a0, b0, c0, rfl, wa0, wb0, wc0⟩ := argArr3 .u8 Try.underlying51 Try.underlying5 (by kernel_rfl) (by kernel_rfl) (hval 0 51 v0 rfl rfl) h0
  obtain ⟨a1, rfl, rfl, rfl, w1⟩ := open_int Try.underlying5 (hval 1 5 v1 rfl rfl) h1
  clear hA0 hval0
  refine (walk W a0 b0 c0 wa0 wb0 wc0 a1 w1).mono fun e W' ⟨he, bel⟩ => ?_
  subst he
  exact ⟨_, rfl, _, _, _, [], _, [], hW', trodAll_mk1 (shut_bool Try.underlying4 _), (trodAll_cons_mk (Below.trod laidOut (by kernel_rfl) (of_decide_eq_true (by kernel_rfl)) k0 bel lt0) (trodAll_cons_mk (Below.trod laidOut (by kernel_rfl) (of_decide_eq_true (by kernel_rfl)) k1 bel lt1) trodAll_mk0)), rfl, bel.frame _, fun h => by cases h⟩

theorem over : Rows.bandApartRow.holds Try.pinned (OpenSpec.ofChange Rows.bandApartSpec) :=
  OpenClaim.holds_of_wide 6 Try.f6 rfl rfl rfl rfl rfl rfl rfl ⟨rfl, rfl, rfl, rfl, rfl⟩ rfl rfl rfl rfl rfl (by kernel_rfl) Try.func6 (by kernel_rfl)
    (of_decide_eq_true (by kernel_rfl)) (by unfold Func.isWrapper; first | (rw [if_pos (by decide +kernel)]; kernel_rfl) | (rw [if_neg (by decide +kernel)]; exact ⟨rfl, rfl⟩))
    (fun os started H enc _ => lifted os started H enc)

theorem proved : Rows.BandApartSaid := over
#print axioms proved
end Go.Proofs.Ytgakjgblaaipmab.bandApart
