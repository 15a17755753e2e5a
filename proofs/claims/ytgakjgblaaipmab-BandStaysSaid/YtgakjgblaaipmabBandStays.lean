/- An event of a rule that waits takes its place in its band, and no more room; the others stay. No conditions. -/
import Derived.Test.YtgakjgblaaipmabRows
import Derived.Test.YtgakjgblaaipmabArgs
import Derived.Test.YtgakjgblaaipmabBandPlain2
import Derived.ProofKit
import Derived.OpenShut
namespace Go.Proofs.Ytgakjgblaaipmab.bandStays
open Go.ChangeShapes Go.WideShapes Go.ChangeAt Go.RowKit
open Go.ChangeMaps (open_string shut_string)
set_option linter.unusedVariables false

set_option maxHeartbeats 4000000 in
set_option maxRecDepth 100000 in
theorem walk (w : World) (n : Int) (wn : (Lit.int .u8 n).wf = true) (t : Int) (wt : (Lit.int .u8 t).wf = true) (on : Bool) (now : Int) (wnow : (Lit.int .i64 now).wf = true) (p : Int) (wp : (Lit.int .u8 p).wf = true) :
    Calls Try.prog 5 #[.int .u8 n, .int .u8 t, .bool on, .int .i64 now, .int .u8 p] w fun e w' => e = .returned (.bool true) ∧ Below w.heap.size w w' := by
  obtain ⟨hn0, hn1⟩ := bounds_u8 wn
  obtain ⟨ht0, ht1⟩ := bounds_u8 wt
  obtain ⟨hp0, hp1⟩ := bounds_u8 wp
  clear wn wt wnow wp
  obtain ⟨q, hq⟩ : ∃ q : Nat, n % 20 = (q : Int) := ⟨(n % 20).toNat, by omega⟩
  obtain ⟨c, hc⟩ : ∃ c : Nat, p % 3 = (c : Int) := ⟨(p % 3).toNat, by omega⟩
  obtain ⟨m, hm⟩ : ∃ m : Nat, t % (1 + (q : Int)) = (m : Int) := ⟨(t % (1 + (q : Int))).toNat, by have := Int.emod_nonneg t (show (1 + (q : Int)) ≠ 0 by omega); omega⟩
  have hq20 : q < 20 := by omega
  have hc3 : c < 3 := by omega
  have hmq : m < q + 1 := by have := Int.emod_lt_of_pos t (show 0 < 1 + (q : Int) by omega); omega
  have hroom : roomOf (1 + (q : Int)) = q + 1 := by unfold roomOf; rw [if_neg (by omega), if_neg (by omega)]; omega
  have HR := hid hroom
  clear hroom
  go_enter Try.func5, Try.ntmps5
  go_wp2_with fail
  refine (first_true _).mono ?_
  rintro e w1 ⟨rfl, k1⟩
  have K1 := hid k1
  clear k1
  go_wp2_with fail
  refine (qnew_any _ _ _ _).mono ?_
  rintro e w2 ⟨qb, rfl, F2, h2, f2, k2⟩
  have hR : ∀ i : Nat, roomOf (if i = 1 then 1 + (q : Int) else if i = 2 then 1 + (q : Int) else 1 + (q : Int)) = q + 1 := fun i => by split <;> (try split) <;> exact HR.out
  simp only [hR] at h2
  rw [← one_nil (c + 1)] at h2
  have H2 := hid h2
  have O2 := hid (And.intro (fun i hi => Nat.le_trans K1.out.size (f2 i hi)) (K1.out.trans k2))
  clear h2 f2 k2 hR
  go_wp2_with fail
  go_loopw [14] (fun v14 wr => ∃ (k : Nat) (F : Nat → Prop), k ≤ q + 1 ∧ v14 = .int .i64 k ∧ Hid (QueueE wr qb F (fun _ => q + 1) (one (c + 1) (evs false k))) ∧ Hid ((∀ i, F i → w.heap.size ≤ i) ∧ Keeps No w wr)) (fun v14 _ => q + 1 - (intOf v14).toNat)
  case atStart => exact ⟨0, _, Nat.zero_le _, rfl, H2, O2⟩
  case round =>
    obtain ⟨k, F, hk, rfl, HQ, HO⟩ := hrel
    by_cases hlt : k < q + 1
    · go_wp2_with fail
      refine (qput_new HQ.out (i := c + 1) (by omega) (by omega) (by omega) ⟨k, false, 0⟩ (fun y hy => by rw [one_at] at hy; exact evs_new hy) (by rw [one_at, length_evs]; exact hlt)).mono ?_
      rintro e w3 ⟨rfl, F3, h3, u3⟩
      rw [one_at, one_upd, ← evs_succ] at h3
      have H3 := hid h3
      have O3 := hid (newUpd HO.out.1 HO.out.2 u3)
      clear h3 u3
      go_wp2_with fail
      go_roundw
      case rel => exact ⟨k + 1, F3, by omega, by go_num, H3, O3⟩
      case measure => simp [intOf]; omega
    · obtain rfl : k = q + 1 := by omega
      clear H2 O2
      go_wp2_with fail
      have hblk := heap_alloc_new wr (.cells #[.int .i64 m, .bool on, .int .i64 now] 31)
      have hnF : ¬ F wr.heap.size := fun h => by have := HQ.out.lt h; omega
      refine (qput_same (HQ.out.keep ((Keeps.refl No _).alloc _) (fun _ _ h => h)) (i := c + 1) (by omega) (by omega) (by omega) ⟨m, on, now⟩ (n := m) (by rw [one_at, length_evs]; exact hmq) (by simp only [one_at, evs_get]) (by intro j hj hjm; simp only [one_at, evs_get]; omega)).mono ?_
      rintro e w5 ⟨rfl, F5, h5, u5⟩
      rw [one_at, one_upd] at h5
      have hb5 := u5.keeps.heap hnF hblk
      obtain ⟨eb, heb⟩ : ∃ eb, eb = wr.heap.size := ⟨_, rfl⟩
      rw [← heb] at hb5 hnF ⊢
      have hnF5 : ¬ F5 eb := u5.out (by simp; omega) hnF
      have b0 := cell_at (i := 0) hb5 rfl
      have b1 := cell_at (i := 1) hb5 rfl
      have b2 := cell_at (i := 2) hb5 rfl
      have H5 := hid h5
      have O5 := hid (newUpd HO.out.1 (HO.out.2.alloc _) u5)
      have HB5 := hid hb5
      clear h5 u5 hb5 hblk heb hnF HQ HO
      go_wp2_with fail
      refine (qput_full H5.out (i := c + 1) (by omega) (by omega) (by omega) ⟨1 + (q : Int), false, 0⟩ (fun y hy => by rw [one_at] at hy; have := evs_set_new hy; simp only; omega) (by rw [one_at, List.length_set, length_evs])).mono ?_
      rintro e w6 ⟨rfl, k6⟩
      have h6 := H5.out.keep k6 (fun _ _ h => h)
      have hb6 := k6.heap (fun h => h) HB5.out
      have hlen := qlen_any h6
      rw [one_len (by omega) (by omega), List.length_set, length_evs, show ((q + 1 : Nat) : Int) = 1 + (q : Int) by omega] at hlen
      have H6 := hid h6
      have O6 := hid (And.intro O5.out.1 (O5.out.2.trans k6))
      have HB6 := hid hb6
      clear h6 hb6 k6 b0 b1 b2 H5 O5 HB5
      go_wp2_with fail
      refine hlen.mono ?_
      rintro e w' ⟨rfl, rfl⟩
      clear hlen
      go_wp2_with fail
      go_loopw [16] (fun v16 wr => ∃ (k : Nat) (F : Nat → Prop), k ≤ q + 1 ∧ v16 = .int .i64 k ∧ Hid (QueueE wr qb F (fun _ => q + 1) (one (c + 1) (((evs false (q + 1)).set m ⟨m, on, now⟩).drop k))) ∧ Hid ((∀ i, F i → w.heap.size ≤ i) ∧ Keeps No w wr) ∧ Hid (wr.heap[eb]? = some (.cells #[.int .i64 m, .bool on, .int .i64 now] 31 (0, 0))) ∧ Hid (¬ F eb)) (fun v16 _ => q + 1 - (intOf v16).toNat)
      case atStart => exact ⟨0, F5, Nat.zero_le _, rfl, H6, O6, HB6, hid hnF5⟩
      case round =>
        obtain ⟨k, F7, hk, rfl, HQ, HO, HB, HF⟩ := hrel
        clear H6 O6 HB6 hnF5
        by_cases hlt : k < q + 1
        · have hkx : k < ((evs false (q + 1)).set m ⟨m, on, now⟩).length := by rw [List.length_set, length_evs]; exact hlt
          have hgx := evs_set_get false on now (q + 1) m hkx
          have hdr := List.drop_eq_getElem_cons hkx
          obtain ⟨y, hy⟩ : ∃ y, ((evs false (q + 1)).set m ⟨m, on, now⟩)[k] = y := ⟨_, rfl⟩
          rw [hy] at hgx hdr
          obtain ⟨yr, yo, ya⟩ := y
          obtain ⟨hg1, hg2⟩ := hgx
          simp only at hg1
          subst hg1
          have htk := qtake_ok HQ.out (i := c + 1) (by omega) (by omega) (y := ⟨k, yo, ya⟩) (t := ((evs false (q + 1)).set m ⟨m, on, now⟩).drop (k + 1)) (by rw [one_at]; exact hdr) (fun j a b => one_other _ (by omega))
          rw [one_upd] at htk
          simp only [Ev.val] at htk
          clear hy hdr
          by_cases hkm : k = m
          · have hyy := hg2 hkm
            simp only [Ev.mk.injEq] at hyy
            obtain ⟨_, rfl, rfl⟩ := hyy
            subst hkm
            have e1 : ((k : Int) == (k : Int)) = true := by simp
            have heqn : ∀ w, Sem.run Try.prog (binOp .neq 31 (.agg #[.int .i64 k, .bool yo, .int .i64 ya]) (.agg #[.int .i64 k, .bool yo, .int .i64 ya])) w = .ok (.bool false) w := fun w => by
              have := ev_neq ⟨k, yo, ya⟩ ⟨k, yo, ya⟩ w
              rw [Ev.same_refl] at this
              exact this
            have heg := ev_guard
            clear hg2
            go_wp2_with fail
            refine htk.mono ?_
            rintro e w8 ⟨rfl, F8, h8, u8⟩
            have hb8 := u8.keeps.heap HF.out HB.out
            have hl8 := lt_of_block hb8
            have b0 := cell_at (i := 0) hb8 rfl
            have b1 := cell_at (i := 1) hb8 rfl
            have b2 := cell_at (i := 2) hb8 rfl
            have hF8 : ¬ F8 eb := u8.out (lt_of_block HB.out) HF.out
            have hne8 : ¬ w8.heap.size = eb := by omega
            have H8 := hid (QueueE.keep h8 ((Keeps.refl No _).alloc (.cells #[.int .i64 k, .bool yo, .int .i64 ya] 31)) (fun _ _ h => h))
            have O8 := newUpd HO.out.1 HO.out.2 u8
            have O8' := hid (And.intro O8.1 (O8.2.alloc (.cells #[.int .i64 k, .bool yo, .int .i64 ya] 31)))
            have HB8 := hid (heapA (.cells #[.int .i64 k, .bool yo, .int .i64 ya] 31) hb8)
            clear h8 u8 hb8 O8 htk
            go_wp2_with fail
            go_roundw
            case rel => exact ⟨k + 1, F8, by omega, by go_num, H8, O8', HB8, hid hF8⟩
            case measure => simp [intOf]; omega
          · have e1 : ((k : Int) == (m : Int)) = false := by rw [beq_eq_false_iff_ne]; omega
            clear hg2
            go_wp2_with fail
            refine htk.mono ?_
            rintro e w8 ⟨rfl, F8, h8, u8⟩
            have hb8 := u8.keeps.heap HF.out HB.out
            have hl8 := lt_of_block hb8
            have b0 := cell_at (i := 0) hb8 rfl
            have hF8 : ¬ F8 eb := u8.out (lt_of_block HB.out) HF.out
            have hne8 : ¬ w8.heap.size = eb := by omega
            have H8 := hid (QueueE.keep h8 ((Keeps.refl No _).alloc (.cells #[.int .i64 k, .bool yo, .int .i64 ya] 31)) (fun _ _ h => h))
            have O8 := newUpd HO.out.1 HO.out.2 u8
            have O8' := hid (And.intro O8.1 (O8.2.alloc (.cells #[.int .i64 k, .bool yo, .int .i64 ya] 31)))
            have HB8 := hid (heapA (.cells #[.int .i64 k, .bool yo, .int .i64 ya] 31) hb8)
            clear h8 u8 hb8 O8 htk
            go_wp2_with fail
            go_roundw
            case rel => exact ⟨k + 1, F8, by omega, by go_num, H8, O8', HB8, hid hF8⟩
            case measure => simp [intOf]; omega
        · go_wp2_with fail
          go_ret
          exact ⟨rfl, HO.out.2.toBelow⟩

theorem own : ownKnob Try.prog.godebug = none := by kernel_rfl
theorem laidOut : laidOutB Try.prog = true := by kernel_rfl
set_option maxRecDepth 100000 in
theorem lifted (os : Os) (started : os.Started) (H : Type) (enc : TypeId × Value → H) :
    ReturnsInHanded {} Try.checked os 5 .any (Rows.bandStaysSpec.pre6 enc Try.prog Try.f5 Rows.bandStaysRow.domain false) (Rows.bandStaysSpec.post enc Try.prog Try.f5 false true false false) := by
  refine returnsInHanded_of_change (C := Try.checked) own started (by kernel_rfl) Try.func5
    (ChangeSpec.witness6 (enc := enc) (C := Try.checked) false ⟨#[], #[.int .u8 0, .int .u8 0, .bool false, .int .i64 0, .int .u8 0], []⟩ 8 (by kernel_rfl) (by kernel_rfl) (by kernel_rfl) (by kernel_rfl)) ?_
  intro W base args ds gs before hval0 hW hcnd _
  have hval : ∀ (j : Nat) t v, Try.f5.params[j]? = some t → args[j]? = some v → Value.okWide Try.prog W .any base t v := hval0
  have hW' := hW
  obtain ⟨p, q, hA0, hV, rfl, hfz, hnd⟩ := hW
  have hA : DataW.TrodAll enc Try.prog W 0 (fun _ => true) true Try.f5.params.toList args.toList ds p := hA0
  rw [Try.params5] at hA hval
  obtain ⟨v0, vs0, d0, ds0, p0, q0, hargs, rfl, rfl, h0, r0⟩ := trodAll_cons hA
  obtain ⟨v1, vs1, d1, ds1, p1, q1, rfl, rfl, rfl, h1, r1⟩ := trodAll_cons r0
  obtain ⟨v2, vs2, d2, ds2, p2, q2, rfl, rfl, rfl, h2, r2⟩ := trodAll_cons r1
  obtain ⟨v3, vs3, d3, ds3, p3, q3, rfl, rfl, rfl, h3, r3⟩ := trodAll_cons r2
  obtain ⟨v4, vs4, d4, ds4, p4, q4, rfl, rfl, rfl, h4, r4⟩ := trodAll_cons r3
  obtain ⟨rfl, rfl, rfl⟩ := trodAll_nil r4
  obtain rfl : args = #[v0, v1, v2, v3, v4] := by cases args; simp_all
  obtain ⟨rfl, rfl⟩ := trodVars_none hV
  have k0 := h0
  have lt0 : ∀ x ∈ p0, x.block < W.heap.size := by obtain ⟨m, hm⟩ := k0; exact DataW.trod_lt m _ _ _ hm
  have k1 := h1
  have lt1 : ∀ x ∈ p1, x.block < W.heap.size := by obtain ⟨m, hm⟩ := k1; exact DataW.trod_lt m _ _ _ hm
  have k2 := h2
  have lt2 : ∀ x ∈ p2, x.block < W.heap.size := by obtain ⟨m, hm⟩ := k2; exact DataW.trod_lt m _ _ _ hm
  have k3 := h3
  have lt3 : ∀ x ∈ p3, x.block < W.heap.size := by obtain ⟨m, hm⟩ := k3; exact DataW.trod_lt m _ _ _ hm
  have k4 := h4
  have lt4 : ∀ x ∈ p4, x.block < W.heap.size := by obtain ⟨m, hm⟩ := k4; exact DataW.trod_lt m _ _ _ hm
  obtain ⟨a0, rfl, rfl, rfl, w0⟩ := open_int Try.underlying5 (hval 0 5 v0 rfl rfl) h0
  obtain ⟨a1, rfl, rfl, rfl, w1⟩ := open_int Try.underlying5 (hval 1 5 v1 rfl rfl) h1
  obtain ⟨a2, rfl, rfl, rfl⟩ := open_bool Try.underlying4 (hval 2 4 v2 rfl rfl) h2
  obtain ⟨a3, rfl, rfl, rfl, w3⟩ := open_int Try.underlying2 (hval 3 2 v3 rfl rfl) h3
  obtain ⟨a4, rfl, rfl, rfl, w4⟩ := open_int Try.underlying5 (hval 4 5 v4 rfl rfl) h4
  clear hA0 hval0
  refine (walk W a0 w0 a1 w1 a2 a3 w3 a4 w4).mono fun e W' ⟨he, bel⟩ => ?_
  subst he
  exact ⟨_, rfl, _, _, _, [], _, [], hW', trodAll_mk1 (shut_bool Try.underlying4 _), (trodAll_cons_mk (Below.trod laidOut (by kernel_rfl) (of_decide_eq_true (by kernel_rfl)) k0 bel lt0) (trodAll_cons_mk (Below.trod laidOut (by kernel_rfl) (of_decide_eq_true (by kernel_rfl)) k1 bel lt1) (trodAll_cons_mk (Below.trod laidOut (by kernel_rfl) (of_decide_eq_true (by kernel_rfl)) k2 bel lt2) (trodAll_cons_mk (Below.trod laidOut (by kernel_rfl) (of_decide_eq_true (by kernel_rfl)) k3 bel lt3) (trodAll_cons_mk (Below.trod laidOut (by kernel_rfl) (of_decide_eq_true (by kernel_rfl)) k4 bel lt4) trodAll_mk0))))), rfl, bel.frame _, fun h => by cases h⟩

theorem over : Rows.bandStaysRow.holds Try.pinned (OpenSpec.ofChange Rows.bandStaysSpec) :=
  OpenClaim.holds_of_wide 5 Try.f5 rfl rfl rfl rfl rfl rfl rfl ⟨rfl, rfl, rfl, rfl, rfl⟩ rfl rfl rfl rfl rfl (by kernel_rfl) Try.func5 (by kernel_rfl)
    (of_decide_eq_true (by kernel_rfl)) (by unfold Func.isWrapper; first | (rw [if_pos (by decide +kernel)]; kernel_rfl) | (rw [if_neg (by decide +kernel)]; exact ⟨rfl, rfl⟩))
    (fun os started H enc _ => lifted os started H enc)

theorem proved : Rows.BandStaysSaid := over
#print axioms proved
end Go.Proofs.Ytgakjgblaaipmab.bandStays
