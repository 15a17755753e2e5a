/- Nothing is both so and well past, of any rule that may be. No conditions. -/
import Derived.Test.YtboalfajghkajaaRows
import Derived.Test.YtboalfajghkajaaArgs
import Derived.Test.YtboalfajghkajaaTaskK
import Derived.Test.YtboalfajghkajaaBlk
import Derived.ProofKit
import Derived.OpenShut
import Derived.Deep.DeepCutAuto
import Derived.Deep.CutBlock
import Derived.Test.YtboalfajghkajaaTaskC
namespace Go.Proofs.Ytboalfajghkajaa.taskApart
open Go.ChangeShapes Go.WideShapes Go.ChangeAt Go.RowKit
open Go.ChangeMaps (open_string shut_string)
set_option linter.unusedVariables false

/-- No value is both beyond the limit and well back. -/
def ApartR (k lim back : Int) : Prop := (k = 1 → back ≤ lim) ∧ (k = 2 → lim ≤ back) ∧ (k = 3 ∨ k = 4 → back ≤ lim)

theorem obs_apart {k lim back : Int} (h : ApartR k lim back) (sig span : Int) (l : List SeenD) (now : Int) : ((obsD k sig lim back span l now).1 && (obsD k sig lim back span l now).2) = false := by
  unfold obsD obsV
  by_cases h1 : k = 1 ∨ k = 2
  · rw [if_pos h1]
    cases valueD l sig with
    | none => rfl
    | some v =>
      dsimp only
      split
      · rfl
      · unfold crossD
        rcases h1 with rfl | rfl
        · have := h.1 rfl
          rw [if_pos rfl]
          by_cases hv : v.val > lim <;> simp [hv] <;> omega
        · have := h.2.1 rfl
          rw [if_neg (by decide), if_pos rfl]
          by_cases hv : v.val < lim <;> simp [hv] <;> omega
  · rw [if_neg h1]
    by_cases h3 : k = 3 ∨ k = 4
    · have hb := h.2.2 h3
      rw [if_pos h3]
      cases changeD l sig now span with
      | none => rfl
      | some d =>
        dsimp only
        unfold crossT
        rcases h3 with rfl | rfl
        · rw [if_pos rfl]
          by_cases hv : d ≥ lim <;> simp [hv] <;> omega
        · rw [if_neg (by decide), if_pos rfl]
          by_cases hv : wrap64 (-d) ≥ lim <;> simp [hv] <;> omega
    · rw [if_neg h3]
      split
      · simp
      · split
        · simp
        · rfl

set_option maxHeartbeats 8000000 in
set_option maxRecDepth 100000 in
theorem walk (w : World) (k : Int) (wk : (Lit.int .u8 k).wf = true) (sig : Int) (w1 : (Lit.int .u8 sig).wf = true) (lim : Int) (w2 : (Lit.int .i16 lim).wf = true) (back : Int) (w3 : (Lit.int .u8 back).wf = true) (sp : Int) (w4 : (Lit.int .u8 sp).wf = true) (s0 : Option Addr) (cap : Nat) (q : List ComeT) (hs : Sl w 5 (.slice s0 q.length cap) q.length (q.flatMap encComeT)) (hq : ∀ x ∈ q, goodComeT x) :
    Calls Try.prog 4 #[.int .u8 k, .int .u8 sig, .int .i16 lim, .int .u8 back, .int .u8 sp, .slice s0 q.length cap] w fun e w' => e = .returned (.bool true) ∧ Below w.heap.size w w' := by
  obtain ⟨N, hN⟩ : ∃ N, q.length = N := ⟨_, rfl⟩
  rw [hN] at hs ⊢
  have HS := hid hs
  have HQ := hid hq
  have HN := hid hN
  clear hs hq hN
  obtain ⟨k0, k1⟩ := bounds_u8 wk
  obtain ⟨g0, g1⟩ := bounds_u8 w1
  obtain ⟨l0, l1⟩ := bounds_i16 w2
  obtain ⟨b0, b1⟩ := bounds_u8 w3
  obtain ⟨p0, p1⟩ := bounds_u8 w4
  clear wk w1 w2 w3 w4
  by_cases hbig : 60 < N
  · have hd : decide ((N : Int) > 60) = true := decide_eq_true (by omega)
    go_enter Try.func4, Try.ntmps4
    go_wp2_with fail
    refine (bad_true _).mono ?_
    rintro e w1 ⟨rfl, k1⟩
    have K1 := hid k1
    clear k1
    go_wp2_with fail
    refine (bad_true _).mono ?_
    rintro e w2 ⟨rfl, k2⟩
    have K2 := hid (K1.out.trans k2)
    clear k2
    go_wp2_with fail
    go_ret
    exact ⟨rfl, K2.out.toBelow⟩
  have hd : decide ((N : Int) > 60) = false := decide_eq_false (by omega)
  go_enter Try.func4, Try.ntmps4
  go_wp2_with fail
  refine (bad_true _).mono ?_
  rintro e w1 ⟨rfl, k1⟩
  have K1 := hid k1
  clear k1 hd
  go_wp2_with fail
  refine (rule_any (1 + k % 6) sig lim 0 0 sp _ ⟨by omega, by omega⟩ ⟨g0, g1⟩ ⟨l0, l1⟩ ⟨by decide, by decide⟩ ⟨by decide, by decide⟩ ⟨p0, p1⟩).mono ?_
  rintro e w2 ⟨rfl, kp⟩
  obtain ⟨kk, hkk⟩ : ∃ y : Int, (1 + k % 6) % 8 = y := ⟨_, rfl⟩
  have hk1 : 1 ≤ kk ∧ kk ≤ 6 := by omega
  obtain ⟨sg, hsg⟩ : ∃ y : Int, sig % 3 = y := ⟨_, rfl⟩
  obtain ⟨sp', hsp⟩ : ∃ y : Int, sp % 20 = y := ⟨_, rfl⟩
  have hp : 0 ≤ sp' ∧ sp' < 20 := by omega
  have hz : (0 : Int) % 12 = 0 := by decide
  rw [hkk, hsg, hsp, hz]
  have K2 := hid (K1.out.trans kp)
  clear kp hkk hsg hsp hz K1
  go_upto_region 4 with fail
  obtain ⟨rb, hrb⟩ : ∃ y, w2.heap.size = y := ⟨_, rfl⟩
  obtain ⟨W, hW⟩ : ∃ W, w2.alloc (.cells #[.int .u8 kk, .int .i64 sg, .int .i64 lim, .int .i64 0, .int .i64 0, .int .i64 sp', .int .u8 0, .bool false, .slice none 0 0] 27) = W := ⟨_, rfl⟩
  have HR : Hid (Bk W rb 27 [.int .u8 kk, .int .i64 sg, .int .i64 lim, .int .i64 0, .int .i64 0, .int .i64 sp', .int .u8 0, .bool false, .slice none 0 0]) := hid (by rw [← hW]; exact Bk.new hrb _ _)
  have HK : Hid (Keeps No w W) := hid (by rw [← hW]; exact K2.out.alloc _)
  have HRB : Hid (w.heap.size ≤ rb) := hid (by rw [← hrb]; exact K2.out.size)
  rw [hrb, hW]
  clear hW hrb K2
  obtain ⟨kk1, kk6⟩ := hk1
  obtain ⟨hp0, hp1⟩ := hp
  have x0 := HR.out.cell 0 rfl
  go_upto_block 0 with fail
  go_cut [] from 33 to 65 (fun wx => ∃ l' b' : Int, Hid (ApartR kk l' b') ∧ Hid (Bk wx rb 27 [.int .u8 kk, .int .i64 sg, .int .i64 l', .int .i64 b', .int .i64 0, .int .i64 sp', .int .u8 0, .bool false, .slice none 0 0]) ∧ Hid (Keeps (fun i => i = rb) W wx))
  case first =>
    have hk : kk = 1 ∨ kk = 2 ∨ (3 ≤ kk ∧ kk ≤ 6) := by omega
    have x2 := HR.out.cell 2 rfl
    have x3 := HR.out.cell 3 rfl
    have f2 := HR.out.free 2
    have f3 := HR.out.free 3
    rcases hk with rfl | rfl | ⟨hk3, hk6⟩
    · go_wp2_with fail
      go_meet
      exact ⟨lim, lim - back, hid ⟨fun _ => by omega, fun h => by omega, fun h => by omega⟩, hid (HR.out.put 3 _ rfl), hid ((Keeps.refl _ _).at)⟩
    · go_wp2_with fail
      go_meet
      exact ⟨lim, lim + back, hid ⟨fun h => by omega, fun _ => by omega, fun h => by omega⟩, hid (HR.out.put 3 _ rfl), hid ((Keeps.refl _ _).at)⟩
    · have e1 : (kk == 1) = false := by simp; omega
      have e2 : (kk == 2) = false := by simp; omega
      by_cases hl : lim < 1
      · have d1 : decide (lim < 1) = true := decide_eq_true hl
        obtain ⟨m, hm⟩ : ∃ m : Int, 1 - lim = m := ⟨_, rfl⟩
        have hm0 : 1 ≤ m ∧ m ≤ 40000 := by omega
        have hwm : IntKind.i64.wrap m = m := by simp only [IntKind.wrap_i64]; omega
        obtain ⟨hm1, hm2⟩ := hm0
        have hmn : ¬ (m + 1 = 0) := by omega
        have hmz : (m + 1 == 0) = false := by simpa using hmn
        have hb := HR.out.put 2 (.int .i64 m) rfl
        have y2 := hb.cell 2 rfl
        have y3 := hb.cell 3 rfl
        have g3 := hb.free 3
        go_wp2_with fail
        go_meet
        exact ⟨m, back % (m + 1), hid ⟨fun h => by omega, fun h => by omega, fun _ => by have := Int.emod_lt_of_pos back (show 0 < m + 1 by omega); omega⟩, hid (hb.put 3 _ rfl), hid (((Keeps.refl _ _).at).at)⟩
      · have d1 : decide (lim < 1) = false := decide_eq_false hl
        have hmn : ¬ (lim + 1 = 0) := by omega
        have hmz : (lim + 1 == 0) = false := by simpa using hmn
        go_wp2_with fail
        go_meet
        exact ⟨lim, back % (lim + 1), hid ⟨fun h => by omega, fun h => by omega, fun _ => by have := Int.emod_lt_of_pos back (show 0 < lim + 1 by omega); omega⟩, hid (HR.out.put 3 _ rfl), hid ((Keeps.refl _ _).at)⟩
  case rest =>
  obtain ⟨l', b', HAP, HR2, HKX⟩ := hcut
  obtain ⟨w3, rfl⟩ : ∃ y, y = wc := ⟨_, rfl⟩
  have HK3 : Hid (Keeps No w w3) := hid (HK.out.trans' HKX.out (fun _ _ h => h) (fun b hb e => by have := HRB.out; omega))
  clear x0 HR HK HKX
  go_wp2_with fail
  refine (cnew_any 3 _ ⟨by decide, by decide⟩).mono ?_
  rintro e w4 ⟨sb, F, rfl, h4, k4, n4⟩
  have H4 : Hid (Sto w4 sb F 3 []) := hid h4
  have HF4 : Hid (∀ j, F j → w.heap.size ≤ j) := hid (fun j hj => Nat.le_trans HK3.out.size (n4 j hj))
  have HX4 : Hid (¬ F rb) := hid (fun h => by have := n4 _ h; have := HR2.out.lt; omega)
  have HR4 := hid (HR2.out.kept k4)
  have HK4 := hid (HK3.out.trans k4)
  have HSP : Hid (I64 sp') := hid ⟨by omega, by omega⟩
  clear h4 k4 n4 HR2 HK3
  go_wp2_with fail
  go_loopw [15] (fun v15 wr => ∃ (i : Nat) (l : List SeenD) (F : Nat → Prop), i ≤ N ∧ v15 = .int .i64 i ∧ Hid (l.length ≤ i) ∧ Hid (∀ y ∈ l, y.at_ < (i : Int)) ∧ Hid (Sto wr sb F 3 l) ∧ Hid (∀ j, F j → w.heap.size ≤ j) ∧ Hid (¬ F rb) ∧ Hid (Bk wr rb 27 [.int .u8 kk, .int .i64 sg, .int .i64 l', .int .i64 b', .int .i64 0, .int .i64 sp', .int .u8 0, .bool false, .slice none 0 0]) ∧ Hid (Keeps No w wr)) (fun v15 _ => N - (intOf v15).toNat)
  case atStart => exact ⟨0, [], F, Nat.zero_le _, rfl, hid (Nat.le_refl _), hid (fun y hy => by simp at hy), H4, HF4, HX4, HR4, HK4⟩
  case round =>
    clear H4 HF4 HX4 HR4 HK4
    obtain ⟨i, l, F, hi, rfl, HLL, HLA, HO, HF, HX, HR, HK⟩ := hrel
    by_cases hlt : i < N
    · have hil : i < q.length := by rw [HN.out]; exact hlt
      obtain ⟨⟨bh, sg', vl, bd, lk⟩, hx⟩ : ∃ x, q[i] = x := ⟨_, rfl⟩
      obtain ⟨wb1, wb2, wb3⟩ := (show goodComeT ⟨bh, sg', vl, bd, lk⟩ from by have := HQ.out _ (List.getElem_mem hil); rw [hx] at this; exact this)
      dsimp only at wb1 wb2 wb3
      obtain ⟨bh0, bh1⟩ := bounds_u8 wb1
      obtain ⟨sg0, sg1⟩ := bounds_u8 wb2
      obtain ⟨vl0, vl1⟩ := bounds_i16 wb3
      obtain ⟨g, off, rfl, _, hc⟩ := Sl.itemC (enc := encComeT) (size := 5) (fun _ => rfl) (by decide) HS.out hil hx
      have HC := hid hc
      have c1 := HK.out.cell (fun h => h) (HC.out 1 _ rfl)
      have c2 := HK.out.cell (fun h => h) (HC.out 2 _ rfl)
      have c3 := HK.out.cell (fun h => h) (HC.out 3 _ rfl)
      have hs30 : 0 ≤ sg' % 3 ∧ sg' % 3 < 3 := by omega
      dsimp only at c1 c2 c3
      have HP := hid (fun (w' : World) (kw : Keeps No wr w') => tsput_raw (HO.out.keep (S := No) kw (fun _ _ h => h)) ⟨(i : Int), sg' % 3, 0, vl, bd⟩ (by have := HLL.out; omega) ⟨by show _ ≤ (i : Int); omega, by show (i : Int) ≤ _; omega⟩ (fun y hy => by have := HLA.out y hy; show y.at_ ≤ (i : Int); omega) (show takes 3 ⟨(i : Int), sg' % 3, 0, vl, bd⟩ = true from decide_eq_true hs30))
      clear hs30
      clear hx hc hil wb1 wb2 wb3
      go_upto_region 16 with fail
      go_still_tail 21, (by kernel_rfl)
      change wpList _ _ _ _ _ wr.drew
      go_wp2_with fail
      refine (HP.out _ ((Keeps.refl _ _).drew)).mono ?_
      rintro e w7 ⟨rfl, F7, h7, u7⟩
      have h7' : Sto w7 sb F7 3 (l ++ [(⟨(i : Int), sg' % 3, 0, vl, bd⟩ : SeenD)]) := h7
      have HLL7 : Hid ((l ++ [(⟨(i : Int), sg' % 3, 0, vl, bd⟩ : SeenD)]).length ≤ i + 1) := hid (by have := HLL.out; simp; omega)
      have HLA7 : Hid (∀ y ∈ l ++ [(⟨(i : Int), sg' % 3, 0, vl, bd⟩ : SeenD)], y.at_ < ((i + 1 : Nat) : Int)) := hid (fun y hy => by
        rcases List.mem_append.1 hy with hy | hy
        · have := HLA.out y hy; omega
        · simp at hy; subst hy; show (i : Int) < _; omega)
      obtain ⟨l7, hl7⟩ : ∃ y, l ++ [(⟨(i : Int), sg' % 3, 0, vl, bd⟩ : SeenD)] = y := ⟨_, rfl⟩
      rw [hl7] at h7' HLL7 HLA7
      have u8 : Upd F wr w7 F7 := ⟨Keeps.trans ((Keeps.refl _ _).drew) u7.keeps, fun k hk => u7.fresh k hk⟩
      have hu := newUpd HF.out HK.out u8
      have HO7 := hid h7'
      have HF7 := hid hu.1
      have HK7 := hid hu.2
      have HX7 := hid (u8.out HR.out.lt HX.out)
      have HR7 := hid (HR.out.keep u8.keeps HX.out)
      clear h7 h7' u7 u8 hu hl7 HLL HLA HO HF HX HR HK HP c1 c2 c3
      have c0 := HK7.out.cell (fun h => h) (HC.out 0 _ rfl)
      simp only [Nat.add_zero] at c0
      have hc0' := HC.out 0 _ rfl
      simp only [Nat.add_zero] at hc0'
      have HC0 := hid hc0'
      clear hc0'
      have x0_0 := HR7.out.cell 0 rfl
      have x0_1 := HR7.out.cell 1 rfl
      have x0_2 := HR7.out.cell 2 rfl
      have x0_3 := HR7.out.cell 3 rfl
      have x0_4 := HR7.out.cell 4 rfl
      have x0_5 := HR7.out.cell 5 rfl
      have x0_6 := HR7.out.cell 6 rfl
      have x0_7 := HR7.out.cell 7 rfl
      have x0_8 := HR7.out.cell 8 rfl
      have hob := obs_apart HAP.out sg sp' l7 ((i : Int) + bh)
      have HNW : Hid (I64 ((i : Int) + bh)) := hid ⟨by omega, by omega⟩
      obtain ⟨o1, o2, hoo⟩ : ∃ o1 o2, obsD kk sg l' b' sp' l7 ((i : Int) + bh) = (o1, o2) := ⟨_, _, rfl⟩
      rw [hoo] at hob
      dsimp only at hob
      have HOB : Hid (∀ w', Keeps No w7 w' → Calls Try.prog 13 #[.agg #[.int .u8 kk, .int .i64 sg, .int .i64 l', .int .i64 b', .int .i64 0, .int .i64 sp', .int .u8 0, .bool false, .slice none 0 0], .pointer (some ⟨sb, 0, none⟩), .int .i64 ((i : Int) + bh)] w' fun e w'' => e = .returned (.tuple #[.bool o1, .bool o2]) ∧ Keeps No w' w'') := hid (fun w' kw => by
        have h := tobs_any (HO7.out.keep (S := No) kw (fun _ _ h => h)) kk sg l' b' 0 sp' (.int .u8 0) (.bool false) (.slice none 0 0) ((i : Int) + bh) HNW.out HSP.out
        rw [hoo] at h
        exact h)
      have HWR : Hid (IntKind.i64.wrap ((i : Int) + IntKind.i64.wrap bh) = (i : Int) + bh) := hid (by simp only [IntKind.wrap_i64]; omega)
      clear hoo
      go_upto_region 17 with fail
      first | go_region_held3 (fun w' => w'.cell? ⟨rb, 0, none⟩ = some (.int .u8 kk) ∧ w'.cell? ⟨rb, 1, none⟩ = some (.int .i64 sg) ∧ w'.cell? ⟨rb, 2, none⟩ = some (.int .i64 l') ∧ w'.cell? ⟨rb, 3, none⟩ = some (.int .i64 b') ∧ w'.cell? ⟨rb, 4, none⟩ = some (.int .i64 0) ∧ w'.cell? ⟨rb, 5, none⟩ = some (.int .i64 sp') ∧ w'.cell? ⟨rb, 6, none⟩ = some (.int .u8 0) ∧ w'.cell? ⟨rb, 7, none⟩ = some (.bool false) ∧ w'.cell? ⟨rb, 8, none⟩ = some (.slice none 0 0) ∧ w'.cell? ⟨g, off + i * 5, none⟩ = some (.int .u8 bh)) (first | with_reducible exact ⟨x0_0, x0_1, x0_2, x0_3, x0_4, x0_5, x0_6, x0_7, x0_8, c0⟩ | with_reducible exact ⟨cellDr x0_0, cellDr x0_1, cellDr x0_2, cellDr x0_3, cellDr x0_4, cellDr x0_5, cellDr x0_6, cellDr x0_7, cellDr x0_8, cellDr c0⟩ | (go_keep; done)) (first | (go_at_call 13; rw [HWR.out]; (with_reducible refine (HOB.out _ (by repeat' (first | with_reducible exact Keeps.refl _ _ | with_reducible assumption | with_reducible refine Keeps.drewN ?_ _ | with_reducible refine Keeps.drew ?_ | with_reducible refine Keeps.alloc ?_ _))).mono ?_); rintro e w8 ⟨rfl, k8⟩; have kk8 : Keeps No w7 w8 := Keeps.trans (by repeat' (first | with_reducible exact Keeps.refl _ _ | with_reducible assumption | with_reducible refine Keeps.drewN ?_ _ | with_reducible refine Keeps.drew ?_ | with_reducible refine Keeps.alloc ?_ _)) k8; have HO8 := hid (HO7.out.keep (S := No) kk8 (fun _ _ h => h)); have HR8 := hid (HR7.out.kept kk8); have HK8 := hid (HK7.out.trans kk8); have c0 := HK8.out.cell (fun h => h) HC0.out; have x0_0 := HR8.out.cell 0 rfl; have x0_1 := HR8.out.cell 1 rfl; have x0_2 := HR8.out.cell 2 rfl; have x0_3 := HR8.out.cell 3 rfl; have x0_4 := HR8.out.cell 4 rfl; have x0_5 := HR8.out.cell 5 rfl; have x0_6 := HR8.out.cell 6 rfl; have x0_7 := HR8.out.cell 7 rfl; have x0_8 := HR8.out.cell 8 rfl; clear k8 kk8)) | fail
      clear HO7 HR7 HK7 HOB HC HC0 c0 x0_0 x0_1 x0_2 x0_3 x0_4 x0_5 x0_6 x0_7 x0_8
      have hob2 : o1 = false ∨ (o1 = true ∧ o2 = false) := by cases o1 <;> cases o2 <;> simp_all
      clear hob
      rcases hob2 with rfl | ⟨rfl, rfl⟩
      all_goals
        go_wp2_with fail
        go_roundw
        case rel => exact ⟨i + 1, l7, F7, by omega, by go_num, HLL7, HLA7, HO8, HF7, HX7, HR8, HK8⟩
        case measure => simp [intOf]; omega
    · obtain rfl : i = N := by omega
      go_wp2_with fail
      go_ret
      exact ⟨rfl, HK.out.toBelow⟩

theorem own : ownKnob Try.prog.godebug = none := by kernel_rfl
theorem laidOut : laidOutB Try.prog = true := by kernel_rfl
set_option maxRecDepth 100000 in
theorem lifted (os : Os) (started : os.Started) (H : Type) (enc : TypeId × Value → H) :
    ReturnsInHanded {} Try.checked os 4 .any (Rows.taskApartSpec.pre6 enc Try.prog Try.f4 Rows.taskApartRow.domain false) (Rows.taskApartSpec.post enc Try.prog Try.f4 false true false false) := by
  refine returnsInHanded_of_change (C := Try.checked) own started (by kernel_rfl) Try.func4
    (ChangeSpec.witness6 (enc := enc) (C := Try.checked) false ⟨#[], #[.int .u8 0, .int .u8 0, .int .i16 0, .int .u8 0, .int .u8 0, .slice none 0 0], []⟩ 8 (by kernel_rfl) (by kernel_rfl) (by kernel_rfl) (by kernel_rfl)) ?_
  intro W base args ds gs before hval0 hW hcnd _
  have hval : ∀ (j : Nat) t v, Try.f4.params[j]? = some t → args[j]? = some v → Value.okWide Try.prog W .any base t v := hval0
  have hW' := hW
  obtain ⟨p, q, hA0, hV, rfl, hfz, hnd⟩ := hW
  have hA : DataW.TrodAll enc Try.prog W 0 (fun _ => true) true Try.f4.params.toList args.toList ds p := hA0
  rw [Try.params4] at hA hval
  obtain ⟨v0, vs0, d0, ds0, p0, q0, hargs, rfl, rfl, h0, r0⟩ := trodAll_cons hA
  obtain ⟨v1, vs1, d1, ds1, p1, q1, rfl, rfl, rfl, h1, r1⟩ := trodAll_cons r0
  obtain ⟨v2, vs2, d2, ds2, p2, q2, rfl, rfl, rfl, h2, r2⟩ := trodAll_cons r1
  obtain ⟨v3, vs3, d3, ds3, p3, q3, rfl, rfl, rfl, h3, r3⟩ := trodAll_cons r2
  obtain ⟨v4, vs4, d4, ds4, p4, q4, rfl, rfl, rfl, h4, r4⟩ := trodAll_cons r3
  obtain ⟨v5, vs5, d5, ds5, p5, q5, rfl, rfl, rfl, h5, r5⟩ := trodAll_cons r4
  obtain ⟨rfl, rfl, rfl⟩ := trodAll_nil r5
  obtain rfl : args = #[v0, v1, v2, v3, v4, v5] := by cases args; simp_all
  obtain ⟨rfl, rfl⟩ := trodVars_none hV
  have k0 := h0
  have lt0 : ∀ x ∈ p0, x.block < W.heap.size := by obtain ⟨m, hm⟩ := k0; exact DataW.trod_lt m _ _ _ hm
  have k1 := h1
  have lt1 : ∀ x ∈ p1, x.block < W.heap.size := by obtain ⟨m, hm⟩ := k1; exact DataW.trod_lt m _ _ _ hm
  have k2 := h2
  have lt2 : ∀ x ∈ p2, x.block < W.heap.size := by obtain ⟨m, hm⟩ := k2; exact DataW.trod_lt m _ _ _ hm
  have k3 := h3
  have lt3 : ∀ x ∈ p3, x.block < W.heap.size := by obtain ⟨m, hm⟩ := k3; exact DataW.trod_lt m _ _ _ hm
  have k4 := h4
  have lt4 : ∀ x ∈ p4, x.block < W.heap.size := by obtain ⟨m, hm⟩ := k4; exact DataW.trod_lt m _ _ _ hm
  have k5 := h5
  have lt5 : ∀ x ∈ p5, x.block < W.heap.size := by obtain ⟨m, hm⟩ := k5; exact DataW.trod_lt m _ _ _ hm
  obtain ⟨a0, rfl, rfl, rfl, w0⟩ := open_int Try.underlying5 (hval 0 5 v0 rfl rfl) h0
  obtain ⟨a1, rfl, rfl, rfl, w1⟩ := open_int Try.underlying5 (hval 1 5 v1 rfl rfl) h1
  obtain ⟨a2, rfl, rfl, rfl, w2⟩ := open_int Try.underlying22 (hval 2 22 v2 rfl rfl) h2
  obtain ⟨a3, rfl, rfl, rfl, w3⟩ := open_int Try.underlying5 (hval 3 5 v3 rfl rfl) h3
  obtain ⟨a4, rfl, rfl, rfl, w4⟩ := open_int Try.underlying5 (hval 4 5 v4 rfl rfl) h4
  obtain ⟨s5, len5, cap5, rfl⟩ := okWide_slice Try.underlying23 (hval 5 23 v5 rfl rfl)
  obtain ⟨l5, rfl, w5, b5⟩ := argSlice (encE := encComeT) (good := goodComeT) (size := 5) (fun _ => rfl) (by decide) Try.underlying23 (by kernel_rfl) (fun n cs x hx => decComeT hx) h5
  clear hA0 hval0
  refine (walk W a0 w0 a1 w1 a2 w2 a3 w3 a4 w4 s5 cap5 l5 w5 b5).mono fun e W' ⟨he, bel⟩ => ?_
  subst he
  exact ⟨_, rfl, _, _, _, [], _, [], hW', trodAll_mk1 (shut_bool Try.underlying4 _), (trodAll_cons_mk (Below.trod laidOut (by kernel_rfl) (of_decide_eq_true (by kernel_rfl)) k0 bel lt0) (trodAll_cons_mk (Below.trod laidOut (by kernel_rfl) (of_decide_eq_true (by kernel_rfl)) k1 bel lt1) (trodAll_cons_mk (Below.trod laidOut (by kernel_rfl) (of_decide_eq_true (by kernel_rfl)) k2 bel lt2) (trodAll_cons_mk (Below.trod laidOut (by kernel_rfl) (of_decide_eq_true (by kernel_rfl)) k3 bel lt3) (trodAll_cons_mk (Below.trod laidOut (by kernel_rfl) (of_decide_eq_true (by kernel_rfl)) k4 bel lt4) (trodAll_cons_mk (Below.trod laidOut (by kernel_rfl) (of_decide_eq_true (by kernel_rfl)) k5 bel lt5) trodAll_mk0)))))), rfl, bel.frame _, fun h => by cases h⟩

theorem over : Rows.taskApartRow.holds Try.pinned (OpenSpec.ofChange Rows.taskApartSpec) :=
  OpenClaim.holds_of_wide 4 Try.f4 rfl rfl rfl rfl rfl rfl rfl ⟨rfl, rfl, rfl, rfl, rfl⟩ rfl rfl rfl rfl rfl (by kernel_rfl) Try.func4 (by kernel_rfl)
    (of_decide_eq_true (by kernel_rfl)) (by unfold Func.isWrapper; first | (rw [if_pos (by decide +kernel)]; kernel_rfl) | (rw [if_neg (by decide +kernel)]; exact ⟨rfl, rfl⟩))
    (fun os started H enc _ => lifted os started H enc)

theorem proved : Rows.TaskApartSaid := over
#print axioms proved
end Go.Proofs.Ytboalfajghkajaa.taskApart
