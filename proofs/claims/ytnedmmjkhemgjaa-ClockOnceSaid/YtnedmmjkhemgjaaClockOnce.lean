/- Each timer is due once, and none ahead of its time. No conditions. -/
import Derived.Test.YtnedmmjkhemgjaaRows
import Derived.Test.YtnedmmjkhemgjaaArgs
import Derived.Test.YtnedmmjkhemgjaaOnce
import Derived.BigQuiet
import Derived.ProofKit
import Derived.OpenShut
namespace Go.Proofs.Ytnedmmjkhemgjaa.clockOnce
open Go.ChangeShapes Go.WideShapes Go.ChangeAt Go.RowKit
open Go.ChangeMaps (open_string shut_string)
set_option linter.unusedVariables false

set_option maxHeartbeats 4000000 in
set_option maxRecDepth 100000 in
theorem walk (w : World) (s : Option Addr) (cap : Nat) (l : List Int) (hs : SlI w (.slice s l.length cap) l) (hb : ∀ n ∈ l, (Lit.int .i64 n).wf = true) (now : Int) (wnow : (Lit.int .i64 now).wf = true) :
    Calls Try.prog 4 #[.slice s l.length cap, .int .i64 now] w fun e w' => e = .returned (.bool true) ∧ Below w.heap.size w w' := by
  have HS := hid hs
  have HB : Hid (∀ (i : Nat) (h : i < l.length), I64 l[i]) := hid (fun i h => bounds_i64 (hb _ (List.getElem_mem h)))
  clear hs hb wnow
  by_cases hl : 60 < l.length
  · have hd : decide ((l.length : Int) > 60) = true := decide_eq_true (by omega)
    go_enter Try.func4, Try.ntmps4
    go_wp2_with fail
    refine (dues_true _).mono ?_
    rintro e w1 ⟨rfl, k1⟩
    have K1 := hid k1
    clear k1
    go_wp2_with fail
    refine (dues_true _).mono ?_
    rintro e w2 ⟨rfl, k2⟩
    have K2 := hid (K1.out.trans k2)
    clear k2
    go_wp2_with fail
    go_ret
    exact ⟨rfl, K2.out.toBelow⟩
  · have hd : decide ((l.length : Int) > 60) = false := decide_eq_false (by omega)
    go_enter Try.func4, Try.ntmps4
    go_wp2_with fail
    refine (dues_true _).mono ?_
    rintro e w1 ⟨rfl, k1⟩
    have K1 := hid k1
    clear k1 hd
    go_wp2_with fail
    refine (wnew_any _).mono ?_
    rintro e w2 ⟨b, F0, rfl, h2, k2, n2⟩
    have K2 := hid (K1.out.trans k2)
    have H2 := hid h2
    have N2 : Hid (∀ i, F0 i → w.heap.size ≤ i) := hid (fun i hi => Nat.le_trans K1.out.size (n2 i hi))
    clear h2 k2 n2
    go_wp2_with fail
    go_loopw [6, 7] (fun v6 v7 wr => ∃ (i c : Nat) (F : Nat → Prop), i ≤ l.length ∧ c ≤ i ∧ v7 = .int .i64 i ∧ v6 = .int .i64 c ∧ Hid (c = (l.take i).countP (fun t => decide (t ≤ now))) ∧ Hid (Whl wr b F i (tl l i)) ∧ Hid (∀ i, F i → w.heap.size ≤ i) ∧ Hid (Keeps No w wr)) (fun _ v7 _ => l.length - (intOf v7).toNat)
    case atStart => exact ⟨0, 0, F0, Nat.zero_le _, Nat.le_refl _, rfl, rfl, hid (by simp), H2, N2, K2⟩
    case round =>
      clear H2 N2 K2 K1
      obtain ⟨i, c, F, hi, hci, rfl, rfl, HCN, HW, HN, HK⟩ := hrel
      by_cases hlt : i < l.length
      · have hdl : decide ((i : Int) < (l.length : Int)) = true := decide_eq_true (by omega)
        obtain ⟨g, off, hg, hgl, hc0⟩ := SlI.cellAt HS.out hlt
        obtain ⟨t, ht⟩ : ∃ t, l[i] = t := ⟨_, rfl⟩
        have HT : Hid (I64 t) := hid (by rw [← ht]; exact HB.out i hlt)
        have HTK : Hid (l.take (i + 1) = l.take i ++ [t]) := hid (by rw [List.take_succ_eq_append_getElem hlt, ht])
        have HTL : Hid (stopT (tl l i) (i : Int) ++ [((i : Int), t)] = tl l (i + 1)) := hid (by rw [tl_stop, tl_succ l i hlt, ht])
        rw [ht] at hc0
        have HC0 := hid hc0
        subst hg
        have c0 := HK.out.cell (fun h => h) hc0
        clear ht hc0
        go_wp2_with fail
        with_reducible refine (wset_any HW.out (by omega) (by unfold I64; omega) HT.out).mono ?_
        rintro e w3 ⟨rfl, F1, h3, u3⟩
        rw [HTL.out] at h3
        have hnk := newUpd HN.out HK.out u3
        have H3 := hid h3
        have N3 := hid hnk.1
        have K3 := hid hnk.2
        have c1 := K3.out.cell (fun h => h) HC0.out
        clear h3 u3 hnk HW HN HK c0
        by_cases htn : t ≤ now
        · have hdn : decide (t ≤ now) = true := decide_eq_true htn
          go_wp2_with fail
          go_roundw
          case rel => exact ⟨i + 1, c + 1, F1, by omega, by omega, by go_num, by go_num, hid (by rw [HTK.out, List.countP_append, ← HCN.out]; simp [htn]), H3, N3, K3⟩
          case measure => simp [intOf]; omega
        · have hdn : decide (t ≤ now) = false := decide_eq_false htn
          go_wp2_with fail
          go_roundw
          case rel => exact ⟨i + 1, c, F1, by omega, by omega, by go_num, by go_num, hid (by rw [HTK.out, List.countP_append, ← HCN.out]; simp [htn]), H3, N3, K3⟩
          case measure => simp [intOf]; omega
      · have hdl : decide ((i : Int) < (l.length : Int)) = false := decide_eq_false (by omega)
        obtain rfl : i = l.length := by omega
        have HND := hid HW.out.rng.1
        have HCL : Hid (c = (tl l l.length).countP (fun p => decide (p.2 ≤ now))) := hid (by rw [tl_count now l _ (Nat.le_refl _)]; exact HCN.out)
        clear hlt hi HCN
        go_wp2_with fail
        with_reducible refine (wdue_any now HW.out (by omega)).mono ?_
        rintro e w3 ⟨v, rfl, xs, hd⟩
        have hdd := due_drop HND.out (ordered_nodup hd.ordered) hd.iff
        have HLX : Hid (xs.length = c) := hid (hdd.2.trans HCL.out.symm)
        have HDD := hid hdd.1
        have HLL : Hid ((dropT (tl l l.length) xs).length + c = l.length) := hid (by rw [hdd.1, HCL.out]; exact left_len.trans (tl_len l _))
        have HO := hid hd.ordered
        have HX : Hid (∀ x ∈ xs, ∃ X : Nat, X < l.length ∧ x = (X : Int) ∧ tmOf (tl l l.length) x = l[X]! ∧ l[X]! ≤ now) := hid (fun x hx => by
          obtain ⟨h1, h2⟩ := (hd.iff x).1 hx
          obtain ⟨X, hX, rfl⟩ := (tl_ids l _ x).1 h1
          have h3 := tl_at l HND.out hX
          exact ⟨X, hX, rfl, h3, by rw [← h3]; exact h2⟩)
        have hK3 : Keeps No w w3 := HK.out.trans' hd.keeps (fun _ _ h => h) (fun b hb e => by have := HN.out b e; omega)
        have K3 := hid hK3
        have HXS : Hid (SlI w3 v xs) := hid (by simpa [SlI] using Sl.ofOwn hd.row)
        have HW3 := hid hd.wheel
        obtain ⟨xa, xc, rfl⟩ := HXS.out.any
        clear hdd hd hK3 HK HW HCL
        go_wp2_with fail
        go_loopw [9] (fun v9 wr => ∃ i : Nat, i ≤ xs.length ∧ v9 = .int .i64 i ∧ Hid (∃ q, wr = w3.drewN q)) (fun v9 _ => xs.length - (intOf v9).toNat)
        case atStart => exact ⟨0, Nat.zero_le _, rfl, hid ⟨0, rfl⟩⟩
        case round =>
          obtain ⟨i, hi, rfl, HQ⟩ := hrel
          obtain ⟨q0, rfl⟩ := HQ.out
          have hll : l.length ≤ 60 := by omega
          have hxl : xs.length ≤ 60 := by have := HLX.out; omega
          by_cases hlt : i < xs.length
          · have hdi : decide ((i : Int) < (xs.length : Int)) = true := decide_eq_true (by omega)
            obtain ⟨xg, xoff, hxa, _, hcx⟩ := SlI.cellAt HXS.out hlt
            subst hxa
            obtain ⟨X, hX, hxe, hxt, hxn⟩ := HX.out _ (List.getElem_mem hlt)
            obtain ⟨g, off, hg, hgl, hcl⟩ := SlI.cellAt HS.out hX
            subst hg
            have c1 := hcx
            have c2 := (K3.out.cell (fun h => h) hcl)
            rw [hxe] at c1
            rw [getElem!_pos l X hX] at hxt hxn
            obtain ⟨tX, htX⟩ : ∃ t, l[X] = t := ⟨_, rfl⟩
            rw [htX] at c2 hxt hxn
            have g1 : decide ((X : Int) < 0) = false := decide_eq_false (by omega)
            have g2 : decide ((X : Int) ≥ (l.length : Int)) = false := decide_eq_false (by omega)
            have g2n : decide (l.length ≤ X) = false := decide_eq_false (by omega)
            have g3 : decide (tX > now) = false := decide_eq_false (by omega)
            have g3n : decide (now < tX) = false := decide_eq_false (by omega)
            clear hcx hcl htX
            by_cases hz : 0 < i
            · have ejj : ((i : Int) - 1) = ((i - 1 : Nat) : Int) := by omega
              obtain ⟨j, hj⟩ : ∃ q : Nat, i - 1 = q := ⟨_, rfl⟩
              rw [hj] at ejj
              have g4 : decide ((i : Int) > 0) = true := decide_eq_true (by omega)
              have g4n : decide (0 < i) = true := decide_eq_true (by omega)
              have hjx : j < xs.length := by omega
              have hji : j < i := by omega
              obtain ⟨xg2, xoff2, hxa2, _, hcy⟩ := SlI.cellAt HXS.out hjx
              obtain ⟨Y, hY, hye, hyt, hyn⟩ := HX.out _ (List.getElem_mem hjx)
              obtain ⟨g', off', hg', _, hcl'⟩ := SlI.cellAt HS.out hY
              have ea : xg = xg2 ∧ xoff = xoff2 := by simpa using hxa2
              have eb : g = g' ∧ off = off' := by simpa using hg'
              obtain ⟨rfl, rfl⟩ := ea
              obtain ⟨rfl, rfl⟩ := eb
              have c3 := hcy
              have c4 := (K3.out.cell (fun h => h) hcl')
              rw [hye] at c3
              rw [getElem!_pos l Y hY] at hyt hyn
              obtain ⟨tY, htY⟩ : ∃ t, l[Y] = t := ⟨_, rfl⟩
              rw [htY] at c4 hyt hyn
              have ho := (ltT_iff _ _ _).1 (List.pairwise_iff_getElem.1 HO.out j i hjx hlt hji)
              rw [hxt, hyt, hxe, hye] at ho
              clear hxe hxt hxn hye hyt hyn hcy hcl' htY hxa2 hg' hj hz
              rcases ho with ho | ⟨ho1, ho2⟩
              · have g5 : decide (tY > tX) = false := decide_eq_false (by omega)
                have g5n : decide (tX < tY) = false := decide_eq_false (by omega)
                have g6 : decide (tY = tX) = false := decide_eq_false (by omega)
                have g7 : (tY == tX) = false := by simp; omega
                go_wp2_with fail
                simp only [List.append_eq, List.cons_append, List.nil_append]
                go_big_quiet (fail)
                go_wp2_with fail
                go_roundw
                case rel => exact ⟨i + 1, by omega, by go_num, hid ⟨_, rfl⟩⟩
                case measure => simp [intOf]; omega
              · subst ho1
                have g5 : decide (tY > tY) = false := decide_eq_false (by omega)
                have g8 : decide ((Y : Int) ≥ (X : Int)) = false := decide_eq_false (by omega)
                have g8n : decide (X ≤ Y) = false := decide_eq_false (by omega)
                have g5n : decide (tY < tY) = false := decide_eq_false (by omega)
                go_wp2_with fail
                simp only [List.append_eq, List.cons_append, List.nil_append]
                go_big_quiet (fail)
                go_wp2_with fail
                go_roundw
                case rel => exact ⟨i + 1, by omega, by go_num, hid ⟨_, rfl⟩⟩
                case measure => simp [intOf]; omega
            · have g4 : decide ((i : Int) > 0) = false := decide_eq_false (by omega)
              have g4n : decide (0 < i) = false := decide_eq_false (by omega)
              clear hxe hxt hxn hz
              go_wp2_with fail
              simp only [List.append_eq, List.cons_append, List.nil_append]
              go_big_quiet (fail)
              go_wp2_with fail
              go_roundw
              case rel => exact ⟨i + 1, by omega, by go_num, hid ⟨_, rfl⟩⟩
              case measure => simp [intOf]; omega
          · have hdi : decide ((i : Int) < (xs.length : Int)) = false := decide_eq_false (by omega)
            have hc2 := HLX.out
            subst hc2
            have HW4 := hid (HW3.out.kept ((Keeps.refl No w3).drewN q0))
            have K4 := hid (K3.out.drewN q0)
            clear HQ HLX
            go_wp2_with fail
            with_reducible refine (wdue_any now HW4.out (by omega)).mono ?_
            rintro e w5 ⟨v2, rfl, ys, hd2⟩
            have hys := due_none HND.out HDD.out hd2.iff
            subst hys
            have K5 : Hid (Keeps No w w5) := hid (K4.out.trans' hd2.keeps (fun _ _ h => h) (fun b hb e => by have := HN.out b e; omega))
            have HV2 : Hid (SlI w5 v2 []) := hid (by simpa [SlI] using Sl.ofOwn hd2.row)
            have HW5 := hid hd2.wheel
            rw [dropT_nil] at HW5
            obtain ⟨ya, yc, rfl⟩ := HV2.out.any
            clear hd2 HW4 K4 K3 HW3
            go_wp2_with fail
            with_reducible refine (wlen_any HW5.out).mono ?_
            rintro e w6 ⟨rfl, k6⟩
            have K6 := hid (K5.out.trans k6)
            have hfin : (((dropT (tl l l.length) xs).length : Int) == (l.length : Int) - (xs.length : Int)) = true := by have := HLL.out; simp; omega
            have hfin2 : decide (((dropT (tl l l.length) xs).length : Int) = (l.length : Int) - (xs.length : Int)) = true := decide_eq_true (by have := HLL.out; omega)
            obtain ⟨dl, hdl2⟩ : ∃ q : Nat, (dropT (tl l l.length) xs).length = q := ⟨_, rfl⟩
            rw [hdl2] at hfin hfin2 ⊢
            clear hdl2 k6
            go_wp2_with fail
            go_ret
            exact ⟨rfl, K6.out.toBelow⟩

theorem own : ownKnob Try.prog.godebug = none := by kernel_rfl
theorem laidOut : laidOutB Try.prog = true := by kernel_rfl
set_option maxRecDepth 100000 in
theorem lifted (os : Os) (started : os.Started) (H : Type) (enc : TypeId × Value → H) :
    ReturnsInHanded {} Try.checked os 4 .any (Rows.clockOnceSpec.pre6 enc Try.prog Try.f4 Rows.clockOnceRow.domain false) (Rows.clockOnceSpec.post enc Try.prog Try.f4 false true false false) := by
  refine returnsInHanded_of_change (C := Try.checked) own started (by kernel_rfl) Try.func4
    (ChangeSpec.witness6 (enc := enc) (C := Try.checked) false ⟨#[], #[.slice none 0 0, .int .i64 0], []⟩ 8 (by kernel_rfl) (by kernel_rfl) (by kernel_rfl) (by kernel_rfl)) ?_
  intro W base args ds gs before hval0 hW hcnd _
  have hval : ∀ (j : Nat) t v, Try.f4.params[j]? = some t → args[j]? = some v → Value.okWide Try.prog W .any base t v := hval0
  have hW' := hW
  obtain ⟨p, q, hA0, hV, rfl, hfz, hnd⟩ := hW
  have hA : DataW.TrodAll enc Try.prog W 0 (fun _ => true) true Try.f4.params.toList args.toList ds p := hA0
  rw [Try.params4] at hA hval
  obtain ⟨v0, vs0, d0, ds0, p0, q0, hargs, rfl, rfl, h0, r0⟩ := trodAll_cons hA
  obtain ⟨v1, vs1, d1, ds1, p1, q1, rfl, rfl, rfl, h1, r1⟩ := trodAll_cons r0
  obtain ⟨rfl, rfl, rfl⟩ := trodAll_nil r1
  obtain rfl : args = #[v0, v1] := by cases args; simp_all
  obtain ⟨rfl, rfl⟩ := trodVars_none hV
  have k0 := h0
  have lt0 : ∀ x ∈ p0, x.block < W.heap.size := by obtain ⟨m, hm⟩ := k0; exact DataW.trod_lt m _ _ _ hm
  have k1 := h1
  have lt1 : ∀ x ∈ p1, x.block < W.heap.size := by obtain ⟨m, hm⟩ := k1; exact DataW.trod_lt m _ _ _ hm
  obtain ⟨s0, len0, cap0, rfl⟩ := okWide_slice Try.underlying44 (hval 0 44 v0 rfl rfl)
  obtain ⟨l0, rfl, w0, b0⟩ := argInts .i64 Try.underlying44 Try.underlying2 (by kernel_rfl) h0
  obtain ⟨a1, rfl, rfl, rfl, w1⟩ := open_int Try.underlying2 (hval 1 2 v1 rfl rfl) h1
  clear hA0 hval0
  refine (walk W s0 cap0 l0 w0 b0 a1 w1).mono fun e W' ⟨he, bel⟩ => ?_
  subst he
  exact ⟨_, rfl, _, _, _, [], _, [], hW', trodAll_mk1 (shut_bool Try.underlying4 _), (trodAll_cons_mk (Below.trod laidOut (by kernel_rfl) (of_decide_eq_true (by kernel_rfl)) k0 bel lt0) (trodAll_cons_mk (Below.trod laidOut (by kernel_rfl) (of_decide_eq_true (by kernel_rfl)) k1 bel lt1) trodAll_mk0)), rfl, bel.frame _, fun h => by cases h⟩

theorem over : Rows.clockOnceRow.holds Try.pinned (OpenSpec.ofChange Rows.clockOnceSpec) :=
  OpenClaim.holds_of_wide 4 Try.f4 rfl rfl rfl rfl rfl rfl rfl ⟨rfl, rfl, rfl, rfl, rfl⟩ rfl rfl rfl rfl rfl (by kernel_rfl) Try.func4 (by kernel_rfl)
    (of_decide_eq_true (by kernel_rfl)) (by unfold Func.isWrapper; first | (rw [if_pos (by decide +kernel)]; kernel_rfl) | (rw [if_neg (by decide +kernel)]; exact ⟨rfl, rfl⟩))
    (fun os started H enc _ => lifted os started H enc)

theorem proved : Rows.ClockOnceSaid := over
#print axioms proved
end Go.Proofs.Ytnedmmjkhemgjaa.clockOnce
