/- A value that may not be neither brings a limit's condition nor ends it. No conditions. -/
import Derived.Test.YtboalfajghkajaaRows
import Derived.Test.YtboalfajghkajaaArgs
import Derived.Test.YtboalfajghkajaaTaskK
import Derived.Test.YtboalfajghkajaaBlk
import Derived.ProofKit
import Derived.OpenShut
import Derived.Deep.DeepCutAuto
import Derived.Deep.CutBlock
namespace Go.Proofs.Ytboalfajghkajaa.taskHolds
open Go.ChangeShapes Go.WideShapes Go.ChangeAt Go.RowKit
open Go.ChangeMaps (open_string shut_string)
set_option linter.unusedVariables false

theorem obs_bad (l : List SeenD) (x : SeenD) (hx : x.sig = 0) (hb : x.bad = true) (lim : Int) (now : Int) : obsD 1 0 lim lim 0 (l ++ [x]) now = (false, false) := by
  have hbad : badD (l ++ [x]) 0 = true := by
    unfold badD lastE
    have : (l ++ [x]).filter (fun x => x.sig == 0) = l.filter (fun x => x.sig == 0) ++ [x] := by
      rw [List.filter_append]; congr 1; simp [List.filter, hx]
    rw [this, List.getLast?_append]
    simp [hb]
  unfold obsD obsV
  rw [if_pos (by decide), hbad]
  cases valueD (l ++ [x]) 0 <;> rfl

theorem obs_first (lim : Int) (on : Bool) : obsD 1 0 lim lim 0 [⟨1, 0, 0, (if on then lim + 1 else lim), false⟩] 1 = (on, !on) := by
  unfold obsD obsV
  rw [if_pos (by decide)]
  show (if false = true then _ else crossD 1 lim lim (if on then lim + 1 else lim)) = _
  rw [if_neg (by decide)]
  unfold crossD
  rw [if_pos rfl]
  cases on <;> simp <;> omega

set_option maxHeartbeats 8000000 in
set_option maxRecDepth 100000 in
theorem walk (w : World) (lim : Int) (wl : (Lit.int .i16 lim).wf = true) (on : Bool) (s0 : Option Addr) (cap : Nat) (q : List Int) (hs : Sl w 1 (.slice s0 q.length cap) q.length (q.map (.int .i16 ·))) (hq : ∀ x ∈ q, (Lit.int .i16 x).wf = true) :
    Calls Try.prog 6 #[.int .i16 lim, .bool on, .slice s0 q.length cap] w fun e w' => e = .returned (.bool true) ∧ Below w.heap.size w w' := by
  obtain ⟨N, hN⟩ : ∃ N, q.length = N := ⟨_, rfl⟩
  rw [hN] at hs ⊢
  have HS := hid hs
  have HQ := hid hq
  have HN := hid hN
  clear hs hq hN
  obtain ⟨l0, l1⟩ := bounds_i16 wl
  clear wl
  by_cases hbig : 30 < N
  · have hd : decide ((N : Int) > 30) = true := decide_eq_true (by omega)
    go_enter Try.func6, Try.ntmps6
    go_wp2_with fail
    refine (bad_true _).mono ?_
    rintro e w1 ⟨rfl, k1⟩
    have K1 := hid k1
    clear k1
    go_wp2_with fail
    refine (bad_true _).mono ?_
    rintro e w2 ⟨rfl, k2⟩
    have K2 := hid (K1.out.trans k2)
    clear k2
    go_wp2_with fail
    go_ret
    exact ⟨rfl, K2.out.toBelow⟩
  have hd : decide ((N : Int) > 30) = false := decide_eq_false (by omega)
  go_enter Try.func6, Try.ntmps6
  go_wp2_with fail
  refine (bad_true _).mono ?_
  rintro e w1 ⟨rfl, k1⟩
  have K1 := hid k1
  clear k1 hd
  go_wp2_with fail
  refine (tnew_any 1 0 lim lim 0 0 _ _ _ _).mono ?_
  rintro e w2 ⟨tb, rfl, ht, hb, k⟩
  have k2 : Keeps No w w2 := Keeps.trans (by have hk := K1.out; repeat' (first | with_reducible exact Keeps.refl _ _ | with_reducible assumption | with_reducible refine Keeps.drewN ?_ _ | with_reducible refine Keeps.drew ?_ | with_reducible refine Keeps.alloc ?_ _)) k
  have HT := hid hb
  have HK2 := hid k2
  have HTB : Hid (w.heap.size ≤ tb) := hid (by have := K1.out.size; simp at ht; omega)
  clear ht hb k k2 K1
  go_wp2_with fail
  refine (cnew_any 1 _ ⟨by decide, by decide⟩).mono ?_
  rintro e w4 ⟨sb, F, rfl, h4, k4, n4⟩
  have e4 : clampS 1 = 1 := rfl
  rw [e4] at h4
  have T4 : Hid (TSt w w4 sb tb F 1 [] 1 0 lim lim 0 0 (.int .u8 0) (.bool false) (.slice none 0 0) ⟨false, false, 0⟩) := hid ⟨h4, HT.out.kept k4, fun i hi => Nat.le_trans HK2.out.size (n4 i hi), HTB.out, fun h => by have := n4 _ h; have := HT.out.lt; omega, HK2.out.trans k4⟩
  clear h4 k4 n4 e4 HT HK2 HTB
  go_upto_if 30 with fail
  go_cut [10] from 30 to 33 (fun v10 wx => v10 = .int .i64 (if on then lim + 1 else lim) ∧ Hid (w4 = wx))
  case first =>
    cases on
    · go_wp2_with fail
      go_meet
      exact ⟨rfl, hid rfl⟩
    · go_wp2_with fail
      go_meet
      exact ⟨rfl, hid rfl⟩
  case rest =>
  obtain ⟨rfl, HWX⟩ := hcut
  have hwx := HWX.out
  subst hwx
  clear HWX
  have ho := obs_first lim on
  obtain ⟨v, hv⟩ : ∃ v : Int, (if on then lim + 1 else lim) = v := ⟨_, rfl⟩
  rw [hv] at ho ⊢
  have HO := hid ho
  clear ho hv
  go_wp2_with fail
  refine (tsput_any T4.out ⟨1, 0, 0, v, false⟩ (by simp) ⟨by show _ ≤ (1 : Int); decide, by show (1 : Int) ≤ _; decide⟩ (fun y hy => by simp at hy)).mono ?_
  rintro e w5 ⟨rfl, F5, h5, u5⟩
  have e5 : takes 1 ⟨1, 0, 0, v, false⟩ = true := rfl
  rw [e5] at h5 ⊢
  rw [if_pos rfl] at h5
  have T5 : Hid (TSt w w5 sb tb F5 1 [⟨1, 0, 0, v, false⟩] 1 0 lim lim 0 0 (.int .u8 0) (.bool false) (.slice none 0 0) ⟨false, false, 0⟩) := hid h5
  clear h5 u5 e5 T4
  go_wp2_with fail
  refine (tsrun_any T5.out 1 ⟨by decide, by decide⟩ ⟨by decide, by decide⟩ ⟨by decide, by decide⟩ (g2 := ⟨on, false, 0⟩) (by rw [HO.out]; cases on <;> rfl)).mono ?_
  rintro e w6 ⟨rfl, h6, k6⟩
  have T6 := hid h6
  clear h6 k6 T5 HO
  go_wp2_with fail
  go_loopw [11] (fun v11 wr => ∃ (i : Nat) (l : List SeenD) (F : Nat → Prop), i ≤ N ∧ v11 = .int .i64 i ∧ Hid (l.length ≤ 50 + i) ∧ Hid (∀ y ∈ l, y.at_ ≤ 1 + (i : Int)) ∧ Hid (TSt w wr sb tb F 1 l 1 0 lim lim 0 0 (.int .u8 0) (.bool false) (.slice none 0 0) ⟨on, false, 0⟩)) (fun v11 _ => N - (intOf v11).toNat)
  case atStart => exact ⟨0, [⟨1, 0, 0, v, false⟩], F5, Nat.zero_le _, rfl, hid (by simp), hid (fun y hy => by simp at hy; subst hy; show (1 : Int) ≤ _; omega), T6⟩
  case round =>
    clear T6
    obtain ⟨i, l, F, hi, rfl, HLL, HLA, T⟩ := hrel
    by_cases hlt : i < N
    · have hil : i < q.length := by rw [HN.out]; exact hlt
      obtain ⟨x, hx⟩ : ∃ x, q[i] = x := ⟨_, rfl⟩
      obtain ⟨x0, x1⟩ := bounds_i16 (show (Lit.int .i16 x).wf = true from by have := HQ.out _ (List.getElem_mem hil); rw [hx] at this; exact this)
      obtain ⟨g, off, rfl, _, hc⟩ := Sl.cellAt (j := i) (u := .int .i16 x) HS.out (by rw [List.getElem?_map, List.getElem?_eq_getElem hil, hx]; rfl)
      have c0 := T.out.keeps.cell (fun h => h) hc
      have HP := hid (tsput_any T.out ⟨2 + (i : Int), 0, 0, x, true⟩ (by have := HLL.out; omega) ⟨by show _ ≤ 2 + (i : Int); omega, by show 2 + (i : Int) ≤ _; omega⟩ (fun y hy => by have := HLA.out y hy; show y.at_ ≤ 2 + (i : Int); omega))
      clear hx hc hil
      go_wp2_with fail
      refine HP.out.mono ?_
      rintro e w7 ⟨rfl, F7, h7, u7⟩
      have e7 : takes 1 ⟨2 + (i : Int), 0, 0, x, true⟩ = true := rfl
      rw [e7] at h7 ⊢
      rw [if_pos rfl] at h7
      have T7 := hid h7
      have HLL2 : Hid ((l ++ [(⟨2 + (i : Int), 0, 0, x, true⟩ : SeenD)]).length ≤ 50 + (i + 1)) := hid (by have := HLL.out; simp; omega)
      have HLA2 : Hid (∀ y ∈ l ++ [⟨2 + (i : Int), 0, 0, x, true⟩], y.at_ ≤ 1 + ((i + 1 : Nat) : Int)) := hid (fun y hy => by
        rcases List.mem_append.1 hy with hy | hy
        · have := HLA.out y hy; omega
        · simp at hy; subst hy; show 2 + (i : Int) ≤ _; omega)
      have hob := obs_bad l ⟨2 + (i : Int), 0, 0, x, true⟩ rfl rfl lim (2 + (i : Int))
      obtain ⟨l2, hl2⟩ : ∃ l2, l ++ [(⟨2 + (i : Int), 0, 0, x, true⟩ : SeenD)] = l2 := ⟨_, rfl⟩
      rw [hl2] at T7 HLL2 HLA2 hob
      have HOB := hid hob
      have qn : (on != on) = false := by simp
      clear h7 u7 e7 T HLL HLA hob hl2 HP c0
      go_wp2_with fail
      refine (tsrun_any T7.out (2 + (i : Int)) ⟨by omega, by omega⟩ ⟨by show _ ≤ (0 : Int); decide, by show (0 : Int) ≤ _; decide⟩ ⟨by decide, by decide⟩ (g2 := ⟨on, false, 0⟩) (by rw [HOB.out]; cases on <;> rfl)).mono ?_
      rintro e w8 ⟨rfl, h8, k8⟩
      have T8 := hid h8
      clear h8 k8 T7 HOB
      go_wp2_with fail
      go_roundw
      case rel => exact ⟨i + 1, l2, F7, by omega, by go_num, HLL2, HLA2, T8⟩
      case measure => simp [intOf]; omega
    · obtain rfl : i = N := by omega
      go_wp2_with fail
      go_ret
      exact ⟨rfl, T.out.keeps.toBelow⟩

theorem own : ownKnob Try.prog.godebug = none := by kernel_rfl
theorem laidOut : laidOutB Try.prog = true := by kernel_rfl
set_option maxRecDepth 100000 in
theorem lifted (os : Os) (started : os.Started) (H : Type) (enc : TypeId × Value → H) :
    ReturnsInHanded {} Try.checked os 6 .any (Rows.taskHoldsSpec.pre6 enc Try.prog Try.f6 Rows.taskHoldsRow.domain false) (Rows.taskHoldsSpec.post enc Try.prog Try.f6 false true false false) := by
  refine returnsInHanded_of_change (C := Try.checked) own started (by kernel_rfl) Try.func6
    (ChangeSpec.witness6 (enc := enc) (C := Try.checked) false ⟨#[], #[.int .i16 0, .bool false, .slice none 0 0], []⟩ 8 (by kernel_rfl) (by kernel_rfl) (by kernel_rfl) (by kernel_rfl)) ?_
  intro W base args ds gs before hval0 hW hcnd _
  have hval : ∀ (j : Nat) t v, Try.f6.params[j]? = some t → args[j]? = some v → Value.okWide Try.prog W .any base t v := hval0
  have hW' := hW
  obtain ⟨p, q, hA0, hV, rfl, hfz, hnd⟩ := hW
  have hA : DataW.TrodAll enc Try.prog W 0 (fun _ => true) true Try.f6.params.toList args.toList ds p := hA0
  rw [Try.params6] at hA hval
  obtain ⟨v0, vs0, d0, ds0, p0, q0, hargs, rfl, rfl, h0, r0⟩ := trodAll_cons hA
  obtain ⟨v1, vs1, d1, ds1, p1, q1, rfl, rfl, rfl, h1, r1⟩ := trodAll_cons r0
  obtain ⟨v2, vs2, d2, ds2, p2, q2, rfl, rfl, rfl, h2, r2⟩ := trodAll_cons r1
  obtain ⟨rfl, rfl, rfl⟩ := trodAll_nil r2
  obtain rfl : args = #[v0, v1, v2] := by cases args; simp_all
  obtain ⟨rfl, rfl⟩ := trodVars_none hV
  have k0 := h0
  have lt0 : ∀ x ∈ p0, x.block < W.heap.size := by obtain ⟨m, hm⟩ := k0; exact DataW.trod_lt m _ _ _ hm
  have k1 := h1
  have lt1 : ∀ x ∈ p1, x.block < W.heap.size := by obtain ⟨m, hm⟩ := k1; exact DataW.trod_lt m _ _ _ hm
  have k2 := h2
  have lt2 : ∀ x ∈ p2, x.block < W.heap.size := by obtain ⟨m, hm⟩ := k2; exact DataW.trod_lt m _ _ _ hm
  obtain ⟨a0, rfl, rfl, rfl, w0⟩ := open_int Try.underlying22 (hval 0 22 v0 rfl rfl) h0
  obtain ⟨a1, rfl, rfl, rfl⟩ := open_bool Try.underlying4 (hval 1 4 v1 rfl rfl) h1
  obtain ⟨s2, len2, cap2, rfl⟩ := okWide_slice Try.underlying53 (hval 2 53 v2 rfl rfl)
  obtain ⟨l2, rfl, w2, b2⟩ := argInts .i16 Try.underlying53 Try.underlying22 (by kernel_rfl) h2
  clear hA0 hval0
  refine (walk W a0 w0 a1 s2 cap2 l2 w2 b2).mono fun e W' ⟨he, bel⟩ => ?_
  subst he
  exact ⟨_, rfl, _, _, _, [], _, [], hW', trodAll_mk1 (shut_bool Try.underlying4 _), (trodAll_cons_mk (Below.trod laidOut (by kernel_rfl) (of_decide_eq_true (by kernel_rfl)) k0 bel lt0) (trodAll_cons_mk (Below.trod laidOut (by kernel_rfl) (of_decide_eq_true (by kernel_rfl)) k1 bel lt1) (trodAll_cons_mk (Below.trod laidOut (by kernel_rfl) (of_decide_eq_true (by kernel_rfl)) k2 bel lt2) trodAll_mk0))), rfl, bel.frame _, fun h => by cases h⟩

theorem over : Rows.taskHoldsRow.holds Try.pinned (OpenSpec.ofChange Rows.taskHoldsSpec) :=
  OpenClaim.holds_of_wide 6 Try.f6 rfl rfl rfl rfl rfl rfl rfl ⟨rfl, rfl, rfl, rfl, rfl⟩ rfl rfl rfl rfl rfl (by kernel_rfl) Try.func6 (by kernel_rfl)
    (of_decide_eq_true (by kernel_rfl)) (by unfold Func.isWrapper; first | (rw [if_pos (by decide +kernel)]; kernel_rfl) | (rw [if_neg (by decide +kernel)]; exact ⟨rfl, rfl⟩))
    (fun os started H enc _ => lifted os started H enc)

theorem proved : Rows.TaskHoldsSaid := over
#print axioms proved
end Go.Proofs.Ytboalfajghkajaa.taskHolds
