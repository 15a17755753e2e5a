/- What is laid is read as it was; numbers as far as 32 bits go. No conditions. -/
import Derived.Test.YtmmgkcimobkbbaaRows
import Derived.Test.YtmmgkcimobkbbaaArgs
import Derived.Test.YtmmgkcimobkbbaaWordL
import Derived.ProofKit
import Derived.OpenShut
namespace Go.Proofs.Ytmmgkcimobkbbaa.wordBack
open Go.ChangeShapes Go.WideShapes Go.ChangeAt Go.RowKit
open Go.ChangeMaps (open_string shut_string)
set_option linter.unusedVariables false

set_option maxHeartbeats 8000000 in
set_option maxRecDepth 100000 in
theorem walk (w : World) (s : Option Addr) (cap : Nat) (l : List (Int × Int)) (hs : Sl w 2 (.slice s l.length cap) l.length (l.flatMap encIt)) (hb : ∀ y ∈ l, goodIt y) :
    Calls Try.prog 3 #[.slice s l.length cap] w fun e w' => e = .returned (.bool true) ∧ Below w.heap.size w w' := by
  have HS := hid hs
  have HG := hid hb
  clear hs hb
  by_cases hl : 60 < l.length
  · have hd : decide ((l.length : Int) > 60) = true := decide_eq_true (by omega)
    go_enter Try.func3, Try.ntmps3
    go_wp2_with fail
    with_reducible refine (lays_true _).mono ?_
    rintro e w1 ⟨rfl, k1⟩
    have K1 := hid k1
    clear k1
    go_wp2_with fail
    with_reducible refine (lays_true _).mono ?_
    rintro e w2 ⟨rfl, k2⟩
    have K2 := hid (K1.out.trans k2)
    clear k2
    go_wp2_with fail
    go_ret
    exact ⟨rfl, K2.out.toBelow⟩
  · have hl0 : l.length ≤ 60 := by omega
    have hd : decide ((l.length : Int) > 60) = false := decide_eq_false (by omega)
    clear hl
    go_enter Try.func3, Try.ntmps3
    go_wp2_with fail
    with_reducible refine (lays_true _).mono ?_
    rintro e w1 ⟨rfl, k1⟩
    have K1 := hid k1
    clear k1
    go_wp2_with fail
    with_reducible refine (lay_law ?s1 HG.out hl0).mono ?_
    case s1 => exact HS.out.keep K1.out (fun _ _ h => h)
    rintro r w2 ⟨v1, v2, rfl, h1, h2, hk⟩
    have K2 := hid (K1.out.trans hk)
    obtain ⟨a1, c1, rfl⟩ := h1.any
    obtain ⟨a2, c2, rfl⟩ := h2.any
    have H1 := hid h1
    have H2 := hid h2
    clear h1 h2 hk K1
    go_wp2_with fail
    with_reducible refine (mbytes_true H1.out H2.out).mono ?_
    rintro r w3 ⟨rfl, hk⟩
    have K3 := hid (K2.out.trans hk)
    have H3 := hid (H1.out.keep hk (fun _ _ h => h))
    clear hk K2 H1 H2
    go_wp2_with fail
    with_reducible refine (rnew_any H3.out ?s2 ?s3).mono ?_
    case s2 => exact layL_bytes l
    case s3 => have := layL_len l; omega
    rintro r w4 ⟨rb, F, rfl, hr, hk, hf⟩
    have HK4 := hid (K3.out.trans hk)
    have hz1 := K3.out.size
    have hrb0 : w.heap.size ≤ rb := by obtain ⟨lv, h⟩ := hr; have := hf rb h.rb; omega
    have HR4 := hid hr
    clear hr hk hf K3 hz1 H3
    go_wp2_with fail
    go_loopw [6] (fun v6 wr => ∃ i : Nat, i ≤ l.length ∧ v6 = .int .i64 i ∧ Hid (∃ k, Rd wr rb F ⟨layL (l.drop i), k, 0⟩) ∧ Hid (Keeps No w wr)) (fun v6 _ => l.length - (intOf v6).toNat)
    case atStart => exact ⟨0, Nat.zero_le _, rfl, hid ⟨_, HR4.out⟩, HK4⟩
    case round =>
      obtain ⟨i, hi, rfl, HRk, HK⟩ := hrel
      obtain ⟨k, hrk⟩ := HRk.out
      clear HR4 HK4 HRk
      by_cases hlt : i < l.length
      · rw [layL_drop l hlt] at hrk
        obtain ⟨d, x, hy⟩ : ∃ d x, l[i] = (d, x) := ⟨_, _, rfl⟩
        have hgd := HG.out l[i] (List.getElem_mem hlt)
        rw [hy] at hgd hrk
        obtain ⟨hd0, hd1⟩ := hgd
        simp only at hd0 hd1
        obtain ⟨g, off, rfl, hglt, hc0⟩ := Sl.cellAt HS.out (j := i * 2 + 0) (u := .int .u8 d) (by rw [getElem?_flatMap_enc (size := 2) (fun _ => rfl) l i 0 (by omega) hlt, hy]; rfl)
        obtain ⟨g', off', he, _, hc1⟩ := Sl.cellAt HS.out (j := i * 2 + 1) (u := .int .i64 x) (by rw [getElem?_flatMap_enc (size := 2) (fun _ => rfl) l i 1 (by omega) hlt, hy]; rfl)
        simp only [Option.some.injEq, Addr.mk.injEq, and_true] at he
        obtain ⟨rfl, rfl⟩ := he
        simp only [Nat.add_zero] at hc0
        rw [← Nat.add_assoc] at hc1
        have HC1 := hid hc1
        have x0 := HK.out.cell (fun h => h) hc0
        have x1 := HK.out.cell (fun h => h) hc1
        clear hy hc0 hc1
        rcases (show d % 3 = 0 ∨ d % 3 = 1 ∨ d % 3 = 2 by omega) with h3 | h3 | h3
        · have hitem : itemB (d, x) = [x % 256] := by unfold itemB; simp [h3]
          have e0 : (d % 3 == 0) = true := by simp [h3]
          rw [hitem] at hrk
          have HR : Hid (Rd wr rb F ⟨x % 256 :: layL (l.drop (i + 1)), k, 0⟩) := hid hrk
          clear hitem h3 hrk
          go_wp2_with fail
          go_region_with (go_at_call 12; refine (rbyte_one (HR.out.keep (S := No) (by repeat' (first | with_reducible exact Keeps.refl _ _ | with_reducible refine Keeps.drewN ?_ _ | with_reducible refine Keeps.drew ?_)) (fun _ _ h => h))).mono ?_; rintro r w1 ⟨rfl, hr, hk⟩; have HR1 := hid hr; have HK1 := hid (Keeps.trans' (S := No) (T := No) (show Keeps No w _ from by have hKK := HK.out; repeat' (first | with_reducible exact hKK | with_reducible refine Keeps.drewN ?_ _ | with_reducible refine Keeps.drew ?_)) hk (fun _ _ h => h) (fun i hi e => by omega)); have x1 := HK1.out.cell (fun h => h) HC1.out; clear hr hk)
          all_goals
            go_wp2_with fail
            go_roundw
            case rel => exact ⟨i + 1, by omega, by go_num, hid ⟨_, HR1.out⟩, HK1⟩
            case measure => simp [intOf]; omega
        · have hitem : itemB (d, x) = [flagB (decide (0 < x))] := by unfold itemB; simp [h3]
          have e0 : (d % 3 == 0) = false := by simp [h3]
          have e1 : (d % 3 == 1) = true := by simp [h3]
          rw [hitem] at hrk
          have HR : Hid (Rd wr rb F ⟨flagB (decide (0 < x)) :: layL (l.drop (i + 1)), k, 0⟩) := hid hrk
          clear hitem h3 hrk
          go_wp2_with fail
          go_region_with (go_at_call 13; refine (rflag_one (HR.out.keep (S := No) (by repeat' (first | with_reducible exact Keeps.refl _ _ | with_reducible refine Keeps.drewN ?_ _ | with_reducible refine Keeps.drew ?_)) (fun _ _ h => h))).mono ?_; rintro r w1 ⟨rfl, hr, hk⟩; have HR1 := hid hr; have HK1 := hid (Keeps.trans' (S := No) (T := No) (show Keeps No w _ from by have hKK := HK.out; repeat' (first | with_reducible exact hKK | with_reducible refine Keeps.drewN ?_ _ | with_reducible refine Keeps.drew ?_)) hk (fun _ _ h => h) (fun i hi e => by omega)); have x1 := HK1.out.cell (fun h => h) HC1.out; clear hr hk)
          all_goals
            go_wp2_with fail
            go_roundw
            case rel => exact ⟨i + 1, by omega, by go_num, hid ⟨_, HR1.out⟩, HK1⟩
            case measure => simp [intOf]; omega
        · have hitem : itemB (d, x) = int4 x := by unfold itemB; simp [h3]
          have e0 : (d % 3 == 0) = false := by simp [h3]
          have e1 : (d % 3 == 1) = false := by simp [h3]
          rw [hitem] at hrk
          have HR := hid hrk
          clear hitem h3 hrk
          go_wp2_with fail
          go_region_with (first | (go_at_call 15; refine (low_any _ _).mono ?_; rintro r w' ⟨rfl, rfl⟩) | (go_at_call 14; refine (rint_one (HR.out.keep (S := No) (by repeat' (first | with_reducible exact Keeps.refl _ _ | with_reducible refine Keeps.drewN ?_ _ | with_reducible refine Keeps.drew ?_)) (fun _ _ h => h))).mono ?_; rintro r w1 ⟨rfl, hr, hk⟩; have HR1 := hid hr; have HK1 := hid (Keeps.trans' (S := No) (T := No) (show Keeps No w _ from by have hKK := HK.out; repeat' (first | with_reducible exact hKK | with_reducible refine Keeps.drewN ?_ _ | with_reducible refine Keeps.drew ?_)) hk (fun _ _ h => h) (fun i hi e => by omega)); have x1 := HK1.out.cell (fun h => h) HC1.out; clear hr hk))
          all_goals
            go_wp2_with fail
            go_roundw
            case rel => exact ⟨i + 1, by omega, by go_num, hid ⟨_, HR1.out⟩, HK1⟩
            case measure => simp [intOf]; omega
      · obtain rfl : i = l.length := by omega
        rw [List.drop_length] at hrk
        have HR : Hid (Rd wr rb F ⟨[], k, 0⟩) := hid hrk
        clear hrk
        go_wp2_with fail
        with_reducible refine (rend_any HR.out).mono ?_
        rintro r w5 ⟨rfl, hk⟩
        have HR5 := hid (HR.out.keep hk (fun _ _ h => h))
        have HK5 := hid (HK.out.trans hk)
        clear hk HR HK
        simp only [RS.fin, RS.fault]
        go_wp2_with fail
        with_reducible refine (rleft_any HR5.out).mono ?_
        rintro r w' ⟨rfl, rfl⟩
        go_wp2_with fail
        go_ret
        exact ⟨rfl, HK5.out.toBelow⟩

theorem own : ownKnob Try.prog.godebug = none := by kernel_rfl
theorem laidOut : laidOutB Try.prog = true := by kernel_rfl
set_option maxRecDepth 100000 in
theorem lifted (os : Os) (started : os.Started) (H : Type) (enc : TypeId × Value → H) :
    ReturnsInHanded {} Try.checked os 3 .any (Rows.wordBackSpec.pre6 enc Try.prog Try.f3 Rows.wordBackRow.domain false) (Rows.wordBackSpec.post enc Try.prog Try.f3 false true false false) := by
  refine returnsInHanded_of_change (C := Try.checked) own started (by kernel_rfl) Try.func3
    (ChangeSpec.witness6 (enc := enc) (C := Try.checked) false ⟨#[], #[.slice none 0 0], []⟩ 8 (by kernel_rfl) (by kernel_rfl) (by kernel_rfl) (by kernel_rfl)) ?_
  intro W base args ds gs before hval0 hW hcnd _
  have hval : ∀ (j : Nat) t v, Try.f3.params[j]? = some t → args[j]? = some v → Value.okWide Try.prog W .any base t v := hval0
  have hW' := hW
  obtain ⟨p, q, hA0, hV, rfl, hfz, hnd⟩ := hW
  have hA : DataW.TrodAll enc Try.prog W 0 (fun _ => true) true Try.f3.params.toList args.toList ds p := hA0
  rw [Try.params3] at hA hval
  obtain ⟨v0, vs0, d0, ds0, p0, q0, hargs, rfl, rfl, h0, r0⟩ := trodAll_cons hA
  obtain ⟨rfl, rfl, rfl⟩ := trodAll_nil r0
  obtain rfl : args = #[v0] := by cases args; simp_all
  obtain ⟨rfl, rfl⟩ := trodVars_none hV
  have k0 := h0
  have lt0 : ∀ x ∈ p0, x.block < W.heap.size := by obtain ⟨m, hm⟩ := k0; exact DataW.trod_lt m _ _ _ hm
  obtain ⟨s0, len0, cap0, rfl⟩ := okWide_slice Try.underlying22 (hval 0 22 v0 rfl rfl)
  obtain ⟨l0, rfl, w0, b0⟩ := argSlice (encE := encIt) (good := goodIt) (size := 2) (fun _ => rfl) (by decide) Try.underlying22 (by kernel_rfl) (fun n cs x hx => decIt hx) h0
  clear hA0 hval0
  refine (walk W s0 cap0 l0 w0 b0).mono fun e W' ⟨he, bel⟩ => ?_
  subst he
  exact ⟨_, rfl, _, _, _, [], _, [], hW', trodAll_mk1 (shut_bool Try.underlying4 _), (trodAll_cons_mk (Below.trod laidOut (by kernel_rfl) (of_decide_eq_true (by kernel_rfl)) k0 bel lt0) trodAll_mk0), rfl, bel.frame _, fun h => by cases h⟩

theorem over : Rows.wordBackRow.holds Try.pinned (OpenSpec.ofChange Rows.wordBackSpec) :=
  OpenClaim.holds_of_wide 3 Try.f3 rfl rfl rfl rfl rfl rfl rfl ⟨rfl, rfl, rfl, rfl, rfl⟩ rfl rfl rfl rfl rfl (by kernel_rfl) Try.func3 (by kernel_rfl)
    (of_decide_eq_true (by kernel_rfl)) (by unfold Func.isWrapper; first | (rw [if_pos (by decide +kernel)]; kernel_rfl) | (rw [if_neg (by decide +kernel)]; exact ⟨rfl, rfl⟩))
    (fun os started H enc _ => lifted os started H enc)

theorem proved : Rows.WordBackSaid := over
#print axioms proved
end Go.Proofs.Ytmmgkcimobkbbaa.wordBack
