/- Behind a fault nothing is read any more, and nothing is left. No conditions. -/
import Derived.Test.YtmmgkcimobkbbaaRows
import Derived.Test.YtmmgkcimobkbbaaArgs
import Derived.Test.YtmmgkcimobkbbaaWordL
import Derived.ProofKit
import Derived.OpenShut
namespace Go.Proofs.Ytmmgkcimobkbbaa.wordShort
open Go.ChangeShapes Go.WideShapes Go.ChangeAt Go.RowKit
open Go.ChangeMaps (open_string shut_string)
set_option linter.unusedVariables false

set_option maxHeartbeats 8000000 in
set_option maxRecDepth 100000 in
theorem walk (w : World) (s0 : Option Addr) (cap0 : Nat) (p : List Int) (hs0 : Sl w 1 (.slice s0 p.length cap0) p.length (p.map (Value.int .u8))) (hb0 : ∀ n ∈ p, (Lit.int .u8 n).wf = true) (s1 : Option Addr) (cap1 : Nat) (l : List Int) (hs1 : Sl w 1 (.slice s1 l.length cap1) l.length (l.map (Value.int .u8))) (hb1 : ∀ n ∈ l, (Lit.int .u8 n).wf = true) :
    Calls Try.prog 5 #[.slice s0 p.length cap0, .slice s1 l.length cap1] w fun e w' => e = .returned (.bool true) ∧ Below w.heap.size w w' := by
  have hb : Bytes p := fun x hx => bounds_u8 (hb0 x hx)
  have HB := hid hb
  have HS0 := hid hs0
  have hmx : l.length ≤ maxLen := hs1.2.1
  unfold maxLen at hmx
  clear hb hs0 hs1 hb0 hb1
  by_cases hl : 3 < p.length ∨ 20 < l.length
  · have hd : (decide ((p.length : Int) > 3) = true) ∨ (decide ((p.length : Int) > 3) = false ∧ decide ((l.length : Int) > 20) = true) := by
      by_cases h1 : 3 < p.length
      · exact Or.inl (decide_eq_true (by omega))
      · exact Or.inr ⟨decide_eq_false (by omega), decide_eq_true (by omega)⟩
    clear hl
    rcases hd with hd | ⟨hd, hd2⟩
    all_goals
      go_enter Try.func5, Try.ntmps5
      go_wp2_with fail
      with_reducible refine (lays_true _).mono ?_
      rintro e w1 ⟨rfl, k1⟩
      have K1 := hid k1
      clear k1
      go_wp2_with fail
      with_reducible refine (lays_true _).mono ?_
      rintro e w2 ⟨rfl, k2⟩
      have K2 := hid (K1.out.trans k2)
      clear k2
      go_wp2_with fail
      go_ret
      exact ⟨rfl, K2.out.toBelow⟩
  · have hl0 : p.length ≤ 3 := by omega
    have hd : decide ((p.length : Int) > 3) = false := decide_eq_false (by omega)
    have hd2 : decide ((l.length : Int) > 20) = false := decide_eq_false (by omega)
    have hint : (⟨p, 0, 0⟩ : RS).int = (0, ⟨[], 0, 4⟩) := by
      unfold RS.int
      rcases p with _ | ⟨a, _ | ⟨b, _ | ⟨c, _ | ⟨d, t⟩⟩⟩⟩
      all_goals first | rfl | (simp at hl0; done)
    have HI := hid hint
    clear hl hint
    go_enter Try.func5, Try.ntmps5
    go_wp2_with fail
    with_reducible refine (lays_true _).mono ?_
    rintro e w1 ⟨rfl, k1⟩
    have K1 := hid k1
    clear k1
    go_wp2_with fail
    with_reducible refine (rnew_any ?s1 HB.out ?s3).mono ?_
    case s1 => exact HS0.out.keep K1.out (fun _ _ h => h)
    case s3 => omega
    rintro r w2 ⟨rb, F, rfl, hr, hk, hf⟩
    have HK2 := hid (K1.out.trans hk)
    have hz1 := K1.out.size
    have hrb0 : w.heap.size ≤ rb := by obtain ⟨lv, h⟩ := hr; have := hf rb h.rb; omega
    have HR := hid hr
    clear hr hk hf K1 hz1
    go_wp2_with fail
    with_reducible refine (rint_any HR.out).mono ?_
    rw [HI.out]
    rintro r w3 ⟨rfl, hr, hk⟩
    have HR3 := hid hr
    have HK3 := hid (HK2.out.trans' hk (fun _ _ h => h) (fun i hi e => by omega))
    clear hr hk HR HK2
    go_wp2_with fail
    go_loopw [7] (fun v7 wr => ∃ k : Nat, k ≤ l.length ∧ v7 = .int .i64 k ∧ Hid (Rd wr rb F ⟨[], 0, 4⟩) ∧ Hid (Keeps No w wr)) (fun v7 _ => l.length - (intOf v7).toNat)
    case atStart => exact ⟨0, Nat.zero_le _, rfl, HR3, HK3⟩
    case round =>
      obtain ⟨k, hk, rfl, HR, HK⟩ := hrel
      clear HR3 HK3
      by_cases hlt : k < l.length
      · go_wp2_with fail
        with_reducible refine (rbyte_any HR.out).mono ?_
        rintro r w4 ⟨rfl, hr, hk⟩
        have HR4 : Hid (Rd w4 rb F ⟨[], 0, 4⟩) := hid hr
        have HK4 := hid (HK.out.trans' hk (fun _ _ h => h) (fun i hi e => by omega))
        clear hr hk HR HK
        simp only [RS.byte]
        go_wp2_with fail
        with_reducible refine (rflag_any HR4.out).mono ?_
        rintro r w5 ⟨rfl, hr, hk⟩
        have HR5 : Hid (Rd w5 rb F ⟨[], 0, 4⟩) := hid hr
        have HK5 := hid (HK4.out.trans' hk (fun _ _ h => h) (fun i hi e => by omega))
        clear hr hk HR4 HK4
        simp only [RS.flag]
        go_wp2_with fail
        with_reducible refine (rint_any HR5.out).mono ?_
        rintro r w6 ⟨rfl, hr, hk⟩
        have HR6 : Hid (Rd w6 rb F ⟨[], 0, 4⟩) := hid hr
        have HK6 := hid (HK5.out.trans' hk (fun _ _ h => h) (fun i hi e => by omega))
        clear hr hk HR5 HK5
        simp only [RS.int]
        go_wp2_with fail
        go_roundw
        case rel => exact ⟨k + 1, by omega, by go_num, HR6, HK6⟩
        case measure => simp [intOf]; omega
      · go_wp2_with fail
        with_reducible refine (rend_any HR.out).mono ?_
        rintro r w4 ⟨rfl, hk⟩
        have HR4 := hid (HR.out.keep hk (fun _ _ h => h))
        have HK4 := hid (HK.out.trans hk)
        clear hk HR HK
        simp only [RS.fin, RS.fault]
        go_wp2_with fail
        with_reducible refine (rleft_any HR4.out).mono ?_
        rintro r w' ⟨rfl, rfl⟩
        go_wp2_with fail
        go_ret
        exact ⟨rfl, HK4.out.toBelow⟩

theorem own : ownKnob Try.prog.godebug = none := by kernel_rfl
theorem laidOut : laidOutB Try.prog = true := by kernel_rfl
set_option maxRecDepth 100000 in
theorem lifted (os : Os) (started : os.Started) (H : Type) (enc : TypeId × Value → H) :
    ReturnsInHanded {} Try.checked os 5 .any (Rows.wordShortSpec.pre6 enc Try.prog Try.f5 Rows.wordShortRow.domain false) (Rows.wordShortSpec.post enc Try.prog Try.f5 false true false false) := by
  refine returnsInHanded_of_change (C := Try.checked) own started (by kernel_rfl) Try.func5
    (ChangeSpec.witness6 (enc := enc) (C := Try.checked) false ⟨#[], #[.slice none 0 0, .slice none 0 0], []⟩ 8 (by kernel_rfl) (by kernel_rfl) (by kernel_rfl) (by kernel_rfl)) ?_
  intro W base args ds gs before hval0 hW hcnd _
  have hval : ∀ (j : Nat) t v, Try.f5.params[j]? = some t → args[j]? = some v → Value.okWide Try.prog W .any base t v := hval0
  have hW' := hW
  obtain ⟨p, q, hA0, hV, rfl, hfz, hnd⟩ := hW
  have hA : DataW.TrodAll enc Try.prog W 0 (fun _ => true) true Try.f5.params.toList args.toList ds p := hA0
  rw [Try.params5] at hA hval
  obtain ⟨v0, vs0, d0, ds0, p0, q0, hargs, rfl, rfl, h0, r0⟩ := trodAll_cons hA
  obtain ⟨v1, vs1, d1, ds1, p1, q1, rfl, rfl, rfl, h1, r1⟩ := trodAll_cons r0
  obtain ⟨rfl, rfl, rfl⟩ := trodAll_nil r1
  obtain rfl : args = #[v0, v1] := by cases args; simp_all
  obtain ⟨rfl, rfl⟩ := trodVars_none hV
  have k0 := h0
  have lt0 : ∀ x ∈ p0, x.block < W.heap.size := by obtain ⟨m, hm⟩ := k0; exact DataW.trod_lt m _ _ _ hm
  have k1 := h1
  have lt1 : ∀ x ∈ p1, x.block < W.heap.size := by obtain ⟨m, hm⟩ := k1; exact DataW.trod_lt m _ _ _ hm
  obtain ⟨s0, len0, cap0, rfl⟩ := okWide_slice Try.underlying24 (hval 0 24 v0 rfl rfl)
  obtain ⟨l0, rfl, w0, b0⟩ := argInts .u8 Try.underlying24 Try.underlying5 (by kernel_rfl) h0
  obtain ⟨s1, len1, cap1, rfl⟩ := okWide_slice Try.underlying24 (hval 1 24 v1 rfl rfl)
  obtain ⟨l1, rfl, w1, b1⟩ := argInts .u8 Try.underlying24 Try.underlying5 (by kernel_rfl) h1
  clear hA0 hval0
  refine (walk W s0 cap0 l0 w0 b0 s1 cap1 l1 w1 b1).mono fun e W' ⟨he, bel⟩ => ?_
  subst he
  exact ⟨_, rfl, _, _, _, [], _, [], hW', trodAll_mk1 (shut_bool Try.underlying4 _), (trodAll_cons_mk (Below.trod laidOut (by kernel_rfl) (of_decide_eq_true (by kernel_rfl)) k0 bel lt0) (trodAll_cons_mk (Below.trod laidOut (by kernel_rfl) (of_decide_eq_true (by kernel_rfl)) k1 bel lt1) trodAll_mk0)), rfl, bel.frame _, fun h => by cases h⟩

theorem over : Rows.wordShortRow.holds Try.pinned (OpenSpec.ofChange Rows.wordShortSpec) :=
  OpenClaim.holds_of_wide 5 Try.f5 rfl rfl rfl rfl rfl rfl rfl ⟨rfl, rfl, rfl, rfl, rfl⟩ rfl rfl rfl rfl rfl (by kernel_rfl) Try.func5 (by kernel_rfl)
    (of_decide_eq_true (by kernel_rfl)) (by unfold Func.isWrapper; first | (rw [if_pos (by decide +kernel)]; kernel_rfl) | (rw [if_neg (by decide +kernel)]; exact ⟨rfl, rfl⟩))
    (fun os started H enc _ => lifted os started H enc)

theorem proved : Rows.WordShortSaid := over
#print axioms proved
end Go.Proofs.Ytmmgkcimobkbbaa.wordShort
