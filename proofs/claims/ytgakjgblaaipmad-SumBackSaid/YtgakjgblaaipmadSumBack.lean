/- What is closed is opened as it was, and what was handed in stays. No conditions. -/
import Derived.Test.YtgakjgblaaipmadRows
import Derived.Test.YtgakjgblaaipmadArgs
import Derived.Test.YtgakjgblaaipmadSum7
import Derived.ProofKit
import Derived.OpenShut
namespace Go.Proofs.Ytgakjgblaaipmad.sumBack
open Go.ChangeShapes Go.WideShapes Go.ChangeAt Go.RowKit
open Go.ChangeMaps (open_string shut_string)
set_option linter.unusedVariables false

set_option maxHeartbeats 2000000 in
set_option maxRecDepth 100000 in
theorem walk (w : World) (s : Option Addr) (cap : Nat) (p : List Int) (hs : Sl w 1 (.slice s p.length cap) p.length (p.map (Value.int .u8))) (hb0 : ∀ n ∈ p, (Lit.int .u8 n).wf = true) :
    Calls Try.prog 4 #[.slice s p.length cap] w fun e w' => e = .returned (.bool true) ∧ Below w.heap.size w w' := by
  have HS := hid hs
  have hb : Bytes p := fun x hx => bounds_u8 (hb0 x hx)
  have HB := hid hb
  clear hs hb0 hb
  by_cases hl : 300 < p.length
  · have hd : decide ((300 : Int) < p.length) = true := by simp; omega
    go_enter Try.func4, Try.ntmps4
    go_wp2_with fail
    refine (letters_true _).mono ?_
    rintro e wz ⟨rfl, kz⟩
    have KZ := hid kz
    clear kz
    go_wp2_with fail
    go_ret
    exact ⟨rfl, KZ.out.toBelow⟩
  · have hd : decide ((300 : Int) < p.length) = false := by simp; omega
    go_enter Try.func4, Try.ntmps4
    go_wp2_with fail
    refine (mjoin_any HS.out (q := []) (Sl.nil _ _) (by simp; omega)).mono ?_
    rintro e w1 ⟨v1, rfl, ho1, k1, hb1⟩
    obtain ⟨a1, c1, rfl⟩ := own_any ho1
    have h1 : SlB w1 (.slice a1 p.length c1) p := by have := Sl.ofOwn ho1; simpa using this
    have H1 := hid h1
    have K1 := hid k1
    clear ho1 k1 hb1 h1
    go_wp2_with fail
    refine (sclose_any (HS.out.keep K1.out (fun _ _ h => h)) HB.out (by omega)).mono ?_
    rintro e w2 ⟨v2, rfl, ho2, k2, hb2⟩
    obtain ⟨a2, c2, rfl⟩ := own_any ho2
    have hqb : Bytes (p ++ [((mof p).toNat : Int) / 256, ((mof p).toNat : Int) % 256]) := fun x hx => by
      have hlt := (mof p).isLt
      simp only [List.mem_append, List.mem_cons, List.not_mem_nil, or_false] at hx
      rcases hx with hx | rfl | rfl
      · exact HB.out x hx
      · omega
      · omega
    have h2 : SlB w2 (.slice a2 (p.length + 2) c2) (p ++ [((mof p).toNat : Int) / 256, ((mof p).toNat : Int) % 256]) := SlB.ofOwn2 ho2
    have ho := sopen_ok h2 hqb (by omega) (word_parts (mof p)).symm
    have H2 := hid h2
    have K2 := hid k2
    have HQB := hid hqb
    clear ho2 k2 hb2 h2 hqb
    go_wp2_with fail
    refine ho.mono ?_
    rintro e w3 ⟨v3, rfl, ho3, k3, hb3⟩
    obtain ⟨a3, c3, rfl⟩ := own_any ho3
    have H3 := hid (show SlB w3 (.slice a3 p.length c3) p from Sl.ofOwn ho3)
    have K3 := hid k3
    clear ho ho3 k3 hb3
    go_wp2_with fail
    refine (letters_true _).mono ?_
    rintro e w4 ⟨rfl, k4⟩
    have K4 := hid k4
    clear k4
    go_wp2_with fail
    refine (mclose_any (Sl.keep H1.out ((K2.out.trans K3.out).trans K4.out) (fun _ _ h => h)) HB.out (by omega)).mono ?_
    rintro e w5 ⟨v5, rfl, ho5, k5, hb5⟩
    obtain ⟨a5, c5, rfl⟩ := own_any ho5
    have h5 : SlB w5 (.slice a5 (p.length + 2) c5) (p ++ [((mof p).toNat : Int) / 256, ((mof p).toNat : Int) % 256]) := SlB.ofOwn2 ho5
    have hby := mbytes_true (Sl.keep H2.out ((K3.out.trans K4.out).trans k5) (fun _ _ h => h)) h5
    have K5 := hid k5
    clear ho5 k5 hb5 h5
    go_wp2_with fail
    refine hby.mono ?_
    rintro e w6 ⟨rfl, k6⟩
    have K6 := hid k6
    clear k6 hby
    go_wp2_with fail
    refine (mbytes_true (Sl.keep H3.out ((K4.out.trans K5.out).trans K6.out) (fun _ _ h => h)) (Sl.keep H1.out ((((K2.out.trans K3.out).trans K4.out).trans K5.out).trans K6.out) (fun _ _ h => h))).mono ?_
    rintro e w7 ⟨rfl, k7⟩
    have K7 := hid k7
    clear k7
    go_wp2_with fail
    refine (mbytes_true (Sl.keep HS.out ((((((K1.out.trans K2.out).trans K3.out).trans K4.out).trans K5.out).trans K6.out).trans K7.out) (fun _ _ h => h)) (Sl.keep H1.out (((((K2.out.trans K3.out).trans K4.out).trans K5.out).trans K6.out).trans K7.out) (fun _ _ h => h))).mono ?_
    rintro e w8 ⟨rfl, k8⟩
    have K8 := hid k8
    clear k8
    go_wp2_with fail
    go_ret
    exact ⟨rfl, (((((((K1.out.trans K2.out).trans K3.out).trans K4.out).trans K5.out).trans K6.out).trans K7.out).trans K8.out).toBelow⟩

theorem own : ownKnob Try.prog.godebug = none := by kernel_rfl
theorem laidOut : laidOutB Try.prog = true := by kernel_rfl
set_option maxRecDepth 100000 in
theorem lifted (os : Os) (started : os.Started) (H : Type) (enc : TypeId × Value → H) :
    ReturnsInHanded {} Try.checked os 4 .any (Rows.sumBackSpec.pre6 enc Try.prog Try.f4 Rows.sumBackRow.domain false) (Rows.sumBackSpec.post enc Try.prog Try.f4 false true false false) := by
  refine returnsInHanded_of_change (C := Try.checked) own started (by kernel_rfl) Try.func4
    (ChangeSpec.witness6 (enc := enc) (C := Try.checked) false ⟨#[], #[.slice none 0 0], []⟩ 8 (by kernel_rfl) (by kernel_rfl) (by kernel_rfl) (by kernel_rfl)) ?_
  intro W base args ds gs before hval0 hW hcnd _
  have hval : ∀ (j : Nat) t v, Try.f4.params[j]? = some t → args[j]? = some v → Value.okWide Try.prog W .any base t v := hval0
  have hW' := hW
  obtain ⟨p, q, hA0, hV, rfl, hfz, hnd⟩ := hW
  have hA : DataW.TrodAll enc Try.prog W 0 (fun _ => true) true Try.f4.params.toList args.toList ds p := hA0
  rw [Try.params4] at hA hval
  obtain ⟨v0, vs0, d0, ds0, p0, q0, hargs, rfl, rfl, h0, r0⟩ := trodAll_cons hA
  obtain ⟨rfl, rfl, rfl⟩ := trodAll_nil r0
  obtain rfl : args = #[v0] := by cases args; simp_all
  obtain ⟨rfl, rfl⟩ := trodVars_none hV
  have k0 := h0
  have lt0 : ∀ x ∈ p0, x.block < W.heap.size := by obtain ⟨m, hm⟩ := k0; exact DataW.trod_lt m _ _ _ hm
  obtain ⟨s0, len0, cap0, rfl⟩ := okWide_slice Try.underlying22 (hval 0 22 v0 rfl rfl)
  obtain ⟨l0, rfl, w0, b0⟩ := argInts .u8 Try.underlying22 Try.underlying5 (by kernel_rfl) h0
  clear hA0 hval0
  refine (walk W s0 cap0 l0 w0 b0).mono fun e W' ⟨he, bel⟩ => ?_
  subst he
  exact ⟨_, rfl, _, _, _, [], _, [], hW', trodAll_mk1 (shut_bool Try.underlying4 _), (trodAll_cons_mk (Below.trod laidOut (by kernel_rfl) (of_decide_eq_true (by kernel_rfl)) k0 bel lt0) trodAll_mk0), rfl, bel.frame _, fun h => by cases h⟩

theorem over : Rows.sumBackRow.holds Try.pinned (OpenSpec.ofChange Rows.sumBackSpec) :=
  OpenClaim.holds_of_wide 4 Try.f4 rfl rfl rfl rfl rfl rfl rfl ⟨rfl, rfl, rfl, rfl, rfl⟩ rfl rfl rfl rfl rfl (by kernel_rfl) Try.func4 (by kernel_rfl)
    (of_decide_eq_true (by kernel_rfl)) (by unfold Func.isWrapper; first | (rw [if_pos (by decide +kernel)]; kernel_rfl) | (rw [if_neg (by decide +kernel)]; exact ⟨rfl, rfl⟩))
    (fun os started H enc _ => lifted os started H enc)

theorem proved : Rows.SumBackSaid := over
#print axioms proved
end Go.Proofs.Ytgakjgblaaipmad.sumBack
