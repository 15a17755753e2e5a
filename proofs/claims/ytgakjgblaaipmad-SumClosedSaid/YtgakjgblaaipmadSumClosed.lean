/- What is closed has the sum 0. No conditions. -/
import Derived.Test.YtgakjgblaaipmadRows
import Derived.Test.YtgakjgblaaipmadArgs
import Derived.Test.YtgakjgblaaipmadSum7
import Derived.ProofKit
import Derived.OpenShut
namespace Go.Proofs.Ytgakjgblaaipmad.sumClosed
open Go.ChangeShapes Go.WideShapes Go.ChangeAt Go.RowKit
open Go.ChangeMaps (open_string shut_string)
set_option linter.unusedVariables false

set_option maxHeartbeats 2000000 in
set_option maxRecDepth 100000 in
theorem walk (w : World) (s : Option Addr) (cap : Nat) (p : List Int) (hs : Sl w 1 (.slice s p.length cap) p.length (p.map (Value.int .u8))) (hb0 : ∀ n ∈ p, (Lit.int .u8 n).wf = true) :
    Calls Try.prog 7 #[.slice s p.length cap] w fun e w' => e = .returned (.bool true) ∧ Below w.heap.size w w' := by
  have HS := hid hs
  have hb : Bytes p := fun x hx => bounds_u8 (hb0 x hx)
  have HB := hid hb
  clear hs hb0 hb
  by_cases hl : 300 < p.length
  · have hd : decide ((300 : Int) < p.length) = true := by simp; omega
    go_enter Try.func7, Try.ntmps7
    go_wp2_with fail
    refine (letters_true _).mono ?_
    rintro e wz ⟨rfl, kz⟩
    have KZ := hid kz
    clear kz
    go_wp2_with fail
    go_ret
    exact ⟨rfl, KZ.out.toBelow⟩
  · have hd : decide ((300 : Int) < p.length) = false := by simp; omega
    have hz : ((mof (p ++ [((mof p).toNat : Int) / 256, ((mof p).toNat : Int) % 256])).toNat : Int) = 0 := by
      have hlt := (mof p).isLt
      rw [(mof_right p (fun x hx => by simp at hx; rcases hx with rfl | rfl <;> omega)).2 (word_parts _).symm]; rfl
    have HZ := hid hz
    clear hz
    go_enter Try.func7, Try.ntmps7
    go_wp2_with fail
    refine (letters_true _).mono ?_
    rintro e wz ⟨rfl, kz⟩
    have KZ := hid kz
    clear kz
    go_wp2_with fail
    refine (sclose_any (HS.out.keep KZ.out (fun _ _ h => h)) HB.out (by omega)).mono ?_
    rintro e w2 ⟨v2, rfl, ho2, k2, hb2⟩
    have hs2 : SlB w2 v2 (p ++ [((mof p).toNat : Int) / 256, ((mof p).toNat : Int) % 256]) := by
      have := Sl.ofOwn ho2
      unfold SlB
      rw [List.length_append]; exact this
    have HS2 := hid hs2
    have K2 := hid (KZ.out.trans k2)
    clear ho2 k2 hb2 hs2
    go_wp2_with fail
    refine (sof_any HS2.out (fun x hx => by
      have hlt := (mof p).isLt
      simp only [List.mem_append, List.mem_cons, List.not_mem_nil, or_false] at hx
      rcases hx with hx | rfl | rfl
      · exact HB.out x hx
      · omega
      · omega)).mono ?_
    rintro e w' ⟨rfl, rfl⟩
    rw [HZ.out]
    go_wp2_with fail
    go_ret
    exact ⟨rfl, K2.out.toBelow⟩

theorem own : ownKnob Try.prog.godebug = none := by kernel_rfl
theorem laidOut : laidOutB Try.prog = true := by kernel_rfl
set_option maxRecDepth 100000 in
theorem lifted (os : Os) (started : os.Started) (H : Type) (enc : TypeId × Value → H) :
    ReturnsInHanded {} Try.checked os 7 .any (Rows.sumClosedSpec.pre6 enc Try.prog Try.f7 Rows.sumClosedRow.domain false) (Rows.sumClosedSpec.post enc Try.prog Try.f7 false true false false) := by
  refine returnsInHanded_of_change (C := Try.checked) own started (by kernel_rfl) Try.func7
    (ChangeSpec.witness6 (enc := enc) (C := Try.checked) false ⟨#[], #[.slice none 0 0], []⟩ 8 (by kernel_rfl) (by kernel_rfl) (by kernel_rfl) (by kernel_rfl)) ?_
  intro W base args ds gs before hval0 hW hcnd _
  have hval : ∀ (j : Nat) t v, Try.f7.params[j]? = some t → args[j]? = some v → Value.okWide Try.prog W .any base t v := hval0
  have hW' := hW
  obtain ⟨p, q, hA0, hV, rfl, hfz, hnd⟩ := hW
  have hA : DataW.TrodAll enc Try.prog W 0 (fun _ => true) true Try.f7.params.toList args.toList ds p := hA0
  rw [Try.params7] at hA hval
  obtain ⟨v0, vs0, d0, ds0, p0, q0, hargs, rfl, rfl, h0, r0⟩ := trodAll_cons hA
  obtain ⟨rfl, rfl, rfl⟩ := trodAll_nil r0
  obtain rfl : args = #[v0] := by cases args; simp_all
  obtain ⟨rfl, rfl⟩ := trodVars_none hV
  have k0 := h0
  have lt0 : ∀ x ∈ p0, x.block < W.heap.size := by obtain ⟨m, hm⟩ := k0; exact DataW.trod_lt m _ _ _ hm
  obtain ⟨s0, len0, cap0, rfl⟩ := okWide_slice Try.underlying22 (hval 0 22 v0 rfl rfl)
  obtain ⟨l0, rfl, w0, b0⟩ := argInts .u8 Try.underlying22 Try.underlying5 (by kernel_rfl) h0
  clear hA0 hval0
  refine (walk W s0 cap0 l0 w0 b0).mono fun e W' ⟨he, bel⟩ => ?_
  subst he
  exact ⟨_, rfl, _, _, _, [], _, [], hW', trodAll_mk1 (shut_bool Try.underlying4 _), (trodAll_cons_mk (Below.trod laidOut (by kernel_rfl) (of_decide_eq_true (by kernel_rfl)) k0 bel lt0) trodAll_mk0), rfl, bel.frame _, fun h => by cases h⟩

theorem over : Rows.sumClosedRow.holds Try.pinned (OpenSpec.ofChange Rows.sumClosedSpec) :=
  OpenClaim.holds_of_wide 7 Try.f7 rfl rfl rfl rfl rfl rfl rfl ⟨rfl, rfl, rfl, rfl, rfl⟩ rfl rfl rfl rfl rfl (by kernel_rfl) Try.func7 (by kernel_rfl)
    (of_decide_eq_true (by kernel_rfl)) (by unfold Func.isWrapper; first | (rw [if_pos (by decide +kernel)]; kernel_rfl) | (rw [if_neg (by decide +kernel)]; exact ⟨rfl, rfl⟩))
    (fun os started H enc _ => lifted os started H enc)

theorem proved : Rows.SumClosedSaid := over
#print axioms proved
end Go.Proofs.Ytgakjgblaaipmad.sumClosed
