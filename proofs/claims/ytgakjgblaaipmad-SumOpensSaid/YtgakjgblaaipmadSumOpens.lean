/- Any bytes are opened as the document says: what they are, or that they are too short, or that the sum is another one. No conditions. -/
import Derived.Test.YtgakjgblaaipmadRows
import Derived.Test.YtgakjgblaaipmadArgs
import Derived.Test.YtgakjgblaaipmadSum7
import Derived.ProofKit
import Derived.OpenShut
namespace Go.Proofs.Ytgakjgblaaipmad.sumOpens
open Go.ChangeShapes Go.WideShapes Go.ChangeAt Go.RowKit
open Go.ChangeMaps (open_string shut_string)
set_option linter.unusedVariables false

set_option maxHeartbeats 2000000 in
set_option maxRecDepth 100000 in
theorem walk (w : World) (s : Option Addr) (cap : Nat) (p : List Int) (hs : Sl w 1 (.slice s p.length cap) p.length (p.map (Value.int .u8))) (hb0 : ∀ n ∈ p, (Lit.int .u8 n).wf = true) :
    Calls Try.prog 5 #[.slice s p.length cap] w fun e w' => e = .returned (.bool true) ∧ Below w.heap.size w w' := by
  have HS := hid hs
  have hb : Bytes p := fun x hx => bounds_u8 (hb0 x hx)
  have HB := hid hb
  clear hs hb0 hb
  by_cases hl : 300 < p.length
  · have hd : decide ((300 : Int) < p.length) = true := by simp; omega
    go_enter Try.func5, Try.ntmps5
    go_wp2_with fail
    refine (letters_true _).mono ?_
    rintro e wz ⟨rfl, kz⟩
    have KZ := hid kz
    clear kz
    go_wp2_with fail
    go_ret
    exact ⟨rfl, KZ.out.toBelow⟩
  · have hd : decide ((300 : Int) < p.length) = false := by simp; omega
    by_cases h2 : p.length < 2
    · go_enter Try.func5, Try.ntmps5
      go_wp2_with fail
      refine (sopen_short HS.out h2).mono ?_
      rintro e w' ⟨rfl, rfl⟩
      go_wp2_with fail
      refine (mopen_short HS.out h2).mono ?_
      rintro e w' ⟨rfl, rfl⟩
      go_wp2_with fail
      refine (letters_true _).mono ?_
      rintro e wz ⟨rfl, kz⟩
      have KZ := hid kz
      clear kz
      go_wp2_with fail
      refine (mbytes_true (l := []) (Sl.nil _ _) (Sl.nil _ _)).mono ?_
      rintro e w2 ⟨rfl, k2⟩
      have K2 := hid (KZ.out.trans k2)
      clear k2
      go_wp2_with fail
      go_ret
      exact ⟨rfl, K2.out.toBelow⟩
    · obtain ⟨m, a, b, hp⟩ := last_two p (by omega)
      subst hp
      have hm : m.length ≤ 900 := by simp at hl; omega
      have hd2 : decide ((300 : Int) < (m.length : Int) + 2) = false := by simp at hl ⊢; omega
      have hlen : (m ++ [a, b]).length = m.length + 2 := by simp
      have hs2 : SlB w (.slice s (m.length + 2) cap) (m ++ [a, b]) := by
        have := HS.out
        rw [hlen] at this; unfold SlB; rw [hlen]; exact this
      have hmo := fun (w' : World) (k : Keeps No w w') => mopen_ok (w := w') (HS.out.keep k (fun _ _ h => h)) HB.out hm
      rw [hlen] at hmo ⊢
      have HS2 := hid hs2
      have HMO := hid hmo
      clear hd hs2 hmo hlen
      by_cases he : mof m = word a b
      · have ho := sopen_ok HS2.out HB.out hm he
        have HE := hid he
        clear he
        go_enter Try.func5, Try.ntmps5
        go_wp2_with fail
        refine ho.mono ?_
        rintro e w2 ⟨v2, rfl, ho2, k2, hb2⟩
        obtain ⟨a2, c2, rfl⟩ := own_any ho2
        have HO2 := hid ho2
        have K2 := hid k2
        clear ho ho2 k2 hb2
        go_wp2_with fail
        refine (HMO.out _ K2.out HE.out).mono ?_
        rintro e w3 ⟨rfl, k3⟩
        have K3 := hid k3
        clear k3
        go_wp2_with fail
        refine (letters_true _).mono ?_
        rintro e w4 ⟨rfl, k4⟩
        have K4 := hid k4
        clear k4
        go_wp2_with fail
        refine (mbytes_true (l := m) (Sl.keep (Sl.keep (Sl.ofOwn HO2.out) K3.out (fun _ _ h => h)) K4.out (fun _ _ h => h)) (Sl.keep (SlB.front HS.out) ((K2.out.trans K3.out).trans K4.out) (fun _ _ h => h))).mono ?_
        rintro e w5 ⟨rfl, k5⟩
        have K5 := hid k5
        clear k5
        go_wp2_with fail
        go_ret
        exact ⟨rfl, (((K2.out.trans K3.out).trans K4.out).trans K5.out).toBelow⟩
      · have ho := sopen_bad HS2.out HB.out hm he
        have HE := hid he
        clear he
        go_enter Try.func5, Try.ntmps5
        go_wp2_with fail
        refine ho.mono ?_
        rintro e w2 ⟨rfl, k2⟩
        have K2 := hid k2
        clear ho k2
        go_wp2_with fail
        refine (mopen_bad (HS2.out.keep K2.out (fun _ _ h => h)) HB.out hm HE.out).mono ?_
        rintro e w3 ⟨rfl, k3⟩
        have K3 := hid k3
        clear k3
        go_wp2_with fail
        refine (letters_true _).mono ?_
        rintro e w4 ⟨rfl, k4⟩
        have K4 := hid k4
        clear k4
        go_wp2_with fail
        refine (mbytes_true (l := []) (Sl.nil _ _) (Sl.nil _ _)).mono ?_
        rintro e w5 ⟨rfl, k5⟩
        have K5 := hid k5
        clear k5
        go_wp2_with fail
        go_ret
        exact ⟨rfl, (((K2.out.trans K3.out).trans K4.out).trans K5.out).toBelow⟩

theorem own : ownKnob Try.prog.godebug = none := by kernel_rfl
theorem laidOut : laidOutB Try.prog = true := by kernel_rfl
set_option maxRecDepth 100000 in
theorem lifted (os : Os) (started : os.Started) (H : Type) (enc : TypeId × Value → H) :
    ReturnsInHanded {} Try.checked os 5 .any (Rows.sumOpensSpec.pre6 enc Try.prog Try.f5 Rows.sumOpensRow.domain false) (Rows.sumOpensSpec.post enc Try.prog Try.f5 false true false false) := by
  refine returnsInHanded_of_change (C := Try.checked) own started (by kernel_rfl) Try.func5
    (ChangeSpec.witness6 (enc := enc) (C := Try.checked) false ⟨#[], #[.slice none 0 0], []⟩ 8 (by kernel_rfl) (by kernel_rfl) (by kernel_rfl) (by kernel_rfl)) ?_
  intro W base args ds gs before hval0 hW hcnd _
  have hval : ∀ (j : Nat) t v, Try.f5.params[j]? = some t → args[j]? = some v → Value.okWide Try.prog W .any base t v := hval0
  have hW' := hW
  obtain ⟨p, q, hA0, hV, rfl, hfz, hnd⟩ := hW
  have hA : DataW.TrodAll enc Try.prog W 0 (fun _ => true) true Try.f5.params.toList args.toList ds p := hA0
  rw [Try.params5] at hA hval
  obtain ⟨v0, vs0, d0, ds0, p0, q0, hargs, rfl, rfl, h0, r0⟩ := trodAll_cons hA
  obtain ⟨rfl, rfl, rfl⟩ := trodAll_nil r0
  obtain rfl : args = #[v0] := by cases args; simp_all
  obtain ⟨rfl, rfl⟩ := trodVars_none hV
  have k0 := h0
  have lt0 : ∀ x ∈ p0, x.block < W.heap.size := by obtain ⟨m, hm⟩ := k0; exact DataW.trod_lt m _ _ _ hm
  obtain ⟨s0, len0, cap0, rfl⟩ := okWide_slice Try.underlying22 (hval 0 22 v0 rfl rfl)
  obtain ⟨l0, rfl, w0, b0⟩ := argInts .u8 Try.underlying22 Try.underlying5 (by kernel_rfl) h0
  clear hA0 hval0
  refine (walk W s0 cap0 l0 w0 b0).mono fun e W' ⟨he, bel⟩ => ?_
  subst he
  exact ⟨_, rfl, _, _, _, [], _, [], hW', trodAll_mk1 (shut_bool Try.underlying4 _), (trodAll_cons_mk (Below.trod laidOut (by kernel_rfl) (of_decide_eq_true (by kernel_rfl)) k0 bel lt0) trodAll_mk0), rfl, bel.frame _, fun h => by cases h⟩

theorem over : Rows.sumOpensRow.holds Try.pinned (OpenSpec.ofChange Rows.sumOpensSpec) :=
  OpenClaim.holds_of_wide 5 Try.f5 rfl rfl rfl rfl rfl rfl rfl ⟨rfl, rfl, rfl, rfl, rfl⟩ rfl rfl rfl rfl rfl (by kernel_rfl) Try.func5 (by kernel_rfl)
    (of_decide_eq_true (by kernel_rfl)) (by unfold Func.isWrapper; first | (rw [if_pos (by decide +kernel)]; kernel_rfl) | (rw [if_neg (by decide +kernel)]; exact ⟨rfl, rfl⟩))
    (fun os started H enc _ => lifted os started H enc)

theorem proved : Rows.SumOpensSaid := over
#print axioms proved
end Go.Proofs.Ytgakjgblaaipmad.sumOpens
