/- Any bytes, also closed, and behind the letters: the program and the document read the same of them. No conditions beside the row's. -/
import Derived.Test.YtlenhccdkhgfgaaDoorRows
import Derived.Test.YtlenhccdkhgfgaaDoorArgs
import Derived.Test.YtlenhccdkhgfgaaDoorLawM
import Derived.Test.YtlenhccdkhgfgaaDoorSumM
import Derived.Test.YtlenhccdkhgfgaaDoorDecM
import Derived.ProofKit
import Derived.OpenShut
namespace Go.Proofs.YtlenhccdkhgfgaaDoor.imageDecodes
open Go.ChangeShapes Go.WideShapes Go.ChangeAt Go.RowKit
open Go.ChangeMaps (open_string shut_string)
set_option linter.unusedVariables false

set_option maxHeartbeats 8000000 in
set_option maxRecDepth 100000 in
theorem walk (w : World) (hg : ErrV w) (s : Option Addr) (cap : Nat) (p : List Int) (hs : Sl w 1 (.slice s p.length cap) p.length (p.map (Value.int .u8))) (hb0 : ∀ n ∈ p, (Lit.int .u8 n).wf = true) :
    Calls Tryd.prog 4 #[.slice s p.length cap] w fun e w' => e = .returned (.bool true) ∧ Below w.heap.size w w' := by
  have HS := hid hs
  have hb : Bytes p := fun x hx => bounds_u8 (hb0 x hx)
  have HB := hid hb
  have HG := hid hg
  clear hs hb0 hb hg
  by_cases hl : 300 < p.length
  · have hd : decide ((p.length : Int) > 300) = true := by simp; omega
    go_enter Tryd.func4, Tryd.ntmps4
    go_wp2_with fail
    refine (none_true HG.out).mono ?_
    rintro e w1 ⟨rfl, k1⟩
    have K1 := hid k1
    have HG1 := hid (HG.out.keep k1)
    clear k1
    go_wp2_with fail
    refine (none_true HG1.out).mono ?_
    rintro e w2 ⟨rfl, k2⟩
    have K2 := hid (K1.out.trans k2)
    clear k2
    go_wp2_with fail
    go_ret
    exact ⟨rfl, K2.out.toBelow⟩
  · have hd : decide ((p.length : Int) > 300) = false := by simp; omega
    go_enter Tryd.func4, Tryd.ntmps4
    go_wp2_with fail
    refine (none_true HG.out).mono ?_
    rintro e w1 ⟨rfl, k1⟩
    have K1 := hid k1
    have HG1 := hid (HG.out.keep k1)
    have HS1 := hid (HS.out.keep k1 (fun _ _ h => h))
    clear k1
    go_wp2_with fail
    refine (decodes_true HG1.out HS1.out HB.out (by omega)).mono ?_
    rintro e w2 ⟨rfl, k2⟩
    have K2 := hid (K1.out.trans k2)
    have HG2 := hid (HG1.out.keep k2)
    have HS2 := hid (HS1.out.keep k2 (fun _ _ h => h))
    clear k2 HG1 HS1 K1
    go_wp2_with fail
    refine (mclose_any HS2.out HB.out (by omega)).mono ?_
    rintro e w3 ⟨v3, rfl, ho, k3, _⟩
    obtain ⟨P3, hP3⟩ : ∃ P, p ++ [((mof p).toNat : Int) / 256, ((mof p).toNat : Int) % 256] = P := ⟨_, rfl⟩
    have hl3 : P3.length = p.length + 2 := by rw [← hP3]; simp
    rw [hP3, ← hl3] at ho
    have HL3 := hid (show P3.length ≤ 302 by omega)
    have HB3 : Hid (Bytes P3) := hid (by rw [← hP3]; exact HB.out.app (sum_bytes _))
    have HS3 := hid (show SlB w3 v3 P3 from Sl.ofOwn ho)
    obtain ⟨a3, c3, rfl⟩ := own_any ho
    have K3 := hid (K2.out.trans k3)
    have HG3 := hid (HG2.out.keep k3)
    have HSp := hid (HS2.out.keep k3 (fun _ _ h => h))
    clear ho k3 hP3 hl3 HG2 HS2 K2
    go_wp2_with fail
    refine (decodes_true HG3.out HS3.out HB3.out (by have := HL3.out; omega)).mono ?_
    rintro e w4 ⟨rfl, k4⟩
    have K4 := hid (K3.out.trans k4)
    have HG4 := hid (HG3.out.keep k4)
    have HS4 := hid (HSp.out.keep k4 (fun _ _ h => h))
    clear k4 HG3 HSp K3 HS3
    obtain ⟨W5, hW5⟩ : ∃ W, w4.alloc (.cells #[.int .u8 72, .int .u8 66, .int .u8 49] 5 (3, 4)) = W := ⟨_, rfl⟩
    have hcv := Go.Joins.run_convert_bytes_const_at (P := Tryd.prog) w4 23 5 #[.int .u8 72, .int .u8 66, .int .u8 49] 3 3 w4.heap.size rfl Tryd.underlying23 Tryd.underlying5
    simp only [show (#[Value.int .u8 72, .int .u8 66, .int .u8 49] : Array Value).size = 3 from rfl, hW5] at hcv
    have hs5 : SlB W5 (.slice (some ⟨w4.heap.size, 0, none⟩) 3 3) [72, 66, 49] := by
      refine ⟨rfl, by decide, _, 3, rfl, Nat.le_refl _, fun h => (by cases h), fun _ => ⟨w4.heap.size, 0, rfl, by rw [← hW5]; simp, fun j u hu => ?_⟩⟩
      rw [Nat.zero_add, ← hW5]
      exact cell_at (heap_alloc_new w4 _) (by simpa using hu)
    have k5 : Keeps No w4 W5 := by rw [← hW5]; exact (Keeps.refl _ _).alloc _
    have HJ := hid (mjoin_any hs5 (HS4.out.keep k5 (fun _ _ h => h)) (by simp; omega))
    have K5 := hid (K4.out.trans k5)
    have HG5 := hid (HG4.out.keep k5)
    have HW5 := hid hW5
    clear hW5 hs5 k5 K4 HG4
    go_wp2_with fail
    refine HJ.out.mono ?_
    rintro e w6 ⟨v6, rfl, ho, k6, _⟩
    obtain ⟨P6, hP6⟩ : ∃ P, ([72, 66, 49] : List Int) ++ p = P := ⟨_, rfl⟩
    have hl6 : P6.length = ([72, 66, 49] : List Int).length + p.length := by rw [← hP6, List.length_append]
    rw [hP6, ← hl6] at ho
    have HL6 := hid (show P6.length ≤ 303 by rw [hl6]; simp; omega)
    have HB6 : Hid (Bytes P6) := hid (by rw [← hP6]; exact Bytes.app (fun x hx => by simp at hx; omega) HB.out)
    have HS6 := hid (show SlB w6 v6 P6 from Sl.ofOwn ho)
    obtain ⟨a6, c6, rfl⟩ := own_any ho
    have K6 := hid (K5.out.trans k6)
    have HG6 := hid (HG5.out.keep k6)
    clear ho k6 hP6 hl6 HG5 K5 HJ hcv HW5 HS4
    go_wp2_with fail
    refine (mclose_any HS6.out HB6.out (by have := HL6.out; omega)).mono ?_
    rintro e w7 ⟨v7, rfl, ho, k7, _⟩
    obtain ⟨P7, hP7⟩ : ∃ P, P6 ++ [((mof P6).toNat : Int) / 256, ((mof P6).toNat : Int) % 256] = P := ⟨_, rfl⟩
    have hl7 : P7.length = P6.length + 2 := by rw [← hP7]; simp
    rw [hP7, ← hl7] at ho
    have HL7 := hid (show P7.length ≤ 305 by have := HL6.out; omega)
    have HB7 : Hid (Bytes P7) := hid (by rw [← hP7]; exact HB6.out.app (sum_bytes _))
    have HS7 := hid (show SlB w7 v7 P7 from Sl.ofOwn ho)
    obtain ⟨a7, c7, rfl⟩ := own_any ho
    have K7 := hid (K6.out.trans k7)
    have HG7 := hid (HG6.out.keep k7)
    clear ho k7 hP7 hl7 HG6 K6 HS6
    go_wp2_with fail
    refine (decodes_true HG7.out HS7.out HB7.out (by have := HL7.out; omega)).mono ?_
    rintro e w8 ⟨rfl, k8⟩
    have K8 := hid (K7.out.trans k8)
    clear k8
    go_wp2_with fail
    go_ret
    exact ⟨rfl, K8.out.toBelow⟩

theorem own : ownKnob Tryd.prog.godebug = none := by kernel_rfl
theorem laidOut : laidOutB Tryd.prog = true := by kernel_rfl
set_option maxRecDepth 100000 in
theorem lifted (os : Os) (started : os.Started) (H : Type) (enc : TypeId × Value → H) :
    ReturnsInHanded {} Tryd.checked os 4 .any (fun w args => (Rows.imageDecodesSpec.pre enc Tryd.prog Tryd.f4 [] false w args ∧ laidMetH Tryd.prog [("errors.errorType", Rows.laid_errors_errorType)] w) ∧ sizedMet enc Tryd.prog Tryd.f4 (OpenSpec.ofChange Rows.imageDecodesSpec) false w args) (Rows.imageDecodesSpec.post enc Tryd.prog Tryd.f4 false true false false) := by
  refine returnsInHanded_of_change_and (C := Tryd.checked) (X := fun w _ => laidMetH Tryd.prog [("errors.errorType", Rows.laid_errors_errorType)] w) (fun _ _ _ hh h => h.of_heap hh) own started (by kernel_rfl) Tryd.func4
    (ChangeSpec.witness_at (enc := enc) (C := Tryd.checked) (os := os) (X := fun w _ => laidMetH Tryd.prog [("errors.errorType", Rows.laid_errors_errorType)] w) false (laidWorld os) #[.slice none 0 0] 8 rfl (by kernel_rfl) (by kernel_rfl) (by kernel_rfl) (by kernel_rfl) (by kernel_rfl) (laidWorld_met os _)) ?_
  intro W base args ds gs before hval0 hW hcnd _ hL _
  have hg := handle_of_laid hL
  have hval : ∀ (j : Nat) t v, Tryd.f4.params[j]? = some t → args[j]? = some v → Value.okWide Tryd.prog W .any base t v := hval0
  have hW' := hW
  obtain ⟨p, q, hA0, hV, rfl, hfz, hnd⟩ := hW
  have hA : DataW.TrodAll enc Tryd.prog W 0 (fun _ => true) true Tryd.f4.params.toList args.toList ds p := hA0
  rw [Tryd.params4] at hA hval
  obtain ⟨v0, vs0, d0, ds0, p0, q0, hargs, rfl, rfl, h0, r0⟩ := trodAll_cons hA
  obtain ⟨rfl, rfl, rfl⟩ := trodAll_nil r0
  obtain rfl : args = #[v0] := by cases args; simp_all
  obtain ⟨rfl, rfl⟩ := trodVars_none hV
  have k0 := h0
  have lt0 : ∀ x ∈ p0, x.block < W.heap.size := by obtain ⟨m, hm⟩ := k0; exact DataW.trod_lt m _ _ _ hm
  obtain ⟨s0, len0, cap0, rfl⟩ := okWide_slice Tryd.underlying23 (hval 0 23 v0 rfl rfl)
  obtain ⟨l0, rfl, w0, b0⟩ := argInts .u8 Tryd.underlying23 Tryd.underlying5 (by kernel_rfl) h0
  clear hA0 hval0
  refine (walk W hg s0 cap0 l0 w0 b0).mono fun e W' ⟨he, bel⟩ => ?_
  subst he
  exact ⟨_, rfl, _, _, _, [], _, [], hW', trodAll_mk1 (shut_bool Tryd.underlying4 _), (trodAll_cons_mk (Below.trod laidOut (by kernel_rfl) (of_decide_eq_true (by kernel_rfl)) k0 bel lt0) trodAll_mk0), rfl, bel.frame _, fun h => by cases h⟩

theorem over : Rows.imageDecodesRow.holds Tryd.pinned (OpenSpec.ofChange Rows.imageDecodesSpec) :=
  OpenClaim.holds_of_wide 4 Tryd.f4 rfl rfl rfl rfl rfl rfl rfl ⟨rfl, rfl, rfl, rfl, rfl⟩ rfl rfl rfl rfl rfl (by kernel_rfl) Tryd.func4 (by kernel_rfl)
    (of_decide_eq_true (by kernel_rfl)) (by unfold Func.isWrapper; first | (rw [if_pos (by decide +kernel)]; kernel_rfl) | (rw [if_neg (by decide +kernel)]; exact ⟨rfl, rfl⟩))
    (fun os started H enc _ => lifted os started H enc)

theorem proved : Rows.ImageDecodesCardSaid :=
  Claim7.holds_tied_plain_at .later [] [.handle] true (true, "bf61a0ac0b77768fd6463ca71fcf3807c313b05a13ffb6325fe70bc381b5822f") true
    over (fun _ h => by cases h) (by kernel_rfl) (fun _ h => by cases h) imageDecodes_row_tie rfl ⟨rfl, rfl⟩ (by kernel_rfl) rfl
    (fun f fn hf hfn => by
      obtain rfl : f = 4 := Option.some.inj ((show Tryd.prog.funcNamed "handbell/handbelllaw06.ImageDecodes" = some 4 by kernel_rfl).symm.trans hf) |>.symm
      obtain rfl : fn = Tryd.f4 := (Option.some.inj (Tryd.func4.symm.trans hfn)).symm
      exact ⟨by kernel_rfl, fun j t ht => by
        rw [Tryd.params4] at ht
        have hm : t ∈ (#[23] : Array TypeId).toList := by
          have := Array.mem_of_getElem? ht
          simpa using this
        simp at hm
        subst hm; exact (show Tryd.prog.wantsStandIn 23 = false by kernel_rfl)⟩)
    (by kernel_rfl)
#print axioms proved
end Go.Proofs.YtlenhccdkhgfgaaDoor.imageDecodes
