/-
  The document's example of a store.
-/
import Derived.Test.YtabidomilpdelaaCellS
namespace Go.Proofs.Ytabidomilpdelaa
open Go.RowKit
set_option linter.unusedVariables false

def ex1 : SeenD := ⟨3, 0, 0, 7, false⟩
def ex2 : SeenD := ⟨5, 0, 0, 9, false⟩

set_option maxHeartbeats 4000000 in
set_option maxRecDepth 100000 in
theorem keeps_true (w : World) : Calls Try.prog 9 #[] w fun e w' => e = .returned (.bool true) ∧ Keeps No w w' := by
  go_enter Try.func9, Try.ntmps9
  go_wp2_with fail
  refine (cnew_any 1 w ⟨by decide, by decide⟩).mono ?_
  rintro e w1 ⟨sb, F1, rfl, h1, k1, n1⟩
  have e1 : clampS 1 = 1 := rfl
  rw [e1] at h1
  have H1 := hid h1
  have K1 := hid k1
  have N1 := hid n1
  clear h1 k1 n1 e1
  go_wp2_with fail
  refine (cput_any H1.out ex1 (by simp) ⟨by decide, by decide⟩ (fun y hy => by simp at hy)).mono ?_
  rintro e w2 ⟨rfl, F2, h2, u2⟩
  have e2 : takes 1 ex1 = true := rfl
  rw [e2] at h2 ⊢
  have H2 : Hid (Sto w2 sb F2 1 [ex1]) := hid h2
  have U2 := hid u2
  clear h2 u2 e2
  go_wp2_with fail
  refine (cput_any H2.out ex2 (by simp) ⟨by decide, by decide⟩ (fun y hy => by simp at hy; subst hy; decide)).mono ?_
  rintro e w3 ⟨rfl, F3, h3, u3⟩
  have e3 : takes 1 ex2 = true := rfl
  rw [e3] at h3 ⊢
  have H3 : Hid (Sto w3 sb F3 1 [ex1, ex2]) := hid h3
  have HU := newUpd N1.out K1.out (U2.out.trans u3)
  have K3 := hid HU.2
  clear h3 u3 e3 HU
  go_wp2_with fail
  refine (cvalue_any H3.out 0).mono ?_
  rintro e w4 ⟨rfl, k4⟩
  have H4 := hid (H3.out.keep k4 (fun _ _ h => h))
  have K4 := hid (K3.out.trans k4)
  have e4 : ValueA (valueD [ex1, ex2] 0) = .tuple #[.int .i64 9, .int .i64 5, .bool true] := rfl
  rw [e4]
  clear k4 e4
  go_wp2_with fail
  refine (coldest_any H4.out 0 4).mono ?_
  rintro e w5 ⟨rfl, k5⟩
  have H5 := hid (H4.out.keep k5 (fun _ _ h => h))
  have K5 := hid (K4.out.trans k5)
  have e5 : OldestA (oldestD [ex1, ex2] 0 4) = .tuple #[.int .i64 9, .bool true] := rfl
  rw [e5]
  clear k5 e5
  go_wp2_with fail
  refine (cquiet_any H5.out 0 8 ⟨by decide, by decide⟩).mono ?_
  rintro e w6 ⟨rfl, k6⟩
  have H6 := hid (H5.out.keep k6 (fun _ _ h => h))
  have K6 := hid (K5.out.trans k6)
  have e6 : quietD [ex1, ex2] 0 8 = 3 := by decide
  rw [e6]
  clear k6 e6
  go_wp2_with fail
  refine (cbad_any H6.out 0).mono ?_
  rintro e w7 ⟨rfl, k7⟩
  have K7 := hid (K6.out.trans k7)
  have e7 : badD [ex1, ex2] 0 = false := rfl
  rw [e7]
  clear k7 e7
  go_wp2_with fail
  go_ret
  exact ⟨rfl, K7.out⟩

end Go.Proofs.Ytabidomilpdelaa
