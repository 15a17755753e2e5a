/-
  The document's example of a change.
-/
import Derived.Test.YtiflpkmknooioaaTrendS
import Derived.Test.YtiflpkmknooioaaTrendM
namespace Go.Proofs.Ytiflpkmknooioaa
open Go.RowKit
set_option linter.unusedVariables false

def tx1 : SeenD := ⟨2, 0, 0, 3, false⟩
def tx2 : SeenD := ⟨5, 0, 0, 9, false⟩

set_option maxHeartbeats 4000000 in
set_option maxRecDepth 100000 in
theorem changes_true (w : World) : Calls Try.prog 20 #[] w fun e w' => e = .returned (.bool true) ∧ Keeps No w w' := by
  go_enter Try.func20, Try.ntmps20
  go_wp2_with fail
  refine (cnew_any 1 w ⟨by decide, by decide⟩).mono ?_
  rintro e w1 ⟨sb, F1, rfl, h1, k1, n1⟩
  have e1 : clampS 1 = 1 := rfl
  rw [e1] at h1
  have H1 := hid h1
  have K1 := hid k1
  have N1 := hid n1
  clear h1 k1 n1 e1
  go_wp2_with fail
  refine (cput_any H1.out tx1 (by simp) ⟨by decide, by decide⟩ (fun y hy => by simp at hy)).mono ?_
  rintro e w2 ⟨rfl, F2, h2, u2⟩
  have e2 : takes 1 tx1 = true := rfl
  rw [e2] at h2 ⊢
  have H2 : Hid (Sto w2 sb F2 1 [tx1]) := hid h2
  have U2 := hid u2
  clear h2 u2 e2
  go_wp2_with fail
  refine (cput_any H2.out tx2 (by simp) ⟨by decide, by decide⟩ (fun y hy => by simp at hy; subst hy; decide)).mono ?_
  rintro e w3 ⟨rfl, F3, h3, u3⟩
  have e3 : takes 1 tx2 = true := rfl
  rw [e3] at h3 ⊢
  have H3 : Hid (Sto w3 sb F3 1 [tx1, tx2]) := hid h3
  have HU := newUpd N1.out K1.out (U2.out.trans u3)
  have K3 := hid HU.2
  clear h3 u3 e3 HU
  go_wp2_with fail
  refine (tchange_any H3.out 0 6 4 ⟨by decide, by decide⟩ ⟨by decide, by decide⟩).mono ?_
  rintro e w4 ⟨rfl, k⟩
  have H4 := hid (H3.out.keep k (fun _ _ h => h))
  have K4 := hid (K3.out.trans k)
  have e4 : changeD [tx1, tx2] 0 6 4 = some 6 := by rw [changeD_some (o := tx1) (v := tx2) rfl rfl, wrap64_in ⟨by decide, by decide⟩]; rfl
  rw [e4]
  unfold ChangeA
  clear k e4
  go_wp2_with fail
  refine (tchange_any H4.out 0 6 2 ⟨by decide, by decide⟩ ⟨by decide, by decide⟩).mono ?_
  rintro e w5 ⟨rfl, k⟩
  have H5 := hid (H4.out.keep k (fun _ _ h => h))
  have K5 := hid (K4.out.trans k)
  have e4 : changeD [tx1, tx2] 0 6 2 = some 0 := by rw [changeD_some (o := tx2) (v := tx2) rfl rfl, wrap64_in ⟨by decide, by decide⟩]; rfl
  rw [e4]
  unfold ChangeA
  clear k e4
  go_wp2_with fail
  refine (tchange_any H5.out 0 9 3 ⟨by decide, by decide⟩ ⟨by decide, by decide⟩).mono ?_
  rintro e w6 ⟨rfl, k⟩
  have H6 := hid (H5.out.keep k (fun _ _ h => h))
  have K6 := hid (K5.out.trans k)
  have e4 : changeD [tx1, tx2] 0 9 3 = none := changeD_none rfl
  rw [e4]
  unfold ChangeA
  clear k e4
  go_wp2_with fail
  go_ret
  exact ⟨rfl, K6.out⟩

end Go.Proofs.Ytiflpkmknooioaa
