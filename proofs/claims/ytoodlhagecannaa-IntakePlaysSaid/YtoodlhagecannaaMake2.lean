/-
  The document's Make.
-/
import Derived.Test.YtoodlhagecannaaMkB
namespace Go.Proofs.Ytoodlhagecannaa
open Go.RowKit
set_option linter.unusedVariables false

set_option maxHeartbeats 8000000 in
set_option maxRecDepth 100000 in
theorem make_any3 {w : World} {rules : List (LineD × Value)} {rv : Value} {slots : List Int} {sv : Value} (h : DraftR w rules rv slots sv) (ba dr pa of_ : Int) (br : Bool) (lo : Int) (hba : U8 ba) (hdr : U8 dr) (hpa : U8 pa) (hof : U8 of_) (hlo : U8 lo) :
    Calls Try.prog 12 #[.agg #[rv, sv, .int .u8 ba, .int .u8 dr, .int .u8 pa, .int .u8 of_, .bool br, .int .u8 lo]] w (MakePost3 w rules ba dr pa of_ lo br) := by
  obtain ⟨ra, rc, rfl⟩ := h.rul.any
  obtain ⟨sa, sc, rfl⟩ := h.slo.any
  have H := hid h
  obtain ⟨dl, hdl⟩ : ∃ dl, dl = draftL (.slice ra rules.length rc) (.slice sa slots.length sc) ba dr pa of_ br lo := ⟨_, rfl⟩
  obtain ⟨W1, hW1⟩ : ∃ W1, W1 = w.alloc (.cells dl.toArray 25) := ⟨_, rfl⟩
  obtain ⟨W2, hW2⟩ : ∃ W2, W2 = W1.alloc (.cells zeroCfg.toArray 34) := ⟨_, rfl⟩
  obtain ⟨W3, hW3⟩ : ∃ W3, W3 = W2.alloc (.cells sigsL.toArray 73) := ⟨_, rfl⟩
  obtain ⟨W4, hW4⟩ : ∃ W4, W4 = W3.alloc (.cells (cfgL (w.heap.size + 1 + 1) (.slice none 0 0) (.slice none 0 0)).toArray 34) := ⟨_, rfl⟩
  have z1 : W1.heap.size = w.heap.size + 1 := by rw [hW1]; simp
  have z2 : W2.heap.size = w.heap.size + 1 + 1 := by rw [hW2]; simp [z1]
  have z3 : W3.heap.size = w.heap.size + 1 + 1 + 1 := by rw [hW3]; simp [z2]
  have k1 : Keeps No w W1 := by rw [hW1]; exact (Keeps.refl _ _).alloc _
  have k2 : Keeps No W1 W2 := by rw [hW2]; exact (Keeps.refl _ _).alloc _
  have k3 : Keeps No W2 W3 := by rw [hW3]; exact (Keeps.refl _ _).alloc _
  have k4 : Keeps No W3 W4 := by rw [hW4]; exact (Keeps.refl _ _).alloc _
  have b1 : BlkL W1 w.heap.size 25 dl := by rw [hW1]; exact heap_alloc_new w _
  have b2 : BlkL W2 (w.heap.size + 1) 34 zeroCfg := by rw [hW2]; exact heap_alloc_at z1 _
  have b3 : BlkL W3 (w.heap.size + 1 + 1) 73 sigsL := by rw [hW3]; exact heap_alloc_at z2 _
  have b4 : BlkL W4 (w.heap.size + 1 + 1 + 1) 34 (cfgL (w.heap.size + 1 + 1) (.slice none 0 0) (.slice none 0 0)) := by rw [hW4]; exact heap_alloc_at z3 _
  have hM : MkS w W4 dl (.slice none 0 0) (.slice none 0 0) [] := ⟨b1.keep (k2.trans (k3.trans k4)) (fun h => h), b2.keep (k3.trans k4) (fun h => h), b3.keep k4 (fun h => h), b4, k1.trans (k2.trans (k3.trans k4)), World.ownsRow_nil _ _ _ _, fun b hb => by simp [Value.ownBlock] at hb, fun x hx => by simp at hx, fun x hx => by simp at hx, fun x hx => by simp at hx⟩
  have HM := hid hM
  have hw4 : (((w.alloc (.cells dl.toArray 25)).alloc (.cells zeroCfg.toArray 34)).alloc (.cells sigsL.toArray 73)).alloc (.cells (cfgL (w.heap.size + 1 + 1) (.slice none 0 0) (.slice none 0 0)).toArray 34) = W4 := by rw [hW4, hW3, hW2, hW1]
  rw [hdl] at hw4
  unfold draftL zeroCfg sigsL cfgL at hw4
  have HW4 := hid hw4
  have HDL := hid hdl
  clear h hdl hW1 hW2 hW3 hW4 z1 z2 z3 k1 k2 k3 k4 b1 b2 b3 b4 hM hw4
  go_enter Try.func12, Try.ntmps12
  go_wp2_with fail
  rw [HW4.out]
  clear HW4
  refine make_rules w rules slots ra rc sa sc ba dr pa of_ br lo dl W4 H HDL hba hdr hpa hof hlo HM _ _ (fun a w' h => ?_)
  obtain ⟨i, crv, rs, u, hi8, hi1, hir, HNC, HRL, HK, HLIKE, rfl⟩ := h
  rename_i hk
  exact hk _ _ (make_tail w rules slots ra rc sa sc ba dr pa of_ br lo dl H HDL hba hdr hpa hof hlo w' i crv rs u hi8 hi1 hir HNC HRL HK HLIKE)

theorem make_any2 {w : World} {rules : List (LineD × Value)} {rv : Value} {slots : List Int} {sv : Value} (h : DraftR w rules rv slots sv) (ba dr pa of_ : Int) (br : Bool) (lo : Int) (hba : U8 ba) (hdr : U8 dr) (hpa : U8 pa) (hof : U8 of_) (hlo : U8 lo) :
    Calls Try.prog 12 #[.agg #[rv, sv, .int .u8 ba, .int .u8 dr, .int .u8 pa, .int .u8 of_, .bool br, .int .u8 lo]] w (MakePost2 w) :=
  (make_any3 h ba dr pa of_ br lo hba hdr hpa hof hlo).mono (fun _ _ h => h.two)

theorem make_any {w : World} {rules : List (LineD × Value)} {rv : Value} {slots : List Int} {sv : Value} (h : DraftR w rules rv slots sv) (ba dr pa of_ : Int) (br : Bool) (lo : Int) (hba : U8 ba) (hdr : U8 dr) (hpa : U8 pa) (hof : U8 of_) (hlo : U8 lo) :
    Calls Try.prog 12 #[.agg #[rv, sv, .int .u8 ba, .int .u8 dr, .int .u8 pa, .int .u8 of_, .bool br, .int .u8 lo]] w (MakePost w) :=
  (make_any2 h ba dr pa of_ br lo hba hdr hpa hof hlo).mono (fun _ _ h => h.post)

end Go.Proofs.Ytoodlhagecannaa
