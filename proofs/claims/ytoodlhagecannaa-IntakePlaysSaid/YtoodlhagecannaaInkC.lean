/-
  Events on their way: the document's example.
-/
import Derived.Test.YtoodlhagecannaaInkJ
import Derived.Test.YtoodlhagecannaaMake2
import Derived.Test.YtoodlhagecannaaShort18
namespace Go.Proofs.Ytoodlhagecannaa
open Go.RowKit
set_option linter.unusedVariables false
set_option linter.unusedSimpArgs false

theorem cfg_shape18 {w : World} {C : Cfg} {sv rv tv : Value} (h : CfgR w C sv rv tv) : ∃ sa sc ra rc ta tc, sv = .slice sa C.sigs.length sc ∧ rv = .slice ra C.ruls.length rc ∧ tv = .slice ta C.tab.length tc := by
  obtain ⟨sa, sc, rfl⟩ := h.sig.any
  obtain ⟨ra, rc, rfl⟩ := h.rul.any
  obtain ⟨ta, tc, rfl⟩ := h.tab.any
  exact ⟨sa, sc, ra, rc, ta, tc, rfl, rfl, rfl⟩
theorem pri_like {C : Cfg} {rules : List (LineD × Value)} (h : LikeL rules C.ruls) {k : Nat} (hk : k < C.ruls.length) {p : Int} (hp : (lineAt rules k).pri % 3 + 1 = p) : prioD C (k : Int) = p := by
  rw [prioD_at hk, (h.2 k hk).pri, hp]

set_option maxHeartbeats 8000000 in
set_option maxRecDepth 100000 in
theorem refuses_true (w : World) : Calls Try.prog 10 #[] w fun e w' => e = .returned (.bool true) ∧ Keeps No w w' := by
  obtain ⟨z, hz⟩ : ∃ z, w.heap.size = z := ⟨_, rfl⟩
  obtain ⟨W1, hW1⟩ : ∃ W1, w.alloc (.cells #[.int .u8 0, .int .u8 0, .int .u8 0, .int .u8 0, .int .u8 0, .int .u8 0, .int .u8 0, .bool false, .slice none 0 0, .int .u8 0, .int .u8 0, .int .u8 0, .int .u8 0, .int .u8 0, .int .u8 0, .int .u8 0, .bool false, .slice none 0 0] 71) = W1 := ⟨_, rfl⟩
  have b1 : Bk W1 z 71 [.int .u8 0, .int .u8 0, .int .u8 0, .int .u8 0, .int .u8 0, .int .u8 0, .int .u8 0, .bool false, .slice none 0 0, .int .u8 0, .int .u8 0, .int .u8 0, .int .u8 0, .int .u8 0, .int .u8 0, .int .u8 0, .bool false, .slice none 0 0] := by rw [← hW1]; exact Bk.new hz _ _
  have k1 : Keeps No w W1 := by rw [← hW1]; exact (Keeps.refl _ _).alloc _
  have hD : DraftR W1 [zeroLine, zeroLine] (.slice (some ⟨z, 0, none⟩) 2 2) [] (.slice none 0 0) :=
    ⟨Sl.ofBlkM b1 rfl (by unfold maxLen; decide), fun x hx => by simp at hx; subst hx; exact Sl.nil _ _, fun x hx => by simp at hx; subst hx; exact okZero, Sl.nil _ _, fun x hx => by simp at hx⟩
  have HMK := hid (make_any3 hD 0 0 0 0 false 0 ⟨by decide, by decide⟩ ⟨by decide, by decide⟩ ⟨by decide, by decide⟩ ⟨by decide, by decide⟩ ⟨by decide, by decide⟩)
  have K1 := hid k1
  have HW1 := hid hW1
  have HZ := hid hz
  clear hz hW1 b1 k1 hD
  go_enter Try.func10, Try.ntmps10
  go_wp2_with fail
  try rw [HZ.out]
  rw [HW1.out]
  refine HMK.out.mono ?_
  rintro e w2 ⟨C, csv, crv, ctv, ⟨rfl, hc, hm, k2, _⟩, hfr, _⟩
  obtain ⟨sg, sgc, ru, ruc, tb, tbc, rfl, rfl, rfl⟩ := cfg_shape18 hc
  unfold Cfg.val Cfg.cells
  have hn2 : C.ruls.length = 2 := by rw [hfr.num]; rfl
  have hp0 : prioD C 0 = 1 := pri_like hfr.like (k := 0) (by omega) rfl
  have hp1 : prioD C 1 = 1 := pri_like hfr.like (k := 1) (by omega) rfl
  have hb0 : C.b0 = 1 := hfr.b0
  have hb1 : C.b1 = 1 := hfr.b1
  have hb2 : C.b2 = 1 := hfr.b2
  have ht1 : C.tab.length = 1 := by have := hfr.slots; omega
  obtain ⟨q1, q2, q3⟩ := refuses_plain hn2 hp0 hp1 hb0 ht1
  have Q1 := hid q1
  have Q2 := hid q2
  have Q3 := hid q3
  have HIC := hid hm.ink
  have HN2 := hid hn2
  have HC2 := hid hc
  have K2 := hid (K1.out.trans k2)
  have HBB := hid (show C.b0 = 1 ∧ C.b1 = 1 ∧ C.b2 = 1 from ⟨hb0, hb1, hb2⟩)
  clear hc hm k2 hfr hn2 hp0 hp1 hb0 hb1 hb2 ht1 q1 q2 q3 HMK HW1 HZ K1
  go_upto_region 2 with fail
  obtain ⟨cb, hcb⟩ : ∃ q, w2.heap.size = q := ⟨_, rfl⟩
  obtain ⟨W3, hW3⟩ : ∃ W3, w2.alloc (.cells #[.slice sg C.sigs.length sgc, .slice ru C.ruls.length ruc, .slice tb C.tab.length tbc, .int .i64 C.b0, .int .i64 C.b1, .int .i64 C.b2, .int .i64 C.drain, .int .i64 C.pause, .int .i64 C.off, .bool C.brk, .int .i64 C.log] 34) = W3 := ⟨_, rfl⟩
  have HB3 : Hid (Bk W3 cb 34 [.slice sg C.sigs.length sgc, .slice ru C.ruls.length ruc, .slice tb C.tab.length tbc, .int .i64 C.b0, .int .i64 C.b1, .int .i64 C.b2, .int .i64 C.drain, .int .i64 C.pause, .int .i64 C.off, .bool C.brk, .int .i64 C.log]) := hid (by rw [← hW3]; exact Bk.new hcb _ _)
  have K3 : Hid (Keeps No w2 W3) := hid (by rw [← hW3]; exact (Keeps.refl _ _).alloc _)
  have HCB := hid (show w2.heap.size ≤ cb by omega)
  try rw [hcb]
  rw [hW3]
  clear hW3 hcb
  have x0 := HB3.out.cell 0 rfl
  have x1 := HB3.out.cell 1 rfl
  have x2 := HB3.out.cell 2 rfl
  have x3 := HB3.out.cell 3 rfl
  have x4 := HB3.out.cell 4 rfl
  have x5 := HB3.out.cell 5 rfl
  have x6 := HB3.out.cell 6 rfl
  have x7 := HB3.out.cell 7 rfl
  have x8 := HB3.out.cell 8 rfl
  have x9 := HB3.out.cell 9 rfl
  have x10 := HB3.out.cell 10 rfl
  have g3 := HB3.out.free 3
  have g4 := HB3.out.free 4
  have g5 := HB3.out.free 5
  go_upto_region 3 with fail
  obtain ⟨W4, hW4⟩ : ∃ W4, (((W3.setCell ⟨cb, 3, none⟩ (.int .i64 1)).setCell ⟨cb, 4, none⟩ (.int .i64 1)).setCell ⟨cb, 5, none⟩ (.int .i64 1)) = W4 := ⟨_, rfl⟩
  have HB4 : Hid (Bk W4 cb 34 [.slice sg C.sigs.length sgc, .slice ru C.ruls.length ruc, .slice tb C.tab.length tbc, .int .i64 C.b0, .int .i64 C.b1, .int .i64 C.b2, .int .i64 C.drain, .int .i64 C.pause, .int .i64 C.off, .bool C.brk, .int .i64 C.log]) := hid (by
    have h := ((HB3.out.put 3 (.int .i64 1) rfl).put 4 (.int .i64 1) rfl).put 5 (.int .i64 1) rfl
    rw [hW4] at h
    simp only [List.set_cons_succ, List.set_cons_zero] at h
    have e := HBB.out
    rw [e.1, e.2.1, e.2.2]
    exact h)
  have K4 : Hid (Keeps No w2 W4) := hid (by rw [← hW4]; exact (((K3.out.setCell (Or.inl HCB.out) _).setCell (Or.inl HCB.out) _).setCell (Or.inl HCB.out) _))
  have HC4 := hid (HC2.out.calm K4.out)
  rw [hW4]
  clear hW4 x0 x1 x2 x3 x4 x5 x6 x7 x8 x9 x10 g3 g4 g5 HB3 K3
  have x0 := HB4.out.cell 0 rfl
  have x1 := HB4.out.cell 1 rfl
  have x2 := HB4.out.cell 2 rfl
  have x3 := HB4.out.cell 3 rfl
  have x4 := HB4.out.cell 4 rfl
  have x5 := HB4.out.cell 5 rfl
  have x6 := HB4.out.cell 6 rfl
  have x7 := HB4.out.cell 7 rfl
  have x8 := HB4.out.cell 8 rfl
  have x9 := HB4.out.cell 9 rfl
  have x10 := HB4.out.cell 10 rfl
  go_wp2_with fail
  have HNEW := pj_new W4 HC4.out (by have := HN2.out; omega)
  refine HNEW.mono ?_
  rintro e w5 ⟨nb, rfl, h5⟩
  rw [show InkD.start C.ruls.length = InkD.start 2 by rw [HN2.out]] at h5
  have J5 := hid h5
  clear h5 HNEW x0 x1 x2 x3 x4 x5 x6 x7 x8 x9 x10
  go_wp2_with fail
  refine (pj_offer J5.out HC4.out HIC.out 3 0 true ⟨by decide, by decide⟩ (by decide)).mono ?_
  rintro e w6 ⟨rfl, h6, k6⟩
  rw [Q1.out] at h6 ⊢
  have J6 := hid h6
  clear h6 k6
  go_wp2_with fail
  refine (pj_offer J6.out HC4.out HIC.out 3 1 true ⟨by decide, by decide⟩ (by decide)).mono ?_
  rintro e w7 ⟨rfl, h7, k7⟩
  rw [Q2.out] at h7 ⊢
  have J7 := hid h7
  clear h7 k7
  go_wp2_with fail
  refine (pj_over J7.out HC4.out 3 ⟨by decide, by decide⟩).mono ?_
  rintro e w8 ⟨rfl, k8⟩
  rw [Q3.out]
  have J8 := hid (J7.out.calm k8)
  clear k8
  go_wp2_with fail
  refine (pj_refused J8.out).mono ?_
  rintro e w9 ⟨rfl, k9⟩
  have J9 := hid (J8.out.calm k9)
  clear k9
  go_wp2_with fail
  go_ret
  exact ⟨rfl, K2.out.trans (K4.out.trans J9.out.old)⟩

end Go.Proofs.Ytoodlhagecannaa
