/-
  What the laws of layer 7 share: the document's example; a configuration that is judged as the document says.
-/
import Derived.Test.YtaakmlgkfbpdoaaMake2
import Derived.Test.YtaakmlgkfbpdoaaRef74
import Derived.Test.YtaakmlgkfbpdoaaChk11
namespace Go.Proofs.Ytaakmlgkfbpdoaa
open Go.RowKit
set_option linter.unusedVariables false

theorem Made.first {C : Cfg} (h : Made C) : IsFirst rulP C 0 0 := Or.inl ⟨rfl, rfl, fun i hi b hb => h.right i hi b hb⟩

theorem Made.few' {C : Cfg} (h : Made C) : entries (C.tab.map (·.1)) ≤ 1000000 ∧ C.tab.length ≤ 1000 ∧ C.ruls.length ≤ 1000 ∧ C.sigs.length ≤ 1000 := by
  have h1 := h.room
  have h2 := h.drain
  have h3 := h.slots
  have h4 := h.few
  have h5 : C.sigs.length = 3 := by rw [h.sigs]; rfl
  have h6 : C.drain * (C.tab.length : Int) ≤ 64 * 6 := Int.mul_le_mul (by omega) (by omega) (by omega) (by omega)
  omega

/-- The configuration that is all zeros. -/
def C0 : Cfg := ⟨[], [], [], 0, 0, 0, 0, 0, 0, false, 0⟩

theorem C0.reads (w : World) : CfgR w C0 (.slice none 0 0) (.slice none 0 0) (.slice none 0 0) :=
  ⟨Sl.nil _ _, Sl.nil _ _, Sl.nil _ _, fun x hx => by simp [C0] at hx, fun x hx => by simp [C0] at hx⟩

theorem C0.first : IsFirst rulP C0 1 0 := Or.inr ⟨0, rfl, by decide, by decide, by decide, fun b hb => absurd hb (by omega), fun i hi => absurd hi (by omega)⟩

/-- The shapes of a configuration's three values. -/
theorem CfgR.shape {w : World} {C : Cfg} {sv rv tv : Value} (h : CfgR w C sv rv tv) : ∃ sa sc ra rc ta tc, sv = .slice sa C.sigs.length sc ∧ rv = .slice ra C.ruls.length rc ∧ tv = .slice ta C.tab.length tc := by
  obtain ⟨sa, sc, rfl⟩ := h.sig.any
  obtain ⟨ra, rc, rfl⟩ := h.rul.any
  obtain ⟨ta, tc, rfl⟩ := h.tab.any
  exact ⟨sa, sc, ra, rc, ta, tc, rfl, rfl, rfl⟩

set_option maxHeartbeats 2000000 in
set_option maxRecDepth 100000 in
theorem nothing_true (w : World) : Calls Try.prog 10 #[] w fun e w' => e = .returned (.bool true) ∧ Keeps No w w' := by
  have HF := fun w' => hid (first_any (w := w') (C := C0) (sa := none) (ra := none) (ta := none) (sc := 0) (rc := 0) (tc := 0) (C0.reads w') (by decide) (by decide) (by decide) (by decide))
  have HM := fun w' => hid (make_any (w := w') (rules := []) (rv := .slice none 0 0) (slots := []) (sv := .slice none 0 0) ⟨Sl.nil _ _, fun x hx => by simp at hx, fun x hx => by simp at hx, Sl.nil _ _, fun x hx => by simp at hx⟩ 0 0 0 0 false 0 (by unfold U8; omega) (by unfold U8; omega) (by unfold U8; omega) (by unfold U8; omega) (by unfold U8; omega))
  unfold cfgV C0 at HF
  go_enter Try.func10, Try.ntmps10
  go_wp2_with fail
  refine (HF _).out.mono ?_
  rintro e w1 ⟨n, a, rfl, hn, k1⟩
  obtain ⟨rfl, rfl⟩ := hn.only C0.first
  have K1 := hid k1
  clear hn k1 HF
  go_wp2_with fail
  refine (HM _).out.mono ?_
  rintro e w2 ⟨C, csv, crv, ctv, rfl, hc, hm, k2⟩
  obtain ⟨sa, sc, ra, rc, ta, tc, rfl, rfl, rfl⟩ := hc.shape
  have hr := right_any hc hm.few'.1 hm.few'.2.1 hm.few'.2.2.1 hm.few'.2.2.2
  unfold cfgV at hr
  unfold Cfg.val Cfg.cells
  have HR := hid hr
  have HM1 := hid hm.first
  have K2 := hid (K1.out.trans k2)
  clear hc hm k2 hr HM
  go_wp2_with fail
  refine HR.out.mono ?_
  rintro e w3 ⟨n, a, rfl, hn, k3⟩
  obtain ⟨rfl, rfl⟩ := hn.only HM1.out
  have K3 := hid (K2.out.trans k3)
  clear hn k3 HR
  go_wp2_with fail
  go_ret
  exact ⟨rfl, K3.out⟩

set_option maxHeartbeats 2000000 in
set_option maxRecDepth 100000 in
theorem csame_true {w : World} {C : Cfg} {sa ra ta : Option Addr} {sc rc tc : Nat} (h : CfgR w C (.slice sa C.sigs.length sc) (.slice ra C.ruls.length rc) (.slice ta C.tab.length tc)) (he : entries (C.tab.map (·.1)) ≤ 1000000) (ht : C.tab.length ≤ 1000) (hr : C.ruls.length ≤ 1000) (hs : C.sigs.length ≤ 1000) :
    Calls Try.prog 13 #[.agg #[.slice sa C.sigs.length sc, .slice ra C.ruls.length rc, .slice ta C.tab.length tc, .int .i64 C.b0, .int .i64 C.b1, .int .i64 C.b2, .int .i64 C.drain, .int .i64 C.pause, .int .i64 C.off, .bool C.brk, .int .i64 C.log]] w fun e w' => e = .returned (.bool true) ∧ Keeps No w w' := by
  obtain ⟨W1, hW1⟩ : ∃ W1, w.alloc (.cells #[.slice sa C.sigs.length sc, .slice ra C.ruls.length rc, .slice ta C.tab.length tc, .int .i64 C.b0, .int .i64 C.b1, .int .i64 C.b2, .int .i64 C.drain, .int .i64 C.pause, .int .i64 C.off, .bool C.brk, .int .i64 C.log] 33) = W1 := ⟨_, rfl⟩
  have k1 : Keeps No w W1 := by rw [← hW1]; exact (Keeps.refl _ _).alloc _
  have hb : CfgB W1 w.heap.size C sa ra ta sc rc tc := ⟨by rw [← hW1]; exact heap_alloc_new w _, h.calm k1⟩
  have HB := hid hb
  have HW1 := hid hW1
  have K1 := hid k1
  have HF := fun (w' : World) (k : Keeps No W1 w') => hid (first_any (hb.calm k).cfg he ht hr hs)
  have HG := fun (w' : World) (k : Keeps No W1 w') => hid (mfirst_any (hb.calm k).cfg he ht hr hs)
  have HR := fun (w' : World) (k : Keeps No W1 w') => hid (right_any (hb.calm k).cfg he ht hr hs)
  unfold cfgV at HF HG HR
  have x0 := hb.blk.cell (o := 0) rfl
  have x1 := hb.blk.cell (o := 1) rfl
  have x2 := hb.blk.cell (o := 2) rfl
  have x3 := hb.blk.cell (o := 3) rfl
  have x4 := hb.blk.cell (o := 4) rfl
  have x5 := hb.blk.cell (o := 5) rfl
  have x6 := hb.blk.cell (o := 6) rfl
  have x7 := hb.blk.cell (o := 7) rfl
  have x8 := hb.blk.cell (o := 8) rfl
  have x9 := hb.blk.cell (o := 9) rfl
  have x10 := hb.blk.cell (o := 10) rfl
  have HFH := hid HF
  have HGH := hid HG
  have HRH := hid HR
  clear h he ht hr hs hW1 k1 hb HF HG HR
  go_enter Try.func13, Try.ntmps13
  go_upto_region 1 with fail
  rw [HW1.out]
  go_wp2_with fail
  refine (HFH.out _ (Keeps.refl _ _)).out.mono ?_
  rintro e w2 ⟨n, a, rfl, hn, k2⟩
  have HN := hid hn
  have K2 := hid k2
  clear hn k2 x0 x1 x2 x3 x4 x5 x6 x7 x8 x9 x10
  have hb2 := HB.out.calm K2.out
  have x0 := hb2.blk.cell (o := 0) rfl
  have x1 := hb2.blk.cell (o := 1) rfl
  have x2 := hb2.blk.cell (o := 2) rfl
  have x3 := hb2.blk.cell (o := 3) rfl
  have x4 := hb2.blk.cell (o := 4) rfl
  have x5 := hb2.blk.cell (o := 5) rfl
  have x6 := hb2.blk.cell (o := 6) rfl
  have x7 := hb2.blk.cell (o := 7) rfl
  have x8 := hb2.blk.cell (o := 8) rfl
  have x9 := hb2.blk.cell (o := 9) rfl
  have x10 := hb2.blk.cell (o := 10) rfl
  clear hb2
  go_wp2_with fail
  refine (HGH.out _ K2.out).out.mono ?_
  rintro e w3 ⟨m, t, rfl, hm, k3⟩
  obtain ⟨rfl, rfl⟩ := hm.only HN.out.turn
  have K3 := hid (K2.out.trans k3)
  clear hm k3 x0 x1 x2 x3 x4 x5 x6 x7 x8 x9 x10
  have hb2 := HB.out.calm K3.out
  have x0 := hb2.blk.cell (o := 0) rfl
  have x1 := hb2.blk.cell (o := 1) rfl
  have x2 := hb2.blk.cell (o := 2) rfl
  have x3 := hb2.blk.cell (o := 3) rfl
  have x4 := hb2.blk.cell (o := 4) rfl
  have x5 := hb2.blk.cell (o := 5) rfl
  have x6 := hb2.blk.cell (o := 6) rfl
  have x7 := hb2.blk.cell (o := 7) rfl
  have x8 := hb2.blk.cell (o := 8) rfl
  have x9 := hb2.blk.cell (o := 9) rfl
  have x10 := hb2.blk.cell (o := 10) rfl
  clear hb2
  go_wp2_with fail
  refine (HRH.out _ K3.out).out.mono ?_
  rintro e w4 ⟨n', a', rfl, hn', k4⟩
  obtain ⟨rfl, rfl⟩ := hn'.only HN.out
  have K4 := hid (K3.out.trans k4)
  clear hn' k4
  go_wp2_with fail
  go_ret
  exact ⟨by simp, K1.out.trans K4.out⟩

end Go.Proofs.Ytaakmlgkfbpdoaa
