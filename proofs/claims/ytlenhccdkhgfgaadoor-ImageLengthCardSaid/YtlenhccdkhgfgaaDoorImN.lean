/-
  The document's example of an image; a configuration's image, and back.
-/
import Derived.Test.YtlenhccdkhgfgaaDoorImL
import Derived.Test.YtlenhccdkhgfgaaDoorSame7
import Derived.Test.YtlenhccdkhgfgaaDoorMake2
namespace Go.Proofs.YtlenhccdkhgfgaaDoor
open Go.RowKit
set_option linter.unusedVariables false

theorem CfgR.shape {w : World} {C : Cfg} {sv rv tv : Value} (h : CfgR w C sv rv tv) : ∃ sa sc ra rc ta tc, sv = .slice sa C.sigs.length sc ∧ rv = .slice ra C.ruls.length rc ∧ tv = .slice ta C.tab.length tc := by
  obtain ⟨sa, sc, rfl⟩ := h.sig.any
  obtain ⟨ra, rc, rfl⟩ := h.rul.any
  obtain ⟨ta, tc, rfl⟩ := h.tab.any
  exact ⟨sa, sc, ra, rc, ta, tc, rfl, rfl, rfl⟩

/-- A configuration's image is read as it was written. -/
theorem code_any {w : World} {C : Cfg} {sv rv tv : Value} (R : CfgR w C sv rv tv) (hL : Laid C) (hs : (cfgB C).length ≤ 898) :
    Calls Tryd.prog 12 #[C.val sv rv tv] w fun e w' => ∃ v', e = .returned v' ∧ w'.ownsRow 0 5 1 v' (imgL C).length ((imgL C).map (Value.int .u8)) ∧ Keeps No w w' := by
  refine (encode_any R (fits_of_short (by omega)) (by omega) hL.bytes).mono ?_
  rintro e w' ⟨v', rfl, ho, hk, _⟩
  exact ⟨v', rfl, by rw [imgL_len]; exact ho, hk⟩

def Back (C : Cfg) (w : World) (e : Ending) (w' : World) : Prop := ∃ (D : Cfg) (sv rv tv : Value), e = .returned (.tuple #[D.val sv rv tv, .int .i64 0, .int .i64 0]) ∧ CfgR w' D sv rv tv ∧ D.pure = C.pure ∧ Keeps No w w'

theorem uncode_any {w : World} {C : Cfg} {v : Value} (hg : ErrV w) (h : SlB w v (imgL C)) (hL : Laid C) (hT : Tells C) (hs : (cfgB C).length ≤ 898) :
    Calls Tryd.prog 13 #[v] w (Back C w) := by
  refine (Decode_any hg h (imgL_bytes hL) (by rw [imgL_len]; omega)).mono ?_
  rintro e w' ⟨o, at_, c, cv, hd, rfl, hc, hk⟩
  obtain ⟨rfl, rfl, rfl⟩ := dec_back hT hd
  obtain ⟨D, sv, rv, tv, rfl, hr, hp⟩ := hc
  exact ⟨D, sv, rv, tv, rfl, hr, hp, hk⟩

set_option maxHeartbeats 8000000 in
set_option maxRecDepth 100000 in
theorem none_true {w : World} (hg : ErrV w) : Calls Tryd.prog 9 #[] w fun e w' => e = .returned (.bool true) ∧ Keeps No w w' := by
  have HG := hid hg
  clear hg
  go_enter Tryd.func9, Tryd.ntmps9
  go_wp2_with fail
  refine (Decode_any (p := []) HG.out (Sl.nil _ _) (fun x hx => by simp at hx) (by simp)).mono ?_
  rintro e w1 ⟨o, at_, c, cv, hd, rfl, hc, hk⟩
  obtain ⟨rfl, rfl, rfl⟩ := dec_nil hd
  have hcv : cv = .agg #[.slice none 0 0, .slice none 0 0, .slice none 0 0, .int .i64 0, .int .i64 0, .int .i64 0, .int .i64 0, .int .i64 0, .int .i64 0, .bool false, .int .i64 0] := hc
  subst hcv
  have K1 := hid hk
  have HG1 := hid (HG.out.keep hk)
  clear hd hc hk
  go_wp2_with fail
  obtain ⟨W2, hW2⟩ : ∃ W2, w1.alloc (.cells #[.slice none 0 0, .slice none 0 0, .slice none 0 0, .int .i64 0, .int .i64 0, .int .i64 0, .int .i64 0, .int .i64 0, .int .i64 0, .bool false, .int .i64 0] 33) = W2 := ⟨_, rfl⟩
  rw [hW2]
  have hk2 : Keeps No w1 W2 := by rw [← hW2]; exact (Keeps.refl _ _).alloc _
  have K2 := hid (K1.out.trans hk2)
  have HG2 := hid (HG1.out.keep hk2)
  clear hW2 hk2
  refine (make_any2 (rules := []) (slots := []) ⟨Sl.nil _ _, fun x hx => by simp at hx, fun x hx => by simp at hx, Sl.nil _ _, fun x hx => by simp at hx⟩ 0 0 0 0 false 0 (by constructor <;> decide) (by constructor <;> decide) (by constructor <;> decide) (by constructor <;> decide) (by constructor <;> decide)).mono ?_
  rintro e w3 ⟨C, csv, crv, ctv, rfl, hc, hm, hk, hown⟩
  obtain ⟨sg, sgc, ru, ruc, tb, tbc, rfl, rfl, rfl⟩ := hc.shape
  unfold Cfg.val Cfg.cells
  have HM := hid hm
  have K3 := hid (K2.out.trans hk)
  have HG3 := hid (HG2.out.keep hk)
  have HC := hid hc
  clear hc hm hk hown
  obtain ⟨W4, hW4⟩ : ∃ W4, w3.alloc (.cells #[.slice sg C.sigs.length sgc, .slice ru C.ruls.length ruc, .slice tb C.tab.length tbc, .int .i64 C.b0, .int .i64 C.b1, .int .i64 C.b2, .int .i64 C.drain, .int .i64 C.pause, .int .i64 C.off, .bool C.brk, .int .i64 C.log] 33) = W4 := ⟨_, rfl⟩
  have hk4 : Keeps No w3 W4 := by rw [← hW4]; exact (Keeps.refl _ _).alloc _
  have hb4 : BlkL W4 w3.heap.size 33 [.slice sg C.sigs.length sgc, .slice ru C.ruls.length ruc, .slice tb C.tab.length tbc, .int .i64 C.b0, .int .i64 C.b1, .int .i64 C.b2, .int .i64 C.drain, .int .i64 C.pause, .int .i64 C.off, .bool C.brk, .int .i64 C.log] := by rw [← hW4]; exact heap_alloc_new w3 _
  have K4 := hid (K3.out.trans hk4)
  have HG4 := hid (HG3.out.keep hk4)
  have HC4 := hid (HC.out.calm hk4)
  have HB4 := hid hb4
  have HW4 := hid hW4
  clear hk4 hW4
  go_upto_region 3 with fail
  rw [HW4.out]
  have x0 := hb4.cell (o := 0) rfl
  have x1 := hb4.cell (o := 1) rfl
  have x2 := hb4.cell (o := 2) rfl
  have x3 := hb4.cell (o := 3) rfl
  have x4 := hb4.cell (o := 4) rfl
  have x5 := hb4.cell (o := 5) rfl
  have x6 := hb4.cell (o := 6) rfl
  have x7 := hb4.cell (o := 7) rfl
  have x8 := hb4.cell (o := 8) rfl
  have x9 := hb4.cell (o := 9) rfl
  have x10 := hb4.cell (o := 10) rfl
  clear hb4
  go_wp2_with fail
  refine (code_any (C := C) HC4.out HM.out.laid HM.out.short).mono ?_
  rintro e w5 ⟨v5, rfl, ho, hk⟩
  have hsl : SlB w5 v5 (imgL C) := Sl.ofOwn ho
  obtain ⟨a5, c5, rfl⟩ := own_any ho
  have HV := hid hsl
  have K5 := hid (K4.out.trans hk)
  have HG5 := hid (HG4.out.keep hk)
  have HC5 := hid (HC4.out.calm hk)
  have HB5 := hid (HB4.out.keep hk (fun h => h))
  clear ho hsl hk x0 x1 x2 x3 x4 x5 x6 x7 x8 x9 x10
  go_wp2_with fail
  refine (uncode_any HG5.out HV.out HM.out.laid HM.out.tells HM.out.short).mono ?_
  rintro e w6 ⟨D, dsv, drv, dtv, rfl, hr, hp, hk⟩
  obtain ⟨sg2, sgc2, ru2, ruc2, tb2, tbc2, rfl, rfl, rfl⟩ := hr.shape
  unfold Cfg.val Cfg.cells
  have K6 := hid (K5.out.trans hk)
  have HC6 := hid (HC5.out.calm hk)
  have HB6 := hid (HB5.out.keep hk (fun h => h))
  have HD := hid hr
  have HP := hid hp
  clear hr hp hk HV HG5
  obtain ⟨W7, hW7⟩ : ∃ W7, w6.alloc (.cells #[.slice sg2 D.sigs.length sgc2, .slice ru2 D.ruls.length ruc2, .slice tb2 D.tab.length tbc2, .int .i64 D.b0, .int .i64 D.b1, .int .i64 D.b2, .int .i64 D.drain, .int .i64 D.pause, .int .i64 D.off, .bool D.brk, .int .i64 D.log] 33) = W7 := ⟨_, rfl⟩
  have hk7 : Keeps No w6 W7 := by rw [← hW7]; exact (Keeps.refl _ _).alloc _
  have hb7 : BlkL W7 w6.heap.size 33 [.slice sg2 D.sigs.length sgc2, .slice ru2 D.ruls.length ruc2, .slice tb2 D.tab.length tbc2, .int .i64 D.b0, .int .i64 D.b1, .int .i64 D.b2, .int .i64 D.drain, .int .i64 D.pause, .int .i64 D.off, .bool D.brk, .int .i64 D.log] := by rw [← hW7]; exact heap_alloc_new w6 _
  have hc7 := HB6.out.keep hk7 (fun h => h)
  have K7 := hid (K6.out.trans hk7)
  have HS := hid (csame_true (HC6.out.calm hk7) (HD.out.calm hk7) HP.out.symm)
  unfold Cfg.val Cfg.cells at HS
  have HW7 := hid hW7
  clear hk7 hW7
  go_upto_region 4 with fail
  rw [HW7.out]
  have x0 := hc7.cell (o := 0) rfl
  have x1 := hc7.cell (o := 1) rfl
  have x2 := hc7.cell (o := 2) rfl
  have x3 := hc7.cell (o := 3) rfl
  have x4 := hc7.cell (o := 4) rfl
  have x5 := hc7.cell (o := 5) rfl
  have x6 := hc7.cell (o := 6) rfl
  have x7 := hc7.cell (o := 7) rfl
  have x8 := hc7.cell (o := 8) rfl
  have x9 := hc7.cell (o := 9) rfl
  have x10 := hc7.cell (o := 10) rfl
  have y0 := hb7.cell (o := 0) rfl
  have y1 := hb7.cell (o := 1) rfl
  have y2 := hb7.cell (o := 2) rfl
  have y3 := hb7.cell (o := 3) rfl
  have y4 := hb7.cell (o := 4) rfl
  have y5 := hb7.cell (o := 5) rfl
  have y6 := hb7.cell (o := 6) rfl
  have y7 := hb7.cell (o := 7) rfl
  have y8 := hb7.cell (o := 8) rfl
  have y9 := hb7.cell (o := 9) rfl
  have y10 := hb7.cell (o := 10) rfl
  clear hc7 hb7
  go_wp2_with fail
  refine HS.out.mono ?_
  rintro e w8 ⟨rfl, hk⟩
  have K8 := hid (K7.out.trans hk)
  clear hk
  go_wp2_with fail
  go_ret
  exact ⟨rfl, K8.out⟩

end Go.Proofs.YtlenhccdkhgfgaaDoor
