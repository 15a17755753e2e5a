/- A configuration is read as it was written. No conditions beside the row's. -/
import Derived.Test.YtlenhccdkhgfgaaDoorRows
import Derived.Test.YtlenhccdkhgfgaaDoorArgsE
import Derived.Test.YtlenhccdkhgfgaaDoorLawM
import Derived.ProofKit
import Derived.OpenShut
import Derived.Deep.RegionHeld3
import Derived.Test.YtlenhccdkhgfgaaDoorEncM
namespace Go.Proofs.YtlenhccdkhgfgaaDoor.imageBack
open Go.ChangeShapes Go.WideShapes Go.ChangeAt Go.RowKit
open Go.ChangeMaps (open_string shut_string)
set_option linter.unusedVariables false

set_option maxHeartbeats 8000000 in
set_option maxRecDepth 100000 in
theorem walk (w : World) (hg : ErrV w) (rules : List (LineD × Value)) (rv : Value) (slots : List Int) (sv : Value) (ba dr pa of_ : Int) (br : Bool) (lo : Int) (hd : DraftR w rules rv slots sv) (u1 : U8 ba) (u2 : U8 dr) (u3 : U8 pa) (u4 : U8 of_) (u5 : U8 lo) :
    Calls Tryd.prog 3 #[.agg #[rv, sv, .int .u8 ba, .int .u8 dr, .int .u8 pa, .int .u8 of_, .bool br, .int .u8 lo]] w fun e w' => e = .returned (.bool true) ∧ Below w.heap.size w w' := by
  obtain ⟨ra, rc, rfl⟩ := hd.rul.any
  obtain ⟨sa, sc, rfl⟩ := hd.slo.any
  obtain ⟨W1, hW1⟩ : ∃ W1, w.alloc (.cells #[.slice ra rules.length rc, .slice sa slots.length sc, .int .u8 ba, .int .u8 dr, .int .u8 pa, .int .u8 of_, .bool br, .int .u8 lo] 25) = W1 := ⟨_, rfl⟩
  have k1 : Keeps No w W1 := by rw [← hW1]; exact (Keeps.refl _ _).alloc _
  have hb : BlkL W1 w.heap.size 25 [.slice ra rules.length rc, .slice sa slots.length sc, .int .u8 ba, .int .u8 dr, .int .u8 pa, .int .u8 of_, .bool br, .int .u8 lo] := by rw [← hW1]; exact heap_alloc_new w _
  have H1 := hid (hd.calm k1)
  have HB := hid hb
  have HW1 := hid hW1
  have K1 := hid k1
  have U := hid (show U8 ba ∧ U8 dr ∧ U8 pa ∧ U8 of_ ∧ U8 lo from ⟨u1, u2, u3, u4, u5⟩)
  have HG := hid hg
  have HG0 := hid (hg.keep k1)
  clear hd hW1 k1 hb u1 u2 u3 u4 u5 hg
  go_enter Tryd.func3, Tryd.ntmps3
  go_upto_region 1 with fail
  rw [HW1.out]
  go_wp2_with fail
  refine (none_true HG0.out).mono ?_
  rintro e w2 ⟨rfl, k2⟩
  have hb := HB.out.keep k2 (fun h => h)
  have K2 := hid (K1.out.trans k2)
  have H2 := hid (H1.out.calm k2)
  have HB2 := hid hb
  have x0 := hb.cell (o := 0) rfl
  have x1 := hb.cell (o := 1) rfl
  have x2 := hb.cell (o := 2) rfl
  have x3 := hb.cell (o := 3) rfl
  have x4 := hb.cell (o := 4) rfl
  have x5 := hb.cell (o := 5) rfl
  have x6 := hb.cell (o := 6) rfl
  have x7 := hb.cell (o := 7) rfl
  clear hb k2
  go_wp2_with fail
  refine (short_any H2.out ba dr pa of_ br lo).mono ?_
  rintro e w3 ⟨bs, rfl, k3⟩
  clear x0 x1 x2 x3 x4 x5 x6 x7
  have K3 := hid (K2.out.trans k3)
  have H3 := hid (H2.out.calm k3)
  have hb := HB2.out.keep k3 (fun h => h)
  clear k3
  cases bs
  · clear hb
    go_wp2_with fail
    refine (none_true (HG.out.keep K3.out)).mono ?_
    rintro e w4 ⟨rfl, k4⟩
    have K4 := hid (K3.out.trans k4)
    clear k4
    go_wp2_with fail
    go_ret
    exact ⟨rfl, K4.out.toBelow⟩
  have x0 := hb.cell (o := 0) rfl
  have x1 := hb.cell (o := 1) rfl
  have x2 := hb.cell (o := 2) rfl
  have x3 := hb.cell (o := 3) rfl
  have x4 := hb.cell (o := 4) rfl
  have x5 := hb.cell (o := 5) rfl
  have x6 := hb.cell (o := 6) rfl
  have x7 := hb.cell (o := 7) rfl
  clear hb
  go_wp2_with fail
  refine (make_any2 H3.out ba dr pa of_ br lo U.out.1 U.out.2.1 U.out.2.2.1 U.out.2.2.2.1 U.out.2.2.2.2).mono ?_
  rintro e w4 ⟨C, csv, crv, ctv, rfl, hc, hm, k4, hown⟩
  clear x0 x1 x2 x3 x4 x5 x6 x7
  obtain ⟨sg, sgc, ru, ruc, tb, tbc, rfl, rfl, rfl⟩ := hc.shape
  unfold Cfg.val Cfg.cells
  have HM := hid hm
  have K4 := hid (K3.out.trans k4)
  have HG4 := hid (HG.out.keep K4.out)
  obtain ⟨W5, hW5⟩ : ∃ W5, w4.alloc (.cells #[.slice sg C.sigs.length sgc, .slice ru C.ruls.length ruc, .slice tb C.tab.length tbc, .int .i64 C.b0, .int .i64 C.b1, .int .i64 C.b2, .int .i64 C.drain, .int .i64 C.pause, .int .i64 C.off, .bool C.brk, .int .i64 C.log] 33) = W5 := ⟨_, rfl⟩
  have k5 : Keeps No w4 W5 := by rw [← hW5]; exact (Keeps.refl _ _).alloc _
  have hb5 : BlkL W5 w4.heap.size 33 [.slice sg C.sigs.length sgc, .slice ru C.ruls.length ruc, .slice tb C.tab.length tbc, .int .i64 C.b0, .int .i64 C.b1, .int .i64 C.b2, .int .i64 C.drain, .int .i64 C.pause, .int .i64 C.off, .bool C.brk, .int .i64 C.log] := by rw [← hW5]; exact heap_alloc_new w4 _
  have HC5 := hid (hc.calm k5)
  have HW5 := hid hW5
  have HB5 := hid hb5
  have K5 := hid (K4.out.trans k5)
  have HG5 := hid (HG4.out.keep k5)
  clear hc hm k4 hown hW5 k5 H1 H2 H3 HB HB2 K1 K2 K3 HW1 U HG HG0
  go_upto_region 4 with fail
  rw [HW5.out]
  have x0 := hb5.cell (o := 0) rfl
  have x1 := hb5.cell (o := 1) rfl
  have x2 := hb5.cell (o := 2) rfl
  have x3 := hb5.cell (o := 3) rfl
  have x4 := hb5.cell (o := 4) rfl
  have x5 := hb5.cell (o := 5) rfl
  have x6 := hb5.cell (o := 6) rfl
  have x7 := hb5.cell (o := 7) rfl
  have x8 := hb5.cell (o := 8) rfl
  have x9 := hb5.cell (o := 9) rfl
  have x10 := hb5.cell (o := 10) rfl
  clear hb5
  go_wp2_with fail
  refine (code_any (C := C) HC5.out HM.out.laid HM.out.short).mono ?_
  rintro e w6 ⟨v6, rfl, ho, hk⟩
  have hsl : SlB w6 v6 (imgL C) := Sl.ofOwn ho
  obtain ⟨a6, c6, rfl⟩ := own_any ho
  have HV := hid hsl
  have K6 := hid (K5.out.trans hk)
  have HG6 := hid (HG5.out.keep hk)
  have HC6 := hid (HC5.out.calm hk)
  have HB6 := hid (HB5.out.keep hk (fun h => h))
  clear ho hsl hk x0 x1 x2 x3 x4 x5 x6 x7 x8 x9 x10 HC5 HB5 K5 HG5 HW5
  go_wp2_with fail
  refine (uncode_any HG6.out HV.out HM.out.laid HM.out.tells HM.out.short).mono ?_
  rintro e w7 ⟨D, dsv, drv, dtv, rfl, hr, hp, hk⟩
  obtain ⟨sg2, sgc2, ru2, ruc2, tb2, tbc2, rfl, rfl, rfl⟩ := hr.shape
  unfold Cfg.val Cfg.cells
  have K7 := hid (K6.out.trans hk)
  have HC7 := hid (HC6.out.calm hk)
  have HB7 := hid (HB6.out.keep hk (fun h => h))
  have HV7 := hid (Sl.keep HV.out hk (fun _ _ h => h))
  have HD := hid hr
  have HP := hid hp
  clear hr hp hk HV HG6 HC6 HB6 K6
  obtain ⟨W8, hW8⟩ : ∃ W8, w7.alloc (.cells #[.slice sg2 D.sigs.length sgc2, .slice ru2 D.ruls.length ruc2, .slice tb2 D.tab.length tbc2, .int .i64 D.b0, .int .i64 D.b1, .int .i64 D.b2, .int .i64 D.drain, .int .i64 D.pause, .int .i64 D.off, .bool D.brk, .int .i64 D.log] 33) = W8 := ⟨_, rfl⟩
  have k8 : Keeps No w7 W8 := by rw [← hW8]; exact (Keeps.refl _ _).alloc _
  have hb8 : BlkL W8 w7.heap.size 33 [.slice sg2 D.sigs.length sgc2, .slice ru2 D.ruls.length ruc2, .slice tb2 D.tab.length tbc2, .int .i64 D.b0, .int .i64 D.b1, .int .i64 D.b2, .int .i64 D.drain, .int .i64 D.pause, .int .i64 D.off, .bool D.brk, .int .i64 D.log] := by rw [← hW8]; exact heap_alloc_new w7 _
  have hc8 := HB7.out.keep k8 (fun h => h)
  have HBD := hid hb8
  have HBC := hid hc8
  have HC8 := hid (HC7.out.calm k8)
  have HD8 := hid (HD.out.calm k8)
  have HV8 := hid (Sl.keep HV7.out k8 (fun _ _ h => h))
  have K8 := hid (K7.out.trans k8)
  have HW8 := hid hW8
  clear hW8 k8 HC7 HB7 HV7 HD K7
  go_upto_region 6 with fail
  rw [HW8.out]
  have x0 := hc8.cell (o := 0) rfl
  have x1 := hc8.cell (o := 1) rfl
  have x2 := hc8.cell (o := 2) rfl
  have x3 := hc8.cell (o := 3) rfl
  have x4 := hc8.cell (o := 4) rfl
  have x5 := hc8.cell (o := 5) rfl
  have x6 := hc8.cell (o := 6) rfl
  have x7 := hc8.cell (o := 7) rfl
  have x8 := hc8.cell (o := 8) rfl
  have x9 := hc8.cell (o := 9) rfl
  have x10 := hc8.cell (o := 10) rfl
  clear hc8 hb8
  go_wp2_with fail
  refine (mencode_any HC8.out (by have := HM.out.short; omega) HM.out.laid.bytes).mono ?_
  rintro e w9 ⟨v9, rfl, ho, hk, _⟩
  rw [← imgL_len] at ho
  have hsl : SlB w9 v9 (imgL C) := Sl.ofOwn ho
  obtain ⟨a9, c9, rfl⟩ := own_any ho
  have HV9 := hid hsl
  have K9 := hid hk
  clear ho hsl hk x0 x1 x2 x3 x4 x5 x6 x7 x8 x9 x10
  go_wp2_with fail
  refine (mbytes_true (l := imgL C) (Sl.keep HV8.out K9.out (fun _ _ h => h)) HV9.out).mono ?_
  rintro e w10 ⟨rfl, hk⟩
  have k10 := K9.out.trans hk
  have HS := hid (csame_true (HD8.out.calm k10) (HC8.out.calm k10) HP.out)
  unfold Cfg.val Cfg.cells at HS
  have hb10 := HBD.out.keep k10 (fun h => h)
  have hc10 := HBC.out.keep k10 (fun h => h)
  have K10 := hid (K8.out.trans k10)
  clear hk k10 HV9 HV8 K9 HW8 HBD HBC HC8 HD8 K8
  have x0 := hc10.cell (o := 0) rfl
  have x1 := hc10.cell (o := 1) rfl
  have x2 := hc10.cell (o := 2) rfl
  have x3 := hc10.cell (o := 3) rfl
  have x4 := hc10.cell (o := 4) rfl
  have x5 := hc10.cell (o := 5) rfl
  have x6 := hc10.cell (o := 6) rfl
  have x7 := hc10.cell (o := 7) rfl
  have x8 := hc10.cell (o := 8) rfl
  have x9 := hc10.cell (o := 9) rfl
  have x10 := hc10.cell (o := 10) rfl
  have y0 := hb10.cell (o := 0) rfl
  have y1 := hb10.cell (o := 1) rfl
  have y2 := hb10.cell (o := 2) rfl
  have y3 := hb10.cell (o := 3) rfl
  have y4 := hb10.cell (o := 4) rfl
  have y5 := hb10.cell (o := 5) rfl
  have y6 := hb10.cell (o := 6) rfl
  have y7 := hb10.cell (o := 7) rfl
  have y8 := hb10.cell (o := 8) rfl
  have y9 := hb10.cell (o := 9) rfl
  have y10 := hb10.cell (o := 10) rfl
  clear hc10 hb10
  go_wp2_with fail
  refine HS.out.mono ?_
  rintro e w11 ⟨rfl, hk⟩
  have K11 := hid (K10.out.trans hk)
  clear hk HS
  go_wp2_with fail
  go_ret
  exact ⟨rfl, K11.out.toBelow⟩

theorem own : ownKnob Tryd.prog.godebug = none := by kernel_rfl
theorem laidOut : laidOutB Tryd.prog = true := by kernel_rfl
set_option maxRecDepth 100000 in
theorem lifted (os : Os) (started : os.Started) (H : Type) (enc : TypeId × Value → H) :
    ReturnsInHanded {} Tryd.checked os 3 .any (fun w args => (Rows.imageBackSpec.pre enc Tryd.prog Tryd.f3 [] false w args ∧ laidMetH Tryd.prog [("errors.errorType", Rows.laid_errors_errorType)] w) ∧ sizedMet enc Tryd.prog Tryd.f3 (OpenSpec.ofChange Rows.imageBackSpec) false w args) (Rows.imageBackSpec.post enc Tryd.prog Tryd.f3 false true false false) := by
  refine returnsInHanded_of_change_and (C := Tryd.checked) (X := fun w _ => laidMetH Tryd.prog [("errors.errorType", Rows.laid_errors_errorType)] w) (fun _ _ _ hh h => h.of_heap hh) own started (by kernel_rfl) Tryd.func3
    (ChangeSpec.witness_at (enc := enc) (C := Tryd.checked) (os := os) (X := fun w _ => laidMetH Tryd.prog [("errors.errorType", Rows.laid_errors_errorType)] w) false (laidWorld os) #[.agg #[.slice none 0 0, .slice none 0 0, .int .u8 0, .int .u8 0, .int .u8 0, .int .u8 0, .bool false, .int .u8 0]] 8 rfl (by kernel_rfl) (by kernel_rfl) (by kernel_rfl) (by kernel_rfl) (by kernel_rfl) (laidWorld_met os _)) ?_
  intro W base args ds gs before hval0 hW hcnd _ hL _
  have hg := handle_of_laid hL
  have hval : ∀ (j : Nat) t v, Tryd.f3.params[j]? = some t → args[j]? = some v → Value.okWide Tryd.prog W .any base t v := hval0
  have hW' := hW
  obtain ⟨p, q, hA0, hV, rfl, hfz, hnd⟩ := hW
  have hA : DataW.TrodAll enc Tryd.prog W 0 (fun _ => true) true Tryd.f3.params.toList args.toList ds p := hA0
  rw [Tryd.params3] at hA hval
  obtain ⟨v0, vs0, d0, ds0, p0, q0, hargs, rfl, rfl, h0, r0⟩ := trodAll_cons hA
  obtain ⟨rfl, rfl, rfl⟩ := trodAll_nil r0
  obtain rfl : args = #[v0] := by cases args; simp_all
  obtain ⟨rfl, rfl⟩ := trodVars_none hV
  have k0 := h0
  have lt0 : ∀ x ∈ p0, x.block < W.heap.size := by obtain ⟨m, hm⟩ := k0; exact DataW.trod_lt m _ _ _ hm
  obtain ⟨rules, rv, slots, sv, ba, dr, pa, of_, br, lo, rfl, hd, u1, u2, u3, u4, u5⟩ := argDraft (hval 0 25 v0 rfl rfl) h0
  clear hA0 hval0
  refine (walk W hg rules rv slots sv ba dr pa of_ br lo hd u1 u2 u3 u4 u5).mono fun e W' ⟨he, bel⟩ => ?_
  subst he
  exact ⟨_, rfl, _, _, _, [], _, [], hW', trodAll_mk1 (shut_bool Tryd.underlying4 _), (trodAll_cons_mk (Below.trod laidOut (by kernel_rfl) (of_decide_eq_true (by kernel_rfl)) k0 bel lt0) trodAll_mk0), rfl, bel.frame _, fun h => by cases h⟩

theorem over : Rows.imageBackRow.holds Tryd.pinned (OpenSpec.ofChange Rows.imageBackSpec) :=
  OpenClaim.holds_of_wide 3 Tryd.f3 rfl rfl rfl rfl rfl rfl rfl ⟨rfl, rfl, rfl, rfl, rfl⟩ rfl rfl rfl rfl rfl (by kernel_rfl) Tryd.func3 (by kernel_rfl)
    (of_decide_eq_true (by kernel_rfl)) (by unfold Func.isWrapper; first | (rw [if_pos (by decide +kernel)]; kernel_rfl) | (rw [if_neg (by decide +kernel)]; exact ⟨rfl, rfl⟩))
    (fun os started H enc _ => lifted os started H enc)

theorem proved : Rows.ImageBackCardSaid :=
  Claim7.holds_tied_plain_at .later [] [.handle] true (true, "bf61a0ac0b77768fd6463ca71fcf3807c313b05a13ffb6325fe70bc381b5822f") true
    over (fun _ h => by cases h) (by kernel_rfl) (fun _ h => by cases h) imageBack_row_tie rfl ⟨rfl, rfl⟩ (by kernel_rfl) rfl
    (fun f fn hf hfn => by
      obtain rfl : f = 3 := Option.some.inj ((show Tryd.prog.funcNamed "handbell/handbelllaw06.ImageBack" = some 3 by kernel_rfl).symm.trans hf) |>.symm
      obtain rfl : fn = Tryd.f3 := (Option.some.inj (Tryd.func3.symm.trans hfn)).symm
      exact ⟨by kernel_rfl, fun j t ht => by
        rw [Tryd.params3] at ht
        have hm : t ∈ (#[25] : Array TypeId).toList := by
          have := Array.mem_of_getElem? ht
          simpa using this
        simp at hm
        subst hm; exact (show Tryd.prog.wantsStandIn 25 = false by kernel_rfl)⟩)
    (by kernel_rfl)
#print axioms proved
end Go.Proofs.YtlenhccdkhgfgaaDoor.imageBack
