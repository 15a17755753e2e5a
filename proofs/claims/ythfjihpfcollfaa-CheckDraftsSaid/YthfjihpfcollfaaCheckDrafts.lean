/- A configuration that a draft tells may be; it is judged as the document says. No conditions. -/
import Derived.Test.YthfjihpfcollfaaArgsD
import Derived.Test.YthfjihpfcollfaaRows
import Derived.Test.YthfjihpfcollfaaChkL
import Derived.Test.YthfjihpfcollfaaChkS
import Derived.ProofKit
import Derived.OpenShut
import Derived.Deep.RegionHeld3
namespace Go.Proofs.Ythfjihpfcollfaa.checkDrafts
open Go.ChangeShapes Go.WideShapes Go.ChangeAt Go.RowKit
open Go.ChangeMaps (open_string shut_string)
set_option linter.unusedVariables false

set_option maxHeartbeats 8000000 in
set_option maxRecDepth 100000 in
theorem walk (w : World) (rules : List (LineD × Value)) (rv : Value) (slots : List Int) (sv : Value) (ba dr pa of_ : Int) (br : Bool) (lo : Int) (hd : DraftR w rules rv slots sv) (u1 : U8 ba) (u2 : U8 dr) (u3 : U8 pa) (u4 : U8 of_) (u5 : U8 lo) :
    Calls Try.prog 9 #[.agg #[rv, sv, .int .u8 ba, .int .u8 dr, .int .u8 pa, .int .u8 of_, .bool br, .int .u8 lo]] w fun e w' => e = .returned (.bool true) ∧ Below w.heap.size w w' := by
  obtain ⟨ra, rc, rfl⟩ := hd.rul.any
  obtain ⟨sa, sc, rfl⟩ := hd.slo.any
  obtain ⟨W1, hW1⟩ : ∃ W1, w.alloc (.cells #[.slice ra rules.length rc, .slice sa slots.length sc, .int .u8 ba, .int .u8 dr, .int .u8 pa, .int .u8 of_, .bool br, .int .u8 lo] 44) = W1 := ⟨_, rfl⟩
  have k1 : Keeps No w W1 := by rw [← hW1]; exact (Keeps.refl _ _).alloc _
  have hb : BlkL W1 w.heap.size 44 [.slice ra rules.length rc, .slice sa slots.length sc, .int .u8 ba, .int .u8 dr, .int .u8 pa, .int .u8 of_, .bool br, .int .u8 lo] := by rw [← hW1]; exact heap_alloc_new w _
  have H1 := hid (hd.calm k1)
  have HB := hid hb
  have HW1 := hid hW1
  have K1 := hid k1
  have U := hid (show U8 ba ∧ U8 dr ∧ U8 pa ∧ U8 of_ ∧ U8 lo from ⟨u1, u2, u3, u4, u5⟩)
  clear hd hW1 k1 hb u1 u2 u3 u4 u5
  go_enter Try.func9, Try.ntmps9
  go_upto_region 1 with fail
  rw [HW1.out]
  go_wp2_with fail
  refine (nothing_true _).mono ?_
  rintro e w2 ⟨rfl, k2⟩
  have hb := HB.out.keep k2 (fun h => h)
  have K2 := hid (K1.out.trans k2)
  have H2 := hid (H1.out.calm k2)
  have HB2 := hid hb
  have x0 := hb.cell (o := 0) rfl
  have x1 := hb.cell (o := 1) rfl
  have x2 := hb.cell (o := 2) rfl
  have x3 := hb.cell (o := 3) rfl
  have x4 := hb.cell (o := 4) rfl
  have x5 := hb.cell (o := 5) rfl
  have x6 := hb.cell (o := 6) rfl
  have x7 := hb.cell (o := 7) rfl
  clear hb k2
  go_wp2_with fail
  refine (short_any H2.out ba dr pa of_ br lo).mono ?_
  rintro e w3 ⟨bs, rfl, k3⟩
  clear x0 x1 x2 x3 x4 x5 x6 x7
  have K3 := hid (K2.out.trans k3)
  have H3 := hid (H2.out.calm k3)
  have hb := HB2.out.keep k3 (fun h => h)
  clear k3
  cases bs
  · clear hb
    go_wp2_with fail
    refine (nothing_true _).mono ?_
    rintro e w4 ⟨rfl, k4⟩
    have K4 := hid (K3.out.trans k4)
    clear k4
    go_wp2_with fail
    go_ret
    exact ⟨rfl, K4.out.toBelow⟩
  have x0 := hb.cell (o := 0) rfl
  have x1 := hb.cell (o := 1) rfl
  have x2 := hb.cell (o := 2) rfl
  have x3 := hb.cell (o := 3) rfl
  have x4 := hb.cell (o := 4) rfl
  have x5 := hb.cell (o := 5) rfl
  have x6 := hb.cell (o := 6) rfl
  have x7 := hb.cell (o := 7) rfl
  clear hb
  go_wp2_with fail
  refine (make_any H3.out ba dr pa of_ br lo U.out.1 U.out.2.1 U.out.2.2.1 U.out.2.2.2.1 U.out.2.2.2.2).mono ?_
  rintro e w4 ⟨C, csv, crv, ctv, rfl, hc, hm, k4⟩
  clear x0 x1 x2 x3 x4 x5 x6 x7
  obtain ⟨sg, sgc, ru, ruc, tb, tbc, rfl, rfl, rfl⟩ := hc.shape
  unfold Cfg.val Cfg.cells
  have hf := hm.few'
  have HM1 := hid hm.first
  have K4 := hid (K3.out.trans k4)
  obtain ⟨W5, hW5⟩ : ∃ W5, w4.alloc (.cells #[.slice sg C.sigs.length sgc, .slice ru C.ruls.length ruc, .slice tb C.tab.length tbc, .int .i64 C.b0, .int .i64 C.b1, .int .i64 C.b2, .int .i64 C.drain, .int .i64 C.pause, .int .i64 C.off, .bool C.brk, .int .i64 C.log] 51) = W5 := ⟨_, rfl⟩
  have k5 : Keeps No w4 W5 := by rw [← hW5]; exact (Keeps.refl _ _).alloc _
  have hb5 : BlkL W5 w4.heap.size 51 [.slice sg C.sigs.length sgc, .slice ru C.ruls.length ruc, .slice tb C.tab.length tbc, .int .i64 C.b0, .int .i64 C.b1, .int .i64 C.b2, .int .i64 C.drain, .int .i64 C.pause, .int .i64 C.off, .bool C.brk, .int .i64 C.log] := by rw [← hW5]; exact heap_alloc_new w4 _
  have hc5 := hc.calm k5
  have HR := hid (fun (w' : World) (k : Keeps No W5 w') => right_any (hc5.calm k) hf.1 hf.2.1 hf.2.2.1 hf.2.2.2)
  have HS := hid (fun (w' : World) (k : Keeps No W5 w') => csame_true (hc5.calm k) hf.1 hf.2.1 hf.2.2.1 hf.2.2.2)
  have HE1 := hid (fun (w' : World) (k : Keeps No W5 w') => centries_any (sa := sg) (ra := ru) (sc := sgc) (rc := ruc) (sn := C.sigs.length) (rn := C.ruls.length) (hc5.calm k).tabR hf.1 C.b0 C.b1 C.b2 C.drain C.pause C.off C.log C.brk)
  have HE2 := hid (fun (w' : World) (k : Keeps No W5 w') => mentries_any (sa := sg) (ra := ru) (sc := sgc) (rc := ruc) (sn := C.sigs.length) (rn := C.ruls.length) (hc5.calm k).tabR hf.1 C.b0 C.b1 C.b2 C.drain C.pause C.off C.log C.brk)
  unfold cfgV at HR HE1 HE2
  obtain ⟨E, hE⟩ : ∃ E, entries (C.tab.map (·.1)) = E := ⟨_, rfl⟩
  rw [hE] at HE1 HE2
  have HW5 := hid hW5
  have HC5 := hid hb5
  have K5 := hid (K4.out.trans k5)
  clear hc hm k4 hf hW5 k5 hc5 hE
  go_upto_region 4 with fail
  rw [HW5.out]
  have x0 := hb5.cell (o := 0) rfl
  have x1 := hb5.cell (o := 1) rfl
  have x2 := hb5.cell (o := 2) rfl
  have x3 := hb5.cell (o := 3) rfl
  have x4 := hb5.cell (o := 4) rfl
  have x5 := hb5.cell (o := 5) rfl
  have x6 := hb5.cell (o := 6) rfl
  have x7 := hb5.cell (o := 7) rfl
  have x8 := hb5.cell (o := 8) rfl
  have x9 := hb5.cell (o := 9) rfl
  have x10 := hb5.cell (o := 10) rfl
  clear hb5
  go_region_held3 (fun w' => w'.cell? ⟨w4.heap.size, 0, none⟩ = some (.slice sg C.sigs.length sgc) ∧ w'.cell? ⟨w4.heap.size, 1, none⟩ = some (.slice ru C.ruls.length ruc) ∧ w'.cell? ⟨w4.heap.size, 2, none⟩ = some (.slice tb C.tab.length tbc) ∧ w'.cell? ⟨w4.heap.size, 3, none⟩ = some (.int .i64 C.b0) ∧ w'.cell? ⟨w4.heap.size, 4, none⟩ = some (.int .i64 C.b1) ∧ w'.cell? ⟨w4.heap.size, 5, none⟩ = some (.int .i64 C.b2) ∧ w'.cell? ⟨w4.heap.size, 6, none⟩ = some (.int .i64 C.drain) ∧ w'.cell? ⟨w4.heap.size, 7, none⟩ = some (.int .i64 C.pause) ∧ w'.cell? ⟨w4.heap.size, 8, none⟩ = some (.int .i64 C.off) ∧ w'.cell? ⟨w4.heap.size, 9, none⟩ = some (.bool C.brk) ∧ w'.cell? ⟨w4.heap.size, 10, none⟩ = some (.int .i64 C.log)) (first | exact ⟨x0, x1, x2, x3, x4, x5, x6, x7, x8, x9, x10⟩ | go_keep) (first | (go_at_call 30; (with_reducible refine (HR.out _ ?hk).mono ?_); (case hk => exact (by repeat' (first | with_reducible exact Keeps.refl _ _ | with_reducible assumption | with_reducible refine Keeps.drewN ?_ _ | with_reducible refine Keeps.drew ?_))); rintro e w' ⟨n, a, rfl, hn, k⟩; obtain ⟨rfl, rfl⟩ := hn.only HM1.out; clear hn; have kk : Keeps No W5 w' := Keeps.trans (by repeat' (first | with_reducible exact Keeps.refl _ _ | with_reducible assumption | with_reducible refine Keeps.drewN ?_ _ | with_reducible refine Keeps.drew ?_)) k; have h5 := HC5.out.keep kk (fun h => h); have x0 := h5.cell (o := 0) rfl; have x1 := h5.cell (o := 1) rfl; have x2 := h5.cell (o := 2) rfl; have x3 := h5.cell (o := 3) rfl; have x4 := h5.cell (o := 4) rfl; have x5 := h5.cell (o := 5) rfl; have x6 := h5.cell (o := 6) rfl; have x7 := h5.cell (o := 7) rfl; have x8 := h5.cell (o := 8) rfl; have x9 := h5.cell (o := 9) rfl; have x10 := h5.cell (o := 10) rfl; clear h5 k) | (go_at_call 31; (with_reducible refine (HS.out _ ?hk).mono ?_); (case hk => exact (by repeat' (first | with_reducible exact Keeps.refl _ _ | with_reducible assumption | with_reducible refine Keeps.drewN ?_ _ | with_reducible refine Keeps.drew ?_))); rintro e w' ⟨rfl, k⟩; have kk : Keeps No W5 w' := Keeps.trans (by repeat' (first | with_reducible exact Keeps.refl _ _ | with_reducible assumption | with_reducible refine Keeps.drewN ?_ _ | with_reducible refine Keeps.drew ?_)) k; have h5 := HC5.out.keep kk (fun h => h); have x0 := h5.cell (o := 0) rfl; have x1 := h5.cell (o := 1) rfl; have x2 := h5.cell (o := 2) rfl; have x3 := h5.cell (o := 3) rfl; have x4 := h5.cell (o := 4) rfl; have x5 := h5.cell (o := 5) rfl; have x6 := h5.cell (o := 6) rfl; have x7 := h5.cell (o := 7) rfl; have x8 := h5.cell (o := 8) rfl; have x9 := h5.cell (o := 9) rfl; have x10 := h5.cell (o := 10) rfl; clear h5 k) | (go_at_call 32; (with_reducible refine (HE1.out _ ?hk).mono ?_); (case hk => exact (by repeat' (first | with_reducible exact Keeps.refl _ _ | with_reducible assumption | with_reducible refine Keeps.drewN ?_ _ | with_reducible refine Keeps.drew ?_))); rintro e w' ⟨rfl, k⟩; have kk : Keeps No W5 w' := Keeps.trans (by repeat' (first | with_reducible exact Keeps.refl _ _ | with_reducible assumption | with_reducible refine Keeps.drewN ?_ _ | with_reducible refine Keeps.drew ?_)) k; have h5 := HC5.out.keep kk (fun h => h); have x0 := h5.cell (o := 0) rfl; have x1 := h5.cell (o := 1) rfl; have x2 := h5.cell (o := 2) rfl; have x3 := h5.cell (o := 3) rfl; have x4 := h5.cell (o := 4) rfl; have x5 := h5.cell (o := 5) rfl; have x6 := h5.cell (o := 6) rfl; have x7 := h5.cell (o := 7) rfl; have x8 := h5.cell (o := 8) rfl; have x9 := h5.cell (o := 9) rfl; have x10 := h5.cell (o := 10) rfl; clear h5 k) | (go_at_call 33; (with_reducible refine (HE2.out _ ?hk).mono ?_); (case hk => exact (by repeat' (first | with_reducible exact Keeps.refl _ _ | with_reducible assumption | with_reducible refine Keeps.drewN ?_ _ | with_reducible refine Keeps.drew ?_))); rintro e w' ⟨rfl, k⟩; have kk : Keeps No W5 w' := Keeps.trans (by repeat' (first | with_reducible exact Keeps.refl _ _ | with_reducible assumption | with_reducible refine Keeps.drewN ?_ _ | with_reducible refine Keeps.drew ?_)) k; have h5 := HC5.out.keep kk (fun h => h); have x0 := h5.cell (o := 0) rfl; have x1 := h5.cell (o := 1) rfl; have x2 := h5.cell (o := 2) rfl; have x3 := h5.cell (o := 3) rfl; have x4 := h5.cell (o := 4) rfl; have x5 := h5.cell (o := 5) rfl; have x6 := h5.cell (o := 6) rfl; have x7 := h5.cell (o := 7) rfl; have x8 := h5.cell (o := 8) rfl; have x9 := h5.cell (o := 9) rfl; have x10 := h5.cell (o := 10) rfl; clear h5 k))
  all_goals
    go_wp2_with fail
    go_ret
    exact ⟨by simp, (K5.out.trans kk).toBelow⟩

theorem own : ownKnob Try.prog.godebug = none := by kernel_rfl
theorem laidOut : laidOutB Try.prog = true := by kernel_rfl
set_option maxRecDepth 100000 in
theorem lifted (os : Os) (started : os.Started) (H : Type) (enc : TypeId × Value → H) :
    ReturnsInHanded {} Try.checked os 9 .any (Rows.checkDraftsSpec.pre6 enc Try.prog Try.f9 Rows.checkDraftsRow.domain false) (Rows.checkDraftsSpec.post enc Try.prog Try.f9 false true false false) := by
  refine returnsInHanded_of_change (C := Try.checked) own started (by kernel_rfl) Try.func9
    (ChangeSpec.witness6 (enc := enc) (C := Try.checked) false ⟨#[], #[.agg #[.slice none 0 0, .slice none 0 0, .int .u8 0, .int .u8 0, .int .u8 0, .int .u8 0, .bool false, .int .u8 0]], []⟩ 8 (by kernel_rfl) (by kernel_rfl) (by kernel_rfl) (by kernel_rfl)) ?_
  intro W base args ds gs before hval0 hW hcnd _
  have hval : ∀ (j : Nat) t v, Try.f9.params[j]? = some t → args[j]? = some v → Value.okWide Try.prog W .any base t v := hval0
  have hW' := hW
  obtain ⟨p, q, hA0, hV, rfl, hfz, hnd⟩ := hW
  have hA : DataW.TrodAll enc Try.prog W 0 (fun _ => true) true Try.f9.params.toList args.toList ds p := hA0
  rw [Try.params9] at hA hval
  obtain ⟨v0, vs0, d0, ds0, p0, q0, hargs, rfl, rfl, h0, r0⟩ := trodAll_cons hA
  obtain ⟨rfl, rfl, rfl⟩ := trodAll_nil r0
  obtain rfl : args = #[v0] := by cases args; simp_all
  obtain ⟨rfl, rfl⟩ := trodVars_none hV
  have k0 := h0
  have lt0 : ∀ x ∈ p0, x.block < W.heap.size := by obtain ⟨m, hm⟩ := k0; exact DataW.trod_lt m _ _ _ hm
  obtain ⟨rules, rv, slots, sv, ba, dr, pa, of_, br, lo, rfl, hd, u1, u2, u3, u4, u5⟩ := argDraft (hval 0 44 v0 rfl rfl) h0
  clear hA0 hval0
  refine (walk W rules rv slots sv ba dr pa of_ br lo hd u1 u2 u3 u4 u5).mono fun e W' ⟨he, bel⟩ => ?_
  subst he
  exact ⟨_, rfl, _, _, _, [], _, [], hW', trodAll_mk1 (shut_bool Try.underlying4 _), (trodAll_cons_mk (Below.trod laidOut (by kernel_rfl) (of_decide_eq_true (by kernel_rfl)) k0 bel lt0) trodAll_mk0), rfl, bel.frame _, fun h => by cases h⟩

theorem over : Rows.checkDraftsRow.holds Try.pinned (OpenSpec.ofChange Rows.checkDraftsSpec) :=
  OpenClaim.holds_of_wide 9 Try.f9 rfl rfl rfl rfl rfl rfl rfl ⟨rfl, rfl, rfl, rfl, rfl⟩ rfl rfl rfl rfl rfl (by kernel_rfl) Try.func9 (by kernel_rfl)
    (of_decide_eq_true (by kernel_rfl)) (by unfold Func.isWrapper; first | (rw [if_pos (by decide +kernel)]; kernel_rfl) | (rw [if_neg (by decide +kernel)]; exact ⟨rfl, rfl⟩))
    (fun os started H enc _ => lifted os started H enc)

theorem proved : Rows.CheckDraftsSaid := over
#print axioms proved
end Go.Proofs.Ythfjihpfcollfaa.checkDrafts
