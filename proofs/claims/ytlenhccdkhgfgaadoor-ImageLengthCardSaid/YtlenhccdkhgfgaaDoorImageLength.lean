/- How many bytes an image has: by what it tells. No conditions beside the row's. -/
import Derived.Test.YtlenhccdkhgfgaaDoorRows
import Derived.Test.YtlenhccdkhgfgaaDoorArgsE
import Derived.Test.YtlenhccdkhgfgaaDoorShortI
import Derived.Test.YtlenhccdkhgfgaaDoorImN
import Derived.Test.YtlenhccdkhgfgaaDoorImC
import Derived.ProofKit
import Derived.OpenShut
import Derived.Deep.RegionHeld3
namespace Go.Proofs.YtlenhccdkhgfgaaDoor.imageLength
open Go.ChangeShapes Go.WideShapes Go.ChangeAt Go.RowKit
open Go.ChangeMaps (open_string shut_string)
set_option linter.unusedVariables false

set_option maxHeartbeats 8000000 in
set_option maxRecDepth 100000 in
theorem walk (w : World) (hg : ErrV w) (rules : List (LineD × Value)) (rv : Value) (slots : List Int) (sv : Value) (ba dr pa of_ : Int) (br : Bool) (lo : Int) (hd : DraftR w rules rv slots sv) (u1 : U8 ba) (u2 : U8 dr) (u3 : U8 pa) (u4 : U8 of_) (u5 : U8 lo) :
    Calls Tryd.prog 8 #[.agg #[rv, sv, .int .u8 ba, .int .u8 dr, .int .u8 pa, .int .u8 of_, .bool br, .int .u8 lo]] w fun e w' => e = .returned (.bool true) ∧ Below w.heap.size w w' := by
  obtain ⟨ra, rc, rfl⟩ := hd.rul.any
  obtain ⟨sa, sc, rfl⟩ := hd.slo.any
  obtain ⟨W1, hW1⟩ : ∃ W1, w.alloc (.cells #[.slice ra rules.length rc, .slice sa slots.length sc, .int .u8 ba, .int .u8 dr, .int .u8 pa, .int .u8 of_, .bool br, .int .u8 lo] 25) = W1 := ⟨_, rfl⟩
  have k1 : Keeps No w W1 := by rw [← hW1]; exact (Keeps.refl _ _).alloc _
  have hb : BlkL W1 w.heap.size 25 [.slice ra rules.length rc, .slice sa slots.length sc, .int .u8 ba, .int .u8 dr, .int .u8 pa, .int .u8 of_, .bool br, .int .u8 lo] := by rw [← hW1]; exact heap_alloc_new w _
  have H1 := hid (hd.calm k1)
  have HB := hid hb
  have HW1 := hid hW1
  have K1 := hid k1
  have U := hid (show U8 ba ∧ U8 dr ∧ U8 pa ∧ U8 of_ ∧ U8 lo from ⟨u1, u2, u3, u4, u5⟩)
  have HG := hid hg
  have HG0 := hid (hg.keep k1)
  clear hd hW1 k1 hb u1 u2 u3 u4 u5 hg
  go_enter Tryd.func8, Tryd.ntmps8
  go_upto_region 1 with fail
  rw [HW1.out]
  go_wp2_with fail
  refine (none_true HG0.out).mono ?_
  rintro e w2 ⟨rfl, k2⟩
  have hb := HB.out.keep k2 (fun h => h)
  have K2 := hid (K1.out.trans k2)
  have H2 := hid (H1.out.calm k2)
  have HB2 := hid hb
  have x0 := hb.cell (o := 0) rfl
  have x1 := hb.cell (o := 1) rfl
  have x2 := hb.cell (o := 2) rfl
  have x3 := hb.cell (o := 3) rfl
  have x4 := hb.cell (o := 4) rfl
  have x5 := hb.cell (o := 5) rfl
  have x6 := hb.cell (o := 6) rfl
  have x7 := hb.cell (o := 7) rfl
  clear hb k2
  go_wp2_with fail
  refine (short_any H2.out ba dr pa of_ br lo).mono ?_
  rintro e w3 ⟨bs, rfl, k3⟩
  clear x0 x1 x2 x3 x4 x5 x6 x7
  have K3 := hid (K2.out.trans k3)
  have H3 := hid (H2.out.calm k3)
  have hb := HB2.out.keep k3 (fun h => h)
  clear k3
  cases bs
  · clear hb
    go_wp2_with fail
    refine (none_true (HG.out.keep K3.out)).mono ?_
    rintro e w4 ⟨rfl, k4⟩
    have K4 := hid (K3.out.trans k4)
    clear k4
    go_wp2_with fail
    go_ret
    exact ⟨rfl, K4.out.toBelow⟩
  have x0 := hb.cell (o := 0) rfl
  have x1 := hb.cell (o := 1) rfl
  have x2 := hb.cell (o := 2) rfl
  have x3 := hb.cell (o := 3) rfl
  have x4 := hb.cell (o := 4) rfl
  have x5 := hb.cell (o := 5) rfl
  have x6 := hb.cell (o := 6) rfl
  have x7 := hb.cell (o := 7) rfl
  clear hb
  go_wp2_with fail
  refine (make_any2 H3.out ba dr pa of_ br lo U.out.1 U.out.2.1 U.out.2.2.1 U.out.2.2.2.1 U.out.2.2.2.2).mono ?_
  rintro e w4 ⟨C, csv, crv, ctv, rfl, hc, hm, k4, hown⟩
  clear x0 x1 x2 x3 x4 x5 x6 x7
  obtain ⟨sg, sgc, ru, ruc, tb, tbc, rfl, rfl, rfl⟩ := hc.shape
  unfold Cfg.val Cfg.cells
  have HM := hid hm
  have K4 := hid (K3.out.trans k4)
  have HG4 := hid (HG.out.keep K4.out)
  obtain ⟨W5, hW5⟩ : ∃ W5, w4.alloc (.cells #[.slice sg C.sigs.length sgc, .slice ru C.ruls.length ruc, .slice tb C.tab.length tbc, .int .i64 C.b0, .int .i64 C.b1, .int .i64 C.b2, .int .i64 C.drain, .int .i64 C.pause, .int .i64 C.off, .bool C.brk, .int .i64 C.log] 33) = W5 := ⟨_, rfl⟩
  have k5 : Keeps No w4 W5 := by rw [← hW5]; exact (Keeps.refl _ _).alloc _
  have hb5 : BlkL W5 w4.heap.size 33 [.slice sg C.sigs.length sgc, .slice ru C.ruls.length ruc, .slice tb C.tab.length tbc, .int .i64 C.b0, .int .i64 C.b1, .int .i64 C.b2, .int .i64 C.drain, .int .i64 C.pause, .int .i64 C.off, .bool C.brk, .int .i64 C.log] := by rw [← hW5]; exact heap_alloc_new w4 _
  have HC5 := hid (hc.calm k5)
  have HW5 := hid hW5
  have HB5 := hid hb5
  have K5 := hid (K4.out.trans k5)
  have HG5 := hid (HG4.out.keep k5)
  clear hc hm k4 hown hW5 k5 H1 H2 H3 HB HB2 K1 K2 K3 HW1 U HG HG0
  go_upto_region 4 with fail
  rw [HW5.out]
  have x0 := hb5.cell (o := 0) rfl
  have x1 := hb5.cell (o := 1) rfl
  have x2 := hb5.cell (o := 2) rfl
  have x3 := hb5.cell (o := 3) rfl
  have x4 := hb5.cell (o := 4) rfl
  have x5 := hb5.cell (o := 5) rfl
  have x6 := hb5.cell (o := 6) rfl
  have x7 := hb5.cell (o := 7) rfl
  have x8 := hb5.cell (o := 8) rfl
  have x9 := hb5.cell (o := 9) rfl
  have x10 := hb5.cell (o := 10) rfl
  clear hb5
  have hsg3 : C.sigs.length ≤ 8 := by have := HM.out.sigs; rw [this]; decide
  have hru8 := HM.out.few.2
  have htb6 := HM.out.slots.2
  have hen := HM.out.entr
  obtain ⟨E, hE⟩ : ∃ E, entries (C.tab.map (·.1)) = E := ⟨_, rfl⟩
  rw [hE] at hen
  have HEN := hid (fun (w' : World) (k : Keeps No W5 w') => mentries_any (sa := sg) (ra := ru) (sc := sgc) (rc := ruc) (sn := C.sigs.length) (rn := C.ruls.length) (HC5.out.calm k).tabR (by rw [hE]; omega) C.b0 C.b1 C.b2 C.drain C.pause C.off C.log C.brk)
  rw [hE] at HEN
  unfold cfgV at HEN
  have HE := hid hE
  clear hE
  go_cut [4] from 16 to 37 (fun v4 wx => v4 = .int .i64 (25 + 8 * C.sigs.length + 20 * C.ruls.length + C.tab.length + E) ∧ Hid (Keeps No W5 wx))
  case first =>
    go_region_held3 (fun w' => w'.cell? ⟨w4.heap.size, 0, none⟩ = some (.slice sg C.sigs.length sgc) ∧ w'.cell? ⟨w4.heap.size, 1, none⟩ = some (.slice ru C.ruls.length ruc) ∧ w'.cell? ⟨w4.heap.size, 2, none⟩ = some (.slice tb C.tab.length tbc) ∧ w'.cell? ⟨w4.heap.size, 3, none⟩ = some (.int .i64 C.b0) ∧ w'.cell? ⟨w4.heap.size, 4, none⟩ = some (.int .i64 C.b1) ∧ w'.cell? ⟨w4.heap.size, 5, none⟩ = some (.int .i64 C.b2) ∧ w'.cell? ⟨w4.heap.size, 6, none⟩ = some (.int .i64 C.drain) ∧ w'.cell? ⟨w4.heap.size, 7, none⟩ = some (.int .i64 C.pause) ∧ w'.cell? ⟨w4.heap.size, 8, none⟩ = some (.int .i64 C.off) ∧ w'.cell? ⟨w4.heap.size, 9, none⟩ = some (.bool C.brk) ∧ w'.cell? ⟨w4.heap.size, 10, none⟩ = some (.int .i64 C.log)) (first | with_reducible exact ⟨x0, x1, x2, x3, x4, x5, x6, x7, x8, x9, x10⟩ | (go_keep; done)) ((go_at_call 20; (with_reducible refine (HEN.out _ ?hk).mono ?_); (case hk => repeat' (first | with_reducible exact Keeps.refl _ _ | with_reducible assumption | with_reducible refine Keeps.drewN ?_ _ | with_reducible refine Keeps.drew ?_)); rintro e w6 ⟨rfl, k⟩; have kk : Keeps No W5 w6 := Keeps.trans (by repeat' (first | with_reducible exact Keeps.refl _ _ | with_reducible assumption | with_reducible refine Keeps.drewN ?_ _ | with_reducible refine Keeps.drew ?_)) k; have h5 := HB5.out.keep (w' := w6) kk (fun h => h); have x0 := h5.cell (o := 0) rfl; have x1 := h5.cell (o := 1) rfl; have x2 := h5.cell (o := 2) rfl; have x3 := h5.cell (o := 3) rfl; have x4 := h5.cell (o := 4) rfl; have x5 := h5.cell (o := 5) rfl; have x6 := h5.cell (o := 6) rfl; have x7 := h5.cell (o := 7) rfl; have x8 := h5.cell (o := 8) rfl; have x9 := h5.cell (o := 9) rfl; have x10 := h5.cell (o := 10) rfl; clear h5 k))
    all_goals
      go_wp2_with fail
      go_meet
      refine ⟨?_, hid kk⟩
      have hw : ∀ z : Int, 0 ≤ z → z ≤ 1000000 → IntKind.i64.wrap z = z := fun z h0 h1 => by rw [IntKind.wrap_i64]; omega
      simp (disch := omega) only [hw]
      congr 1
      omega
  case rest =>
  obtain ⟨rfl, HK⟩ := hcut
  have HBX := hid (HB5.out.keep HK.out (fun h => h))
  have HCX := hid (HC5.out.calm HK.out)
  have KX := hid (K5.out.trans HK.out)
  have HGX := hid (HG5.out.keep HK.out)
  obtain ⟨wX, hwX⟩ : ∃ x, x = wc := ⟨_, rfl⟩
  subst hwX
  clear HEN HC5 HB5 K5 HG5 HK HW5 x0 x1 x2 x3 x4 x5 x6 x7 x8 x9 x10
  have x1 := HBX.out.cell (o := 1) rfl
  obtain ⟨M0, hM0⟩ : ∃ M0 : Int, (25 + 8 * (C.sigs.length : Int) + 20 * (C.ruls.length : Int) + (C.tab.length : Int) + (E : Int)) = M0 := ⟨_, rfl⟩
  rw [hM0]
  have hm0 : 0 ≤ M0 ∧ M0 ≤ 100000 := by omega
  obtain ⟨hm0, hm1⟩ := hm0
  have HM0 := hid hM0
  clear hM0
  go_wp2_with fail
  go_loop [4, 5] (fun v4 v5 => ∃ (i S : Nat), i ≤ C.ruls.length ∧ v5 = .int .i64 i ∧ v4 = .int .i64 (M0 + S) ∧ S ≤ 21 * i ∧ Hid (((C.ruls.take i).map (fun r => 1 + 5 * r.1.stages.length)).sum = S)) (fun _ v5 => C.ruls.length - (intOf v5).toNat)
  case atStart => exact ⟨0, 0, Nat.zero_le _, rfl, by simp, by omega, hid (by simp)⟩
  case round =>
    obtain ⟨i, S, hi, rfl, rfl, hS, HS⟩ := hrel
    by_cases hlt : i < C.ruls.length
    · obtain ⟨⟨r, rv⟩, hy⟩ : ∃ y, C.ruls[i] = y := ⟨_, rfl⟩
      have hmem : (r, rv) ∈ C.ruls := by rw [← hy]; exact List.getElem_mem hlt
      have hst := HCX.out.stg (r, rv) hmem
      have hf4 := (HM.out.ruls (r, rv) hmem).few
      dsimp only at hst hf4
      obtain ⟨sa8, sc8, rfl⟩ := hst.any
      obtain ⟨g, off, rfl, _, c8⟩ := Sl.cellAt HCX.out.rul (j := i * 9 + 8) (u := .slice sa8 r.stages.length sc8) (by rw [getElem?_flatMap_enc (size := 9) (fun _ => rfl) C.ruls i 8 (by omega) hlt, hy]; rfl)
      rw [← Nat.add_assoc] at c8
      have HS2 : Hid (((C.ruls.take (i + 1)).map (fun r => 1 + 5 * r.1.stages.length)).sum = S + (1 + 5 * r.stages.length)) := hid (by
        rw [List.take_succ_eq_append_getElem hlt, List.map_append, List.sum_append, HS.out, hy]
        simp)
      clear hy hmem hst HS
      go_wp2_with fail
      go_round
      case rel => exact ⟨i + 1, S + (1 + 5 * r.stages.length), by omega, by go_num, by go_num, by omega, HS2⟩
      case measure => simp [intOf]; omega
    · obtain rfl : i = C.ruls.length := by omega
      have hlen := cfgB_len C
      have hsum : (C.ruls.map (fun r => 21 + r.1.stages.length * 5)).sum = 20 * C.ruls.length + S := by
        have h1 := HS.out
        rw [List.take_length] at h1
        rw [← h1]
        exact sum_split C.ruls
      have hil := imgL_len C
      have hfin : ((imgL C).length : Int) = M0 + S := by
        have h1 := HM0.out
        have h2 := HE.out
        rw [hil, hlen, hsum, h2, ← h1]
        push_cast
        omega
      have HFIN := hid hfin
      clear hlen hsum hil hfin HS
      have x0 := HBX.out.cell (o := 0) rfl
      have x1 := HBX.out.cell (o := 1) rfl
      have x2 := HBX.out.cell (o := 2) rfl
      have x3 := HBX.out.cell (o := 3) rfl
      have x4 := HBX.out.cell (o := 4) rfl
      have x5 := HBX.out.cell (o := 5) rfl
      have x6 := HBX.out.cell (o := 6) rfl
      have x7 := HBX.out.cell (o := 7) rfl
      have x8 := HBX.out.cell (o := 8) rfl
      have x9 := HBX.out.cell (o := 9) rfl
      have x10 := HBX.out.cell (o := 10) rfl
      go_wp2_with fail
      refine (code_any (C := C) HCX.out HM.out.laid HM.out.short).mono ?_
      rintro e w8 ⟨v8, rfl, ho, hk⟩
      obtain ⟨a8, c8, rfl⟩ := own_any ho
      have K8 := hid (KX.out.trans hk)
      have hfin := HFIN.out
      clear ho hk
      obtain ⟨n8, hn8⟩ : ∃ n8, (imgL C).length = n8 := ⟨_, rfl⟩
      rw [hn8] at hfin ⊢
      have hq : ((n8 : Int) == M0 + S) = true := by simpa using hfin
      clear hn8 hfin HFIN
      go_wp2_with fail
      go_ret
      exact ⟨by simp, K8.out.toBelow⟩

theorem own : ownKnob Tryd.prog.godebug = none := by kernel_rfl
theorem laidOut : laidOutB Tryd.prog = true := by kernel_rfl
set_option maxRecDepth 100000 in
theorem lifted (os : Os) (started : os.Started) (H : Type) (enc : TypeId × Value → H) :
    ReturnsInHanded {} Tryd.checked os 8 .any (fun w args => (Rows.imageLengthSpec.pre enc Tryd.prog Tryd.f8 [] false w args ∧ laidMetH Tryd.prog [("errors.errorType", Rows.laid_errors_errorType)] w) ∧ sizedMet enc Tryd.prog Tryd.f8 (OpenSpec.ofChange Rows.imageLengthSpec) false w args) (Rows.imageLengthSpec.post enc Tryd.prog Tryd.f8 false true false false) := by
  refine returnsInHanded_of_change_and (C := Tryd.checked) (X := fun w _ => laidMetH Tryd.prog [("errors.errorType", Rows.laid_errors_errorType)] w) (fun _ _ _ hh h => h.of_heap hh) own started (by kernel_rfl) Tryd.func8
    (ChangeSpec.witness_at (enc := enc) (C := Tryd.checked) (os := os) (X := fun w _ => laidMetH Tryd.prog [("errors.errorType", Rows.laid_errors_errorType)] w) false (laidWorld os) #[.agg #[.slice none 0 0, .slice none 0 0, .int .u8 0, .int .u8 0, .int .u8 0, .int .u8 0, .bool false, .int .u8 0]] 8 rfl (by kernel_rfl) (by kernel_rfl) (by kernel_rfl) (by kernel_rfl) (by kernel_rfl) (laidWorld_met os _)) ?_
  intro W base args ds gs before hval0 hW hcnd _ hL _
  have hg := handle_of_laid hL
  have hval : ∀ (j : Nat) t v, Tryd.f8.params[j]? = some t → args[j]? = some v → Value.okWide Tryd.prog W .any base t v := hval0
  have hW' := hW
  obtain ⟨p, q, hA0, hV, rfl, hfz, hnd⟩ := hW
  have hA : DataW.TrodAll enc Tryd.prog W 0 (fun _ => true) true Tryd.f8.params.toList args.toList ds p := hA0
  rw [Tryd.params8] at hA hval
  obtain ⟨v0, vs0, d0, ds0, p0, q0, hargs, rfl, rfl, h0, r0⟩ := trodAll_cons hA
  obtain ⟨rfl, rfl, rfl⟩ := trodAll_nil r0
  obtain rfl : args = #[v0] := by cases args; simp_all
  obtain ⟨rfl, rfl⟩ := trodVars_none hV
  have k0 := h0
  have lt0 : ∀ x ∈ p0, x.block < W.heap.size := by obtain ⟨m, hm⟩ := k0; exact DataW.trod_lt m _ _ _ hm
  obtain ⟨rules, rv, slots, sv, ba, dr, pa, of_, br, lo, rfl, hd, u1, u2, u3, u4, u5⟩ := argDraft (hval 0 25 v0 rfl rfl) h0
  clear hA0 hval0
  refine (walk W hg rules rv slots sv ba dr pa of_ br lo hd u1 u2 u3 u4 u5).mono fun e W' ⟨he, bel⟩ => ?_
  subst he
  exact ⟨_, rfl, _, _, _, [], _, [], hW', trodAll_mk1 (shut_bool Tryd.underlying4 _), (trodAll_cons_mk (Below.trod laidOut (by kernel_rfl) (of_decide_eq_true (by kernel_rfl)) k0 bel lt0) trodAll_mk0), rfl, bel.frame _, fun h => by cases h⟩

theorem over : Rows.imageLengthRow.holds Tryd.pinned (OpenSpec.ofChange Rows.imageLengthSpec) :=
  OpenClaim.holds_of_wide 8 Tryd.f8 rfl rfl rfl rfl rfl rfl rfl ⟨rfl, rfl, rfl, rfl, rfl⟩ rfl rfl rfl rfl rfl (by kernel_rfl) Tryd.func8 (by kernel_rfl)
    (of_decide_eq_true (by kernel_rfl)) (by unfold Func.isWrapper; first | (rw [if_pos (by decide +kernel)]; kernel_rfl) | (rw [if_neg (by decide +kernel)]; exact ⟨rfl, rfl⟩))
    (fun os started H enc _ => lifted os started H enc)

theorem proved : Rows.ImageLengthCardSaid :=
  Claim7.holds_tied_plain_at .later [] [.handle] true (true, "bf61a0ac0b77768fd6463ca71fcf3807c313b05a13ffb6325fe70bc381b5822f") true
    over (fun _ h => by cases h) (by kernel_rfl) (fun _ h => by cases h) imageLength_row_tie rfl ⟨rfl, rfl⟩ (by kernel_rfl) rfl
    (fun f fn hf hfn => by
      obtain rfl : f = 8 := Option.some.inj ((show Tryd.prog.funcNamed "handbell/handbelllaw06.ImageLength" = some 8 by kernel_rfl).symm.trans hf) |>.symm
      obtain rfl : fn = Tryd.f8 := (Option.some.inj (Tryd.func8.symm.trans hfn)).symm
      exact ⟨by kernel_rfl, fun j t ht => by
        rw [Tryd.params8] at ht
        have hm : t ∈ (#[25] : Array TypeId).toList := by
          have := Array.mem_of_getElem? ht
          simpa using this
        simp at hm
        subst hm; exact (show Tryd.prog.wantsStandIn 25 = false by kernel_rfl)⟩)
    (by kernel_rfl)
#print axioms proved
end Go.Proofs.YtlenhccdkhgfgaaDoor.imageLength
