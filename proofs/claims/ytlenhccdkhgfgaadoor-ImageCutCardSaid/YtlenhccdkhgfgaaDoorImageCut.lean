/- An image that ends too soon: the place where it does. No conditions beside the row's. -/
import Derived.Test.YtlenhccdkhgfgaaDoorRows
import Derived.Test.YtlenhccdkhgfgaaDoorArgsE
import Derived.Test.YtlenhccdkhgfgaaDoorLawM
import Derived.ProofKit
import Derived.OpenShut
import Derived.Deep.RegionHeld3
import Derived.Test.YtlenhccdkhgfgaaDoorEncM
import Derived.Test.YtlenhccdkhgfgaaDoorCutP
namespace Go.Proofs.YtlenhccdkhgfgaaDoor.imageCut
open Go.ChangeShapes Go.WideShapes Go.ChangeAt Go.RowKit
open Go.ChangeMaps (open_string shut_string)
set_option linter.unusedVariables false

set_option maxHeartbeats 8000000 in
set_option maxRecDepth 100000 in
theorem walk (w : World) (hg : ErrV w) (rules : List (LineD × Value)) (rv : Value) (slots : List Int) (sv : Value) (ba dr pa of_ : Int) (br : Bool) (lo : Int) (hd : DraftR w rules rv slots sv) (u1 : U8 ba) (u2 : U8 dr) (u3 : U8 pa) (u4 : U8 of_) (u5 : U8 lo) (a1 : Int) (wa1 : (Lit.int .u16 a1).wf = true) :
    Calls Tryd.prog 6 #[.agg #[rv, sv, .int .u8 ba, .int .u8 dr, .int .u8 pa, .int .u8 of_, .bool br, .int .u8 lo], .int .u16 a1] w fun e w' => e = .returned (.bool true) ∧ Below w.heap.size w w' := by
  have B1 := hid (bounds_u16 wa1)
  clear wa1
  obtain ⟨ra, rc, rfl⟩ := hd.rul.any
  obtain ⟨sa, sc, rfl⟩ := hd.slo.any
  obtain ⟨W1, hW1⟩ : ∃ W1, w.alloc (.cells #[.slice ra rules.length rc, .slice sa slots.length sc, .int .u8 ba, .int .u8 dr, .int .u8 pa, .int .u8 of_, .bool br, .int .u8 lo] 25) = W1 := ⟨_, rfl⟩
  have k1 : Keeps No w W1 := by rw [← hW1]; exact (Keeps.refl _ _).alloc _
  have hb : BlkL W1 w.heap.size 25 [.slice ra rules.length rc, .slice sa slots.length sc, .int .u8 ba, .int .u8 dr, .int .u8 pa, .int .u8 of_, .bool br, .int .u8 lo] := by rw [← hW1]; exact heap_alloc_new w _
  have H1 := hid (hd.calm k1)
  have HB := hid hb
  have HW1 := hid hW1
  have K1 := hid k1
  have U := hid (show U8 ba ∧ U8 dr ∧ U8 pa ∧ U8 of_ ∧ U8 lo from ⟨u1, u2, u3, u4, u5⟩)
  have HG := hid hg
  have HG0 := hid (hg.keep k1)
  clear hd hW1 k1 hb u1 u2 u3 u4 u5 hg
  go_enter Tryd.func6, Tryd.ntmps6
  go_upto_region 1 with fail
  rw [HW1.out]
  go_wp2_with fail
  refine (none_true HG0.out).mono ?_
  rintro e w2 ⟨rfl, k2⟩
  have hb := HB.out.keep k2 (fun h => h)
  have K2 := hid (K1.out.trans k2)
  have H2 := hid (H1.out.calm k2)
  have HB2 := hid hb
  have x0 := hb.cell (o := 0) rfl
  have x1 := hb.cell (o := 1) rfl
  have x2 := hb.cell (o := 2) rfl
  have x3 := hb.cell (o := 3) rfl
  have x4 := hb.cell (o := 4) rfl
  have x5 := hb.cell (o := 5) rfl
  have x6 := hb.cell (o := 6) rfl
  have x7 := hb.cell (o := 7) rfl
  clear hb k2
  go_wp2_with fail
  refine (short_any H2.out ba dr pa of_ br lo).mono ?_
  rintro e w3 ⟨bs, rfl, k3⟩
  clear x0 x1 x2 x3 x4 x5 x6 x7
  have K3 := hid (K2.out.trans k3)
  have H3 := hid (H2.out.calm k3)
  have hb := HB2.out.keep k3 (fun h => h)
  clear k3
  cases bs
  · clear hb
    go_wp2_with fail
    refine (none_true (HG.out.keep K3.out)).mono ?_
    rintro e w4 ⟨rfl, k4⟩
    have K4 := hid (K3.out.trans k4)
    clear k4
    go_wp2_with fail
    go_ret
    exact ⟨rfl, K4.out.toBelow⟩
  have x0 := hb.cell (o := 0) rfl
  have x1 := hb.cell (o := 1) rfl
  have x2 := hb.cell (o := 2) rfl
  have x3 := hb.cell (o := 3) rfl
  have x4 := hb.cell (o := 4) rfl
  have x5 := hb.cell (o := 5) rfl
  have x6 := hb.cell (o := 6) rfl
  have x7 := hb.cell (o := 7) rfl
  clear hb
  go_wp2_with fail
  refine (make_any2 H3.out ba dr pa of_ br lo U.out.1 U.out.2.1 U.out.2.2.1 U.out.2.2.2.1 U.out.2.2.2.2).mono ?_
  rintro e w4 ⟨C, csv, crv, ctv, rfl, hc, hm, k4, hown⟩
  clear x0 x1 x2 x3 x4 x5 x6 x7
  obtain ⟨sg, sgc, ru, ruc, tb, tbc, rfl, rfl, rfl⟩ := hc.shape
  unfold Cfg.val Cfg.cells
  have HM := hid hm
  have K4 := hid (K3.out.trans k4)
  have HG4 := hid (HG.out.keep K4.out)
  have HC4 := hid hc
  clear hc hm k4 hown H1 H2 H3 HB HB2 K1 K2 K3 HW1 U HG HG0
  go_wp2_with fail
  refine (mencode_any HC4.out (by have := HM.out.short; omega) HM.out.laid.bytes).mono ?_
  rintro e w5 ⟨v5, rfl, ho, hk, hn5⟩
  have K5 := hid (K4.out.trans hk)
  have HG5 := hid (HG4.out.keep hk)
  obtain ⟨BB, hBB⟩ : ∃ x, cfgB C = x := ⟨_, rfl⟩
  have himg : imgL C = BB ++ [((mof BB).toNat : Int) / 256, ((mof BB).toNat : Int) % 256] := by rw [← hBB]; rfl
  rw [hBB, ← himg] at ho
  obtain ⟨N, hN⟩ : ∃ N, BB.length = N := ⟨_, rfl⟩
  rw [hN] at ho
  have h22 : 22 ≤ N := by rw [← hN, ← hBB, cfgB_len]; omega
  have h898 : N ≤ 898 := by rw [← hN, ← hBB]; exact HM.out.short
  have HBB := hid hBB
  have HIMG := hid himg
  have HN := hid hN
  have HBY : Hid (Bytes BB) := hid (by rw [← hBB]; exact HM.out.laid.bytes)
  have HIB : Hid (Bytes (imgL C)) := hid (imgL_bytes HM.out.laid)
  have HIL : Hid ((imgL C).length = N + 2) := hid (by rw [himg]; simp [hN])
  have HS5 : Hid (Sl w5 1 v5 (N + 2) ((imgL C).map (Value.int .u8))) := hid (Sl.ofOwn ho)
  obtain ⟨a5, c5, rfl⟩ := own_any ho
  have hcap := Sl.cap HS5.out
  have hfr := Sl.front HS5.out (m := N) (by omega)
  rw [Nat.mul_one, HIMG.out, List.map_append, List.take_append_of_le_length (by rw [List.length_map, HN.out]; omega), List.take_of_length_le (by rw [List.length_map, HN.out]; omega)] at hfr
  have HF5 : Hid (Sl w5 1 (.slice a5 N c5) N (BB.map (Value.int .u8))) := hid hfr
  obtain ⟨hb10, hb11⟩ := B1.out
  obtain ⟨q, hq⟩ : ∃ q : Nat, a1 % ((N : Int) - 3) = (q : Int) := ⟨(a1 % ((N : Int) - 3)).toNat, by have := Int.emod_nonneg a1 (show ((N : Int) - 3) ≠ 0 by omega); omega⟩
  have hqn : q + 3 < N := by have := Int.emod_lt_of_pos a1 (show 0 < (N : Int) - 3 by omega); omega
  have hkt : ((3 : Int) + (q : Int)).toNat = q + 3 := by omega
  have hk0 : (0 : Int) ≤ 3 + (q : Int) := by omega
  have hkc : (3 : Int) + (q : Int) ≤ (c5 : Int) := by omega
  have hfk := Sl.front HF5.out (m := q + 3) (by omega)
  rw [Nat.mul_one, ← List.map_take] at hfk
  have htl : (BB.take (q + 3)).length = q + 3 := by rw [List.length_take, HN.out]; omega
  obtain ⟨Q, hQ⟩ : ∃ Q, BB.take (q + 3) = Q := ⟨_, rfl⟩
  rw [hQ] at hfk htl
  have HQ := hid hQ
  have HQL := hid htl
  have HQB : Hid (Bytes Q) := hid (fun x hx => HBY.out x (by rw [← hQ] at hx; exact List.mem_of_mem_take hx))
  have HK5 : Hid (Sl w5 1 (.slice a5 (q + 3) c5) (q + 3) (Q.map (Value.int .u8))) := hid hfk
  have HCL : Hid (∀ w', Keeps No w5 w' → Calls Tryd.prog 18 #[.slice a5 (q + 3) c5] w' fun e w' => ∃ v' P, e = .returned v' ∧ P = Q ++ [((mof Q).toNat : Int) / 256, ((mof Q).toNat : Int) % 256] ∧ w'.ownsRow 0 5 1 v' P.length (P.map (Value.int .u8)) ∧ Keeps No w5 w') := hid (fun w' kw => by
    have h1 : SlB w' (.slice a5 (q + 3) c5) Q := by unfold SlB; rw [HQL.out]; exact HK5.out.keep kw (fun _ _ h => h)
    refine (mclose_any h1 HQB.out (by have := HQL.out; omega)).mono ?_
    rintro e w'' ⟨v', rfl, ho', hk', _⟩
    exact ⟨v', _, rfl, rfl, by rw [List.length_append]; exact ho', kw.trans hk'⟩)
  have HNE : Hid (Tells C ∧ 3 ≤ q + 3 ∧ q + 3 < (cfgB C).length) := hid ⟨HM.out.tells, by omega, by rw [HBB.out, HN.out]; omega⟩
  clear ho hk hn5 hBB himg hN hfr hfk htl hQ HS5 HF5 HK5
  go_wp2_with fail
  refine (HCL.out _ (Keeps.refl _ _)).mono ?_
  rintro e w6 ⟨v6, P, rfl, hP, ho, hk6⟩
  have HP := hid hP
  have HPB : Hid (Bytes P) := hid (by rw [hP]; exact HQB.out.app (sum_bytes _))
  have HPL : Hid (P.length ≤ 1000) := hid (by rw [hP]; have h1 := HQL.out; simp; omega)
  have HSP := hid (show SlB w6 v6 P from Sl.ofOwn ho)
  obtain ⟨a6, c6, rfl⟩ := own_any ho
  have K6 := hid hk6
  have HG6 := hid (HG5.out.keep hk6)
  clear hP ho hk6
  go_wp2_with fail
  refine (Decode_any HG6.out HSP.out HPB.out HPL.out).mono ?_
  rintro e w7 ⟨o, at_, c, cv, hd, rfl, hcf, k7⟩
  rw [HP.out, ← HQ.out, ← HBB.out] at hd
  obtain ⟨hc4, hat3, hatk⟩ := cut_dec HNE.out.1 HNE.out.2.1 HNE.out.2.2 hd
  subst hc4
  obtain ⟨D, sa9, ra9, ta9, sc9, rc9, tc9, rfl, _, _⟩ := hcf.cfg
  unfold Cfg.val Cfg.cells
  have K7 := hid (K6.out.trans k7)
  have HG7 := hid (HG6.out.keep k7)
  clear hd hcf k7 HSP HPB HPL HP
  obtain ⟨W8, hW8⟩ : ∃ x, w7.alloc (.cells #[.slice sa9 D.sigs.length sc9, .slice ra9 D.ruls.length rc9, .slice ta9 D.tab.length tc9, .int .i64 D.b0, .int .i64 D.b1, .int .i64 D.b2, .int .i64 D.drain, .int .i64 D.pause, .int .i64 D.off, .bool D.brk, .int .i64 D.log] 33) = x := ⟨_, rfl⟩
  have k8 : Keeps No w7 W8 := by rw [← hW8]; exact (Keeps.refl _ _).alloc _
  have HW8 := hid hW8
  have K8 := hid (K7.out.trans k8)
  have HG8 := hid (HG7.out.keep k8)
  clear hW8 k8
  go_upto_region 7 with fail
  rw [HW8.out]
  have hd1 : decide (at_ ≥ 3) = true := decide_eq_true hat3
  have hd2 : decide (at_ ≤ 3 + (q : Int)) = true := decide_eq_true (by omega)
  go_wp2_with fail
  refine (HCL.out _ K8.out).mono ?_
  rintro e w9 ⟨v9, P, rfl, hP, ho, hk9⟩
  have HPB : Hid (Bytes P) := hid (by rw [hP]; exact HQB.out.app (sum_bytes _))
  have HPL : Hid (P.length ≤ 1000) := hid (by rw [hP]; have h1 := HQL.out; simp; omega)
  have HSP := hid (show SlB w9 v9 P from Sl.ofOwn ho)
  obtain ⟨a9, c9, rfl⟩ := own_any ho
  have K9 := hid (K5.out.trans hk9)
  have HG9 := hid (HG5.out.keep hk9)
  clear hP ho hk9
  go_wp2_with fail
  refine (decodes_true HG9.out HSP.out HPB.out HPL.out).mono ?_
  rintro e w10 ⟨rfl, hk⟩
  have K10 := hid (K9.out.trans hk)
  clear hk
  go_wp2_with fail
  go_ret
  exact ⟨rfl, K10.out.toBelow⟩

theorem own : ownKnob Tryd.prog.godebug = none := by kernel_rfl
theorem laidOut : laidOutB Tryd.prog = true := by kernel_rfl
set_option maxRecDepth 100000 in
theorem lifted (os : Os) (started : os.Started) (H : Type) (enc : TypeId × Value → H) :
    ReturnsInHanded {} Tryd.checked os 6 .any (fun w args => (Rows.imageCutSpec.pre enc Tryd.prog Tryd.f6 [] false w args ∧ laidMetH Tryd.prog [("errors.errorType", Rows.laid_errors_errorType)] w) ∧ sizedMet enc Tryd.prog Tryd.f6 (OpenSpec.ofChange Rows.imageCutSpec) false w args) (Rows.imageCutSpec.post enc Tryd.prog Tryd.f6 false true false false) := by
  refine returnsInHanded_of_change_and (C := Tryd.checked) (X := fun w _ => laidMetH Tryd.prog [("errors.errorType", Rows.laid_errors_errorType)] w) (fun _ _ _ hh h => h.of_heap hh) own started (by kernel_rfl) Tryd.func6
    (ChangeSpec.witness_at (enc := enc) (C := Tryd.checked) (os := os) (X := fun w _ => laidMetH Tryd.prog [("errors.errorType", Rows.laid_errors_errorType)] w) false (laidWorld os) #[.agg #[.slice none 0 0, .slice none 0 0, .int .u8 0, .int .u8 0, .int .u8 0, .int .u8 0, .bool false, .int .u8 0], .int .u16 0] 8 rfl (by kernel_rfl) (by kernel_rfl) (by kernel_rfl) (by kernel_rfl) (by kernel_rfl) (laidWorld_met os _)) ?_
  intro W base args ds gs before hval0 hW hcnd _ hL _
  have hg := handle_of_laid hL
  have hval : ∀ (j : Nat) t v, Tryd.f6.params[j]? = some t → args[j]? = some v → Value.okWide Tryd.prog W .any base t v := hval0
  have hW' := hW
  obtain ⟨p, q, hA0, hV, rfl, hfz, hnd⟩ := hW
  have hA : DataW.TrodAll enc Tryd.prog W 0 (fun _ => true) true Tryd.f6.params.toList args.toList ds p := hA0
  rw [Tryd.params6] at hA hval
  obtain ⟨v0, vs0, d0, ds0, p0, q0, hargs, rfl, rfl, h0, r0⟩ := trodAll_cons hA
  obtain ⟨v1, vs1, d1, ds1, p1, q1, rfl, rfl, rfl, h1, r1⟩ := trodAll_cons r0
  obtain ⟨rfl, rfl, rfl⟩ := trodAll_nil r1
  obtain rfl : args = #[v0, v1] := by cases args; simp_all
  obtain ⟨rfl, rfl⟩ := trodVars_none hV
  have k0 := h0
  have lt0 : ∀ x ∈ p0, x.block < W.heap.size := by obtain ⟨m, hm⟩ := k0; exact DataW.trod_lt m _ _ _ hm
  have k1 := h1
  have lt1 : ∀ x ∈ p1, x.block < W.heap.size := by obtain ⟨m, hm⟩ := k1; exact DataW.trod_lt m _ _ _ hm
  obtain ⟨rules, rv, slots, sv, ba, dr, pa, of_, br, lo, rfl, hd, u1, u2, u3, u4, u5⟩ := argDraft (hval 0 25 v0 rfl rfl) h0
  obtain ⟨a1, rfl, rfl, rfl, w1⟩ := open_int Tryd.underlying44 (hval 1 44 v1 rfl rfl) h1
  clear hA0 hval0
  refine (walk W hg rules rv slots sv ba dr pa of_ br lo hd u1 u2 u3 u4 u5 a1 w1).mono fun e W' ⟨he, bel⟩ => ?_
  subst he
  exact ⟨_, rfl, _, _, _, [], _, [], hW', trodAll_mk1 (shut_bool Tryd.underlying4 _), (trodAll_cons_mk (Below.trod laidOut (by kernel_rfl) (of_decide_eq_true (by kernel_rfl)) k0 bel lt0) (trodAll_cons_mk (Below.trod laidOut (by kernel_rfl) (of_decide_eq_true (by kernel_rfl)) k1 bel lt1) trodAll_mk0)), rfl, bel.frame _, fun h => by cases h⟩

theorem over : Rows.imageCutRow.holds Tryd.pinned (OpenSpec.ofChange Rows.imageCutSpec) :=
  OpenClaim.holds_of_wide 6 Tryd.f6 rfl rfl rfl rfl rfl rfl rfl ⟨rfl, rfl, rfl, rfl, rfl⟩ rfl rfl rfl rfl rfl (by kernel_rfl) Tryd.func6 (by kernel_rfl)
    (of_decide_eq_true (by kernel_rfl)) (by unfold Func.isWrapper; first | (rw [if_pos (by decide +kernel)]; kernel_rfl) | (rw [if_neg (by decide +kernel)]; exact ⟨rfl, rfl⟩))
    (fun os started H enc _ => lifted os started H enc)

theorem proved : Rows.ImageCutCardSaid :=
  Claim7.holds_tied_plain_at .later [] [.handle] true (true, "bf61a0ac0b77768fd6463ca71fcf3807c313b05a13ffb6325fe70bc381b5822f") true
    over (fun _ h => by cases h) (by kernel_rfl) (fun _ h => by cases h) imageCut_row_tie rfl ⟨rfl, rfl⟩ (by kernel_rfl) rfl
    (fun f fn hf hfn => by
      obtain rfl : f = 6 := Option.some.inj ((show Tryd.prog.funcNamed "handbell/handbelllaw06.ImageCut" = some 6 by kernel_rfl).symm.trans hf) |>.symm
      obtain rfl : fn = Tryd.f6 := (Option.some.inj (Tryd.func6.symm.trans hfn)).symm
      exact ⟨by kernel_rfl, fun j t ht => by
        rw [Tryd.params6] at ht
        have hm : t ∈ (#[25, 44] : Array TypeId).toList := by
          have := Array.mem_of_getElem? ht
          simpa using this
        simp at hm
        rcases hm with rfl | rfl
        · exact (show Tryd.prog.wantsStandIn 25 = false by kernel_rfl)
        · exact (show Tryd.prog.wantsStandIn 44 = false by kernel_rfl)⟩)
    (by kernel_rfl)
#print axioms proved
end Go.Proofs.YtlenhccdkhgfgaaDoor.imageCut
