/- Any numbers of a configuration that an image can tell are read as they were written. No conditions beside the row's. -/
import Derived.Test.YtlenhccdkhgfgaaDoorRows
import Derived.Test.YtlenhccdkhgfgaaDoorArgsE
import Derived.Test.YtlenhccdkhgfgaaDoorLawM
import Derived.ProofKit
import Derived.OpenShut
import Derived.Deep.RegionHeld3
import Derived.Test.YtlenhccdkhgfgaaDoorImA
namespace Go.Proofs.YtlenhccdkhgfgaaDoor.imageAny
open Go.ChangeShapes Go.WideShapes Go.ChangeAt Go.RowKit
open Go.ChangeMaps (open_string shut_string)
set_option linter.unusedVariables false

set_option maxHeartbeats 8000000 in
set_option maxRecDepth 100000 in
theorem walk (w : World) (hg : ErrV w) (rules : List (LineD × Value)) (rv : Value) (slots : List Int) (sv : Value) (ba dr pa of_ : Int) (br : Bool) (lo : Int) (hd : DraftR w rules rv slots sv) (u1 : U8 ba) (u2 : U8 dr) (u3 : U8 pa) (u4 : U8 of_) (u5 : U8 lo) (a1 : Int) (wa1 : (Lit.int .i32 a1).wf = true) (a2 : Int) (wa2 : (Lit.int .i32 a2).wf = true) (a3 : Int) (wa3 : (Lit.int .u8 a3).wf = true) (a4 : Int) (wa4 : (Lit.int .u8 a4).wf = true) (a5 : Int) (wa5 : (Lit.int .u8 a5).wf = true) (a6 : Int) (wa6 : (Lit.int .u8 a6).wf = true) (a7 : Int) (wa7 : (Lit.int .i32 a7).wf = true) :
    Calls Tryd.prog 7 #[.agg #[rv, sv, .int .u8 ba, .int .u8 dr, .int .u8 pa, .int .u8 of_, .bool br, .int .u8 lo], .int .i32 a1, .int .i32 a2, .int .u8 a3, .int .u8 a4, .int .u8 a5, .int .u8 a6, .int .i32 a7] w fun e w' => e = .returned (.bool true) ∧ Below w.heap.size w w' := by
  have B1 := hid (bounds_i32 wa1)
  have B2 := hid (bounds_i32 wa2)
  have B3 := hid (bounds_u8 wa3)
  have B4 := hid (bounds_u8 wa4)
  have B5 := hid (bounds_u8 wa5)
  have B6 := hid (bounds_u8 wa6)
  have B7 := hid (bounds_i32 wa7)
  clear wa1 wa2 wa3 wa4 wa5 wa6 wa7
  obtain ⟨ra, rc, rfl⟩ := hd.rul.any
  obtain ⟨sa, sc, rfl⟩ := hd.slo.any
  obtain ⟨W1, hW1⟩ : ∃ W1, w.alloc (.cells #[.slice ra rules.length rc, .slice sa slots.length sc, .int .u8 ba, .int .u8 dr, .int .u8 pa, .int .u8 of_, .bool br, .int .u8 lo] 25) = W1 := ⟨_, rfl⟩
  have k1 : Keeps No w W1 := by rw [← hW1]; exact (Keeps.refl _ _).alloc _
  have hb : BlkL W1 w.heap.size 25 [.slice ra rules.length rc, .slice sa slots.length sc, .int .u8 ba, .int .u8 dr, .int .u8 pa, .int .u8 of_, .bool br, .int .u8 lo] := by rw [← hW1]; exact heap_alloc_new w _
  have H1 := hid (hd.calm k1)
  have HB := hid hb
  have HW1 := hid hW1
  have K1 := hid k1
  have U := hid (show U8 ba ∧ U8 dr ∧ U8 pa ∧ U8 of_ ∧ U8 lo from ⟨u1, u2, u3, u4, u5⟩)
  have HG := hid hg
  have HG0 := hid (hg.keep k1)
  clear hd hW1 k1 hb u1 u2 u3 u4 u5 hg
  go_enter Tryd.func7, Tryd.ntmps7
  go_upto_region 1 with fail
  rw [HW1.out]
  go_wp2_with fail
  refine (none_true HG0.out).mono ?_
  rintro e w2 ⟨rfl, k2⟩
  have hb := HB.out.keep k2 (fun h => h)
  have K2 := hid (K1.out.trans k2)
  have H2 := hid (H1.out.calm k2)
  have HB2 := hid hb
  have x0 := hb.cell (o := 0) rfl
  have x1 := hb.cell (o := 1) rfl
  have x2 := hb.cell (o := 2) rfl
  have x3 := hb.cell (o := 3) rfl
  have x4 := hb.cell (o := 4) rfl
  have x5 := hb.cell (o := 5) rfl
  have x6 := hb.cell (o := 6) rfl
  have x7 := hb.cell (o := 7) rfl
  clear hb k2
  go_wp2_with fail
  refine (short_any H2.out ba dr pa of_ br lo).mono ?_
  rintro e w3 ⟨bs, rfl, k3⟩
  clear x0 x1 x2 x3 x4 x5 x6 x7
  have K3 := hid (K2.out.trans k3)
  have H3 := hid (H2.out.calm k3)
  have hb := HB2.out.keep k3 (fun h => h)
  clear k3
  cases bs
  · clear hb
    go_wp2_with fail
    refine (none_true (HG.out.keep K3.out)).mono ?_
    rintro e w4 ⟨rfl, k4⟩
    have K4 := hid (K3.out.trans k4)
    clear k4
    go_wp2_with fail
    go_ret
    exact ⟨rfl, K4.out.toBelow⟩
  have x0 := hb.cell (o := 0) rfl
  have x1 := hb.cell (o := 1) rfl
  have x2 := hb.cell (o := 2) rfl
  have x3 := hb.cell (o := 3) rfl
  have x4 := hb.cell (o := 4) rfl
  have x5 := hb.cell (o := 5) rfl
  have x6 := hb.cell (o := 6) rfl
  have x7 := hb.cell (o := 7) rfl
  clear hb
  go_wp2_with fail
  refine (make_any2 H3.out ba dr pa of_ br lo U.out.1 U.out.2.1 U.out.2.2.1 U.out.2.2.2.1 U.out.2.2.2.2).mono ?_
  rintro e w4 ⟨C, csv, crv, ctv, rfl, hc, hm, k4, hown⟩
  clear x0 x1 x2 x3 x4 x5 x6 x7
  obtain ⟨sg, sgc, ru, ruc, tb, tbc, rfl, rfl, rfl⟩ := hc.shape
  unfold Cfg.val Cfg.cells
  have HM := hid hm
  have K4 := hid (K3.out.trans k4)
  have HG4 := hid (HG.out.keep K4.out)
  obtain ⟨W5, hW5⟩ : ∃ W5, w4.alloc (.cells #[.slice sg C.sigs.length sgc, .slice ru C.ruls.length ruc, .slice tb C.tab.length tbc, .int .i64 C.b0, .int .i64 C.b1, .int .i64 C.b2, .int .i64 C.drain, .int .i64 C.pause, .int .i64 C.off, .bool C.brk, .int .i64 C.log] 33) = W5 := ⟨_, rfl⟩
  have k5 : Keeps No w4 W5 := by rw [← hW5]; exact (Keeps.refl _ _).alloc _
  have hb5 : BlkL W5 w4.heap.size 33 [.slice sg C.sigs.length sgc, .slice ru C.ruls.length ruc, .slice tb C.tab.length tbc, .int .i64 C.b0, .int .i64 C.b1, .int .i64 C.b2, .int .i64 C.drain, .int .i64 C.pause, .int .i64 C.off, .bool C.brk, .int .i64 C.log] := by rw [← hW5]; exact heap_alloc_new w4 _
  have HC5 := hid (hc.calm k5)
  have HW5 := hid hW5
  have HB5 := hid hb5
  have K5 := hid (K4.out.trans k5)
  have HG5 := hid (HG4.out.keep k5)
  have hfew := hm.few
  have HC40 := hid hc
  have hw30 : 0 < w3.heap.size := World.block_lt_of_cell? w3 _ (HG.out.keep K3.out)
  have HOW40 := hid hown
  have hw3 := K3.out.size
  obtain ⟨nr, hnr⟩ : ∃ nr, C.ruls.length = nr := ⟨_, rfl⟩
  obtain ⟨gr, hgr⟩ : ∃ gr, ru = some ⟨gr, 0, none⟩ := by
    rcases hown.rown.2 with ⟨h1, h2⟩ | ⟨g, cap, cur, h1, _⟩
    · exfalso
      have h3 : C.ruls.length = 0 := by simpa using h2
      omega
    · simp only [Value.slice.injEq] at h1
      exact ⟨g, h1.1⟩
  subst hgr
  have hgn : w3.heap.size ≤ gr := hown.new gr rfl
  have hg4 : gr < w4.heap.size := (hown.rown.lt gr rfl).2
  obtain ⟨r, rv, t, hrt⟩ : ∃ r rv t, C.ruls = (r, rv) :: t := by
    rcases hh : C.ruls with _ | ⟨⟨r, rv⟩, t⟩
    · rw [hh] at hfew; simp at hfew
    · exact ⟨r, rv, t, rfl⟩
  have HRT := hid hrt
  have HNR := hid hnr
  have HOWN := hid (hown.calm k5)
  have hnr0 : 0 < nr := by omega
  have hnr8 : nr ≤ 8 := by omega
  have hne : ¬ w4.heap.size = gr := by omega
  clear hc hm k4 hown hW5 k5 H1 H2 H3 HB HB2 K1 K2 K3 HW1 U HG HG0 hrt hnr hfew
  have x1 := hb5.cell (o := 1) rfl
  rw [HNR.out] at x1
  have how := HOWN.out.rown
  have hz : ∀ j u, (encRul (r, rv))[j]? = some u → j < 9 → W5.cell? ⟨gr, j, none⟩ = some u := fun j u hu hj => by
    have h1 := how.cellAt j (by have := HNR.out; omega)
    rw [HRT.out] at h1
    rw [h1]
    simp only [List.flatMap_cons]
    rw [List.getElem?_append_left (by show j < 9; exact hj)]
    exact hu
  have z0 := hz 0 _ rfl (by decide)
  have z1 := hz 1 _ rfl (by decide)
  have z2 := hz 2 _ rfl (by decide)
  have z3 := hz 3 _ rfl (by decide)
  have z4 := hz 4 _ rfl (by decide)
  have z5 := hz 5 _ rfl (by decide)
  have z6 := hz 6 _ rfl (by decide)
  have f0 := how.frozenAt 0
  have f1 := how.frozenAt 1
  have f2 := how.frozenAt 2
  have f3 := how.frozenAt 3
  have f4 := how.frozenAt 4
  have f5 := how.frozenAt 5
  have f6 := how.frozenAt 6
  clear hb5 hz how
  go_upto_region 4 with fail
  rw [HW5.out]
  obtain ⟨b40, b41⟩ := B4.out
  obtain ⟨cb, hcb⟩ : ∃ x, w4.heap.size = x := ⟨_, rfl⟩
  rw [hcb] at x1 hne HB5 ⊢
  have HCB := hid hcb
  clear hcb
  have hgc : ¬ gr = cb := fun e => hne e.symm
  have hrow : W5.ownsRow 0 49 9 (.slice (some ⟨gr, 0, none⟩) nr ruc) nr (encRul (r, rv) ++ t.flatMap encRul) := by
    have h1 := HOWN.out.rown
    have h2 := HNR.out
    rw [HRT.out] at h1
    simp only [List.flatMap_cons] at h1
    have h3 : ((r, rv) :: t).length = nr := by rw [← HRT.out]; exact h2
    rw [h3] at h1
    exact h1
  have HROW := hid hrow
  have hw4 : IntKind.i64.wrap a4 = a4 := by rw [IntKind.wrap_i64]; omega
  have HW4 := hid hw4
  clear hrow hw4
  go_cut [] from 31 to 46 (fun wx => Hid (wx.ownsRow 0 49 9 (.slice (some ⟨gr, 0, none⟩) nr ruc) nr (encRul (⟨a3, a4, r.limit, r.back, r.delay, r.span, a5, r.latch, r.stages⟩, rv) ++ t.flatMap encRul)) ∧ Hid (Keeps (fun i => i = gr) W5 wx))
  case first =>
    go_region_held3 (fun w' => w'.cell? ⟨cb, 1, none⟩ = some (.slice (some ⟨gr, 0, none⟩) nr ruc)) (first | with_reducible exact x1 | (go_keep; done) | (with_reducible refine Keeps.cell (w := W5) (S := fun i => i = gr) ?_ (fun e => hne e) x1; repeat' (first | with_reducible exact Keeps.refl _ _ | with_reducible refine Keeps.drewN ?_ _ | with_reducible refine Keeps.drew ?_ | with_reducible refine Keeps.setCell ?_ ?_ _ | exact Or.inr rfl))) (fail)
    all_goals
      go_wp2_with fail
      go_meet
      rw [HW4.out]
      refine ⟨hid (((HROW.out.stored 0 (.int .u8 a3)).1.stored 1 (.int .i64 a4)).1.stored 6 (.int .u8 a5)).1, hid ?_⟩
      repeat' (first | with_reducible exact Keeps.refl _ _ | with_reducible refine Keeps.drewN ?_ _ | with_reducible refine Keeps.drew ?_ | with_reducible refine Keeps.at ?_)
  case rest =>
  obtain ⟨HROW2, HKP⟩ := hcut
  clear z0 z1 z2 z3 z4 z5 z6 f0 f1 f2 f3 f4 f5 f6 x1 HROW HW4
  have hb2 := HB5.out.keep HKP.out (fun e => hgc e.symm)
  have x1 := hb2.cell (o := 1) rfl
  rw [HNR.out] at x1
  have hz : ∀ j u, (encRul (⟨a3, a4, r.limit, r.back, r.delay, r.span, a5, r.latch, r.stages⟩, rv))[j]? = some u → j < 9 → wc.cell? ⟨gr, j, none⟩ = some u := fun j u hu hj => by
    have h1 := HROW2.out.cellAt j (by omega)
    rw [h1, List.getElem?_append_left (by show j < 9; exact hj)]
    exact hu
  have z2 := hz 2 _ rfl (by decide)
  have z3 := hz 3 _ rfl (by decide)
  have z4 := hz 4 _ rfl (by decide)
  have z5 := hz 5 _ rfl (by decide)
  have f2 := HROW2.out.frozenAt 2
  have f3 := HROW2.out.frozenAt 3
  have f4 := HROW2.out.frozenAt 4
  have f5 := HROW2.out.frozenAt 5
  clear hz hb2
  obtain ⟨b10, b11⟩ := B1.out
  obtain ⟨b20, b21⟩ := B2.out
  obtain ⟨b70, b71⟩ := B7.out
  obtain ⟨wr, rfl⟩ : ∃ x, x = wc := ⟨_, rfl⟩
  go_upto_region 5 with fail
  have hbk0 : ∃ bk, a1.tdiv 2 = bk ∧ -1073741824 ≤ bk ∧ bk ≤ 1073741824 := by
    rcases Int.le_total 0 a1 with h | h
    · exact ⟨_, rfl, by rw [Int.tdiv_eq_ediv_of_nonneg h]; omega, by rw [Int.tdiv_eq_ediv_of_nonneg h]; omega⟩
    · have e : a1.tdiv 2 = -((-a1) / 2) := by rw [← Int.tdiv_eq_ediv_of_nonneg (show 0 ≤ -a1 by omega), Int.neg_tdiv]; omega
      exact ⟨_, rfl, by rw [e]; omega, by rw [e]; omega⟩
  obtain ⟨bk, hbk, hbl, hbh⟩ := hbk0
  have HWR : Hid (IntKind.i64.wrap a1 = a1 ∧ IntKind.i64.wrap (-IntKind.i64.wrap (IntKind.i32.wrap (a1.tdiv 2))) = -bk ∧ IntKind.i64.wrap a2 = a2 ∧ IntKind.i64.wrap a7 = a7) := hid ⟨by rw [IntKind.wrap_i64]; omega, by rw [hbk, IntKind.wrap_i32, IntKind.wrap_i64, IntKind.wrap_i64]; omega, by rw [IntKind.wrap_i64]; omega, by rw [IntKind.wrap_i64]; omega⟩
  have HBK := hid (show I32 (-bk) from ⟨by omega, by omega⟩)
  clear hbk
  go_cut [] from 47 to 72 (fun wx => Hid (wx.ownsRow 0 49 9 (.slice (some ⟨gr, 0, none⟩) nr ruc) nr (encRul (⟨a3, a4, a1, -bk, a2, a7, a5, r.latch, r.stages⟩, rv) ++ t.flatMap encRul)) ∧ Hid (Keeps (fun i => i = gr) wr wx))
  case first =>
    go_region_held3 (fun w' => w'.cell? ⟨cb, 1, none⟩ = some (.slice (some ⟨gr, 0, none⟩) nr ruc)) (first | with_reducible exact x1 | (go_keep; done) | (with_reducible refine Keeps.cell (w := wr) (S := fun i => i = gr) ?_ (fun e => hne e) x1; repeat' (first | with_reducible exact Keeps.refl _ _ | with_reducible refine Keeps.drewN ?_ _ | with_reducible refine Keeps.drew ?_ | with_reducible refine Keeps.setCell ?_ ?_ _ | exact Or.inr rfl))) (fail)
    all_goals
      go_wp2_with fail
      go_meet
      rw [HWR.out.1, HWR.out.2.1, HWR.out.2.2.1, HWR.out.2.2.2]
      refine ⟨hid ((((HROW2.out.stored 2 (.int .i64 a1)).1.stored 3 (.int .i64 (-bk))).1.stored 4 (.int .i64 a2)).1.stored 5 (.int .i64 a7)).1, hid ?_⟩
      repeat' (first | with_reducible exact Keeps.refl _ _ | with_reducible refine Keeps.drewN ?_ _ | with_reducible refine Keeps.drew ?_ | with_reducible refine Keeps.at ?_)
  case rest =>
  obtain ⟨HROW3, HKP2⟩ := hcut
  clear x1 z2 z3 z4 z5 f2 f3 f4 f5 HROW2
  obtain ⟨wr2, rfl⟩ : ∃ x, x = wc := ⟨_, rfl⟩
  have HKR := hid (HKP.out.trans HKP2.out)
  -- the signals
  obtain ⟨bs, hsg, hbs, hbsn⟩ := HOWN.out.sblk
  simp only [Value.slice.injEq] at hsg
  obtain ⟨rfl, hs3, rfl⟩ := hsg
  have hgb : ¬ gr = bs := fun e => (HOWN.out.sep1 gr rfl).1 (by rw [e]; rfl)
  have hbs4 : bs < w4.heap.size := by
    have h1 := HOW40.out.sblk
    obtain ⟨bs', e', hb', _⟩ := h1
    simp only [Value.slice.injEq, Option.some.injEq, Addr.mk.injEq, and_true] at e'
    obtain ⟨rfl, _⟩ := e'
    exact hb'.lt
  have hcbe := HCB.out
  have hbc : ¬ bs = cb := by omega
  have hb2 := HB5.out.keep HKR.out (fun e => hgc e.symm)
  have x0 := hb2.cell (o := 0) rfl
  have hbs2 := hbs.keep HKR.out (fun e => hgb e.symm)
  have HBS2 := hid hbs2
  have HB2x := hid hb2
  have y0 := hbs2.cell (o := 0) rfl
  have y1 := hbs2.cell (o := 1) rfl
  have g0 := hbs2.free 0
  have g1 := hbs2.free 1
  have HS3 := hid hs3
  clear hb2 hbs2 hbs hs3 hcbe
  rw [HS3.out] at x0
  go_upto_region 6 with fail
  go_cut [] from 73 to 80 (fun wx => Hid (BlkL wx bs 51 [.int .i64 a7, .int .i64 a2, .int .i64 0, .int .i64 250, .int .i64 (-2147483648), .int .i64 2147483647]) ∧ Hid (Keeps (fun b => b = bs) wr2 wx))
  case first =>
    go_wp2_with fail
    go_meet
    try rw [HWR.out.2.2.2]
    try rw [HWR.out.2.2.1]
    refine ⟨hid ((HBS2.out.put (ys := [.int .i64 a7, .int .i64 300, .int .i64 0, .int .i64 250, .int .i64 (-2147483648), .int .i64 2147483647]) 0 (.int .i64 a7) rfl).put (ys := [.int .i64 a7, .int .i64 a2, .int .i64 0, .int .i64 250, .int .i64 (-2147483648), .int .i64 2147483647]) 1 (.int .i64 a2) rfl), hid ?_⟩
    repeat' (first | with_reducible exact Keeps.refl _ _ | with_reducible refine Keeps.at ?_)
  case rest =>
  obtain ⟨HBS3, HKS⟩ := hcut
  clear x0 y0 y1 g0 g1 HBS2
  obtain ⟨wr3, rfl⟩ : ∃ x, x = wc := ⟨_, rfl⟩
  obtain ⟨b60, b61⟩ := B6.out
  have hb3 := HB2x.out.keep HKS.out (fun e => hbc e.symm)
  have HB3 := hid hb3
  have x6 := hb3.cell (o := 6) rfl
  have x7 := hb3.cell (o := 7) rfl
  have x8 := hb3.cell (o := 8) rfl
  have x10 := hb3.cell (o := 10) rfl
  have g6 := hb3.free 6
  have g7 := hb3.free 7
  have g8 := hb3.free 8
  have g10 := hb3.free 10
  have HW6 := hid (show IntKind.i64.wrap a6 = a6 by rw [IntKind.wrap_i64]; omega)
  clear hb3 HB2x
  go_upto_region 7 with fail
  go_cut [] from 81 to 92 (fun wx => Hid (BlkL wx cb 33 [.slice (some ⟨bs, 0, none⟩) C.sigs.length 3, .slice (some ⟨gr, 0, none⟩) C.ruls.length ruc, .slice tb C.tab.length tbc, .int .i64 C.b0, .int .i64 C.b1, .int .i64 C.b2, .int .i64 a6, .int .i64 a1, .int .i64 a2, .bool C.brk, .int .i64 a7]) ∧ Hid (Keeps (fun b => b = cb) wr3 wx))
  case first =>
    go_wp2_with fail
    go_meet
    try rw [HW6.out]
    try rw [HWR.out.2.2.2]
    try rw [HWR.out.1]
    try rw [HWR.out.2.2.1]
    have p1 := HB3.out.put (ys := [.slice (some ⟨bs, 0, none⟩) C.sigs.length 3, .slice (some ⟨gr, 0, none⟩) C.ruls.length ruc, .slice tb C.tab.length tbc, .int .i64 C.b0, .int .i64 C.b1, .int .i64 C.b2, .int .i64 a6, .int .i64 C.pause, .int .i64 C.off, .bool C.brk, .int .i64 C.log]) 6 (.int .i64 a6) rfl
    have p2 := p1.put (ys := [.slice (some ⟨bs, 0, none⟩) C.sigs.length 3, .slice (some ⟨gr, 0, none⟩) C.ruls.length ruc, .slice tb C.tab.length tbc, .int .i64 C.b0, .int .i64 C.b1, .int .i64 C.b2, .int .i64 a6, .int .i64 C.pause, .int .i64 C.off, .bool C.brk, .int .i64 a7]) 10 (.int .i64 a7) rfl
    have p3 := p2.put (ys := [.slice (some ⟨bs, 0, none⟩) C.sigs.length 3, .slice (some ⟨gr, 0, none⟩) C.ruls.length ruc, .slice tb C.tab.length tbc, .int .i64 C.b0, .int .i64 C.b1, .int .i64 C.b2, .int .i64 a6, .int .i64 a1, .int .i64 C.off, .bool C.brk, .int .i64 a7]) 7 (.int .i64 a1) rfl
    have p4 := p3.put (ys := [.slice (some ⟨bs, 0, none⟩) C.sigs.length 3, .slice (some ⟨gr, 0, none⟩) C.ruls.length ruc, .slice tb C.tab.length tbc, .int .i64 C.b0, .int .i64 C.b1, .int .i64 C.b2, .int .i64 a6, .int .i64 a1, .int .i64 a2, .bool C.brk, .int .i64 a7]) 8 (.int .i64 a2) rfl
    refine ⟨hid p4, hid ?_⟩
    repeat' (first | with_reducible exact Keeps.refl _ _ | with_reducible refine Keeps.at ?_)
  case rest =>
  obtain ⟨HB6, HKC⟩ := hcut
  clear x6 x7 x8 x10 g6 g7 g8 g10 HB3
  obtain ⟨wf, rfl⟩ : ∃ x, x = wc := ⟨_, rfl⟩
  have hcbe := HCB.out
  have k45 : Keeps No w4 W5 := by rw [← HW5.out]; exact (Keeps.refl _ _).alloc _
  have hkf : Keeps (fun b => b = gr ∨ b = bs) w4 wf := ((k45.no.trans (HKR.out.mono (fun _ _ e => Or.inl e))).trans (HKS.out.mono (fun _ _ e => Or.inr e))).trans' HKC.out (fun _ _ h => h) (fun i hi e => by omega)
  have HKF := hid hkf
  have hrul := HRT.out
  have hmr : (r, rv) ∈ C.ruls := by rw [hrul]; exact List.mem_cons_self
  have HCN : Hid (CfgR wf ⟨[⟨a7, a2⟩, ⟨0, 250⟩, ⟨-2147483648, 2147483647⟩], (⟨a3, a4, a1, -bk, a2, a7, a5, r.latch, r.stages⟩, rv) :: t, C.tab, C.b0, C.b1, C.b2, a6, a1, a2, C.brk, a7⟩ (.slice (some ⟨bs, 0, none⟩) 3 3) (.slice (some ⟨gr, 0, none⟩) nr ruc) (.slice tb C.tab.length tbc)) := hid (by
    have hln : t.length + 1 = nr := by have h1 := HNR.out; rw [hrul] at h1; exact h1
    obtain ⟨p1, p2, p3, p4⟩ := HOW40.out.sep1 gr rfl
    obtain ⟨q1, q2, q3⟩ := HOW40.out.sep2 bs rfl
    refine ⟨?_, ?_, ?_, ?_, ?_⟩
    · exact Sl.ofBlkM (HBS3.out.keep HKC.out hbc) rfl (by unfold maxLen; decide)
    · show Sl wf 9 _ (t.length + 1) _
      rw [hln]
      have h1 := Sl.ofOwn HROW3.out
      exact (h1.keep HKS.out (fun b hb e => by simp [Value.ownBlock] at hb; omega)).keep HKC.out (fun b hb e => by simp [Value.ownBlock] at hb; omega)
    · exact HC40.out.tab.keep HKF.out (fun b hb e => by
        rcases e with e | e
        · exact p2 (e ▸ hb)
        · exact q1 (e ▸ hb))
    · intro y hy
      have hst : ∀ x ∈ C.ruls, Sl wf 2 x.2 x.1.stages.length (x.1.stages.flatMap encStg) := fun x hx => (HC40.out.stg x hx).keep HKF.out (fun b hb e => by
        rcases e with e | e
        · exact p3 x hx (e ▸ hb)
        · exact q2 x hx (e ▸ hb))
      rcases List.mem_cons.1 hy with rfl | hy
      · exact hst (r, rv) hmr
      · exact hst y (by rw [hrul]; exact List.mem_cons_of_mem _ hy)
    · intro y hy
      exact Sl.keep (HC40.out.slot y hy) HKF.out (fun b hb e => by
        rcases e with e | e
        · exact p4 y hy (e ▸ hb)
        · exact q3 y hy (e ▸ hb)))
  have HMN : Hid (Laid ⟨[⟨a7, a2⟩, ⟨0, 250⟩, ⟨-2147483648, 2147483647⟩], (⟨a3, a4, a1, -bk, a2, a7, a5, r.latch, r.stages⟩, rv) :: t, C.tab, C.b0, C.b1, C.b2, a6, a1, a2, C.brk, a7⟩ ∧ Tells ⟨[⟨a7, a2⟩, ⟨0, 250⟩, ⟨-2147483648, 2147483647⟩], (⟨a3, a4, a1, -bk, a2, a7, a5, r.latch, r.stages⟩, rv) :: t, C.tab, C.b0, C.b1, C.b2, a6, a1, a2, C.brk, a7⟩ ∧ (cfgB ⟨[⟨a7, a2⟩, ⟨0, 250⟩, ⟨-2147483648, 2147483647⟩], (⟨a3, a4, a1, -bk, a2, a7, a5, r.latch, r.stages⟩, rv) :: t, C.tab, C.b0, C.b1, C.b2, a6, a1, a2, C.brk, a7⟩).length ≤ 898) := hid (by
    have hla := HM.out.laid
    have hte := HM.out.tells
    have hsh := HM.out.short
    have hte1 := hte.ruls (r, rv) hmr
    refine ⟨⟨fun y hy => ?_⟩, ⟨by show 3 ≤ 255; decide, ?_, hte.t255, ?_, ?_, hte.tab, hte.b0, hte.b1, hte.b2, B6.out, B1.out, B2.out, B7.out⟩, ?_⟩
    · rcases List.mem_cons.1 hy with rfl | hy
      · exact ⟨B3.out, B5.out, (hla.rul (r, rv) hmr).2.2⟩
      · exact hla.rul y (by rw [hrul]; exact List.mem_cons_of_mem _ hy)
    · show t.length + 1 ≤ 255
      have h1 := hte.r255
      rw [hrul] at h1
      exact h1
    · intro y hy
      simp at hy
      rcases hy with rfl | rfl | rfl
      · exact ⟨B7.out, B2.out⟩
      · exact ⟨by constructor <;> decide, by constructor <;> decide⟩
      · exact ⟨by constructor <;> decide, by constructor <;> decide⟩
    · intro y hy
      rcases List.mem_cons.1 hy with rfl | hy
      · exact ⟨B4.out, B1.out, HBK.out, B2.out, B7.out, hte1.few, hte1.stg⟩
      · exact hte.ruls y (by rw [hrul]; exact List.mem_cons_of_mem _ hy)
    · rw [cfgB_len] at hsh ⊢
      rw [hrul] at hsh
      simp only [List.map_cons, List.sum_cons, List.length_cons, List.length_nil] at hsh ⊢
      have h3 := HS3.out
      omega)
  obtain ⟨CN, hCN⟩ : ∃ X : Cfg, ⟨[⟨a7, a2⟩, ⟨0, 250⟩, ⟨-2147483648, 2147483647⟩], (⟨a3, a4, a1, -bk, a2, a7, a5, r.latch, r.stages⟩, rv) :: t, C.tab, C.b0, C.b1, C.b2, a6, a1, a2, C.brk, a7⟩ = X := ⟨_, rfl⟩
  have HVAL : Hid (CN.val (.slice (some ⟨bs, 0, none⟩) 3 3) (.slice (some ⟨gr, 0, none⟩) nr ruc) (.slice tb C.tab.length tbc) = .agg #[.slice (some ⟨bs, 0, none⟩) 3 3, .slice (some ⟨gr, 0, none⟩) nr ruc, .slice tb C.tab.length tbc, .int .i64 C.b0, .int .i64 C.b1, .int .i64 C.b2, .int .i64 a6, .int .i64 a1, .int .i64 a2, .bool C.brk, .int .i64 a7]) := hid (by rw [← hCN]; rfl)
  rw [hCN] at HCN HMN
  have HENC := hid (code_any HCN.out HMN.out.1 HMN.out.2.2)
  rw [HVAL.out] at HENC
  have HGF : Hid (ErrV wf) := hid (HKF.out.cell (p := ⟨0, 0, none⟩) (fun e => by
    rcases e with e | e
    · have e' : (0 : Nat) = gr := e
      omega
    · have e' : (0 : Nat) = bs := e
      omega) HG4.out)
  have KF : Hid (Keeps No w wf) := hid (K4.out.trans' HKF.out (fun _ _ h => h) (fun i hi e => by rcases e with e | e <;> omega))
  have HSF := HS3
  clear hkf hrul hmr hcbe k45 HKF HCB HRT HROW3 HBS3 HKR HKS HKC HOWN HOW40 HC40 HM HC5 HB5 K5 HG5 HG4 HWR HBK HW6 HW5 HKP HKP2 hCN B1 B2 B3 B4 B5 B6 B7
  have x0 := HB6.out.cell (o := 0) rfl
  have x1 := HB6.out.cell (o := 1) rfl
  have x2 := HB6.out.cell (o := 2) rfl
  have x3 := HB6.out.cell (o := 3) rfl
  have x4 := HB6.out.cell (o := 4) rfl
  have x5 := HB6.out.cell (o := 5) rfl
  have x6 := HB6.out.cell (o := 6) rfl
  have x7 := HB6.out.cell (o := 7) rfl
  have x8 := HB6.out.cell (o := 8) rfl
  have x9 := HB6.out.cell (o := 9) rfl
  have x10 := HB6.out.cell (o := 10) rfl
  rw [HSF.out] at x0
  rw [HNR.out] at x1
  go_wp2_with fail
  refine HENC.out.mono ?_
  rintro e w6 ⟨v6, rfl, ho, hk⟩
  have hsl : SlB w6 v6 (imgL CN) := Sl.ofOwn ho
  obtain ⟨a6', c6, rfl⟩ := own_any ho
  have HV := hid hsl
  have K6 := hid (KF.out.trans hk)
  have HG6 := hid (HGF.out.keep hk)
  have HC6 := hid (HCN.out.calm hk)
  have HBC6 := hid (HB6.out.keep hk (fun h => h))
  clear ho hsl hk x0 x1 x2 x3 x4 x5 x6 x7 x8 x9 x10 HENC HB6 HGF HCN KF
  go_wp2_with fail
  refine (uncode_any HG6.out HV.out HMN.out.1 HMN.out.2.1 HMN.out.2.2).mono ?_
  rintro e w7 ⟨D, dsv, drv, dtv, rfl, hr, hp, hk⟩
  obtain ⟨sg2, sgc2, ru2, ruc2, tb2, tbc2, rfl, rfl, rfl⟩ := hr.shape
  unfold Cfg.val Cfg.cells
  have K7 := hid (K6.out.trans hk)
  have HC7 := hid (HC6.out.calm hk)
  have HB7 := hid (HBC6.out.keep hk (fun h => h))
  have HD := hid hr
  have HP := hid hp
  clear hr hp hk HV HG6 HC6 HBC6 K6
  obtain ⟨W8, hW8⟩ : ∃ W8, w7.alloc (.cells #[.slice sg2 D.sigs.length sgc2, .slice ru2 D.ruls.length ruc2, .slice tb2 D.tab.length tbc2, .int .i64 D.b0, .int .i64 D.b1, .int .i64 D.b2, .int .i64 D.drain, .int .i64 D.pause, .int .i64 D.off, .bool D.brk, .int .i64 D.log] 33) = W8 := ⟨_, rfl⟩
  have k8 : Keeps No w7 W8 := by rw [← hW8]; exact (Keeps.refl _ _).alloc _
  have hb8 : BlkL W8 w7.heap.size 33 [.slice sg2 D.sigs.length sgc2, .slice ru2 D.ruls.length ruc2, .slice tb2 D.tab.length tbc2, .int .i64 D.b0, .int .i64 D.b1, .int .i64 D.b2, .int .i64 D.drain, .int .i64 D.pause, .int .i64 D.off, .bool D.brk, .int .i64 D.log] := by rw [← hW8]; exact heap_alloc_new w7 _
  have hc8 := HB7.out.keep k8 (fun h => h)
  have HS := hid (csame_true (HD.out.calm k8) (HC7.out.calm k8) HP.out)
  rw [HVAL.out] at HS
  unfold Cfg.val Cfg.cells at HS
  have K8 := hid (K7.out.trans k8)
  have HW8 := hid hW8
  clear hW8 k8 HC7 HB7 HD K7
  go_upto_region 9 with fail
  rw [HW8.out]
  have x0 := hc8.cell (o := 0) rfl
  have x1 := hc8.cell (o := 1) rfl
  have x2 := hc8.cell (o := 2) rfl
  have x3 := hc8.cell (o := 3) rfl
  have x4 := hc8.cell (o := 4) rfl
  have x5 := hc8.cell (o := 5) rfl
  have x6 := hc8.cell (o := 6) rfl
  have x7 := hc8.cell (o := 7) rfl
  have x8 := hc8.cell (o := 8) rfl
  have x9 := hc8.cell (o := 9) rfl
  have x10 := hc8.cell (o := 10) rfl
  have y0 := hb8.cell (o := 0) rfl
  have y1 := hb8.cell (o := 1) rfl
  have y2 := hb8.cell (o := 2) rfl
  have y3 := hb8.cell (o := 3) rfl
  have y4 := hb8.cell (o := 4) rfl
  have y5 := hb8.cell (o := 5) rfl
  have y6 := hb8.cell (o := 6) rfl
  have y7 := hb8.cell (o := 7) rfl
  have y8 := hb8.cell (o := 8) rfl
  have y9 := hb8.cell (o := 9) rfl
  have y10 := hb8.cell (o := 10) rfl
  rw [HSF.out] at x0
  rw [HNR.out] at x1
  clear hc8 hb8
  go_wp2_with fail
  refine HS.out.mono ?_
  rintro e w11 ⟨rfl, hk⟩
  have K11 := hid (K8.out.trans hk)
  clear hk HS
  go_wp2_with fail
  go_ret
  exact ⟨rfl, K11.out.toBelow⟩

theorem own : ownKnob Tryd.prog.godebug = none := by kernel_rfl
theorem laidOut : laidOutB Tryd.prog = true := by kernel_rfl
set_option maxRecDepth 100000 in
theorem lifted (os : Os) (started : os.Started) (H : Type) (enc : TypeId × Value → H) :
    ReturnsInHanded {} Tryd.checked os 7 .any (fun w args => (Rows.imageAnySpec.pre enc Tryd.prog Tryd.f7 [] false w args ∧ laidMetH Tryd.prog [("errors.errorType", Rows.laid_errors_errorType)] w) ∧ sizedMet enc Tryd.prog Tryd.f7 (OpenSpec.ofChange Rows.imageAnySpec) false w args) (Rows.imageAnySpec.post enc Tryd.prog Tryd.f7 false true false false) := by
  refine returnsInHanded_of_change_and (C := Tryd.checked) (X := fun w _ => laidMetH Tryd.prog [("errors.errorType", Rows.laid_errors_errorType)] w) (fun _ _ _ hh h => h.of_heap hh) own started (by kernel_rfl) Tryd.func7
    (ChangeSpec.witness_at (enc := enc) (C := Tryd.checked) (os := os) (X := fun w _ => laidMetH Tryd.prog [("errors.errorType", Rows.laid_errors_errorType)] w) false (laidWorld os) #[.agg #[.slice none 0 0, .slice none 0 0, .int .u8 0, .int .u8 0, .int .u8 0, .int .u8 0, .bool false, .int .u8 0], .int .i32 0, .int .i32 0, .int .u8 0, .int .u8 0, .int .u8 0, .int .u8 0, .int .i32 0] 8 rfl (by kernel_rfl) (by kernel_rfl) (by kernel_rfl) (by kernel_rfl) (by kernel_rfl) (laidWorld_met os _)) ?_
  intro W base args ds gs before hval0 hW hcnd _ hL _
  have hg := handle_of_laid hL
  have hval : ∀ (j : Nat) t v, Tryd.f7.params[j]? = some t → args[j]? = some v → Value.okWide Tryd.prog W .any base t v := hval0
  have hW' := hW
  obtain ⟨p, q, hA0, hV, rfl, hfz, hnd⟩ := hW
  have hA : DataW.TrodAll enc Tryd.prog W 0 (fun _ => true) true Tryd.f7.params.toList args.toList ds p := hA0
  rw [Tryd.params7] at hA hval
  obtain ⟨v0, vs0, d0, ds0, p0, q0, hargs, rfl, rfl, h0, r0⟩ := trodAll_cons hA
  obtain ⟨v1, vs1, d1, ds1, p1, q1, rfl, rfl, rfl, h1, r1⟩ := trodAll_cons r0
  obtain ⟨v2, vs2, d2, ds2, p2, q2, rfl, rfl, rfl, h2, r2⟩ := trodAll_cons r1
  obtain ⟨v3, vs3, d3, ds3, p3, q3, rfl, rfl, rfl, h3, r3⟩ := trodAll_cons r2
  obtain ⟨v4, vs4, d4, ds4, p4, q4, rfl, rfl, rfl, h4, r4⟩ := trodAll_cons r3
  obtain ⟨v5, vs5, d5, ds5, p5, q5, rfl, rfl, rfl, h5, r5⟩ := trodAll_cons r4
  obtain ⟨v6, vs6, d6, ds6, p6, q6, rfl, rfl, rfl, h6, r6⟩ := trodAll_cons r5
  obtain ⟨v7, vs7, d7, ds7, p7, q7, rfl, rfl, rfl, h7, r7⟩ := trodAll_cons r6
  obtain ⟨rfl, rfl, rfl⟩ := trodAll_nil r7
  obtain rfl : args = #[v0, v1, v2, v3, v4, v5, v6, v7] := by cases args; simp_all
  obtain ⟨rfl, rfl⟩ := trodVars_none hV
  have k0 := h0
  have lt0 : ∀ x ∈ p0, x.block < W.heap.size := by obtain ⟨m, hm⟩ := k0; exact DataW.trod_lt m _ _ _ hm
  have k1 := h1
  have lt1 : ∀ x ∈ p1, x.block < W.heap.size := by obtain ⟨m, hm⟩ := k1; exact DataW.trod_lt m _ _ _ hm
  have k2 := h2
  have lt2 : ∀ x ∈ p2, x.block < W.heap.size := by obtain ⟨m, hm⟩ := k2; exact DataW.trod_lt m _ _ _ hm
  have k3 := h3
  have lt3 : ∀ x ∈ p3, x.block < W.heap.size := by obtain ⟨m, hm⟩ := k3; exact DataW.trod_lt m _ _ _ hm
  have k4 := h4
  have lt4 : ∀ x ∈ p4, x.block < W.heap.size := by obtain ⟨m, hm⟩ := k4; exact DataW.trod_lt m _ _ _ hm
  have k5 := h5
  have lt5 : ∀ x ∈ p5, x.block < W.heap.size := by obtain ⟨m, hm⟩ := k5; exact DataW.trod_lt m _ _ _ hm
  have k6 := h6
  have lt6 : ∀ x ∈ p6, x.block < W.heap.size := by obtain ⟨m, hm⟩ := k6; exact DataW.trod_lt m _ _ _ hm
  have k7 := h7
  have lt7 : ∀ x ∈ p7, x.block < W.heap.size := by obtain ⟨m, hm⟩ := k7; exact DataW.trod_lt m _ _ _ hm
  obtain ⟨rules, rv, slots, sv, ba, dr, pa, of_, br, lo, rfl, hd, u1, u2, u3, u4, u5⟩ := argDraft (hval 0 25 v0 rfl rfl) h0
  obtain ⟨a1, rfl, rfl, rfl, w1⟩ := open_int Tryd.underlying21 (hval 1 21 v1 rfl rfl) h1
  obtain ⟨a2, rfl, rfl, rfl, w2⟩ := open_int Tryd.underlying21 (hval 2 21 v2 rfl rfl) h2
  obtain ⟨a3, rfl, rfl, rfl, w3⟩ := open_int Tryd.underlying5 (hval 3 5 v3 rfl rfl) h3
  obtain ⟨a4, rfl, rfl, rfl, w4⟩ := open_int Tryd.underlying5 (hval 4 5 v4 rfl rfl) h4
  obtain ⟨a5, rfl, rfl, rfl, w5⟩ := open_int Tryd.underlying5 (hval 5 5 v5 rfl rfl) h5
  obtain ⟨a6, rfl, rfl, rfl, w6⟩ := open_int Tryd.underlying5 (hval 6 5 v6 rfl rfl) h6
  obtain ⟨a7, rfl, rfl, rfl, w7⟩ := open_int Tryd.underlying21 (hval 7 21 v7 rfl rfl) h7
  clear hA0 hval0
  refine (walk W hg rules rv slots sv ba dr pa of_ br lo hd u1 u2 u3 u4 u5 a1 w1 a2 w2 a3 w3 a4 w4 a5 w5 a6 w6 a7 w7).mono fun e W' ⟨he, bel⟩ => ?_
  subst he
  exact ⟨_, rfl, _, _, _, [], _, [], hW', trodAll_mk1 (shut_bool Tryd.underlying4 _), (trodAll_cons_mk (Below.trod laidOut (by kernel_rfl) (of_decide_eq_true (by kernel_rfl)) k0 bel lt0) (trodAll_cons_mk (Below.trod laidOut (by kernel_rfl) (of_decide_eq_true (by kernel_rfl)) k1 bel lt1) (trodAll_cons_mk (Below.trod laidOut (by kernel_rfl) (of_decide_eq_true (by kernel_rfl)) k2 bel lt2) (trodAll_cons_mk (Below.trod laidOut (by kernel_rfl) (of_decide_eq_true (by kernel_rfl)) k3 bel lt3) (trodAll_cons_mk (Below.trod laidOut (by kernel_rfl) (of_decide_eq_true (by kernel_rfl)) k4 bel lt4) (trodAll_cons_mk (Below.trod laidOut (by kernel_rfl) (of_decide_eq_true (by kernel_rfl)) k5 bel lt5) (trodAll_cons_mk (Below.trod laidOut (by kernel_rfl) (of_decide_eq_true (by kernel_rfl)) k6 bel lt6) (trodAll_cons_mk (Below.trod laidOut (by kernel_rfl) (of_decide_eq_true (by kernel_rfl)) k7 bel lt7) trodAll_mk0)))))))), rfl, bel.frame _, fun h => by cases h⟩

theorem over : Rows.imageAnyRow.holds Tryd.pinned (OpenSpec.ofChange Rows.imageAnySpec) :=
  OpenClaim.holds_of_wide 7 Tryd.f7 rfl rfl rfl rfl rfl rfl rfl ⟨rfl, rfl, rfl, rfl, rfl⟩ rfl rfl rfl rfl rfl (by kernel_rfl) Tryd.func7 (by kernel_rfl)
    (of_decide_eq_true (by kernel_rfl)) (by unfold Func.isWrapper; first | (rw [if_pos (by decide +kernel)]; kernel_rfl) | (rw [if_neg (by decide +kernel)]; exact ⟨rfl, rfl⟩))
    (fun os started H enc _ => lifted os started H enc)

theorem proved : Rows.ImageAnyCardSaid :=
  Claim7.holds_tied_plain_at .later [] [.handle] true (true, "bf61a0ac0b77768fd6463ca71fcf3807c313b05a13ffb6325fe70bc381b5822f") true
    over (fun _ h => by cases h) (by kernel_rfl) (fun _ h => by cases h) imageAny_row_tie rfl ⟨rfl, rfl⟩ (by kernel_rfl) rfl
    (fun f fn hf hfn => by
      obtain rfl : f = 7 := Option.some.inj ((show Tryd.prog.funcNamed "handbell/handbelllaw06.ImageAny" = some 7 by kernel_rfl).symm.trans hf) |>.symm
      obtain rfl : fn = Tryd.f7 := (Option.some.inj (Tryd.func7.symm.trans hfn)).symm
      exact ⟨by kernel_rfl, fun j t ht => by
        rw [Tryd.params7] at ht
        have hm : t ∈ (#[25, 21, 21, 5, 5, 5, 5, 21] : Array TypeId).toList := by
          have := Array.mem_of_getElem? ht
          simpa using this
        simp at hm
        rcases hm with rfl | rfl | rfl | rfl
        · exact (show Tryd.prog.wantsStandIn 25 = false by kernel_rfl)
        · exact (show Tryd.prog.wantsStandIn 21 = false by kernel_rfl)
        · exact (show Tryd.prog.wantsStandIn 5 = false by kernel_rfl)
        · exact (show Tryd.prog.wantsStandIn 21 = false by kernel_rfl)⟩)
    (by kernel_rfl)
#print axioms proved
end Go.Proofs.YtlenhccdkhgfgaaDoor.imageAny
