/- A condition is shown no sooner than its delay; the more rules, the longer an event may wait. No conditions. -/
import Derived.Test.YtfiijbpcaceibaaRows
import Derived.Test.YtfiijbpcaceibaaArgsE
import Derived.Test.YtfiijbpcaceibaaMake2
import Derived.Test.YtfiijbpcaceibaaTblK
import Derived.Test.YtfiijbpcaceibaaTblM
import Derived.Test.YtfiijbpcaceibaaShort14
import Derived.ProofKit
import Derived.OpenShut
import Derived.Deep.RegionHeld3
import Derived.Deep.DeepCutAuto
import Derived.Deep.CutBlock
import Derived.Test.YtfiijbpcaceibaaCellP
namespace Go.Proofs.Ytfiijbpcaceibaa.tableBounds
open Go.ChangeShapes Go.WideShapes Go.ChangeAt Go.RowKit
open Go.ChangeMaps (open_string shut_string)
set_option linter.unusedVariables false

theorem rul_one {w : World} {C : Cfg} {sv rv tv : Value} (h : CfgR w C sv rv tv) : ∀ u ∈ C.ruls.flatMap encRul, u.oneCell' = true := by
  intro u hu
  obtain ⟨x, hx, hu⟩ := List.mem_flatMap.1 hu
  obtain ⟨a, c, e⟩ := (h.stg x hx).any
  unfold encRul at hu
  rw [e] at hu
  simp only [List.mem_cons, List.not_mem_nil, or_false] at hu
  rcases hu with rfl | rfl | rfl | rfl | rfl | rfl | rfl | rfl | rfl <;> rfl

theorem made_delay {C : Cfg} (hm : Made C) {k : Nat} (hk : k < C.ruls.length) : 0 ≤ C.ruls[k].1.delay ∧ C.ruls[k].1.delay ≤ 10000 := by
  have h := (hm.ruls _ (List.getElem_mem hk)).num.delay
  omega

theorem row_keep {w w' : World} {e : TypeId} {size : Nat} {v : Value} {n : Nat} {xs : List Value} (h : w.ownsRow 0 e size v n xs) (k : Keeps No w w') : w'.ownsRow 0 e size v n xs := Keeps.own k h (fun _ _ h => h)

theorem slot_one {w : World} {C : Cfg} {sv rv tv : Value} (h : CfgR w C sv rv tv) : ∀ u ∈ C.tab.map (·.2), u.oneCell' = true := by
  intro u hu
  obtain ⟨x, hx, rfl⟩ := List.mem_map.1 hu
  obtain ⟨a, c, e⟩ := Sl.any (h.slot x hx)
  rw [e]; rfl

set_option maxHeartbeats 8000000 in
set_option maxRecDepth 100000 in
theorem walk (w : World) (rules : List (LineD × Value)) (rv : Value) (slots : List Int) (sv : Value) (ba dr pa of_ : Int) (br : Bool) (lo : Int) (hd : DraftR w rules rv slots sv) (u1 : U8 ba) (u2 : U8 dr) (u3 : U8 pa) (u4 : U8 of_) (u5 : U8 lo) (ru8 : Int) (wr : (Lit.int .u8 ru8).wf = true) :
    Calls Try.prog 6 #[.agg #[rv, sv, .int .u8 ba, .int .u8 dr, .int .u8 pa, .int .u8 of_, .bool br, .int .u8 lo], .int .u8 ru8] w fun e w' => e = .returned (.bool true) ∧ Below w.heap.size w w' := by
  obtain ⟨r0, r1⟩ := bounds_u8 wr
  clear wr
  obtain ⟨ra, rc, rfl⟩ := hd.rul.any
  obtain ⟨sa, sc, rfl⟩ := hd.slo.any
  obtain ⟨W1, hW1⟩ : ∃ W1, w.alloc (.cells #[.slice ra rules.length rc, .slice sa slots.length sc, .int .u8 ba, .int .u8 dr, .int .u8 pa, .int .u8 of_, .bool br, .int .u8 lo] 25) = W1 := ⟨_, rfl⟩
  have k1 : Keeps No w W1 := by rw [← hW1]; exact (Keeps.refl _ _).alloc _
  have hb : BlkL W1 w.heap.size 25 [.slice ra rules.length rc, .slice sa slots.length sc, .int .u8 ba, .int .u8 dr, .int .u8 pa, .int .u8 of_, .bool br, .int .u8 lo] := by rw [← hW1]; exact heap_alloc_new w _
  have H1 := hid (hd.calm k1)
  have HB := hid hb
  have HW1 := hid hW1
  have K1 := hid k1
  have U := hid (show U8 ba ∧ U8 dr ∧ U8 pa ∧ U8 of_ ∧ U8 lo from ⟨u1, u2, u3, u4, u5⟩)
  clear hd hW1 k1 hb u1 u2 u3 u4 u5
  go_enter Try.func6, Try.ntmps6
  go_upto_region 1 with fail
  rw [HW1.out]
  go_wp2_with fail
  refine (gaps_true _).mono ?_
  rintro e w2 ⟨rfl, k2⟩
  have hb := HB.out.keep k2 (fun h => h)
  have K2 := hid (K1.out.trans k2)
  have H2 := hid (H1.out.calm k2)
  have HB2 := hid hb
  have x0 := hb.cell (o := 0) rfl
  have x1 := hb.cell (o := 1) rfl
  have x2 := hb.cell (o := 2) rfl
  have x3 := hb.cell (o := 3) rfl
  have x4 := hb.cell (o := 4) rfl
  have x5 := hb.cell (o := 5) rfl
  have x6 := hb.cell (o := 6) rfl
  have x7 := hb.cell (o := 7) rfl
  clear hb k2
  go_wp2_with fail
  refine (short14_any H2.out ba dr pa of_ br lo).mono ?_
  rintro e w3 ⟨bs, rfl, k3⟩
  clear x0 x1 x2 x3 x4 x5 x6 x7
  have K3 := hid (K2.out.trans k3)
  have H3 := hid (H2.out.calm k3)
  have hb := HB2.out.keep k3 (fun h => h)
  clear k3
  cases bs
  · clear hb
    go_wp2_with fail
    refine (gaps_true _).mono ?_
    rintro e w4 ⟨rfl, k4⟩
    have K4 := hid (K3.out.trans k4)
    clear k4
    go_wp2_with fail
    go_ret
    exact ⟨rfl, K4.out.toBelow⟩
  have x0 := hb.cell (o := 0) rfl
  have x1 := hb.cell (o := 1) rfl
  have x2 := hb.cell (o := 2) rfl
  have x3 := hb.cell (o := 3) rfl
  have x4 := hb.cell (o := 4) rfl
  have x5 := hb.cell (o := 5) rfl
  have x6 := hb.cell (o := 6) rfl
  have x7 := hb.cell (o := 7) rfl
  clear hb
  go_wp2_with fail
  refine (make_any H3.out ba dr pa of_ br lo U.out.1 U.out.2.1 U.out.2.2.1 U.out.2.2.2.1 U.out.2.2.2.2).mono ?_
  rintro e w4 ⟨C, csv, crv, ctv, rfl, hc, hm, k4⟩
  clear x0 x1 x2 x3 x4 x5 x6 x7
  obtain ⟨sg, sgc, ru, ruc, tb, tbc, rfl, rfl, rfl⟩ := hc.shape
  unfold Cfg.val Cfg.cells
  have K4 := hid (K3.out.trans k4)
  have HC4 := hid hc
  have HM := hid hm
  have HML : Hid (∀ l ∈ C.tab, l.1.length ≤ 100000) := hid (made_short hm)
  have hL := hm.slots
  clear hc hm k4 K1 K2 K3 H1 H2 H3 HB HB2 U HW1
  obtain ⟨cb, hcb⟩ : ∃ y, w4.heap.size = y := ⟨_, rfl⟩
  obtain ⟨W5, hW5⟩ : ∃ W5, w4.alloc (.cells #[.slice sg C.sigs.length sgc, .slice ru C.ruls.length ruc, .slice tb C.tab.length tbc, .int .i64 C.b0, .int .i64 C.b1, .int .i64 C.b2, .int .i64 C.drain, .int .i64 C.pause, .int .i64 C.off, .bool C.brk, .int .i64 C.log] 33) = W5 := ⟨_, rfl⟩
  have HC5 : Hid (CfgR W5 C (.slice sg C.sigs.length sgc) (.slice ru C.ruls.length ruc) (.slice tb C.tab.length tbc)) := hid (HC4.out.calm (by rw [← hW5]; exact (Keeps.refl _ _).alloc _))
  have HB5 : Hid (Bk W5 cb 33 [.slice sg C.sigs.length sgc, .slice ru C.ruls.length ruc, .slice tb C.tab.length tbc, .int .i64 C.b0, .int .i64 C.b1, .int .i64 C.b2, .int .i64 C.drain, .int .i64 C.pause, .int .i64 C.off, .bool C.brk, .int .i64 C.log]) := hid (by rw [← hW5]; exact Bk.new hcb _ _)
  have K5 : Hid (Keeps No w W5) := hid (by rw [← hW5]; exact K4.out.alloc _)
  have HW5 := hid hW5
  have HCB := hid hcb
  have HNC : Hid (w.heap.size ≤ cb) := hid (by rw [← hcb]; exact K4.out.size)
  clear hcb hW5 K4 HC4
  have hN := HM.out.few
  obtain ⟨k, hk⟩ : ∃ k : Nat, ru8.tmod (C.ruls.length : Int) = k := ⟨(ru8.tmod (C.ruls.length : Int)).toNat, by rw [Int.tmod_eq_emod_of_nonneg r0]; have := Int.emod_nonneg ru8 (show (C.ruls.length : Int) ≠ 0 by omega); omega⟩
  have hkN : k < C.ruls.length := by rw [Int.tmod_eq_emod_of_nonneg r0] at hk; have := Int.emod_lt_of_pos ru8 (show 0 < (C.ruls.length : Int) by omega); omega
  have hz1 : ¬ (C.ruls.length = 0) := by omega
  have hz2 : ((C.ruls.length : Int) == 0) = false := by simpa using hz1
  have hwk : IntKind.i64.wrap (k : Int) = (k : Int) := by simp only [IntKind.wrap_i64]; omega
  have HG0 : Hid (Goes (hasD (C.tab.map (·.1)) (k : Int)) C.tab.length) := hid (by
    have := hasD_goes (t := C.tab.map (·.1)) (r := (k : Int)) (by rw [List.length_map]; omega) (by
      obtain ⟨x, hx, hi⟩ := HM.out.stands k hkN
      exact ⟨x.1, List.mem_map_of_mem hx, hi⟩)
    rwa [List.length_map] at this)
  go_upto_region 4 with fail
  try rw [HW5.out, HCB.out]
  clear HW5 HCB
  have x1 := HB5.out.cell 1 rfl
  go_upto_region 5 with fail
  clear x1 hz1 hz2 hwk hk
  have x0_0 := HB5.out.cell 0 rfl
  have x0_1 := HB5.out.cell 1 rfl
  have x0_2 := HB5.out.cell 2 rfl
  have x0_3 := HB5.out.cell 3 rfl
  have x0_4 := HB5.out.cell 4 rfl
  have x0_5 := HB5.out.cell 5 rfl
  have x0_6 := HB5.out.cell 6 rfl
  have x0_7 := HB5.out.cell 7 rfl
  have x0_8 := HB5.out.cell 8 rfl
  have x0_9 := HB5.out.cell 9 rfl
  have x0_10 := HB5.out.cell 10 rfl
  go_upto_region 6 with fail
  obtain ⟨mb, hmb⟩ : ∃ y, W5.heap.size = y := ⟨_, rfl⟩
  obtain ⟨W6, hW6⟩ : ∃ W, W5.alloc (.cells #[.slice sg C.sigs.length sgc, .slice ru C.ruls.length ruc, .slice tb C.tab.length tbc, .int .i64 C.b0, .int .i64 C.b1, .int .i64 C.b2, .int .i64 C.drain, .int .i64 C.pause, .int .i64 C.off, .bool C.brk, .int .i64 C.log] 33) = W := ⟨_, rfl⟩
  have k6 : Keeps No W5 W6 := by rw [← hW6]; exact (Keeps.refl _ _).alloc _
  have HM6 : Hid (Bk W6 mb 33 [.slice sg C.sigs.length sgc, .slice ru C.ruls.length ruc, .slice tb C.tab.length tbc, .int .i64 C.b0, .int .i64 C.b1, .int .i64 C.b2, .int .i64 C.drain, .int .i64 C.pause, .int .i64 C.off, .bool C.brk, .int .i64 C.log]) := hid (by rw [← hW6]; exact Bk.new hmb _ _)
  have HB6 := hid (HB5.out.kept k6)
  have HC6 := hid (HC5.out.calm k6)
  have K6 := hid k6
  have HCM : Hid (cb < mb) := hid (by rw [← hmb]; exact HB5.out.lt)
  have HWM : Hid (w.heap.size ≤ mb) := hid (by rw [← hmb]; exact K5.out.size)
  have HMB : Hid (W5.heap.size = mb) := hid hmb
  rw [hmb, hW6]
  clear hmb hW6 k6 x0_0 x0_1 x0_2 x0_3 x0_4 x0_5 x0_6 x0_7 x0_8 x0_9 x0_10
  obtain ⟨i0, hi0, hy0, hy1, hy2⟩ := info_parts info_rulA
  have HI := hid hi0
  clear hi0
  have c1 := HB6.out.cell 1 rfl
  have m1 := HM6.out.cell 1 rfl
  have mf := HM6.out.free 1
  have h0 : 0 < C.ruls.length := by omega
  obtain ⟨rg, ro, rfl, hrg, hr⟩ := Sl.itemC (enc := encRul) (size := 9) (fun _ => rfl) (by decide) HC6.out.rul h0 (rfl : C.ruls[0] = C.ruls[0])
  obtain ⟨r, hre⟩ : ∃ r, C.ruls[0] = r := ⟨_, rfl⟩
  rw [hre] at hr
  obtain ⟨⟨rk, rs, rl, rbk, rd, rsp, rp, rla, rst⟩, rv9⟩ := r
  have hmem := List.getElem_mem h0
  rw [hre] at hmem
  obtain ⟨s9a, s9c, h9⟩ := (HC6.out.stg _ hmem).any
  try dsimp only at h9
  have q0 := hr 0 _ rfl
  have q1 := hr 1 _ rfl
  have q2 := hr 2 _ rfl
  have q3 := hr 3 _ rfl
  have q4 := hr 4 _ rfl
  have q5 := hr 5 _ rfl
  have q6 := hr 6 _ rfl
  have q7 := hr 7 _ rfl
  have q8 := hr 8 _ rfl
  simp only [Nat.zero_mul, Nat.add_zero] at q0 q1 q2 q3 q4 q5 q6 q7 q8
  rw [h9] at q8
  have HON := hid (rul_one HC6.out)
  have HRU := hid HC6.out.rul
  have hn8 : C.ruls.length ≤ 8 := hN.2
  have hkN2 := hkN
  clear hre hr h9 hN hkN hmem
  go_cut [] from 25 to 34 (fun wx => ∃ (mr : Option Addr) (mrc : Nat), Hid (Bk wx mb 33 [.slice sg C.sigs.length sgc, .slice mr (C.ruls.length + 1) mrc, .slice tb C.tab.length tbc, .int .i64 C.b0, .int .i64 C.b1, .int .i64 C.b2, .int .i64 C.drain, .int .i64 C.pause, .int .i64 C.off, .bool C.brk, .int .i64 C.log]) ∧ Hid (Keeps (fun b => b = mb) W6 wx))
  case first =>
    have c1a := cellA (.cells #[.int .u8 rk, .int .i64 rs, .int .i64 rl, .int .i64 rbk, .int .i64 rd, .int .i64 rsp, .int .u8 rp, .bool rla, .slice s9a rst.length s9c] 46) c1
    go_region_law (first
      | (refine step_append rfl (.const (.slice none 0 0)) (.tmp 26) 29 rfl 46 i0 (.agg #[.int .u8 0, .int .i64 0, .int .i64 0, .int .i64 0, .int .i64 0, .int .i64 0, .int .u8 0, .bool false, .slice none 0 0]) 9 80 Try.underlying29 HI.out hy0 hy1 hy2 rfl (by decide) (.slice none 0 0) (.slice (some ⟨rg, ro, none⟩) C.ruls.length ruc) 0 C.ruls.length [] _ (by rfl) (by rfl) (World.ownsRow_nil _ _ _ _) (HRU.out.keep (S := No) (by repeat' (first | with_reducible exact Keeps.refl _ _ | with_reducible assumption | with_reducible refine Keeps.drewN ?_ _ | with_reducible refine Keeps.drew ?_ | with_reducible refine Keeps.alloc ?_ _)) (fun _ _ h => h)) HON.out (by unfold maxLen; omega) (by omega) ?_; intro v2 w2 hown2 hk2 hbl2; rw [Nat.zero_add, List.nil_append] at hown2; obtain ⟨g2, cap2, rfl⟩ := own_some hown2 (by omega); have hk2n : Keeps No _ w2 := hk2.mono (fun _ _ h => nomatch h); have kk2 : Keeps No W6 w2 := Keeps.trans (by repeat' (first | with_reducible exact Keeps.refl _ _ | with_reducible assumption | with_reducible refine Keeps.drewN ?_ _ | with_reducible refine Keeps.drew ?_ | with_reducible refine Keeps.alloc ?_ _)) hk2n; have hg2 : W6.heap.size ≤ g2 := (hbl2 g2 rfl).elim (fun h => nomatch h) (fun h => Nat.le_trans (Keeps.size (S := No) (by repeat' (first | with_reducible exact Keeps.refl _ _ | with_reducible assumption | with_reducible refine Keeps.drewN ?_ _ | with_reducible refine Keeps.drew ?_ | with_reducible refine Keeps.alloc ?_ _))) h); have c1 := kk2.cell (fun h => h) c1; have q0 := kk2.cell (fun h => h) q0; have q1 := kk2.cell (fun h => h) q1; have q2 := kk2.cell (fun h => h) q2; have q3 := kk2.cell (fun h => h) q3; have q4 := kk2.cell (fun h => h) q4; have q5 := kk2.cell (fun h => h) q5; have q6 := kk2.cell (fun h => h) q6; have q7 := kk2.cell (fun h => h) q7; have q8 := kk2.cell (fun h => h) q8; clear hk2 hbl2)
      | (refine step_append rfl (.tmp 27) (.tmp 32) 29 rfl 46 i0 (.agg #[.int .u8 0, .int .i64 0, .int .i64 0, .int .i64 0, .int .i64 0, .int .i64 0, .int .u8 0, .bool false, .slice none 0 0]) 9 80 Try.underlying29 HI.out hy0 hy1 hy2 rfl (by decide) (.slice (some ⟨g2, 0, none⟩) C.ruls.length cap2) (.slice (some ⟨w2.heap.size, 0, none⟩) 1 1) C.ruls.length 1 _ _ (by rfl) (by rfl) (hown2.alloc _) (Sl.new _ _ _ 9 1 rfl (by decide)) (by intro u hu; simp at hu; rcases hu with rfl | rfl | rfl | rfl | rfl | rfl | rfl | rfl | rfl <;> rfl) (by unfold maxLen; omega) (by omega) ?_; intro v4 w4 hown4 hk4 hbl4; obtain ⟨g4, cap4, rfl⟩ := own_some hown4 (by omega); have kk4 : Keeps No W6 w4 := Keeps.trans' (Keeps.trans kk2 ((Keeps.refl No w2).alloc _)) hk4 (fun _ _ h => h) (fun b hb e => Nat.not_lt.2 hg2 (Option.some.inj (show some g2 = some b from e) ▸ hb)); have bm := HM6.out.kept kk4; have m1 := bm.cell 1 rfl; have mf := bm.free 1; clear hk4 hbl4)
      | (refine step_append rfl (.tmp 27) (.tmp 32) 29 rfl 46 i0 (.agg #[.int .u8 0, .int .i64 0, .int .i64 0, .int .i64 0, .int .i64 0, .int .i64 0, .int .u8 0, .bool false, .slice none 0 0]) 9 80 Try.underlying29 HI.out hy0 hy1 hy2 rfl (by decide) (.slice (some ⟨g2, 0, none⟩) C.ruls.length cap2) _ C.ruls.length 1 _ _ (by rfl) (by rfl) hown2 (Sl.keep (S := No) (w := W6.alloc (.cells #[.int .u8 rk, .int .i64 rs, .int .i64 rl, .int .i64 rbk, .int .i64 rd, .int .i64 rsp, .int .u8 rp, .bool rla, .slice s9a rst.length s9c] 46)) (Sl.new W6 _ _ 9 1 rfl (by decide)) (Keeps.trans (by repeat' (first | with_reducible exact Keeps.refl _ _ | with_reducible assumption | with_reducible refine Keeps.drewN ?_ _ | with_reducible refine Keeps.drew ?_ | with_reducible refine Keeps.alloc ?_ _)) hk2n) (fun _ _ h => h)) (by intro u hu; simp at hu; rcases hu with rfl | rfl | rfl | rfl | rfl | rfl | rfl | rfl | rfl <;> rfl) (by unfold maxLen; omega) (by omega) ?_; intro v4 w4 hown4 hk4 hbl4; obtain ⟨g4, cap4, rfl⟩ := own_some hown4 (by omega); have kk4 : Keeps No W6 w4 := Keeps.trans' kk2 hk4 (fun _ _ h => h) (fun b hb e => Nat.not_lt.2 hg2 (Option.some.inj (show some g2 = some b from e) ▸ hb)); have bm := HM6.out.kept kk4; have m1 := bm.cell 1 rfl; have mf := bm.free 1; clear hk4 hbl4))
    all_goals
      go_wp2_with fail
      go_meet
      exact ⟨some ⟨g4, 0, none⟩, cap4, hid (bm.put 1 _ rfl), hid (Keeps.trans kk4.no ((Keeps.refl _ _).at))⟩
  case rest =>
  obtain ⟨mr, mrc, HM7, HK7⟩ := hcut
  obtain ⟨w7, rfl⟩ : ∃ y, y = wc := ⟨_, rfl⟩
  clear c1 m1 mf q0 q1 q2 q3 q4 q5 q6 q7 q8 hrg HON HRU
  have HB7 := hid (HB6.out.keep HK7.out (fun e => by have := HCM.out; omega))
  have K7 : Hid (Keeps No W5 w7) := hid (K6.out.trans' HK7.out (fun _ _ h => h) (fun b hb e => by have := HM6.out.lt; have := HMB.out; omega))
  have HC7 := hid (HC5.out.calm K7.out)
  clear HM6 HB6 HC6 K6 HK7
  obtain ⟨i1, hi1, hu0, hu1, hu2⟩ := info_parts info_slotA
  have HI1 := hid hi1
  clear hi1
  have c2 := HB7.out.cell 2 rfl
  have m2 := HM7.out.cell 2 rfl
  have m2f := HM7.out.free 2
  have hL1 := hL.1
  have hL6 := hL.2
  go_wp2_with (at_builtin; refine wpl_append rfl _ _ 30 rfl 36 i1 (.slice none 0 0) 1 24 Try.underlying30 HI1.out hu0 hu1 hu2 rfl (by decide) (.slice none 0 0) (.slice tb C.tab.length tbc) 0 C.tab.length [] (C.tab.map (·.2)) rfl rfl (World.ownsRow_nil _ _ _ _) HC7.out.tab (slot_one HC7.out) ?c3 ?c4 ?_)
  case c3 => unfold maxLen; omega
  case c4 => omega
  intro v2 w8 hown2 hk2 hbl2
  obtain ⟨g2, cap2, rfl⟩ := own_some hown2 (by omega)
  have k8 : Keeps No w7 w8 := hk2.mono (fun _ _ h => nomatch h)
  have hg2 : w7.heap.size ≤ g2 := (hbl2 g2 rfl).elim (fun h => nomatch h) (fun h => h)
  obtain ⟨W9, hW9⟩ : ∃ W, w8.setCell ⟨mb, 2, none⟩ (.slice (some ⟨g2, 0, none⟩) C.tab.length cap2) = W := ⟨_, rfl⟩
  have k9 : Keeps (fun b => b = mb) w8 W9 := by rw [← hW9]; exact (Keeps.refl _ _).at
  have HM9 : Hid (Bk W9 mb 33 [.slice sg C.sigs.length sgc, .slice mr (C.ruls.length + 1) mrc, .slice (some ⟨g2, 0, none⟩) C.tab.length cap2, .int .i64 C.b0, .int .i64 C.b1, .int .i64 C.b2, .int .i64 C.drain, .int .i64 C.pause, .int .i64 C.off, .bool C.brk, .int .i64 C.log]) := hid (by rw [← hW9]; exact (HM7.out.kept k8).put 2 _ rfl)
  have hmlt := HM7.out.lt
  have HB9 := hid ((HB7.out.kept k8).keep k9 (fun e => by have := HCM.out; omega))
  have K9 : Hid (Keeps No W5 W9) := hid ((K7.out.trans k8).trans' k9 (fun _ _ h => h) (fun b hb e => by have := HMB.out; omega))
  have HROW : Hid (W9.ownsRow 0 36 1 (.slice (some ⟨g2, 0, none⟩) C.tab.length cap2) C.tab.length (C.tab.map (·.2))) := hid (Keeps.own k9 hown2 (fun b hb e => by have : g2 = b := Option.some.inj hb; omega))
  have HG2 : Hid (W5.heap.size ≤ g2) := hid (Nat.le_trans K7.out.size hg2)
  have HGM : Hid (¬ mb = g2) := hid (by omega)
  have HGC : Hid (¬ cb = g2) := hid (by have := HCM.out; omega)
  have HW9 := hid hW9
  have x2 := (HM7.out.kept k8).cell 2 rfl
  have x2f := (HM7.out.kept k8).free 2
  have HC9 := hid (HC5.out.calm K9.out)
  obtain ⟨tg, tof, la, lc, rfl, htg, hts, hsl0, _⟩ := TabR.at HC9.out.tabR (k := 0) (by omega)
  have hml0 := HML.out _ (List.getElem_mem (show 0 < C.tab.length by omega))
  obtain ⟨l0, hl0⟩ : ∃ l, C.tab[0].1 = l := ⟨_, rfl⟩
  rw [hl0] at hts hsl0 hml0
  have HS0 := hid hsl0
  clear hown2 hk2 hbl2 k8 hg2 hW9 k9 hmlt HM7 HB7 K7 HC7 c2 m2 m2f htg hl0 hsl0
  go_upto_region 8 with fail
  try rw [HW9.out]
  clear HW9 x2 x2f
  obtain ⟨i2, hi2, hv0, hv1, hv2⟩ := info_parts info_intA
  have HI2 := hid hi2
  clear hi2
  have c1 := HB9.out.cell 1 rfl
  have c2 := HB9.out.cell 2 rfl
  have m2 := HM9.out.cell 2 rfl
  have HMC := hid m2
  have s0 : W9.cell? ⟨tg, tof, none⟩ = some (.slice la l0.length lc) := by simpa using hts
  clear hts
  obtain ⟨z0, hz0⟩ : ∃ z, (C.tab.map (·.2))[0]? = some z := ⟨_, List.getElem?_eq_getElem (by rw [List.length_map]; omega)⟩
  have rc0 : W9.cell? ⟨g2, 0, none⟩ = some z0 := by rw [HROW.out.cellAt 0 (by omega), hz0]
  have rf0 := HROW.out.frozenAt 0
  have HRC := hid rc0
  have dl0 : decide ((0 : Int) < (C.tab.length : Int)) = true := decide_eq_true (by omega)
  have hL0 : 0 < C.tab.length := by omega
  have HIN : Hid (∀ u ∈ l0.map (Value.int .i64), u.oneCell' = true) := hid (fun u hu => by obtain ⟨x, _, rfl⟩ := List.mem_map.1 hu; rfl)
  clear hz0
  go_cut [] from 39 to 52 (fun wx => Hid (Bk wx mb 33 [.slice sg C.sigs.length sgc, .slice mr (C.ruls.length + 1) mrc, .slice (some ⟨g2, 0, none⟩) C.tab.length cap2, .int .i64 C.b0, .int .i64 C.b1, .int .i64 C.b2, .int .i64 C.drain, .int .i64 C.pause, .int .i64 C.off, .bool C.brk, .int .i64 C.log]) ∧ Hid (Bk wx cb 33 [.slice sg C.sigs.length sgc, .slice (some ⟨rg, ro, none⟩) C.ruls.length ruc, .slice (some ⟨tg, tof, none⟩) C.tab.length tbc, .int .i64 C.b0, .int .i64 C.b1, .int .i64 C.b2, .int .i64 C.drain, .int .i64 C.pause, .int .i64 C.off, .bool C.brk, .int .i64 C.log]) ∧ Hid (Keeps No W5 wx))
  case first =>
    have c2a := cellA (.cells #[.int .i64 C.ruls.length] 3) c2
    have m2a := cellA (.cells #[.int .i64 C.ruls.length] 3) m2
    have s0a := cellA (.cells #[.int .i64 C.ruls.length] 3) s0
    go_region_law (first | (refine step_append rfl (.const (.slice none 0 0)) (.tmp 44) 36 rfl 3 i2 (.int .i64 0) 1 8 Try.underlying36 HI2.out hv0 hv1 hv2 rfl (by decide) (.slice none 0 0) (.slice la l0.length lc) 0 l0.length [] (l0.map (Value.int .i64)) (by rfl) (by rfl) (World.ownsRow_nil _ _ _ _) (HS0.out.keep (S := No) (by repeat' (first | with_reducible exact Keeps.refl _ _ | with_reducible assumption | with_reducible refine Keeps.drewN ?_ _ | with_reducible refine Keeps.drew ?_ | with_reducible refine Keeps.alloc ?_ _)) (fun _ _ h => h)) HIN.out (by unfold maxLen; omega) (by omega) ?_; intro v5 w10 hown5 hk5 hbl5; rw [Nat.zero_add, List.nil_append] at hown5; obtain ⟨a5, c5, rfl⟩ := own_any hown5; have hk5n : Keeps No _ w10 := hk5.mono (fun _ _ h => nomatch h); have kkS : Keeps No W9 w10 := Keeps.trans (by repeat' (first | with_reducible exact Keeps.refl _ _ | with_reducible assumption | with_reducible refine Keeps.drewN ?_ _ | with_reducible refine Keeps.drew ?_ | with_reducible refine Keeps.alloc ?_ _)) hk5n; have hn5 : ∀ b, (Value.slice a5 l0.length c5).ownBlock = some b → W9.heap.size ≤ b := (by (intro b hb; rcases hbl5 b hb with h | h; (exact nomatch h); refine Nat.le_trans ?_ h; first | exact Nat.le_refl _ | exact Nat.le_succ _ | (simp; done))); have c1 := kkS.cell (fun h => h) c1; have c2 := kkS.cell (fun h => h) c2; have m2 := kkS.cell (fun h => h) m2; have s0 := kkS.cell (fun h => h) s0; have rc0 := kkS.cell (fun h => h) rc0; have rf0 := (row_keep HROW.out kkS).frozenAt 0; have m2b := cellA (.cells #[.int .i64 C.ruls.length] 3) m2; have c2b := cellA (.cells #[.int .i64 C.ruls.length] 3) c2; have s0b := cellA (.cells #[.int .i64 C.ruls.length] 3) s0; clear hk5 hbl5) | (refine step_append rfl (.tmp 45) (.tmp 49) 36 rfl 3 i2 (.int .i64 0) 1 8 Try.underlying36 HI2.out hv0 hv1 hv2 rfl (by decide) (.slice a5 l0.length c5) (.slice (some ⟨w10.heap.size, 0, none⟩) 1 1) l0.length 1 _ _ (by rfl) (by rfl) (hown5.alloc _) (Sl.new _ _ _ 1 1 rfl (by decide)) (by intro u hu; simp at hu; subst hu; rfl) (by unfold maxLen; omega) (by omega) ?_; intro v6 w11 hown6 hk6 hbl6; obtain ⟨a6, c6, rfl⟩ := own_any hown6; have kk6 : Keeps No W9 w11 := Keeps.trans' (Keeps.trans kkS ((Keeps.refl No w10).alloc _)) hk6 (fun _ _ h => h) (fun b hb e => absurd hb (Nat.not_lt.2 (hn5 b e))); have m2 := kk6.cell (fun h => h) HMC.out; have rc0 := kk6.cell (fun h => h) HRC.out; have rf0 := (row_keep HROW.out kk6).frozenAt 0; clear hk6 hbl6) | (refine step_append rfl (.tmp 45) (.tmp 49) 36 rfl 3 i2 (.int .i64 0) 1 8 Try.underlying36 HI2.out hv0 hv1 hv2 rfl (by decide) (.slice a5 l0.length c5) _ l0.length 1 _ _ (by rfl) (by rfl) hown5 (Sl.keep (S := No) (w := W9.alloc (.cells #[.int .i64 C.ruls.length] 3)) (Sl.new W9 _ _ 1 1 rfl (by decide)) (Keeps.trans (by repeat' (first | with_reducible exact Keeps.refl _ _ | with_reducible assumption | with_reducible refine Keeps.drewN ?_ _ | with_reducible refine Keeps.drew ?_ | with_reducible refine Keeps.alloc ?_ _)) hk5n) (fun _ _ h => h)) (by intro u hu; simp at hu; subst hu; rfl) (by unfold maxLen; omega) (by omega) ?_; intro v6 w11 hown6 hk6 hbl6; obtain ⟨a6, c6, rfl⟩ := own_any hown6; have kk6 : Keeps No W9 w11 := Keeps.trans' kkS hk6 (fun _ _ h => h) (fun b hb e => absurd hb (Nat.not_lt.2 (hn5 b e))); have m2 := kk6.cell (fun h => h) HMC.out; have rc0 := kk6.cell (fun h => h) HRC.out; have rf0 := (row_keep HROW.out kk6).frozenAt 0; clear hk6 hbl6))
    all_goals
      go_wp2_with fail
      go_meet
      exact ⟨hid ((HM9.out.kept kk6).other (p := ⟨g2, 0, none⟩) HGM.out _), hid ((HB9.out.kept kk6).other (p := ⟨g2, 0, none⟩) HGC.out _), hid ((K9.out.trans kk6).trans' ((Keeps.refl (fun b => b = g2) w11).at) (fun _ _ h => h) (fun b hb e => by have := HG2.out; omega))⟩
  case rest =>
  obtain ⟨HM10, HB10, K10⟩ := hcut
  obtain ⟨w10, rfl⟩ : ∃ y, y = wc := ⟨_, rfl⟩
  clear c1 c2 m2 s0 rc0 rf0 HMC HRC HIN HM9 HB9 K9 HROW HS0 HC9 HG2 HGM HGC
  have hC10 := HC5.out.calm K10.out
  obtain ⟨drg, dro, hde, _, hdc⟩ := Sl.itemC (enc := encRul) (size := 9) (fun _ => rfl) (by decide) hC10.rul hkN2 (rfl : C.ruls[k] = C.ruls[k])
  have hde2 : rg = drg ∧ ro = dro := by injection hde with h; injection h with h1 h2 _; exact ⟨h1, h2⟩
  obtain ⟨rfl, rfl⟩ := hde2
  have hdl := hdc 4 _ rfl
  obtain ⟨DL, hDL⟩ : ∃ y, C.ruls[k].1.delay = y := ⟨_, rfl⟩
  rw [hDL] at hdl
  have hok : 0 ≤ DL ∧ DL ≤ 10000 := by rw [← hDL]; exact made_delay HM.out hkN2
  obtain ⟨G, hG⟩ : ∃ G : Nat, gapD (C.tab.map (·.1)) k = G := ⟨_, rfl⟩
  obtain ⟨WT, hWT⟩ : ∃ y : Int, waitD C.ruls.length C.tab.length = y := ⟨_, rfl⟩
  have hWT2 : waitD (C.ruls.length + 1) C.tab.length = WT + C.tab.length := by
    rw [← hWT]; unfold waitD; push_cast; rw [Int.add_mul, Int.add_mul]; omega
  have hwb : 0 ≤ WT ∧ WT ≤ 9 * 6 := by
    rw [← hWT]; unfold waitD
    exact ⟨Int.mul_nonneg (by omega) (by omega), Int.mul_le_mul (by omega) (by omega) (by omega) (by omega)⟩
  have hg := HG0.out.gap 0
  have hGe : (gapF (hasD (C.tab.map (·.1)) (k : Int)) (2 * C.tab.length)).1 = G := by rw [← hG]; unfold gapD; rw [List.length_map]
  rw [hGe] at hg
  have hg1 : 1 ≤ G := hg.1
  have hg2' : G ≤ 6 := by have := hg.2.1; omega
  have hisr : isRule C (k : Int) = true := by unfold isRule; exact decide_eq_true ⟨by omega, by omega⟩
  have hLate : lateD C k = DL + 2 * G + WT := by
    unfold lateD delayD
    rw [hisr, if_pos rfl, hG, hWT]
    congr 2
    rw [← hDL]
    simp [hkN2]
  have hGone : goneD C k = G + WT := by unfold goneD; rw [hisr, if_pos rfl, hG, hWT]
  have HGP : Hid (∀ (w' : World), Keeps No W5 w' → Calls Try.prog 14 #[.agg #[.slice sg C.sigs.length sgc, .slice (some ⟨rg, ro, none⟩) C.ruls.length ruc, .slice (some ⟨tg, tof, none⟩) C.tab.length tbc, .int .i64 C.b0, .int .i64 C.b1, .int .i64 C.b2, .int .i64 C.drain, .int .i64 C.pause, .int .i64 C.off, .bool C.brk, .int .i64 C.log], .int .i64 k] w' fun e w'' => e = .returned (.int .i64 G) ∧ Keeps No w' w'') := hid (fun w' k' => by
    have h := tgap_any (sa := sg) (sn := C.sigs.length) (sc := sgc) (ra := some ⟨rg, ro, none⟩) (rn := C.ruls.length) (rc := ruc) (HC5.out.calm k').tabR (by omega) HML.out (by omega) k (fun h => absurd ⟨by omega, by omega⟩ h) C.b0 C.b1 C.b2 C.drain C.pause C.off C.log C.brk
    rw [hG] at h
    exact h)
  have HWT : Hid (∀ (w' : World), Calls Try.prog 17 #[.agg #[.slice sg C.sigs.length sgc, .slice (some ⟨rg, ro, none⟩) C.ruls.length ruc, .slice (some ⟨tg, tof, none⟩) C.tab.length tbc, .int .i64 C.b0, .int .i64 C.b1, .int .i64 C.b2, .int .i64 C.drain, .int .i64 C.pause, .int .i64 C.off, .bool C.brk, .int .i64 C.log]] w' fun e w'' => e = .returned (.int .i64 WT) ∧ Keeps No w' w'') := hid (fun w' => by
    have h := twait_any (sa := sg) (sn := C.sigs.length) (sc := sgc) (ra := some ⟨rg, ro, none⟩) (rn := C.ruls.length) (rc := ruc) (ta := some ⟨tg, tof, none⟩) (tc := tbc) w' C.tab.length (by omega) (by omega) C.b0 C.b1 C.b2 C.drain C.pause C.off C.log C.brk
    rw [hWT] at h
    exact h)
  have HWM2 : Hid (∀ (w' : World), Calls Try.prog 17 #[.agg #[.slice sg C.sigs.length sgc, .slice mr (C.ruls.length + 1) mrc, .slice (some ⟨g2, 0, none⟩) C.tab.length cap2, .int .i64 C.b0, .int .i64 C.b1, .int .i64 C.b2, .int .i64 C.drain, .int .i64 C.pause, .int .i64 C.off, .bool C.brk, .int .i64 C.log]] w' fun e w'' => e = .returned (.int .i64 (WT + C.tab.length)) ∧ Keeps No w' w'') := hid (fun w' => by
    have h := twait_any (sa := sg) (sn := C.sigs.length) (sc := sgc) (ra := mr) (rn := C.ruls.length + 1) (rc := mrc) (ta := some ⟨g2, 0, none⟩) (tc := cap2) w' C.tab.length (by omega) (by omega) C.b0 C.b1 C.b2 C.drain C.pause C.off C.log C.brk
    rw [hWT2] at h
    exact h)
  have HLT : Hid (∀ (w' : World), Keeps No W5 w' → Calls Try.prog 15 #[.agg #[.slice sg C.sigs.length sgc, .slice (some ⟨rg, ro, none⟩) C.ruls.length ruc, .slice (some ⟨tg, tof, none⟩) C.tab.length tbc, .int .i64 C.b0, .int .i64 C.b1, .int .i64 C.b2, .int .i64 C.drain, .int .i64 C.pause, .int .i64 C.off, .bool C.brk, .int .i64 C.log], .int .i64 k] w' fun e w'' => e = .returned (.int .i64 (DL + 2 * G + WT)) ∧ Keeps No w' w'') := hid (fun w' k' => by
    have h := tlate_any (HC5.out.calm k') HM.out k
    rw [hLate] at h
    exact h)
  have HGN : Hid (∀ (w' : World), Keeps No W5 w' → Calls Try.prog 16 #[.agg #[.slice sg C.sigs.length sgc, .slice (some ⟨rg, ro, none⟩) C.ruls.length ruc, .slice (some ⟨tg, tof, none⟩) C.tab.length tbc, .int .i64 C.b0, .int .i64 C.b1, .int .i64 C.b2, .int .i64 C.drain, .int .i64 C.pause, .int .i64 C.off, .bool C.brk, .int .i64 C.log], .int .i64 k] w' fun e w'' => e = .returned (.int .i64 (G + WT)) ∧ Keeps No w' w'') := hid (fun w' k' => by
    have h := tgone_any (HC5.out.calm k') HM.out k
    rw [hGone] at h
    exact h)
  obtain ⟨hok0, hok1⟩ := hok
  obtain ⟨hwb0, hwb1⟩ := hwb
  have e1 : (DL + 2 * (G : Int) + WT == DL + (G : Int) + ((G : Int) + WT)) = true := by simp; omega
  have e2 : (WT + (C.tab.length : Int) == WT + (C.tab.length : Int)) = true := by simp
  have e3 : decide ((G : Int) + WT > WT) = true := decide_eq_true (by omega)
  have wr1 : IntKind.i64.wrap (DL + (G : Int)) = DL + G := by simp only [IntKind.wrap_i64]; omega
  have wr2 : IntKind.i64.wrap (DL + (G : Int) + ((G : Int) + WT)) = DL + (G : Int) + ((G : Int) + WT) := by simp only [IntKind.wrap_i64]; omega
  have wr3 : IntKind.i64.wrap (WT + (C.tab.length : Int)) = WT + C.tab.length := by simp only [IntKind.wrap_i64]; omega
  have hkL : (k : Int) < (C.ruls.length : Int) := by omega
  have HKD := hid hdl
  clear hC10 hde hdc hDL hG hWT hWT2 hg hGe hisr hLate hGone
  have x0_0 := HB10.out.cell 0 rfl
  have x0_1 := HB10.out.cell 1 rfl
  have x0_2 := HB10.out.cell 2 rfl
  have x0_3 := HB10.out.cell 3 rfl
  have x0_4 := HB10.out.cell 4 rfl
  have x0_5 := HB10.out.cell 5 rfl
  have x0_6 := HB10.out.cell 6 rfl
  have x0_7 := HB10.out.cell 7 rfl
  have x0_8 := HB10.out.cell 8 rfl
  have x0_9 := HB10.out.cell 9 rfl
  have x0_10 := HB10.out.cell 10 rfl
  have x1_0 := HM10.out.cell 0 rfl
  have x1_1 := HM10.out.cell 1 rfl
  have x1_2 := HM10.out.cell 2 rfl
  have x1_3 := HM10.out.cell 3 rfl
  have x1_4 := HM10.out.cell 4 rfl
  have x1_5 := HM10.out.cell 5 rfl
  have x1_6 := HM10.out.cell 6 rfl
  have x1_7 := HM10.out.cell 7 rfl
  have x1_8 := HM10.out.cell 8 rfl
  have x1_9 := HM10.out.cell 9 rfl
  have x1_10 := HM10.out.cell 10 rfl
  go_upto_region 9 with fail
  first | go_region_held3 (fun w' => w'.cell? ⟨cb, 0, none⟩ = some (.slice sg C.sigs.length sgc) ∧ w'.cell? ⟨cb, 1, none⟩ = some (.slice (some ⟨rg, ro, none⟩) C.ruls.length ruc) ∧ w'.cell? ⟨cb, 2, none⟩ = some (.slice (some ⟨tg, tof, none⟩) C.tab.length tbc) ∧ w'.cell? ⟨cb, 3, none⟩ = some (.int .i64 C.b0) ∧ w'.cell? ⟨cb, 4, none⟩ = some (.int .i64 C.b1) ∧ w'.cell? ⟨cb, 5, none⟩ = some (.int .i64 C.b2) ∧ w'.cell? ⟨cb, 6, none⟩ = some (.int .i64 C.drain) ∧ w'.cell? ⟨cb, 7, none⟩ = some (.int .i64 C.pause) ∧ w'.cell? ⟨cb, 8, none⟩ = some (.int .i64 C.off) ∧ w'.cell? ⟨cb, 9, none⟩ = some (.bool C.brk) ∧ w'.cell? ⟨cb, 10, none⟩ = some (.int .i64 C.log) ∧ w'.cell? ⟨mb, 0, none⟩ = some (.slice sg C.sigs.length sgc) ∧ w'.cell? ⟨mb, 1, none⟩ = some (.slice mr (C.ruls.length + 1) mrc) ∧ w'.cell? ⟨mb, 2, none⟩ = some (.slice (some ⟨g2, 0, none⟩) C.tab.length cap2) ∧ w'.cell? ⟨mb, 3, none⟩ = some (.int .i64 C.b0) ∧ w'.cell? ⟨mb, 4, none⟩ = some (.int .i64 C.b1) ∧ w'.cell? ⟨mb, 5, none⟩ = some (.int .i64 C.b2) ∧ w'.cell? ⟨mb, 6, none⟩ = some (.int .i64 C.drain) ∧ w'.cell? ⟨mb, 7, none⟩ = some (.int .i64 C.pause) ∧ w'.cell? ⟨mb, 8, none⟩ = some (.int .i64 C.off) ∧ w'.cell? ⟨mb, 9, none⟩ = some (.bool C.brk) ∧ w'.cell? ⟨mb, 10, none⟩ = some (.int .i64 C.log) ∧ w'.cell? ⟨rg, ro + k * 9 + 4, none⟩ = some (.int .i64 DL)) (first | with_reducible exact ⟨x0_0, x0_1, x0_2, x0_3, x0_4, x0_5, x0_6, x0_7, x0_8, x0_9, x0_10, x1_0, x1_1, x1_2, x1_3, x1_4, x1_5, x1_6, x1_7, x1_8, x1_9, x1_10, hdl⟩ | with_reducible exact ⟨cellDr x0_0, cellDr x0_1, cellDr x0_2, cellDr x0_3, cellDr x0_4, cellDr x0_5, cellDr x0_6, cellDr x0_7, cellDr x0_8, cellDr x0_9, cellDr x0_10, cellDr x1_0, cellDr x1_1, cellDr x1_2, cellDr x1_3, cellDr x1_4, cellDr x1_5, cellDr x1_6, cellDr x1_7, cellDr x1_8, cellDr x1_9, cellDr x1_10, cellDr hdl⟩ | (go_keep; done)) (first
    | (go_at_call 15; (with_reducible refine (HLT.out _ (by refine Keeps.trans K10.out ?_; repeat' (first | with_reducible exact Keeps.refl _ _ | with_reducible assumption | with_reducible refine Keeps.drewN ?_ _ | with_reducible refine Keeps.drew ?_ | with_reducible refine Keeps.alloc ?_ _))).mono ?_); rintro e wq ⟨rfl, kq⟩; have kk : Keeps No w10 wq := Keeps.trans (by repeat' (first | with_reducible exact Keeps.refl _ _ | with_reducible assumption | with_reducible refine Keeps.drewN ?_ _ | with_reducible refine Keeps.drew ?_ | with_reducible refine Keeps.alloc ?_ _)) kq; have gB := HB10.out.kept kk; have gM := HM10.out.kept kk; have x0_0 := gB.cell 0 rfl; have x0_1 := gB.cell 1 rfl; have x0_2 := gB.cell 2 rfl; have x0_3 := gB.cell 3 rfl; have x0_4 := gB.cell 4 rfl; have x0_5 := gB.cell 5 rfl; have x0_6 := gB.cell 6 rfl; have x0_7 := gB.cell 7 rfl; have x0_8 := gB.cell 8 rfl; have x0_9 := gB.cell 9 rfl; have x0_10 := gB.cell 10 rfl; have x1_0 := gM.cell 0 rfl; have x1_1 := gM.cell 1 rfl; have x1_2 := gM.cell 2 rfl; have x1_3 := gM.cell 3 rfl; have x1_4 := gM.cell 4 rfl; have x1_5 := gM.cell 5 rfl; have x1_6 := gM.cell 6 rfl; have x1_7 := gM.cell 7 rfl; have x1_8 := gM.cell 8 rfl; have x1_9 := gM.cell 9 rfl; have x1_10 := gM.cell 10 rfl; have hdl := kk.cell (fun h => h) HKD.out; clear gB gM; clear kq)
    | (go_at_call 14; (with_reducible refine (HGP.out _ (by refine Keeps.trans K10.out ?_; first | ((repeat' (first | with_reducible exact Keeps.refl _ _ | with_reducible assumption | with_reducible refine Keeps.drewN ?_ _ | with_reducible refine Keeps.drew ?_ | with_reducible refine Keeps.alloc ?_ _)); done) | (refine Keeps.trans kk ?_; repeat' (first | with_reducible exact Keeps.refl _ _ | with_reducible assumption | with_reducible refine Keeps.drewN ?_ _ | with_reducible refine Keeps.drew ?_ | with_reducible refine Keeps.alloc ?_ _)))).mono ?_); rintro e wq ⟨rfl, kq⟩; have kk : Keeps No w10 wq := Keeps.trans (by first | ((repeat' (first | with_reducible exact Keeps.refl _ _ | with_reducible assumption | with_reducible refine Keeps.drewN ?_ _ | with_reducible refine Keeps.drew ?_ | with_reducible refine Keeps.alloc ?_ _)); done) | (refine Keeps.trans kk ?_; repeat' (first | with_reducible exact Keeps.refl _ _ | with_reducible assumption | with_reducible refine Keeps.drewN ?_ _ | with_reducible refine Keeps.drew ?_ | with_reducible refine Keeps.alloc ?_ _))) kq; have gB := HB10.out.kept kk; have gM := HM10.out.kept kk; have x0_0 := gB.cell 0 rfl; have x0_1 := gB.cell 1 rfl; have x0_2 := gB.cell 2 rfl; have x0_3 := gB.cell 3 rfl; have x0_4 := gB.cell 4 rfl; have x0_5 := gB.cell 5 rfl; have x0_6 := gB.cell 6 rfl; have x0_7 := gB.cell 7 rfl; have x0_8 := gB.cell 8 rfl; have x0_9 := gB.cell 9 rfl; have x0_10 := gB.cell 10 rfl; have x1_0 := gM.cell 0 rfl; have x1_1 := gM.cell 1 rfl; have x1_2 := gM.cell 2 rfl; have x1_3 := gM.cell 3 rfl; have x1_4 := gM.cell 4 rfl; have x1_5 := gM.cell 5 rfl; have x1_6 := gM.cell 6 rfl; have x1_7 := gM.cell 7 rfl; have x1_8 := gM.cell 8 rfl; have x1_9 := gM.cell 9 rfl; have x1_10 := gM.cell 10 rfl; have hdl := kk.cell (fun h => h) HKD.out; clear gB gM; clear kq)
    | (go_at_call 16; (with_reducible refine (HGN.out _ (by refine Keeps.trans K10.out ?_; first | ((repeat' (first | with_reducible exact Keeps.refl _ _ | with_reducible assumption | with_reducible refine Keeps.drewN ?_ _ | with_reducible refine Keeps.drew ?_ | with_reducible refine Keeps.alloc ?_ _)); done) | (refine Keeps.trans kk ?_; repeat' (first | with_reducible exact Keeps.refl _ _ | with_reducible assumption | with_reducible refine Keeps.drewN ?_ _ | with_reducible refine Keeps.drew ?_ | with_reducible refine Keeps.alloc ?_ _)))).mono ?_); rintro e wq ⟨rfl, kq⟩; have kk : Keeps No w10 wq := Keeps.trans (by first | ((repeat' (first | with_reducible exact Keeps.refl _ _ | with_reducible assumption | with_reducible refine Keeps.drewN ?_ _ | with_reducible refine Keeps.drew ?_ | with_reducible refine Keeps.alloc ?_ _)); done) | (refine Keeps.trans kk ?_; repeat' (first | with_reducible exact Keeps.refl _ _ | with_reducible assumption | with_reducible refine Keeps.drewN ?_ _ | with_reducible refine Keeps.drew ?_ | with_reducible refine Keeps.alloc ?_ _))) kq; have gB := HB10.out.kept kk; have gM := HM10.out.kept kk; have x0_0 := gB.cell 0 rfl; have x0_1 := gB.cell 1 rfl; have x0_2 := gB.cell 2 rfl; have x0_3 := gB.cell 3 rfl; have x0_4 := gB.cell 4 rfl; have x0_5 := gB.cell 5 rfl; have x0_6 := gB.cell 6 rfl; have x0_7 := gB.cell 7 rfl; have x0_8 := gB.cell 8 rfl; have x0_9 := gB.cell 9 rfl; have x0_10 := gB.cell 10 rfl; have x1_0 := gM.cell 0 rfl; have x1_1 := gM.cell 1 rfl; have x1_2 := gM.cell 2 rfl; have x1_3 := gM.cell 3 rfl; have x1_4 := gM.cell 4 rfl; have x1_5 := gM.cell 5 rfl; have x1_6 := gM.cell 6 rfl; have x1_7 := gM.cell 7 rfl; have x1_8 := gM.cell 8 rfl; have x1_9 := gM.cell 9 rfl; have x1_10 := gM.cell 10 rfl; have hdl := kk.cell (fun h => h) HKD.out; clear gB gM; clear kq)
    | (go_at_call 17; (with_reducible refine (HWM2.out _).mono ?_); rintro e wq ⟨rfl, kq⟩; have kk : Keeps No w10 wq := Keeps.trans (by first | ((repeat' (first | with_reducible exact Keeps.refl _ _ | with_reducible assumption | with_reducible refine Keeps.drewN ?_ _ | with_reducible refine Keeps.drew ?_ | with_reducible refine Keeps.alloc ?_ _)); done) | (refine Keeps.trans kk ?_; repeat' (first | with_reducible exact Keeps.refl _ _ | with_reducible assumption | with_reducible refine Keeps.drewN ?_ _ | with_reducible refine Keeps.drew ?_ | with_reducible refine Keeps.alloc ?_ _))) kq; have gB := HB10.out.kept kk; have gM := HM10.out.kept kk; have x0_0 := gB.cell 0 rfl; have x0_1 := gB.cell 1 rfl; have x0_2 := gB.cell 2 rfl; have x0_3 := gB.cell 3 rfl; have x0_4 := gB.cell 4 rfl; have x0_5 := gB.cell 5 rfl; have x0_6 := gB.cell 6 rfl; have x0_7 := gB.cell 7 rfl; have x0_8 := gB.cell 8 rfl; have x0_9 := gB.cell 9 rfl; have x0_10 := gB.cell 10 rfl; have x1_0 := gM.cell 0 rfl; have x1_1 := gM.cell 1 rfl; have x1_2 := gM.cell 2 rfl; have x1_3 := gM.cell 3 rfl; have x1_4 := gM.cell 4 rfl; have x1_5 := gM.cell 5 rfl; have x1_6 := gM.cell 6 rfl; have x1_7 := gM.cell 7 rfl; have x1_8 := gM.cell 8 rfl; have x1_9 := gM.cell 9 rfl; have x1_10 := gM.cell 10 rfl; have hdl := kk.cell (fun h => h) HKD.out; clear gB gM; clear kq)
    | (go_at_call 17; (with_reducible refine (HWT.out _).mono ?_); rintro e wq ⟨rfl, kq⟩; have kk : Keeps No w10 wq := Keeps.trans (by first | ((repeat' (first | with_reducible exact Keeps.refl _ _ | with_reducible assumption | with_reducible refine Keeps.drewN ?_ _ | with_reducible refine Keeps.drew ?_ | with_reducible refine Keeps.alloc ?_ _)); done) | (refine Keeps.trans kk ?_; repeat' (first | with_reducible exact Keeps.refl _ _ | with_reducible assumption | with_reducible refine Keeps.drewN ?_ _ | with_reducible refine Keeps.drew ?_ | with_reducible refine Keeps.alloc ?_ _))) kq; have gB := HB10.out.kept kk; have gM := HM10.out.kept kk; have x0_0 := gB.cell 0 rfl; have x0_1 := gB.cell 1 rfl; have x0_2 := gB.cell 2 rfl; have x0_3 := gB.cell 3 rfl; have x0_4 := gB.cell 4 rfl; have x0_5 := gB.cell 5 rfl; have x0_6 := gB.cell 6 rfl; have x0_7 := gB.cell 7 rfl; have x0_8 := gB.cell 8 rfl; have x0_9 := gB.cell 9 rfl; have x0_10 := gB.cell 10 rfl; have x1_0 := gM.cell 0 rfl; have x1_1 := gM.cell 1 rfl; have x1_2 := gM.cell 2 rfl; have x1_3 := gM.cell 3 rfl; have x1_4 := gM.cell 4 rfl; have x1_5 := gM.cell 5 rfl; have x1_6 := gM.cell 6 rfl; have x1_7 := gM.cell 7 rfl; have x1_8 := gM.cell 8 rfl; have x1_9 := gM.cell 9 rfl; have x1_10 := gM.cell 10 rfl; have hdl := kk.cell (fun h => h) HKD.out; clear gB gM; clear kq)) | fail
  go_wp2_with fail
  go_ret
  exact ⟨rfl, (K5.out.trans (K10.out.trans kk)).toBelow⟩

theorem own : ownKnob Try.prog.godebug = none := by kernel_rfl
theorem laidOut : laidOutB Try.prog = true := by kernel_rfl
set_option maxRecDepth 100000 in
theorem lifted (os : Os) (started : os.Started) (H : Type) (enc : TypeId × Value → H) :
    ReturnsInHanded {} Try.checked os 6 .any (Rows.tableBoundsSpec.pre6 enc Try.prog Try.f6 Rows.tableBoundsRow.domain false) (Rows.tableBoundsSpec.post enc Try.prog Try.f6 false true false false) := by
  refine returnsInHanded_of_change (C := Try.checked) own started (by kernel_rfl) Try.func6
    (ChangeSpec.witness6 (enc := enc) (C := Try.checked) false ⟨#[], #[.agg #[.slice none 0 0, .slice none 0 0, .int .u8 0, .int .u8 0, .int .u8 0, .int .u8 0, .bool false, .int .u8 0], .int .u8 0], []⟩ 8 (by kernel_rfl) (by kernel_rfl) (by kernel_rfl) (by kernel_rfl)) ?_
  intro W base args ds gs before hval0 hW hcnd _
  have hval : ∀ (j : Nat) t v, Try.f6.params[j]? = some t → args[j]? = some v → Value.okWide Try.prog W .any base t v := hval0
  have hW' := hW
  obtain ⟨p, q, hA0, hV, rfl, hfz, hnd⟩ := hW
  have hA : DataW.TrodAll enc Try.prog W 0 (fun _ => true) true Try.f6.params.toList args.toList ds p := hA0
  rw [Try.params6] at hA hval
  obtain ⟨v0, vs0, d0, ds0, p0, q0, hargs, rfl, rfl, h0, r0⟩ := trodAll_cons hA
  obtain ⟨v1, vs1, d1, ds1, p1, q1, rfl, rfl, rfl, h1, r1⟩ := trodAll_cons r0
  obtain ⟨rfl, rfl, rfl⟩ := trodAll_nil r1
  obtain rfl : args = #[v0, v1] := by cases args; simp_all
  obtain ⟨rfl, rfl⟩ := trodVars_none hV
  have k0 := h0
  have lt0 : ∀ x ∈ p0, x.block < W.heap.size := by obtain ⟨m, hm⟩ := k0; exact DataW.trod_lt m _ _ _ hm
  have k1 := h1
  have lt1 : ∀ x ∈ p1, x.block < W.heap.size := by obtain ⟨m, hm⟩ := k1; exact DataW.trod_lt m _ _ _ hm
  obtain ⟨rules, rv, slots, sv, ba, dr, pa, of_, br, lo, rfl, hd, u1, u2, u3, u4, u5⟩ := argDraft (hval 0 25 v0 rfl rfl) h0
  obtain ⟨a1, rfl, rfl, rfl, w1⟩ := open_int Try.underlying5 (hval 1 5 v1 rfl rfl) h1
  clear hA0 hval0
  refine (walk W rules rv slots sv ba dr pa of_ br lo hd u1 u2 u3 u4 u5 a1 w1).mono fun e W' ⟨he, bel⟩ => ?_
  subst he
  exact ⟨_, rfl, _, _, _, [], _, [], hW', trodAll_mk1 (shut_bool Try.underlying4 _), (trodAll_cons_mk (Below.trod laidOut (by kernel_rfl) (of_decide_eq_true (by kernel_rfl)) k0 bel lt0) (trodAll_cons_mk (Below.trod laidOut (by kernel_rfl) (of_decide_eq_true (by kernel_rfl)) k1 bel lt1) trodAll_mk0)), rfl, bel.frame _, fun h => by cases h⟩

theorem over : Rows.tableBoundsRow.holds Try.pinned (OpenSpec.ofChange Rows.tableBoundsSpec) :=
  OpenClaim.holds_of_wide 6 Try.f6 rfl rfl rfl rfl rfl rfl rfl ⟨rfl, rfl, rfl, rfl, rfl⟩ rfl rfl rfl rfl rfl (by kernel_rfl) Try.func6 (by kernel_rfl)
    (of_decide_eq_true (by kernel_rfl)) (by unfold Func.isWrapper; first | (rw [if_pos (by decide +kernel)]; kernel_rfl) | (rw [if_neg (by decide +kernel)]; exact ⟨rfl, rfl⟩))
    (fun os started H enc _ => lifted os started H enc)

theorem proved : Rows.TableBoundsSaid := over
#print axioms proved
end Go.Proofs.Ytfiijbpcaceibaa.tableBounds
