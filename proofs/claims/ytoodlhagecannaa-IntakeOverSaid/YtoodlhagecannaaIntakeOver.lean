/- There was no room a short time ago, just as many ticks as the table has slots. No conditions. -/
import Derived.Test.YtoodlhagecannaaRows
import Derived.Test.YtoodlhagecannaaArgsE
import Derived.Test.YtoodlhagecannaaMake2
import Derived.Test.YtoodlhagecannaaInkC
import Derived.ProofKit
import Derived.OpenShut
import Derived.Deep.RegionHeld3
import Derived.Deep.DeepCutAuto
import Derived.Deep.CutBlock
import Derived.Test.YtoodlhagecannaaInkO
import Derived.Deep.RegionLaw
namespace Go.Proofs.Ytoodlhagecannaa.intakeOver
open Go.ChangeShapes Go.WideShapes Go.ChangeAt Go.RowKit
open Go.ChangeMaps (open_string shut_string)
set_option linter.unusedVariables false
set_option linter.unusedSimpArgs false

theorem rul_oneO {w : World} {C : Cfg} {sv rv tv : Value} (h : CfgR w C sv rv tv) : ∀ u ∈ C.ruls.flatMap encRul, u.oneCell' = true := by
  intro u hu
  obtain ⟨x, hx, hu⟩ := List.mem_flatMap.1 hu
  obtain ⟨a, c, e⟩ := (h.stg x hx).any
  unfold encRul at hu
  rw [e] at hu
  simp only [List.mem_cons, List.not_mem_nil, or_false] at hu
  rcases hu with rfl | rfl | rfl | rfl | rfl | rfl | rfl | rfl | rfl <;> rfl

set_option maxHeartbeats 16000000 in
set_option maxRecDepth 100000 in
theorem walk (w : World) (rules : List (LineD × Value)) (rv : Value) (slots : List Int) (sv : Value) (ba dr pa of_ : Int) (br : Bool) (lo : Int) (hd : DraftR w rules rv slots sv) (u1 : U8 ba) (u2 : U8 dr) (u3 : U8 pa) (u4 : U8 of_) (u5 : U8 lo) (a1 : Int) (wa1 : (Lit.int .u16 a1).wf = true) :
    Calls Try.prog 6 #[.agg #[rv, sv, .int .u8 ba, .int .u8 dr, .int .u8 pa, .int .u8 of_, .bool br, .int .u8 lo], .int .u16 a1] w fun e w' => e = .returned (.bool true) ∧ Below w.heap.size w w' := by
  obtain ⟨a10, a11⟩ := bounds_u16 wa1
  clear wa1
  obtain ⟨ra, rc, rfl⟩ := hd.rul.any
  obtain ⟨sa, sc, rfl⟩ := hd.slo.any
  obtain ⟨W1, hW1⟩ : ∃ W1, w.alloc (.cells #[.slice ra rules.length rc, .slice sa slots.length sc, .int .u8 ba, .int .u8 dr, .int .u8 pa, .int .u8 of_, .bool br, .int .u8 lo] 25) = W1 := ⟨_, rfl⟩
  have k1 : Keeps No w W1 := by rw [← hW1]; exact (Keeps.refl _ _).alloc _
  have hb : BlkL W1 w.heap.size 25 [.slice ra rules.length rc, .slice sa slots.length sc, .int .u8 ba, .int .u8 dr, .int .u8 pa, .int .u8 of_, .bool br, .int .u8 lo] := by rw [← hW1]; exact heap_alloc_new w _
  have H1 := hid (hd.calm k1)
  have HB := hid hb
  have HW1 := hid hW1
  have K1 := hid k1
  have U := hid (show U8 ba ∧ U8 dr ∧ U8 pa ∧ U8 of_ ∧ U8 lo from ⟨u1, u2, u3, u4, u5⟩)
  clear hd hW1 k1 hb u1 u2 u3 u4 u5
  go_enter Try.func6, Try.ntmps6
  go_upto_region 1 with fail
  rw [HW1.out]
  go_wp2_with fail
  refine (refuses_true _).mono ?_
  rintro e w2 ⟨rfl, k2⟩
  have hb := HB.out.keep k2 (fun h => h)
  have K2 := hid (K1.out.trans k2)
  have H2 := hid (H1.out.calm k2)
  have HB2 := hid hb
  have x0 := hb.cell (o := 0) rfl
  have x1 := hb.cell (o := 1) rfl
  have x2 := hb.cell (o := 2) rfl
  have x3 := hb.cell (o := 3) rfl
  have x4 := hb.cell (o := 4) rfl
  have x5 := hb.cell (o := 5) rfl
  have x6 := hb.cell (o := 6) rfl
  have x7 := hb.cell (o := 7) rfl
  clear hb k2
  go_wp2_with fail
  refine (short18_any H2.out ba dr pa of_ br lo).mono ?_
  rintro e w3 ⟨bs, rfl, k3⟩
  clear x0 x1 x2 x3 x4 x5 x6 x7
  have K3 := hid (K2.out.trans k3)
  have H3 := hid (H2.out.calm k3)
  have hb := HB2.out.keep k3 (fun h => h)
  clear k3
  cases bs
  · clear hb
    go_wp2_with fail
    refine (refuses_true _).mono ?_
    rintro e w4 ⟨rfl, k4⟩
    have K4 := hid (K3.out.trans k4)
    clear k4
    go_wp2_with fail
    go_ret
    exact ⟨rfl, K4.out.toBelow⟩
  have x0 := hb.cell (o := 0) rfl
  have x1 := hb.cell (o := 1) rfl
  have x2 := hb.cell (o := 2) rfl
  have x3 := hb.cell (o := 3) rfl
  have x4 := hb.cell (o := 4) rfl
  have x5 := hb.cell (o := 5) rfl
  have x6 := hb.cell (o := 6) rfl
  have x7 := hb.cell (o := 7) rfl
  clear hb
  go_wp2_with fail
  refine (make_any3 H3.out ba dr pa of_ br lo U.out.1 U.out.2.1 U.out.2.2.1 U.out.2.2.2.1 U.out.2.2.2.2).mono ?_
  rintro e w4 ⟨C, csv, crv, ctv, ⟨rfl, hc, hm, k4, ho⟩, hf, ht⟩
  clear x0 x1 x2 x3 x4 x5 x6 x7 hf
  obtain ⟨sg, sgc, ru, ruc, tb, tbc, rfl, rfl, rfl⟩ := cfg_shape18 hc
  unfold Cfg.val Cfg.cells
  have K3b := hid K3.out
  have K4 := hid (K3.out.trans k4)
  have HC4 := hid hc
  have HM := hid hm
  have HO := hid ho
  have HT := hid ht
  have HIC := hid hm.ink
  clear hc hm k4 ho ht K1 K2 H1 H2 H3 HB HB2 U HW1
  obtain ⟨cb, hcb⟩ : ∃ y, w4.heap.size = y := ⟨_, rfl⟩
  obtain ⟨W5, hW5⟩ : ∃ W5, w4.alloc (.cells #[.slice sg C.sigs.length sgc, .slice ru C.ruls.length ruc, .slice tb C.tab.length tbc, .int .i64 C.b0, .int .i64 C.b1, .int .i64 C.b2, .int .i64 C.drain, .int .i64 C.pause, .int .i64 C.off, .bool C.brk, .int .i64 C.log] 34) = W5 := ⟨_, rfl⟩
  have K45 : Hid (Keeps No w4 W5) := hid (by rw [← hW5]; exact (Keeps.refl _ _).alloc _)
  have H4C : Hid (w4.heap.size ≤ cb ∧ w.heap.size ≤ w3.heap.size) := hid ⟨by omega, K3.out.size⟩
  have HB5 : Hid (Bk W5 cb 34 [.slice sg C.sigs.length sgc, .slice ru C.ruls.length ruc, .slice tb C.tab.length tbc, .int .i64 C.b0, .int .i64 C.b1, .int .i64 C.b2, .int .i64 C.drain, .int .i64 C.pause, .int .i64 C.off, .bool C.brk, .int .i64 C.log]) := hid (by rw [← hW5]; exact Bk.new hcb _ _)
  have K5 : Hid (Keeps No w W5) := hid (by rw [← hW5]; exact K4.out.alloc _)
  have HW5 := hid hW5
  have HCB := hid hcb
  have HNC : Hid (w.heap.size ≤ cb) := hid (by rw [← hcb]; exact K4.out.size)
  clear hcb hW5
  have hN := HM.out.few
  have hL := HM.out.slots
  obtain ⟨rg, rcap, hru⟩ := own_some HO.out.rown (by omega)
  injection hru with hru1 _ hru2
  subst hru1 hru2
  obtain ⟨tg, tcap, htb⟩ := own_some HT.out.town (by omega)
  injection htb with htb1 _ htb2
  subst htb1 htb2
  go_upto_region 4 with fail
  try rw [HW5.out, HCB.out]
  clear HW5 HCB
  have x3 := HB5.out.cell 3 rfl
  have x4 := HB5.out.cell 4 rfl
  have x5 := HB5.out.cell 5 rfl
  have f3 := HB5.out.free 3
  have f4 := HB5.out.free 4
  have f5 := HB5.out.free 5
  go_upto_region 5 with fail
  obtain ⟨W6, hW6⟩ : ∃ W, ((W5.setCell ⟨cb, 3, none⟩ (.int .i64 1)).setCell ⟨cb, 4, none⟩ (.int .i64 1)).setCell ⟨cb, 5, none⟩ (.int .i64 1) = W := ⟨_, rfl⟩
  have k56 : Keeps (fun b => b = cb) W5 W6 := by rw [← hW6]; exact (((Keeps.refl _ _).at).at).at
  have HB6 : Hid (Bk W6 cb 34 [.slice sg C.sigs.length sgc, .slice (some ⟨rg, 0, none⟩) C.ruls.length ruc, .slice (some ⟨tg, 0, none⟩) C.tab.length tbc, .int .i64 1, .int .i64 1, .int .i64 1, .int .i64 C.drain, .int .i64 C.pause, .int .i64 C.off, .bool C.brk, .int .i64 C.log]) := hid (by rw [← hW6]; exact ((HB5.out.put 3 _ rfl).put 4 _ rfl).put 5 _ rfl)
  have HCL := hid HB6.out.lt
  have K46 : Hid (Keeps No w4 W6) := hid (K45.out.trans' k56 (fun _ _ h => h) (fun b hb e => by have := H4C.out.1; omega))
  have HC6 := hid (HC4.out.calm K46.out)
  rw [hW6]
  clear hW6 k56 x3 x4 x5 f3 f4 f5 K45 K5 HB5
  obtain ⟨i0, hi0, hy0, hy1, hy2⟩ := info_parts info_rulA
  have HI := hid hi0
  clear hi0
  have c1 := HB6.out.cell 1 rfl
  have h0 : 0 < C.ruls.length := by omega
  obtain ⟨rg', ro', hrg', hrg, hr⟩ := Sl.itemC (enc := encRul) (size := 9) (fun _ => rfl) (by decide) HC6.out.rul h0 (rfl : C.ruls[0] = C.ruls[0])
  injection hrg' with hrg'
  injection hrg' with hrg1 hrg2
  subst hrg1 hrg2
  obtain ⟨r, hre⟩ : ∃ r, C.ruls[0] = r := ⟨_, rfl⟩
  rw [hre] at hr
  obtain ⟨⟨rk, rs, rl, rbk, rd, rsp, rp, rla, rst⟩, rv9⟩ := r
  have hmem := List.getElem_mem h0
  rw [hre] at hmem
  obtain ⟨s9a, s9c, h9⟩ := (HC6.out.stg _ hmem).any
  dsimp only at h9
  subst h9
  have q0 := hr 0 _ rfl
  have q1 := hr 1 _ rfl
  have q2 := hr 2 _ rfl
  have q3 := hr 3 _ rfl
  have q4 := hr 4 _ rfl
  have q5 := hr 5 _ rfl
  have q6 := hr 6 _ rfl
  have q7 := hr 7 _ rfl
  have q8 := hr 8 _ rfl
  simp only [Nat.zero_mul, Nat.add_zero] at q0 q1 q2 q3 q4 q5 q6 q7 q8
  have HRE := hid hre
  have HMEM := hid hmem
  have HON := hid (rul_oneO HC6.out)
  have HRU := hid HC6.out.rul
  have hn8 : C.ruls.length ≤ 8 := hN.2
  obtain ⟨m, hm⟩ : ∃ m, C.ruls.length + 1 = m := ⟨_, rfl⟩
  have HMM := hid hm
  clear hre hr hmem hm hrg
  go_cut [] from 22 to 31 (fun wx => ∃ g4 cap4 : Nat, Hid (Bk wx cb 34 [.slice sg C.sigs.length sgc, .slice (some ⟨g4, 0, none⟩) m cap4, .slice (some ⟨tg, 0, none⟩) C.tab.length tbc, .int .i64 1, .int .i64 1, .int .i64 1, .int .i64 C.drain, .int .i64 C.pause, .int .i64 C.off, .bool C.brk, .int .i64 C.log]) ∧ Hid (wx.ownsRow 0 68 9 (.slice (some ⟨g4, 0, none⟩) m cap4) m (C.ruls.flatMap encRul ++ [.int .u8 rk, .int .i64 rs, .int .i64 rl, .int .i64 rbk, .int .i64 rd, .int .i64 rsp, .int .u8 rp, .bool rla, .slice s9a rst.length s9c])) ∧ Hid (W6.heap.size ≤ g4) ∧ Hid (Keeps (fun b => b = cb) W6 wx))
  case first =>
    have c1a := cellA (.cells #[.int .u8 rk, .int .i64 rs, .int .i64 rl, .int .i64 rbk, .int .i64 rd, .int .i64 rsp, .int .u8 rp, .bool rla, .slice s9a rst.length s9c] 68) c1
    go_region_law (first
      | (refine step_append rfl (.const (.slice none 0 0)) (.tmp 23) 30 rfl 68 i0 (.agg #[.int .u8 0, .int .i64 0, .int .i64 0, .int .i64 0, .int .i64 0, .int .i64 0, .int .u8 0, .bool false, .slice none 0 0]) 9 80 Try.underlying30 HI.out hy0 hy1 hy2 rfl (by decide) (.slice none 0 0) (.slice (some ⟨rg, 0, none⟩) C.ruls.length ruc) 0 C.ruls.length [] _ (by rfl) (by rfl) (World.ownsRow_nil _ _ _ _) (HRU.out.keep (S := No) (by repeat' (first | with_reducible exact Keeps.refl _ _ | with_reducible assumption | with_reducible refine Keeps.drewN ?_ _ | with_reducible refine Keeps.drew ?_ | with_reducible refine Keeps.alloc ?_ _)) (fun _ _ h => h)) HON.out (by unfold maxLen; omega) (by omega) ?_; intro v2 w2 hown2 hk2 hbl2; rw [Nat.zero_add, List.nil_append] at hown2; obtain ⟨g2, cap2, rfl⟩ := own_some hown2 (by omega); have hk2n : Keeps No _ w2 := hk2.mono (fun _ _ h => nomatch h); have kk2 : Keeps No W6 w2 := Keeps.trans (by repeat' (first | with_reducible exact Keeps.refl _ _ | with_reducible assumption | with_reducible refine Keeps.drewN ?_ _ | with_reducible refine Keeps.drew ?_ | with_reducible refine Keeps.alloc ?_ _)) hk2n; have hg2 : W6.heap.size ≤ g2 := (hbl2 g2 rfl).elim (fun h => nomatch h) (fun h => Nat.le_trans (Keeps.size (S := No) (by repeat' (first | with_reducible exact Keeps.refl _ _ | with_reducible assumption | with_reducible refine Keeps.drewN ?_ _ | with_reducible refine Keeps.drew ?_ | with_reducible refine Keeps.alloc ?_ _))) h); have c1 := kk2.cell (fun h => h) c1; have q0 := kk2.cell (fun h => h) q0; have q1 := kk2.cell (fun h => h) q1; have q2 := kk2.cell (fun h => h) q2; have q3 := kk2.cell (fun h => h) q3; have q4 := kk2.cell (fun h => h) q4; have q5 := kk2.cell (fun h => h) q5; have q6 := kk2.cell (fun h => h) q6; have q7 := kk2.cell (fun h => h) q7; have q8 := kk2.cell (fun h => h) q8; clear hk2 hbl2)
      | (refine step_append rfl (.tmp 24) (.tmp 29) 30 rfl 68 i0 (.agg #[.int .u8 0, .int .i64 0, .int .i64 0, .int .i64 0, .int .i64 0, .int .i64 0, .int .u8 0, .bool false, .slice none 0 0]) 9 80 Try.underlying30 HI.out hy0 hy1 hy2 rfl (by decide) (.slice (some ⟨g2, 0, none⟩) C.ruls.length cap2) (.slice (some ⟨w2.heap.size, 0, none⟩) 1 1) C.ruls.length 1 _ _ (by rfl) (by rfl) (hown2.alloc _) (Sl.new _ _ _ 9 1 rfl (by decide)) (by intro u hu; simp at hu; rcases hu with rfl | rfl | rfl | rfl | rfl | rfl | rfl | rfl | rfl <;> rfl) (by unfold maxLen; omega) (by omega) ?_; intro v4 w4 hown4 hk4 hbl4; obtain ⟨g4, cap4, rfl⟩ := own_some hown4 (by omega); have kk3 : Keeps No W6 (w2.alloc (.cells #[.int .u8 rk, .int .i64 rs, .int .i64 rl, .int .i64 rbk, .int .i64 rd, .int .i64 rsp, .int .u8 rp, .bool rla, .slice s9a rst.length s9c] 68)) := Keeps.trans kk2 ((Keeps.refl No w2).alloc _); have kk4 : Keeps No W6 w4 := Keeps.trans' kk3 hk4 (fun _ _ h => h) (fun b hb e => Nat.not_lt.2 hg2 (Option.some.inj (show some g2 = some b from e) ▸ hb)); have hg4 : W6.heap.size ≤ g4 := (hbl4 g4 rfl).elim (fun h => (Option.some.inj (show some g2 = some g4 from h)) ▸ hg2) (fun h => Nat.le_trans kk3.size h); have bm := HB6.out.kept kk4; have m1 := bm.cell 1 rfl; have mf := bm.free 1; clear hk4 hbl4)
      | (refine step_append rfl (.tmp 24) (.tmp 29) 30 rfl 68 i0 (.agg #[.int .u8 0, .int .i64 0, .int .i64 0, .int .i64 0, .int .i64 0, .int .i64 0, .int .u8 0, .bool false, .slice none 0 0]) 9 80 Try.underlying30 HI.out hy0 hy1 hy2 rfl (by decide) (.slice (some ⟨g2, 0, none⟩) C.ruls.length cap2) _ C.ruls.length 1 _ _ (by rfl) (by rfl) hown2 (Sl.keep (S := No) (w := W6.alloc (.cells #[.int .u8 rk, .int .i64 rs, .int .i64 rl, .int .i64 rbk, .int .i64 rd, .int .i64 rsp, .int .u8 rp, .bool rla, .slice s9a rst.length s9c] 68)) (Sl.new W6 _ _ 9 1 rfl (by decide)) (Keeps.trans (by repeat' (first | with_reducible exact Keeps.refl _ _ | with_reducible assumption | with_reducible refine Keeps.drewN ?_ _ | with_reducible refine Keeps.drew ?_ | with_reducible refine Keeps.alloc ?_ _)) hk2n) (fun _ _ h => h)) (by intro u hu; simp at hu; rcases hu with rfl | rfl | rfl | rfl | rfl | rfl | rfl | rfl | rfl <;> rfl) (by unfold maxLen; omega) (by omega) ?_; intro v4 w4 hown4 hk4 hbl4; obtain ⟨g4, cap4, rfl⟩ := own_some hown4 (by omega); have kk4 : Keeps No W6 w4 := Keeps.trans' kk2 hk4 (fun _ _ h => h) (fun b hb e => Nat.not_lt.2 hg2 (Option.some.inj (show some g2 = some b from e) ▸ hb)); have hg4 : W6.heap.size ≤ g4 := (hbl4 g4 rfl).elim (fun h => (Option.some.inj (show some g2 = some g4 from h)) ▸ hg2) (fun h => Nat.le_trans kk2.size h); have bm := HB6.out.kept kk4; have m1 := bm.cell 1 rfl; have mf := bm.free 1; clear hk4 hbl4))
    all_goals
      go_wp2_with fail
      go_meet
      refine ⟨g4, cap4, hid ?_, hid ?_, hid hg4, hid (Keeps.trans kk4.no ((Keeps.refl _ _).at))⟩
      focus (rw [← HMM.out]; exact bm.put 1 _ rfl)
      focus (rw [← HMM.out]; exact Keeps.own ((Keeps.refl (fun b => b = cb) _).at) hown4 (fun b hb e => by have h2 : g4 = b := Option.some.inj hb; have := HCL.out; omega))
  case rest =>
  obtain ⟨g4, cap4, HB7, HR7, HG4, K67⟩ := hcut
  obtain ⟨w7, rfl⟩ : ∃ y, y = wc := ⟨_, rfl⟩
  clear c1 q0 q1 q2 q3 q4 q5 q6 q7 q8 HON HRU HI hy0 hy1 hy2
  have K47 : Hid (Keeps No w4 w7) := hid (K46.out.trans' K67.out (fun _ _ h => h) (fun b hb e => by have := H4C.out.1; omega))
  have HCL7 : Hid (cb < w7.heap.size) := hid HB7.out.lt
  have HG7 : Hid (w4.heap.size ≤ g4 ∧ ¬ g4 = cb) := hid ⟨by have := HG4.out; have := K46.out.size; omega, by have := HG4.out; have := HCL.out; omega⟩
  obtain ⟨⟨l0, v0⟩, T, hT⟩ : ∃ x T, C.tab = x :: T := by
    cases h : C.tab with
    | nil => rw [h] at hL; simp at hL
    | cons x T => exact ⟨x, T, rfl⟩
  have hx0 : (l0, v0) ∈ C.tab := by rw [hT]; exact List.mem_cons_self ..
  have hsl := HT.out.tslot _ hx0
  obtain ⟨la, lc, hv0⟩ := own_any hsl
  dsimp only at hv0 hsl
  subst hv0
  have HROW0 : Hid (w7.ownsRow 0 3 1 (.slice la l0.length lc) l0.length (l0.map (Value.int .i64))) := hid (K47.out.own hsl (fun _ _ h => h))
  have HX0 := hid hx0
  have HTT := hid hT
  have hslo : l0.length ≤ C.ruls.length := few_of_uniq _ _ (HM.out.tab _ hx0).rul (HM.out.tab _ hx0).nodup
  have htow := K47.out.own HT.out.town (fun _ _ h => h)
  have HTOW := hid htow
  have s0 : w7.cell? ⟨tg, 0, none⟩ = some (.slice la l0.length lc) := by rw [htow.cellAt 0 (by omega), hT]; rfl
  have f0 := htow.frozenAt 0
  have hnt : ¬ Bl (.slice la l0.length lc) tg := fun h => (HT.out.tsep _ hx0 tg h).2 rfl
  have hncb : ¬ Bl (.slice la l0.length lc) cb := fun h => by have := (hsl.lt cb h).2; have := H4C.out.1; omega
  have htgcb : ¬ cb = tg := fun h => by have := (HT.out.town.lt tg rfl).2; have := H4C.out.1; omega
  have HNT := hid hnt
  have HNCB := hid hncb
  have HTGCB := hid htgcb
  have c1 := HB7.out.cell 1 rfl
  have c2 := HB7.out.cell 2 rfl
  have hL0 : 0 < C.tab.length := by omega
  have dl0 : decide ((0 : Int) < (C.tab.length : Int)) = true := decide_eq_true (by omega)
  have hsub : IntKind.i64.wrap ((m : Int) - 1) = (C.ruls.length : Int) := by have := HMM.out; simp only [IntKind.wrap_i64]; omega
  clear hx0 hsl hT htow hnt hncb htgcb
  obtain ⟨i2, hi2, hv0, hv1, hv2⟩ := info_parts info_intA
  have HI2 := hid hi2
  clear hi2
  go_upto_region 7 with fail
  clear c1
  go_cut [] from 36 to 45 (fun wx => ∃ v6, Hid (Bk wx cb 34 [.slice sg C.sigs.length sgc, .slice (some ⟨g4, 0, none⟩) m cap4, .slice (some ⟨tg, 0, none⟩) C.tab.length tbc, .int .i64 1, .int .i64 1, .int .i64 1, .int .i64 C.drain, .int .i64 C.pause, .int .i64 C.off, .bool C.brk, .int .i64 C.log]) ∧ Hid (∀ w', Keeps (fun b => b = cb) wx w' → CfgR w' (overC C (⟨rk, rs, rl, rbk, rd, rsp, rp, rla, rst⟩, .slice s9a rst.length s9c) (l0 ++ [(C.ruls.length : Int)], v6) T) (.slice sg C.sigs.length sgc) (.slice (some ⟨g4, 0, none⟩) m cap4) (.slice (some ⟨tg, 0, none⟩) C.tab.length tbc)) ∧ Hid (Keeps No w wx))
  case first =>
    have c2a := cellA (.cells #[.int .i64 (C.ruls.length : Int)] 3) c2
    have s0a := cellA (.cells #[.int .i64 (C.ruls.length : Int)] 3) s0
    go_region_law (first | (refine step_append rfl (.tmp 41) (.tmp 43) 61 rfl 3 i2 (.int .i64 0) 1 8 Try.underlying61 HI2.out hv0 hv1 hv2 rfl (by decide) (.slice la l0.length lc) (.slice (some ⟨w7.heap.size, 0, none⟩) 1 1) l0.length 1 _ _ (by rfl) (by rfl) (Keeps.own (S := No) (by repeat' (first | with_reducible exact Keeps.refl _ _ | with_reducible assumption | with_reducible refine Keeps.drewN ?_ _ | with_reducible refine Keeps.drew ?_ | with_reducible refine Keeps.alloc ?_ _)) HROW0.out (fun _ _ h => h)) (Sl.newAt (by simp) _ _ _ _ rfl (by decide)) (by intro u hu; simp at hu; subst hu; rfl) (by unfold maxLen; omega) (by omega) ?_; intro v6 w11 hown6 hk6 hbl6; obtain ⟨a6, c6, rfl⟩ := own_any hown6; have hn6 : ∀ b, (Value.slice a6 (l0.length + 1) c6).ownBlock = some b → (Value.slice la l0.length lc).ownBlock = some b ∨ w7.heap.size ≤ b := fun b hb => (hbl6 b hb).elim Or.inl (fun h => Or.inr (Nat.le_trans (Keeps.size (S := No) (by repeat' (first | with_reducible exact Keeps.refl _ _ | with_reducible assumption | with_reducible refine Keeps.drewN ?_ _ | with_reducible refine Keeps.drew ?_ | with_reducible refine Keeps.alloc ?_ _))) h)); have kk : Keeps (Bl (.slice la l0.length lc)) w7 w11 := Keeps.trans (Keeps.mono (S := No) (by repeat' (first | with_reducible exact Keeps.refl _ _ | with_reducible assumption | with_reducible refine Keeps.drewN ?_ _ | with_reducible refine Keeps.drew ?_ | with_reducible refine Keeps.alloc ?_ _)) (fun _ _ h => nomatch h)) hk6; have bB := HB7.out.keep kk HNCB.out; have c2 := bB.cell 2 rfl; have s0 := kk.cell HNT.out s0; have f0 := (kk.own HTOW.out (fun b hb e => HNT.out ((Option.some.inj (show some tg = some b from hb)) ▸ e))).frozenAt 0; clear hk6 hbl6))
    all_goals
      go_wp2_with fail
      go_meet
      refine ⟨.slice a6 (l0.length + 1) c6, hid ?_, hid ?_, hid ?_⟩
      focus (exact bB.other (p := ⟨tg, 0, none⟩) HTGCB.out _)
      focus (intro w' k'; exact overC_reads HC4.out HMEM.out HTT.out HT.out HO.out K47.out HMM.out HR7.out HG7.out.1 H4C.out.1 HCL7.out HG7.out.2 kk hown6 hn6 rfl k')
      focus (exact ((K4.out.trans K47.out).trans' kk (fun _ _ h => h) (fun b hb e => by have := (HT.out.tsep _ HX0.out b e).1; have := H4C.out.2; omega)).trans' ((Keeps.refl (fun b => b = tg) w11).at) (fun _ _ h => h) (fun b hb e => by have := HT.out.tnew tg rfl; have := H4C.out.2; omega))
  case rest =>
  obtain ⟨v6, HB8, HC8, KW8⟩ := hcut
  have hm9 : 2 ≤ m ∧ m ≤ 9 := by have := HMM.out; omega
  have x6 := HB8.out.cell 6 rfl
  have f6 := HB8.out.free 6
  clear c2 s0 f0 hv0 hv1 hv2
  go_upto_region 9 with fail
  obtain ⟨W9, hW9⟩ : ∃ W, wc.setCell ⟨cb, 6, none⟩ (.int .i64 64) = W := ⟨_, rfl⟩
  have k89 : Keeps (fun b => b = cb) wc W9 := by rw [← hW9]; exact (Keeps.refl _ _).at
  have HB9 : Hid (Bk W9 cb 34 [.slice sg C.sigs.length sgc, .slice (some ⟨g4, 0, none⟩) m cap4, .slice (some ⟨tg, 0, none⟩) C.tab.length tbc, .int .i64 1, .int .i64 1, .int .i64 1, .int .i64 64, .int .i64 C.pause, .int .i64 C.off, .bool C.brk, .int .i64 C.log]) := hid (by rw [← hW9]; exact HB8.out.put 6 _ rfl)
  have hc9 := HC8.out W9 k89
  have KW9 : Hid (Keeps No w W9) := hid (KW8.out.trans' k89 (fun _ _ h => h) (fun b hb e => by have := HNC.out; omega))
  rw [hW9]
  clear hW9 k89 x6 f6 HB8 HC8 KW8
  obtain ⟨C2, hC2⟩ : ∃ C2, overC C (⟨rk, rs, rl, rbk, rd, rsp, rp, rla, rst⟩, .slice s9a rst.length s9c) (l0 ++ [(C.ruls.length : Int)], v6) T = C2 := ⟨_, rfl⟩
  have hik := overC_ink (row := (l0 ++ [(C.ruls.length : Int)], v6)) HM.out HMEM.out HTT.out
  have hpr := overC_prio (row := (l0 ++ [(C.ruls.length : Int)], v6)) (T := T) h0 HRE.out
  rw [hC2] at hc9 hik hpr
  dsimp only at hpr
  have hb2 : C2.b0 = 1 ∧ C2.b1 = 1 ∧ C2.b2 = 1 := by rw [← hC2]; exact ⟨rfl, rfl, rfl⟩
  have hlen : C2.ruls.length = m := by rw [← hC2]; simp only [overC, List.length_append, List.length_cons, List.length_nil]; exact HMM.out
  have htl : C2.tab.length = C.tab.length := by rw [← hC2, HTT.out]; rfl
  have hpri : 1 ≤ rp ∧ rp ≤ 3 := HIC.out.pri _ HMEM.out
  have hnew := pj_new W9 hc9 (by rw [hlen]; omega)
  rw [hlen, hb2.1, hb2.2.1, hb2.2.2, show C2.drain = 64 by rw [← hC2]; rfl, show C2.pause = C.pause by rw [← hC2]; rfl, show C2.off = C.off by rw [← hC2]; rfl, show C2.brk = C.brk by rw [← hC2]; rfl, show C2.log = C.log by rw [← hC2]; rfl] at hnew
  obtain ⟨now, hnow⟩ : ∃ y, a1 + 1 = y := ⟨_, rfl⟩
  have hnb : 1 ≤ now ∧ now ≤ 65536 := by omega
  have hn9 : I64 now := ⟨by omega, by omega⟩
  have h0r := hid (show (InkD.start m).refs ≤ 1000000000 ∧ (idleD (InkD.start m) 0 true = true ∨ (InkD.start m).last ≤ now) from ⟨Nat.zero_le _, Or.inr (by show (0 : Int) ≤ now; omega)⟩)
  have E1 := hid (offer_first (now := now) hb2 hpr.1 hpri (show 1 ≤ m by omega))
  have hE2 := offer_second (now := now) hb2 hpr.2 hpri (show 1 ≤ C.ruls.length by omega)
  rw [HMM.out] at hE2
  have E2 := hid hE2
  have hE3 := fun l t => over_then (C := C2) (now := now) l t (by rw [htl]; omega)
  rw [htl] at hE3
  have E3 := hid hE3
  have E0 : Hid (∀ s : InkD, s.refs = 0 → overD C2 s now = false) := hid (fun s hs => by unfold overD; rw [hs]; simp)
  have HC9 := hid hc9
  have HI9 := hid hik
  have HNEW := hid hnew
  clear hc9 hik hpr hb2 hlen htl hpri hnew hE2 hE3 hC2
  have x0 := HB9.out.cell 0 rfl
  have x1 := HB9.out.cell 1 rfl
  have x2 := HB9.out.cell 2 rfl
  have x3 := HB9.out.cell 3 rfl
  have x4 := HB9.out.cell 4 rfl
  have x5 := HB9.out.cell 5 rfl
  have x6 := HB9.out.cell 6 rfl
  have x7 := HB9.out.cell 7 rfl
  have x8 := HB9.out.cell 8 rfl
  have x9 := HB9.out.cell 9 rfl
  have x10 := HB9.out.cell 10 rfl
  go_wp2_with fail
  with_reducible refine HNEW.out.mono ?_
  rintro e w9 ⟨nb, rfl, hj⟩
  have J0 := hid hj
  clear hj HNEW x0 x1 x2 x3 x4 x5 x6 x7 x8 x9 x10
  go_wp2_with fail
  with_reducible refine (pj_over J0.out HC9.out now hn9).mono ?_
  rintro e w10 ⟨rfl, k10⟩
  have J1 := hid (J0.out.calm k10)
  rw [E0.out _ rfl]
  clear k10
  go_wp2_with fail
  with_reducible refine (pj_offer J1.out HC9.out HI9.out now 0 true hn9 h0r.out).mono ?_
  rintro e w11 ⟨rfl, h11, k11⟩
  rw [E1.out] at h11 ⊢
  have J2 := hid h11
  clear h11 k11
  go_wp2_with fail
  with_reducible refine (pj_over J2.out HC9.out now hn9).mono ?_
  rintro e w12 ⟨rfl, k12⟩
  have J3 := hid (J2.out.calm k12)
  rw [E0.out _ rfl]
  clear k12
  go_wp2_with fail
  with_reducible refine (pj_offer J3.out HC9.out HI9.out now (C.ruls.length : Int) true hn9 ⟨show (0 : Nat) ≤ 1000000000 by omega, Or.inr (by show (0 : Int) ≤ now; omega)⟩).mono ?_
  rintro e w13 ⟨rfl, h13, k13⟩
  rw [E2.out] at h13 ⊢
  have J4 := hid h13
  have x2 := (HB9.out.kept h13.old).cell 2 rfl
  clear h13 k13
  have hw1 : IntKind.i64.wrap (now + (C.tab.length : Int)) = now + (C.tab.length : Int) := by simp only [IntKind.wrap_i64]; omega
  have hw2 : IntKind.i64.wrap (now + (C.tab.length : Int) - 1) = now + (C.tab.length : Int) - 1 := by simp only [IntKind.wrap_i64]; omega
  have hn91 : I64 (now + (C.tab.length : Int) - 1) := ⟨by omega, by omega⟩
  have hn92 : I64 (now + (C.tab.length : Int)) := ⟨by omega, by omega⟩
  go_upto_region 14 with fail
  clear x2
  go_wp2_with fail
  with_reducible refine (pj_over J4.out HC9.out now hn9).mono ?_
  rintro e w14 ⟨rfl, k14⟩
  have J5 := hid (J4.out.calm k14)
  rw [(E3.out _ _).1]
  clear k14
  go_wp2_with fail
  with_reducible refine (pj_over J5.out HC9.out (now + (C.tab.length : Int) - 1) hn91).mono ?_
  rintro e w15 ⟨rfl, k15⟩
  have J6 := hid (J5.out.calm k15)
  rw [(E3.out _ _).2.1]
  clear k15
  go_wp2_with fail
  with_reducible refine (pj_over J6.out HC9.out (now + (C.tab.length : Int)) hn92).mono ?_
  rintro e w16 ⟨rfl, k16⟩
  have J7 := hid (J6.out.calm k16)
  rw [(E3.out _ _).2.2]
  clear k16
  go_wp2_with fail
  with_reducible refine (pj_refused J7.out).mono ?_
  rintro e w17 ⟨rfl, k17⟩
  have J8 := hid (J7.out.calm k17)
  clear k17
  go_wp2_with fail
  go_ret
  exact ⟨rfl, (KW9.out.trans J8.out.old).toBelow⟩

theorem own : ownKnob Try.prog.godebug = none := by kernel_rfl
theorem laidOut : laidOutB Try.prog = true := by kernel_rfl
set_option maxRecDepth 100000 in
theorem lifted (os : Os) (started : os.Started) (H : Type) (enc : TypeId × Value → H) :
    ReturnsInHanded {} Try.checked os 6 .any (Rows.intakeOverSpec.pre6 enc Try.prog Try.f6 Rows.intakeOverRow.domain false) (Rows.intakeOverSpec.post enc Try.prog Try.f6 false true false false) := by
  refine returnsInHanded_of_change (C := Try.checked) own started (by kernel_rfl) Try.func6
    (ChangeSpec.witness6 (enc := enc) (C := Try.checked) false ⟨#[], #[.agg #[.slice none 0 0, .slice none 0 0, .int .u8 0, .int .u8 0, .int .u8 0, .int .u8 0, .bool false, .int .u8 0], .int .u16 0], []⟩ 8 (by kernel_rfl) (by kernel_rfl) (by kernel_rfl) (by kernel_rfl)) ?_
  intro W base args ds gs before hval0 hW hcnd _
  have hval : ∀ (j : Nat) t v, Try.f6.params[j]? = some t → args[j]? = some v → Value.okWide Try.prog W .any base t v := hval0
  have hW' := hW
  obtain ⟨p, q, hA0, hV, rfl, hfz, hnd⟩ := hW
  have hA : DataW.TrodAll enc Try.prog W 0 (fun _ => true) true Try.f6.params.toList args.toList ds p := hA0
  rw [Try.params6] at hA hval
  obtain ⟨v0, vs0, d0, ds0, p0, q0, hargs, rfl, rfl, h0, r0⟩ := trodAll_cons hA
  obtain ⟨v1, vs1, d1, ds1, p1, q1, rfl, rfl, rfl, h1, r1⟩ := trodAll_cons r0
  obtain ⟨rfl, rfl, rfl⟩ := trodAll_nil r1
  obtain rfl : args = #[v0, v1] := by cases args; simp_all
  obtain ⟨rfl, rfl⟩ := trodVars_none hV
  have k0 := h0
  have lt0 : ∀ x ∈ p0, x.block < W.heap.size := by obtain ⟨m, hm⟩ := k0; exact DataW.trod_lt m _ _ _ hm
  have k1 := h1
  have lt1 : ∀ x ∈ p1, x.block < W.heap.size := by obtain ⟨m, hm⟩ := k1; exact DataW.trod_lt m _ _ _ hm
  obtain ⟨rules, rv, slots, sv, ba, dr, pa, of_, br, lo, rfl, hd, u1, u2, u3, u4, u5⟩ := argDraft (hval 0 25 v0 rfl rfl) h0
  obtain ⟨a1, rfl, rfl, rfl, w1⟩ := open_int Try.underlying62 (hval 1 62 v1 rfl rfl) h1
  clear hA0 hval0
  refine (walk W rules rv slots sv ba dr pa of_ br lo hd u1 u2 u3 u4 u5 a1 w1).mono fun e W' ⟨he, bel⟩ => ?_
  subst he
  exact ⟨_, rfl, _, _, _, [], _, [], hW', trodAll_mk1 (shut_bool Try.underlying4 _), (trodAll_cons_mk (Below.trod laidOut (by kernel_rfl) (of_decide_eq_true (by kernel_rfl)) k0 bel lt0) (trodAll_cons_mk (Below.trod laidOut (by kernel_rfl) (of_decide_eq_true (by kernel_rfl)) k1 bel lt1) trodAll_mk0)), rfl, bel.frame _, fun h => by cases h⟩

theorem over : Rows.intakeOverRow.holds Try.pinned (OpenSpec.ofChange Rows.intakeOverSpec) :=
  OpenClaim.holds_of_wide 6 Try.f6 rfl rfl rfl rfl rfl rfl rfl ⟨rfl, rfl, rfl, rfl, rfl⟩ rfl rfl rfl rfl rfl (by kernel_rfl) Try.func6 (by kernel_rfl)
    (of_decide_eq_true (by kernel_rfl)) (by unfold Func.isWrapper; first | (rw [if_pos (by decide +kernel)]; kernel_rfl) | (rw [if_neg (by decide +kernel)]; exact ⟨rfl, rfl⟩))
    (fun os started H enc _ => lifted os started H enc)

theorem proved : Rows.IntakeOverSaid := over
#print axioms proved
end Go.Proofs.Ytoodlhagecannaa.intakeOver
