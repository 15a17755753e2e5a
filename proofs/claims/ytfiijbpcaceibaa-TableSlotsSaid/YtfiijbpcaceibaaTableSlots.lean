/- Who is looked at at any tick. No conditions. -/
import Derived.Test.YtfiijbpcaceibaaRows
import Derived.Test.YtfiijbpcaceibaaArgsE
import Derived.Test.YtfiijbpcaceibaaMake2
import Derived.Test.YtfiijbpcaceibaaTblK
import Derived.Test.YtfiijbpcaceibaaTblM
import Derived.Test.YtfiijbpcaceibaaShort14
import Derived.ProofKit
import Derived.OpenShut
import Derived.Deep.RegionHeld3
import Derived.Deep.DeepCutAuto
import Derived.Deep.CutBlock
namespace Go.Proofs.Ytfiijbpcaceibaa.tableSlots
open Go.ChangeShapes Go.WideShapes Go.ChangeAt Go.RowKit
open Go.ChangeMaps (open_string shut_string)
set_option linter.unusedVariables false

set_option maxHeartbeats 8000000 in
set_option maxRecDepth 100000 in
theorem walk (w : World) (rules : List (LineD × Value)) (rv : Value) (slots : List Int) (sv : Value) (ba dr pa of_ : Int) (br : Bool) (lo : Int) (hd : DraftR w rules rv slots sv) (u1 : U8 ba) (u2 : U8 dr) (u3 : U8 pa) (u4 : U8 of_) (u5 : U8 lo) (now : Int) (wn : (Lit.int .i64 now).wf = true) :
    Calls Try.prog 3 #[.agg #[rv, sv, .int .u8 ba, .int .u8 dr, .int .u8 pa, .int .u8 of_, .bool br, .int .u8 lo], .int .i64 now] w fun e w' => e = .returned (.bool true) ∧ Below w.heap.size w w' := by
  have HNOW : Hid (-9223372036854775808 ≤ now ∧ now ≤ 9223372036854775807) := hid (bounds_i64 wn)
  clear wn
  obtain ⟨ra, rc, rfl⟩ := hd.rul.any
  obtain ⟨sa, sc, rfl⟩ := hd.slo.any
  obtain ⟨W1, hW1⟩ : ∃ W1, w.alloc (.cells #[.slice ra rules.length rc, .slice sa slots.length sc, .int .u8 ba, .int .u8 dr, .int .u8 pa, .int .u8 of_, .bool br, .int .u8 lo] 25) = W1 := ⟨_, rfl⟩
  have k1 : Keeps No w W1 := by rw [← hW1]; exact (Keeps.refl _ _).alloc _
  have hb : BlkL W1 w.heap.size 25 [.slice ra rules.length rc, .slice sa slots.length sc, .int .u8 ba, .int .u8 dr, .int .u8 pa, .int .u8 of_, .bool br, .int .u8 lo] := by rw [← hW1]; exact heap_alloc_new w _
  have H1 := hid (hd.calm k1)
  have HB := hid hb
  have HW1 := hid hW1
  have K1 := hid k1
  have U := hid (show U8 ba ∧ U8 dr ∧ U8 pa ∧ U8 of_ ∧ U8 lo from ⟨u1, u2, u3, u4, u5⟩)
  clear hd hW1 k1 hb u1 u2 u3 u4 u5
  go_enter Try.func3, Try.ntmps3
  go_upto_region 1 with fail
  rw [HW1.out]
  go_wp2_with fail
  refine (gaps_true _).mono ?_
  rintro e w2 ⟨rfl, k2⟩
  have hb := HB.out.keep k2 (fun h => h)
  have K2 := hid (K1.out.trans k2)
  have H2 := hid (H1.out.calm k2)
  have HB2 := hid hb
  have x0 := hb.cell (o := 0) rfl
  have x1 := hb.cell (o := 1) rfl
  have x2 := hb.cell (o := 2) rfl
  have x3 := hb.cell (o := 3) rfl
  have x4 := hb.cell (o := 4) rfl
  have x5 := hb.cell (o := 5) rfl
  have x6 := hb.cell (o := 6) rfl
  have x7 := hb.cell (o := 7) rfl
  clear hb k2
  go_wp2_with fail
  refine (short14_any H2.out ba dr pa of_ br lo).mono ?_
  rintro e w3 ⟨bs, rfl, k3⟩
  clear x0 x1 x2 x3 x4 x5 x6 x7
  have K3 := hid (K2.out.trans k3)
  have H3 := hid (H2.out.calm k3)
  have hb := HB2.out.keep k3 (fun h => h)
  clear k3
  cases bs
  · clear hb
    go_wp2_with fail
    refine (gaps_true _).mono ?_
    rintro e w4 ⟨rfl, k4⟩
    have K4 := hid (K3.out.trans k4)
    clear k4
    go_wp2_with fail
    go_ret
    exact ⟨rfl, K4.out.toBelow⟩
  have x0 := hb.cell (o := 0) rfl
  have x1 := hb.cell (o := 1) rfl
  have x2 := hb.cell (o := 2) rfl
  have x3 := hb.cell (o := 3) rfl
  have x4 := hb.cell (o := 4) rfl
  have x5 := hb.cell (o := 5) rfl
  have x6 := hb.cell (o := 6) rfl
  have x7 := hb.cell (o := 7) rfl
  clear hb
  go_wp2_with fail
  refine (make_any H3.out ba dr pa of_ br lo U.out.1 U.out.2.1 U.out.2.2.1 U.out.2.2.2.1 U.out.2.2.2.2).mono ?_
  rintro e w4 ⟨C, csv, crv, ctv, rfl, hc, hm, k4⟩
  clear x0 x1 x2 x3 x4 x5 x6 x7
  obtain ⟨sg, sgc, ru, ruc, tb, tbc, rfl, rfl, rfl⟩ := hc.shape
  unfold Cfg.val Cfg.cells
  have K4 := hid (K3.out.trans k4)
  have HC4 := hid hc
  have HM := hid hm
  have HML : Hid (∀ l ∈ C.tab, l.1.length ≤ 100000) := hid (made_short hm)
  have hL := hm.slots
  clear hc hm k4 K1 K2 K3 H1 H2 H3 HB HB2 U HW1
  obtain ⟨cb, hcb⟩ : ∃ y, w4.heap.size = y := ⟨_, rfl⟩
  obtain ⟨W5, hW5⟩ : ∃ W5, w4.alloc (.cells #[.slice sg C.sigs.length sgc, .slice ru C.ruls.length ruc, .slice tb C.tab.length tbc, .int .i64 C.b0, .int .i64 C.b1, .int .i64 C.b2, .int .i64 C.drain, .int .i64 C.pause, .int .i64 C.off, .bool C.brk, .int .i64 C.log] 33) = W5 := ⟨_, rfl⟩
  have HC5 : Hid (CfgR W5 C (.slice sg C.sigs.length sgc) (.slice ru C.ruls.length ruc) (.slice tb C.tab.length tbc)) := hid (HC4.out.calm (by rw [← hW5]; exact (Keeps.refl _ _).alloc _))
  have HB5 : Hid (Bk W5 cb 33 [.slice sg C.sigs.length sgc, .slice ru C.ruls.length ruc, .slice tb C.tab.length tbc, .int .i64 C.b0, .int .i64 C.b1, .int .i64 C.b2, .int .i64 C.drain, .int .i64 C.pause, .int .i64 C.off, .bool C.brk, .int .i64 C.log]) := hid (by rw [← hW5]; exact Bk.new hcb _ _)
  have K5 : Hid (Keeps No w W5) := hid (by rw [← hW5]; exact K4.out.alloc _)
  have HW5 := hid hW5
  have HCB := hid hcb
  have HNC : Hid (w.heap.size ≤ cb) := hid (by rw [← hcb]; exact K4.out.size)
  clear hcb hW5 K4 HC4
  have HT : Hid (∀ (w' : World), Keeps No W5 w' → ∀ now : Int, (-9223372036854775808 ≤ now ∧ now ≤ 9223372036854775807) → Calls Try.prog 12 #[.agg #[.slice sg C.sigs.length sgc, .slice ru C.ruls.length ruc, .slice tb C.tab.length tbc, .int .i64 C.b0, .int .i64 C.b1, .int .i64 C.b2, .int .i64 C.drain, .int .i64 C.pause, .int .i64 C.off, .bool C.brk, .int .i64 C.log], .int .i64 now] w' fun e w'' => ∃ v, e = .returned v ∧ NewI w' w'' v (slotD (C.tab.map (·.1)) now) ∧ Keeps No w' w'') := hid (fun w' k now hn => tslot_any (sa := sg) (sn := C.sigs.length) (sc := sgc) (ra := ru) (rn := C.ruls.length) (rc := ruc) (HC5.out.calm k).tabR hL.1 now hn HML.out C.b0 C.b1 C.b2 C.drain C.pause C.off C.log C.brk)
  have HMS : Hid (∀ (w' : World), Keeps No W5 w' → ∀ now : Int, (-9223372036854775808 ≤ now ∧ now ≤ 9223372036854775807) → Calls Try.prog 13 #[.agg #[.slice sg C.sigs.length sgc, .slice ru C.ruls.length ruc, .slice tb C.tab.length tbc, .int .i64 C.b0, .int .i64 C.b1, .int .i64 C.b2, .int .i64 C.drain, .int .i64 C.pause, .int .i64 C.off, .bool C.brk, .int .i64 C.log], .int .i64 now] w' fun e w'' => ∃ v, e = .returned v ∧ SlI w'' v (slotD (C.tab.map (·.1)) now) ∧ Keeps No w' w'') := hid (fun w' k now hn => mslot_any (sa := sg) (sn := C.sigs.length) (sc := sgc) (ra := ru) (rn := C.ruls.length) (rc := ruc) (HC5.out.calm k).tabR hL.1 now hn HML.out C.b0 C.b1 C.b2 C.drain C.pause C.off C.log C.brk)
  have K0 := hid (Keeps.refl No W5)
  go_upto_region 4 with fail
  try rw [HW5.out, HCB.out]
  clear HW5 HCB
  go_wp2_with fail
  go_loopw [6] (fun v6 wr => ∃ i : Nat, i ≤ 20 ∧ v6 = .int .i64 i ∧ Hid (Keeps No W5 wr)) (fun v6 _ => 20 - (intOf v6).toNat)
  case atStart => exact ⟨0, by omega, rfl, K0⟩
  case round =>
    clear K0
    obtain ⟨i, hi, rfl, KR⟩ := hrel
    have HBR := hid (HB5.out.kept KR.out)
    by_cases hlt : i < 20
    · have HNI : Hid (-9223372036854775808 ≤ (i : Int) ∧ (i : Int) ≤ 9223372036854775807) := hid ⟨by omega, by omega⟩
      go_upto_region 7 with fail
      have x0_0 := HBR.out.cell 0 rfl
      have x0_1 := HBR.out.cell 1 rfl
      have x0_2 := HBR.out.cell 2 rfl
      have x0_3 := HBR.out.cell 3 rfl
      have x0_4 := HBR.out.cell 4 rfl
      have x0_5 := HBR.out.cell 5 rfl
      have x0_6 := HBR.out.cell 6 rfl
      have x0_7 := HBR.out.cell 7 rfl
      have x0_8 := HBR.out.cell 8 rfl
      have x0_9 := HBR.out.cell 9 rfl
      have x0_10 := HBR.out.cell 10 rfl
      first | go_region_held3 (fun w' => w'.cell? ⟨cb, 0, none⟩ = some (.slice sg C.sigs.length sgc) ∧ w'.cell? ⟨cb, 1, none⟩ = some (.slice ru C.ruls.length ruc) ∧ w'.cell? ⟨cb, 2, none⟩ = some (.slice tb C.tab.length tbc) ∧ w'.cell? ⟨cb, 3, none⟩ = some (.int .i64 C.b0) ∧ w'.cell? ⟨cb, 4, none⟩ = some (.int .i64 C.b1) ∧ w'.cell? ⟨cb, 5, none⟩ = some (.int .i64 C.b2) ∧ w'.cell? ⟨cb, 6, none⟩ = some (.int .i64 C.drain) ∧ w'.cell? ⟨cb, 7, none⟩ = some (.int .i64 C.pause) ∧ w'.cell? ⟨cb, 8, none⟩ = some (.int .i64 C.off) ∧ w'.cell? ⟨cb, 9, none⟩ = some (.bool C.brk) ∧ w'.cell? ⟨cb, 10, none⟩ = some (.int .i64 C.log)) (first | with_reducible exact ⟨x0_0, x0_1, x0_2, x0_3, x0_4, x0_5, x0_6, x0_7, x0_8, x0_9, x0_10⟩ | with_reducible exact ⟨cellDr x0_0, cellDr x0_1, cellDr x0_2, cellDr x0_3, cellDr x0_4, cellDr x0_5, cellDr x0_6, cellDr x0_7, cellDr x0_8, cellDr x0_9, cellDr x0_10⟩ | with_reducible exact ⟨cellA _ x0_0, cellA _ x0_1, cellA _ x0_2, cellA _ x0_3, cellA _ x0_4, cellA _ x0_5, cellA _ x0_6, cellA _ x0_7, cellA _ x0_8, cellA _ x0_9, cellA _ x0_10⟩ | with_reducible exact ⟨cellDr (cellA _ x0_0), cellDr (cellA _ x0_1), cellDr (cellA _ x0_2), cellDr (cellA _ x0_3), cellDr (cellA _ x0_4), cellDr (cellA _ x0_5), cellDr (cellA _ x0_6), cellDr (cellA _ x0_7), cellDr (cellA _ x0_8), cellDr (cellA _ x0_9), cellDr (cellA _ x0_10)⟩ | (go_keep; done)) (first | (go_at_call 12; (with_reducible refine (HT.out _ (by refine Keeps.trans KR.out ?_; repeat' (first | with_reducible exact Keeps.refl _ _ | with_reducible assumption | with_reducible refine Keeps.drewN ?_ _ | with_reducible refine Keeps.drew ?_ | with_reducible refine Keeps.alloc ?_ _)) (i : Int) HNI.out).mono ?_); rintro e wa ⟨va, rfl, hva, ka⟩; have kka : Keeps No wr wa := Keeps.trans (by repeat' (first | with_reducible exact Keeps.refl _ _ | with_reducible assumption | with_reducible refine Keeps.drewN ?_ _ | with_reducible refine Keeps.drew ?_ | with_reducible refine Keeps.alloc ?_ _)) ka; have HVA := hid hva.sl; have KA := hid kka; have ga := HBR.out.kept kka; have x0_0 := ga.cell 0 rfl; have x0_1 := ga.cell 1 rfl; have x0_2 := ga.cell 2 rfl; have x0_3 := ga.cell 3 rfl; have x0_4 := ga.cell 4 rfl; have x0_5 := ga.cell 5 rfl; have x0_6 := ga.cell 6 rfl; have x0_7 := ga.cell 7 rfl; have x0_8 := ga.cell 8 rfl; have x0_9 := ga.cell 9 rfl; have x0_10 := ga.cell 10 rfl; clear hva ka kka ga) | (go_at_call 13; (with_reducible refine (HMS.out _ (by refine Keeps.trans (KR.out.trans KA.out) ?_; repeat' (first | with_reducible exact Keeps.refl _ _ | with_reducible assumption | with_reducible refine Keeps.drewN ?_ _ | with_reducible refine Keeps.drew ?_ | with_reducible refine Keeps.alloc ?_ _)) (i : Int) HNI.out).mono ?_); rintro e wb ⟨vb, rfl, hvb, kb⟩; have kkb : Keeps No wa wb := Keeps.trans (by repeat' (first | with_reducible exact Keeps.refl _ _ | with_reducible assumption | with_reducible refine Keeps.drewN ?_ _ | with_reducible refine Keeps.drew ?_ | with_reducible refine Keeps.alloc ?_ _)) kb; have HVB := hid hvb; have KB := hid kkb; have KBW := hid (KA.out.trans kkb); have ga := HBR.out.kept KBW.out; have x0_0 := ga.cell 0 rfl; have x0_1 := ga.cell 1 rfl; have x0_2 := ga.cell 2 rfl; have x0_3 := ga.cell 3 rfl; have x0_4 := ga.cell 4 rfl; have x0_5 := ga.cell 5 rfl; have x0_6 := ga.cell 6 rfl; have x0_7 := ga.cell 7 rfl; have x0_8 := ga.cell 8 rfl; have x0_9 := ga.cell 9 rfl; have x0_10 := ga.cell 10 rfl; clear hvb kb kkb ga) | (go_at_call 11; (with_reducible refine (msame_true (HVA.out.keep (S := No) (KB.out.trans (by repeat' (first | with_reducible exact Keeps.refl _ _ | with_reducible assumption | with_reducible refine Keeps.drewN ?_ _ | with_reducible refine Keeps.drew ?_ | with_reducible refine Keeps.alloc ?_ _))) (fun _ _ h => h)) (HVB.out.keep (S := No) (by repeat' (first | with_reducible exact Keeps.refl _ _ | with_reducible assumption | with_reducible refine Keeps.drewN ?_ _ | with_reducible refine Keeps.drew ?_ | with_reducible refine Keeps.alloc ?_ _)) (fun _ _ h => h))).mono ?_); rintro e wz ⟨rfl, kz⟩; have kkz : Keeps No wr wz := KBW.out.trans (Keeps.trans (by repeat' (first | with_reducible exact Keeps.refl _ _ | with_reducible assumption | with_reducible refine Keeps.drewN ?_ _ | with_reducible refine Keeps.drew ?_ | with_reducible refine Keeps.alloc ?_ _)) kz); have KZ := hid kkz; have ga := HBR.out.kept kkz; have x0_0 := ga.cell 0 rfl; have x0_1 := ga.cell 1 rfl; have x0_2 := ga.cell 2 rfl; have x0_3 := ga.cell 3 rfl; have x0_4 := ga.cell 4 rfl; have x0_5 := ga.cell 5 rfl; have x0_6 := ga.cell 6 rfl; have x0_7 := ga.cell 7 rfl; have x0_8 := ga.cell 8 rfl; have x0_9 := ga.cell 9 rfl; have x0_10 := ga.cell 10 rfl; clear kz kkz ga)) | fail
      go_wp2_with fail
      go_roundw
      case rel => exact ⟨i + 1, by omega, by go_num, hid (KR.out.trans KZ.out)⟩
      case measure => simp [intOf]; omega
    · obtain rfl : i = 20 := by omega
      go_upto_region 9 with fail
      have x0_0 := HBR.out.cell 0 rfl
      have x0_1 := HBR.out.cell 1 rfl
      have x0_2 := HBR.out.cell 2 rfl
      have x0_3 := HBR.out.cell 3 rfl
      have x0_4 := HBR.out.cell 4 rfl
      have x0_5 := HBR.out.cell 5 rfl
      have x0_6 := HBR.out.cell 6 rfl
      have x0_7 := HBR.out.cell 7 rfl
      have x0_8 := HBR.out.cell 8 rfl
      have x0_9 := HBR.out.cell 9 rfl
      have x0_10 := HBR.out.cell 10 rfl
      first | go_region_held3 (fun w' => w'.cell? ⟨cb, 0, none⟩ = some (.slice sg C.sigs.length sgc) ∧ w'.cell? ⟨cb, 1, none⟩ = some (.slice ru C.ruls.length ruc) ∧ w'.cell? ⟨cb, 2, none⟩ = some (.slice tb C.tab.length tbc) ∧ w'.cell? ⟨cb, 3, none⟩ = some (.int .i64 C.b0) ∧ w'.cell? ⟨cb, 4, none⟩ = some (.int .i64 C.b1) ∧ w'.cell? ⟨cb, 5, none⟩ = some (.int .i64 C.b2) ∧ w'.cell? ⟨cb, 6, none⟩ = some (.int .i64 C.drain) ∧ w'.cell? ⟨cb, 7, none⟩ = some (.int .i64 C.pause) ∧ w'.cell? ⟨cb, 8, none⟩ = some (.int .i64 C.off) ∧ w'.cell? ⟨cb, 9, none⟩ = some (.bool C.brk) ∧ w'.cell? ⟨cb, 10, none⟩ = some (.int .i64 C.log)) (first | with_reducible exact ⟨x0_0, x0_1, x0_2, x0_3, x0_4, x0_5, x0_6, x0_7, x0_8, x0_9, x0_10⟩ | with_reducible exact ⟨cellDr x0_0, cellDr x0_1, cellDr x0_2, cellDr x0_3, cellDr x0_4, cellDr x0_5, cellDr x0_6, cellDr x0_7, cellDr x0_8, cellDr x0_9, cellDr x0_10⟩ | with_reducible exact ⟨cellA _ x0_0, cellA _ x0_1, cellA _ x0_2, cellA _ x0_3, cellA _ x0_4, cellA _ x0_5, cellA _ x0_6, cellA _ x0_7, cellA _ x0_8, cellA _ x0_9, cellA _ x0_10⟩ | with_reducible exact ⟨cellDr (cellA _ x0_0), cellDr (cellA _ x0_1), cellDr (cellA _ x0_2), cellDr (cellA _ x0_3), cellDr (cellA _ x0_4), cellDr (cellA _ x0_5), cellDr (cellA _ x0_6), cellDr (cellA _ x0_7), cellDr (cellA _ x0_8), cellDr (cellA _ x0_9), cellDr (cellA _ x0_10)⟩ | (go_keep; done)) (first | (go_at_call 12; (with_reducible refine (HT.out _ (by refine Keeps.trans KR.out ?_; repeat' (first | with_reducible exact Keeps.refl _ _ | with_reducible assumption | with_reducible refine Keeps.drewN ?_ _ | with_reducible refine Keeps.drew ?_ | with_reducible refine Keeps.alloc ?_ _)) now HNOW.out).mono ?_); rintro e wa ⟨va, rfl, hva, ka⟩; have kka : Keeps No wr wa := Keeps.trans (by repeat' (first | with_reducible exact Keeps.refl _ _ | with_reducible assumption | with_reducible refine Keeps.drewN ?_ _ | with_reducible refine Keeps.drew ?_ | with_reducible refine Keeps.alloc ?_ _)) ka; have HVA := hid hva.sl; have KA := hid kka; have ga := HBR.out.kept kka; have x0_0 := ga.cell 0 rfl; have x0_1 := ga.cell 1 rfl; have x0_2 := ga.cell 2 rfl; have x0_3 := ga.cell 3 rfl; have x0_4 := ga.cell 4 rfl; have x0_5 := ga.cell 5 rfl; have x0_6 := ga.cell 6 rfl; have x0_7 := ga.cell 7 rfl; have x0_8 := ga.cell 8 rfl; have x0_9 := ga.cell 9 rfl; have x0_10 := ga.cell 10 rfl; clear hva ka kka ga) | (go_at_call 13; (with_reducible refine (HMS.out _ (by refine Keeps.trans (KR.out.trans KA.out) ?_; repeat' (first | with_reducible exact Keeps.refl _ _ | with_reducible assumption | with_reducible refine Keeps.drewN ?_ _ | with_reducible refine Keeps.drew ?_ | with_reducible refine Keeps.alloc ?_ _)) now HNOW.out).mono ?_); rintro e wb ⟨vb, rfl, hvb, kb⟩; have kkb : Keeps No wa wb := Keeps.trans (by repeat' (first | with_reducible exact Keeps.refl _ _ | with_reducible assumption | with_reducible refine Keeps.drewN ?_ _ | with_reducible refine Keeps.drew ?_ | with_reducible refine Keeps.alloc ?_ _)) kb; have HVB := hid hvb; have KB := hid kkb; have KBW := hid (KA.out.trans kkb); have ga := HBR.out.kept KBW.out; have x0_0 := ga.cell 0 rfl; have x0_1 := ga.cell 1 rfl; have x0_2 := ga.cell 2 rfl; have x0_3 := ga.cell 3 rfl; have x0_4 := ga.cell 4 rfl; have x0_5 := ga.cell 5 rfl; have x0_6 := ga.cell 6 rfl; have x0_7 := ga.cell 7 rfl; have x0_8 := ga.cell 8 rfl; have x0_9 := ga.cell 9 rfl; have x0_10 := ga.cell 10 rfl; clear hvb kb kkb ga) | (go_at_call 11; (with_reducible refine (msame_true (HVA.out.keep (S := No) (KB.out.trans (by repeat' (first | with_reducible exact Keeps.refl _ _ | with_reducible assumption | with_reducible refine Keeps.drewN ?_ _ | with_reducible refine Keeps.drew ?_ | with_reducible refine Keeps.alloc ?_ _))) (fun _ _ h => h)) (HVB.out.keep (S := No) (by repeat' (first | with_reducible exact Keeps.refl _ _ | with_reducible assumption | with_reducible refine Keeps.drewN ?_ _ | with_reducible refine Keeps.drew ?_ | with_reducible refine Keeps.alloc ?_ _)) (fun _ _ h => h))).mono ?_); rintro e wz ⟨rfl, kz⟩; have kkz : Keeps No wr wz := KBW.out.trans (Keeps.trans (by repeat' (first | with_reducible exact Keeps.refl _ _ | with_reducible assumption | with_reducible refine Keeps.drewN ?_ _ | with_reducible refine Keeps.drew ?_ | with_reducible refine Keeps.alloc ?_ _)) kz); have KZ := hid kkz; have ga := HBR.out.kept kkz; have x0_0 := ga.cell 0 rfl; have x0_1 := ga.cell 1 rfl; have x0_2 := ga.cell 2 rfl; have x0_3 := ga.cell 3 rfl; have x0_4 := ga.cell 4 rfl; have x0_5 := ga.cell 5 rfl; have x0_6 := ga.cell 6 rfl; have x0_7 := ga.cell 7 rfl; have x0_8 := ga.cell 8 rfl; have x0_9 := ga.cell 9 rfl; have x0_10 := ga.cell 10 rfl; clear kz kkz ga)) | fail
      go_wp2_with fail
      go_ret
      exact ⟨rfl, (K5.out.trans (KR.out.trans KZ.out)).toBelow⟩

theorem own : ownKnob Try.prog.godebug = none := by kernel_rfl
theorem laidOut : laidOutB Try.prog = true := by kernel_rfl
set_option maxRecDepth 100000 in
theorem lifted (os : Os) (started : os.Started) (H : Type) (enc : TypeId × Value → H) :
    ReturnsInHanded {} Try.checked os 3 .any (Rows.tableSlotsSpec.pre6 enc Try.prog Try.f3 Rows.tableSlotsRow.domain false) (Rows.tableSlotsSpec.post enc Try.prog Try.f3 false true false false) := by
  refine returnsInHanded_of_change (C := Try.checked) own started (by kernel_rfl) Try.func3
    (ChangeSpec.witness6 (enc := enc) (C := Try.checked) false ⟨#[], #[.agg #[.slice none 0 0, .slice none 0 0, .int .u8 0, .int .u8 0, .int .u8 0, .int .u8 0, .bool false, .int .u8 0], .int .i64 0], []⟩ 8 (by kernel_rfl) (by kernel_rfl) (by kernel_rfl) (by kernel_rfl)) ?_
  intro W base args ds gs before hval0 hW hcnd _
  have hval : ∀ (j : Nat) t v, Try.f3.params[j]? = some t → args[j]? = some v → Value.okWide Try.prog W .any base t v := hval0
  have hW' := hW
  obtain ⟨p, q, hA0, hV, rfl, hfz, hnd⟩ := hW
  have hA : DataW.TrodAll enc Try.prog W 0 (fun _ => true) true Try.f3.params.toList args.toList ds p := hA0
  rw [Try.params3] at hA hval
  obtain ⟨v0, vs0, d0, ds0, p0, q0, hargs, rfl, rfl, h0, r0⟩ := trodAll_cons hA
  obtain ⟨v1, vs1, d1, ds1, p1, q1, rfl, rfl, rfl, h1, r1⟩ := trodAll_cons r0
  obtain ⟨rfl, rfl, rfl⟩ := trodAll_nil r1
  obtain rfl : args = #[v0, v1] := by cases args; simp_all
  obtain ⟨rfl, rfl⟩ := trodVars_none hV
  have k0 := h0
  have lt0 : ∀ x ∈ p0, x.block < W.heap.size := by obtain ⟨m, hm⟩ := k0; exact DataW.trod_lt m _ _ _ hm
  have k1 := h1
  have lt1 : ∀ x ∈ p1, x.block < W.heap.size := by obtain ⟨m, hm⟩ := k1; exact DataW.trod_lt m _ _ _ hm
  obtain ⟨rules, rv, slots, sv, ba, dr, pa, of_, br, lo, rfl, hd, u1, u2, u3, u4, u5⟩ := argDraft (hval 0 25 v0 rfl rfl) h0
  obtain ⟨a1, rfl, rfl, rfl, w1⟩ := open_int Try.underlying2 (hval 1 2 v1 rfl rfl) h1
  clear hA0 hval0
  refine (walk W rules rv slots sv ba dr pa of_ br lo hd u1 u2 u3 u4 u5 a1 w1).mono fun e W' ⟨he, bel⟩ => ?_
  subst he
  exact ⟨_, rfl, _, _, _, [], _, [], hW', trodAll_mk1 (shut_bool Try.underlying4 _), (trodAll_cons_mk (Below.trod laidOut (by kernel_rfl) (of_decide_eq_true (by kernel_rfl)) k0 bel lt0) (trodAll_cons_mk (Below.trod laidOut (by kernel_rfl) (of_decide_eq_true (by kernel_rfl)) k1 bel lt1) trodAll_mk0)), rfl, bel.frame _, fun h => by cases h⟩

theorem over : Rows.tableSlotsRow.holds Try.pinned (OpenSpec.ofChange Rows.tableSlotsSpec) :=
  OpenClaim.holds_of_wide 3 Try.f3 rfl rfl rfl rfl rfl rfl rfl ⟨rfl, rfl, rfl, rfl, rfl⟩ rfl rfl rfl rfl rfl (by kernel_rfl) Try.func3 (by kernel_rfl)
    (of_decide_eq_true (by kernel_rfl)) (by unfold Func.isWrapper; first | (rw [if_pos (by decide +kernel)]; kernel_rfl) | (rw [if_neg (by decide +kernel)]; exact ⟨rfl, rfl⟩))
    (fun os started H enc _ => lifted os started H enc)

theorem proved : Rows.TableSlotsSaid := over
#print axioms proved
end Go.Proofs.Ytfiijbpcaceibaa.tableSlots
