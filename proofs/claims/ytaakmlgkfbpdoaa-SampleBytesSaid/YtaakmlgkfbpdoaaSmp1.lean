/-
  A sample's payload: the program's Bytes, the document's Bytes.
-/
import Derived.Test.YtaakmlgkfbpdoaaInI
import Derived.Test.YtaakmlgkfbpdoaaJoin
import Derived.Test.YtaakmlgkfbpdoaaCfg
import Derived.Deep.RegionHeld3
import Derived.Deep.CutBlock
import Derived.Deep.DeepCutAuto
namespace Go.Proofs.Ytaakmlgkfbpdoaa
open Go.RowKit
set_option linter.unusedVariables false

/-- A sample's payload. -/
def payL (sg sq v : Int) (b : Bool) : List Int := [sg % 256, sq, flagB b] ++ int4 v

theorem payL_len (sg sq v : Int) (b : Bool) : (payL sg sq v b).length = 7 := by simp [payL, int4]

theorem own_pay {w : World} {v' : Value} {sg sq v : Int} {b : Bool} (h : w.ownsRow 0 5 1 v' ([IntKind.u8.wrap sg, sq, flagB b].length + (int4 v).length) (([IntKind.u8.wrap sg, sq, flagB b] ++ int4 v).map (Value.int .u8))) : w.ownsRow 0 5 1 v' 7 ((payL sg sq v b).map (Value.int .u8)) := by
  have hpl : ([IntKind.u8.wrap sg, sq, flagB b] ++ int4 v) = payL sg sq v b := by simp [payL, IntKind.wrap_u8]
  rw [hpl] at h
  exact h

def Smp (sg sq v : Int) (b : Bool) : Value := .agg #[.int .i64 sg, .int .u8 sq, .int .i64 v, .bool b]

set_option maxHeartbeats 4000000 in
set_option maxRecDepth 100000 in
theorem sbytes_any (w : World) (sg sq v : Int) (b : Bool) :
    Calls Try.prog 15 #[.agg #[.int .i64 sg, .int .u8 sq, .int .i64 v, .bool b]] w fun e w' => ∃ v', e = .returned v' ∧ w'.ownsRow 0 5 1 v' 7 ((payL sg sq v b).map (Value.int .u8)) ∧ Keeps No w w' ∧ ∀ k, v'.ownBlock = some k → w.heap.size ≤ k := by
  obtain ⟨W1, hW1⟩ : ∃ W1, w.alloc (.cells #[.int .i64 sg, .int .u8 sq, .int .i64 v, .bool b] 47) = W1 := ⟨_, rfl⟩
  have k1 : Keeps No w W1 := by rw [← hW1]; exact (Keeps.refl _ _).alloc _
  have hb : BlkL W1 w.heap.size 47 [.int .i64 sg, .int .u8 sq, .int .i64 v, .bool b] := by rw [← hW1]; exact heap_alloc_new w _
  have hz : W1.heap.size = w.heap.size + 1 := by rw [← hW1]; simp
  have HB := hid hb
  have HWE := hid hW1
  have K1 := hid k1
  have HZ := hid hz
  have HW0 := hid (fun (W : World) (k : Keeps No (W1.alloc (.cells #[.slice none 0 0] 78)) W) => (Wr.new W1).keep k (fun _ _ h => h))
  have HF0 := hid (show ∀ k, k = W1.heap.size → W1.heap.size ≤ k from fun k hk => by omega)
  clear hW1 k1 hb hz
  go_enter Try.func15, Try.ntmps15
  go_upto_region 1 with fail
  rw [HWE.out]
  have hbx := HB.out
  have x0 := hbx.cell (o := 0) rfl; have x1 := hbx.cell (o := 1) rfl; have x2 := hbx.cell (o := 2) rfl; have x3 := hbx.cell (o := 3) rfl
  clear hbx
  go_region_held3 (fun w' => w'.cell? ⟨w.heap.size, 0, none⟩ = some (.int .i64 sg) ∧ w'.cell? ⟨w.heap.size, 1, none⟩ = some (.int .u8 sq) ∧ w'.cell? ⟨w.heap.size, 2, none⟩ = some (.int .i64 v) ∧ w'.cell? ⟨w.heap.size, 3, none⟩ = some (.bool b)) (first | exact ⟨x0, x1, x2, x3⟩ | go_keep) (first | (go_at_call 33; (with_reducible refine (wint_any (HW3.out.keep (S := No) (by repeat' (first | with_reducible exact Keeps.refl _ _ | with_reducible assumption | with_reducible refine Keeps.drewN ?_ _ | with_reducible refine Keeps.drew ?_ | with_reducible refine Keeps.alloc ?_ _)) (fun _ _ h => h)) v (by simp)).mono ?_); rintro e w4 ⟨rfl, F4, hw, hu⟩; have HN4 := hid (newUpd (w := W1) (HN3.out.1) (by have hq := HN3.out.2; repeat' (first | with_reducible exact Keeps.refl _ _ | with_reducible assumption | with_reducible refine Keeps.drewN ?_ _ | with_reducible refine Keeps.drew ?_ | with_reducible refine Keeps.alloc ?_ _)) hu); have HW4 := hid hw; have hbx := HB.out.keep (w' := w4) (S := No) (by have := HN4.out.2; repeat' (first | with_reducible exact Keeps.refl _ _ | with_reducible assumption | with_reducible refine Keeps.drewN ?_ _ | with_reducible refine Keeps.drew ?_ | with_reducible refine Keeps.alloc ?_ _)) (fun h => h); have x0 := hbx.cell (o := 0) rfl; have x1 := hbx.cell (o := 1) rfl; have x2 := hbx.cell (o := 2) rfl; have x3 := hbx.cell (o := 3) rfl; clear hw hu hbx) | (go_at_call 32; (with_reducible refine (wflag_any (HW2.out.keep (S := No) (by repeat' (first | with_reducible exact Keeps.refl _ _ | with_reducible assumption | with_reducible refine Keeps.drewN ?_ _ | with_reducible refine Keeps.drew ?_ | with_reducible refine Keeps.alloc ?_ _)) (fun _ _ h => h)) b (by simp)).mono ?_); rintro e w3 ⟨rfl, F3, hw, hu⟩; have HN3 := hid (newUpd (w := W1) (HN2.out.1) (by have hq := HN2.out.2; repeat' (first | with_reducible exact Keeps.refl _ _ | with_reducible assumption | with_reducible refine Keeps.drewN ?_ _ | with_reducible refine Keeps.drew ?_ | with_reducible refine Keeps.alloc ?_ _)) hu); have HW3 := hid hw; have hbx := HB.out.keep (w' := w3) (S := No) (by have := HN3.out.2; repeat' (first | with_reducible exact Keeps.refl _ _ | with_reducible assumption | with_reducible refine Keeps.drewN ?_ _ | with_reducible refine Keeps.drew ?_ | with_reducible refine Keeps.alloc ?_ _)) (fun h => h); have x0 := hbx.cell (o := 0) rfl; have x1 := hbx.cell (o := 1) rfl; have x2 := hbx.cell (o := 2) rfl; have x3 := hbx.cell (o := 3) rfl; clear hw hu hbx) | (go_at_call 31; (with_reducible refine (wbyte_any (HW1.out.keep (S := No) (by repeat' (first | with_reducible exact Keeps.refl _ _ | with_reducible assumption | with_reducible refine Keeps.drewN ?_ _ | with_reducible refine Keeps.drew ?_ | with_reducible refine Keeps.alloc ?_ _)) (fun _ _ h => h)) _ (by simp)).mono ?_); rintro e w2 ⟨rfl, F2, hw, hu⟩; have HN2 := hid (newUpd (w := W1) (HN1.out.1) (by have hq := HN1.out.2; repeat' (first | with_reducible exact Keeps.refl _ _ | with_reducible assumption | with_reducible refine Keeps.drewN ?_ _ | with_reducible refine Keeps.drew ?_ | with_reducible refine Keeps.alloc ?_ _)) hu); have HW2 := hid hw; have hbx := HB.out.keep (w' := w2) (S := No) (by have := HN2.out.2; repeat' (first | with_reducible exact Keeps.refl _ _ | with_reducible assumption | with_reducible refine Keeps.drewN ?_ _ | with_reducible refine Keeps.drew ?_ | with_reducible refine Keeps.alloc ?_ _)) (fun h => h); have x0 := hbx.cell (o := 0) rfl; have x1 := hbx.cell (o := 1) rfl; have x2 := hbx.cell (o := 2) rfl; have x3 := hbx.cell (o := 3) rfl; clear hw hu hbx) | (go_at_call 31; (with_reducible refine (wbyte_any (HW0.out _ (by repeat' (first | with_reducible exact Keeps.refl _ _ | with_reducible assumption | with_reducible refine Keeps.drewN ?_ _ | with_reducible refine Keeps.drew ?_ | with_reducible refine Keeps.alloc ?_ _))) _ (by simp)).mono ?_); rintro e w1 ⟨rfl, F1, hw, hu⟩; have HN1 := hid (newUpd (w := W1) (HF0.out) (by repeat' (first | with_reducible exact Keeps.refl _ _ | with_reducible assumption | with_reducible refine Keeps.drewN ?_ _ | with_reducible refine Keeps.drew ?_ | with_reducible refine Keeps.alloc ?_ _)) hu); have HW1 := hid hw; have hbx := HB.out.keep (w' := w1) (S := No) (by have := HN1.out.2; repeat' (first | with_reducible exact Keeps.refl _ _ | with_reducible assumption | with_reducible refine Keeps.drewN ?_ _ | with_reducible refine Keeps.drew ?_ | with_reducible refine Keeps.alloc ?_ _)) (fun h => h); have x0 := hbx.cell (o := 0) rfl; have x1 := hbx.cell (o := 1) rfl; have x2 := hbx.cell (o := 2) rfl; have x3 := hbx.cell (o := 3) rfl; clear hw hu hbx) | (go_at_call 34; (with_reducible refine (wbytes_any (HW4.out.keep (S := No) (by repeat' (first | with_reducible exact Keeps.refl _ _ | with_reducible assumption | with_reducible refine Keeps.drewN ?_ _ | with_reducible refine Keeps.drew ?_ | with_reducible refine Keeps.alloc ?_ _)) (fun _ _ h => h)) (by simp [int4])).mono ?_); rintro e w5 ⟨v5, rfl, ho, hk, hbn⟩; have HO := hid ho; have HK := hid hk; have HBN := hid hbn; have hbx := HB.out.keep (w' := w5) (S := No) (by have := HN4.out.2.trans (Keeps.trans (by repeat' (first | with_reducible exact Keeps.refl _ _ | with_reducible assumption | with_reducible refine Keeps.drewN ?_ _ | with_reducible refine Keeps.drew ?_ | with_reducible refine Keeps.alloc ?_ _)) HK.out); repeat' (first | with_reducible exact Keeps.refl _ _ | with_reducible assumption | with_reducible refine Keeps.drewN ?_ _ | with_reducible refine Keeps.drew ?_ | with_reducible refine Keeps.alloc ?_ _)) (fun h => h); have x0 := hbx.cell (o := 0) rfl; have x1 := hbx.cell (o := 1) rfl; have x2 := hbx.cell (o := 2) rfl; have x3 := hbx.cell (o := 3) rfl; clear ho hk hbn hbx))
  have hfin := (HN4.out.2.trans HK.out)
  have ho := HO.out
  have hbn := HBN.out
  have hpl : ([] ++ [IntKind.u8.wrap sg] ++ [sq] ++ [flagB b] ++ int4 v) = payL sg sq v b := by simp [payL, IntKind.wrap_u8]
  rw [hpl, payL_len] at ho
  obtain ⟨a5, c5, rfl⟩ := own_any ho
  have HO' := hid ho
  have HFIN := hid hfin
  have HBN' := hid hbn
  have HS4 := hid (HN4.out.2.size)
  clear ho hbn hpl hfin x0 x1 x2 x3 HO HK HBN HN1 HN2 HN3 HN4 HW0 HW1 HW2 HW3 HW4
  go_wp2_with fail
  go_ret
  exact ⟨_, rfl, HO'.out, K1.out.trans HFIN.out, fun k hk => by have h1 := HBN'.out k hk; have h2 := HS4.out; have h3 := HZ.out; omega⟩

set_option maxHeartbeats 4000000 in
set_option maxRecDepth 100000 in
theorem rsbytes_any (w : World) (sg sq v : Int) (b : Bool) :
    Calls Try.prog 20 #[.agg #[.int .i64 sg, .int .u8 sq, .int .i64 v, .bool b]] w fun e w' => ∃ v', e = .returned v' ∧ w'.ownsRow 0 5 1 v' 7 ((payL sg sq v b).map (Value.int .u8)) ∧ Keeps No w w' := by
  obtain ⟨W1, hW1⟩ : ∃ W1, w.alloc (.cells #[.int .i64 sg, .int .u8 sq, .int .i64 v, .bool b] 47) = W1 := ⟨_, rfl⟩
  have k1 : Keeps No w W1 := by rw [← hW1]; exact (Keeps.refl _ _).alloc _
  have hb : BlkL W1 w.heap.size 47 [.int .i64 sg, .int .u8 sq, .int .i64 v, .bool b] := by rw [← hW1]; exact heap_alloc_new w _
  have HB := hid hb
  have HWE := hid hW1
  have K1 := hid k1
  clear hW1 k1 hb
  go_enter Try.func20, Try.ntmps20
  go_upto_region 1 with fail
  rw [HWE.out]
  have hbx := HB.out
  have x0 := hbx.cell (o := 0) rfl; have x1 := hbx.cell (o := 1) rfl; have x2 := hbx.cell (o := 2) rfl; have x3 := hbx.cell (o := 3) rfl
  clear hbx
  go_region_held3 (fun w' => w'.cell? ⟨w.heap.size, 0, none⟩ = some (.int .i64 sg) ∧ w'.cell? ⟨w.heap.size, 1, none⟩ = some (.int .u8 sq) ∧ w'.cell? ⟨w.heap.size, 2, none⟩ = some (.int .i64 v) ∧ w'.cell? ⟨w.heap.size, 3, none⟩ = some (.bool b)) (first | exact ⟨x0, x1, x2, x3⟩ | go_keep) (first | (go_at_call 42; (with_reducible refine (mflag_any _ _).mono ?_); rintro e w' ⟨rfl, rfl⟩) | (go_at_call 43; (with_reducible refine (mint_any _ _).mono ?_); rintro e w2 ⟨v2, rfl, hv, hk⟩; have HV := hid hv; have HK2 := hid hk; have hbx := HB.out.keep (w' := w2) (S := No) (Keeps.trans (by repeat' (first | with_reducible exact Keeps.refl _ _ | with_reducible assumption | with_reducible refine Keeps.drewN ?_ _ | with_reducible refine Keeps.drew ?_ | with_reducible refine Keeps.alloc ?_ _)) hk) (fun h => h); have x0 := hbx.cell (o := 0) rfl; have x1 := hbx.cell (o := 1) rfl; have x2 := hbx.cell (o := 2) rfl; have x3 := hbx.cell (o := 3) rfl; clear hv hk hbx) | (go_at_call 41; (with_reducible refine (mjoin_any (p := [IntKind.u8.wrap sg, sq, flagB b]) (q := int4 v) ?ha ?hb ?hl).mono ?_); (case ha => exact Sl.keep (Sl.new W1 #[.int .u8 (IntKind.u8.wrap sg), .int .u8 sq, .int .u8 (flagB b)] 5 1 3 rfl (by decide)) (Keeps.trans (by repeat' (first | with_reducible exact Keeps.refl _ _ | with_reducible assumption | with_reducible refine Keeps.drewN ?_ _ | with_reducible refine Keeps.drew ?_ | with_reducible refine Keeps.alloc ?_ _)) HK2.out) (fun _ _ h => h)); (case hb => exact HV.out); (case hl => simp [int4]); rintro e w3 ⟨v3, rfl, ho, hk, hbn⟩; have KF : Hid (Keeps No W1 w3) := hid (Keeps.trans (Keeps.trans (((Keeps.refl No W1).alloc _).drew) HK2.out) hk); have HO : Hid (w3.ownsRow 0 5 1 v3 7 ((payL sg sq v b).map (Value.int .u8))) := hid (own_pay ho); have hbx := HB.out.keep (w' := w3) (S := No) KF.out (fun h => h); have x0 := hbx.cell (o := 0) rfl; have x1 := hbx.cell (o := 1) rfl; have x2 := hbx.cell (o := 2) rfl; have x3 := hbx.cell (o := 3) rfl; clear ho hk hbn hbx) | (go_at_call 41; (with_reducible refine (mjoin_any (p := [IntKind.u8.wrap sg, sq, flagB b]) (q := int4 v) ?ha ?hb ?hl).mono ?_); (case ha => exact Sl.new w2 #[.int .u8 (IntKind.u8.wrap sg), .int .u8 sq, .int .u8 (flagB b)] 5 1 3 rfl (by decide)); (case hb => exact Sl.keep (S := No) HV.out ((Keeps.refl No w2).alloc _) (fun _ _ h => h)); (case hl => simp [int4]); rintro e w3 ⟨v3, rfl, ho, hk, hbn⟩; have KF : Hid (Keeps No W1 w3) := hid (Keeps.trans (Keeps.trans (Keeps.refl No W1).drew HK2.out) (Keeps.trans ((Keeps.refl No w2).alloc _) hk)); have HO : Hid (w3.ownsRow 0 5 1 v3 7 ((payL sg sq v b).map (Value.int .u8))) := hid (own_pay ho); have hbx := HB.out.keep (w' := w3) (S := No) KF.out (fun h => h); have x0 := hbx.cell (o := 0) rfl; have x1 := hbx.cell (o := 1) rfl; have x2 := hbx.cell (o := 2) rfl; have x3 := hbx.cell (o := 3) rfl; clear ho hk hbn hbx))
  all_goals
    have ho := HO.out
    obtain ⟨a5, c5, rfl⟩ := own_any ho
    have HO' := hid ho
    clear ho x0 x1 x2 x3 HO HK2 HV
    go_wp2_with fail
    go_ret
    exact ⟨_, rfl, HO'.out, K1.out.trans KF.out⟩

end Go.Proofs.Ytaakmlgkfbpdoaa
