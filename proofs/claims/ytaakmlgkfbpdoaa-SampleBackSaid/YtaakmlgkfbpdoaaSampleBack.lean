/- A sample is read as it was written, Bad, if its value may not be. No conditions. -/
import Derived.Test.YtaakmlgkfbpdoaaRows
import Derived.Test.YtaakmlgkfbpdoaaArgs
import Derived.Test.YtaakmlgkfbpdoaaSmp1
import Derived.Test.YtaakmlgkfbpdoaaSmp7
import Derived.Test.YtaakmlgkfbpdoaaSmp3
import Derived.ProofKit
import Derived.OpenShut
import Derived.Deep.RegionWith
namespace Go.Proofs.Ytaakmlgkfbpdoaa.sampleBack
open Go.ChangeShapes Go.WideShapes Go.ChangeAt Go.RowKit
open Go.ChangeMaps (open_string shut_string)
set_option linter.unusedVariables false

theorem own_sl {w : World} {v' : Value} {sg sq v : Int} {b : Bool} (h : w.ownsRow 0 5 1 v' 7 ((payL sg sq v b).map (Value.int .u8))) : SlB w v' (payL sg sq v b) := by
  unfold SlB
  rw [payL_len]
  exact Sl.ofOwn h

theorem sg_cell {w : World} {g cap j : Nat} {u : Value} (h : Sl w 2 (.slice (some ⟨g, 0, none⟩) 3 cap) 3 (sigs3.flatMap encSig)) (hu : (sigs3.flatMap encSig)[j]? = some u) : w.cell? ⟨g, j, none⟩ = some u := by
  obtain ⟨g', off, he, _, hc⟩ := Sl.cellAt h hu
  simp only [Option.some.injEq, Addr.mk.injEq, and_true] at he
  obtain ⟨rfl, rfl⟩ := he
  simpa using hc

theorem pay_bytes {sg sq v : Int} {b : Bool} (h0 : 0 ≤ sg) (h1 : sg ≤ 255) (q0 : 0 ≤ sq) (q1 : sq ≤ 255) : Bytes (payL sg sq v b) := by
  intro x hx
  have hf : 0 ≤ flagB b ∧ flagB b ≤ 255 := by cases b <;> decide
  unfold payL int4 at hx
  simp at hx
  omega

theorem back_any {k : Nat} (hk : k < 3) (sq v : Int) (b : Bool) (v0 : -2147483648 ≤ v) (v1 : v ≤ 2147483647) :
    rdSmp (payL k sq v b) sigs3 = ⟨k, sq, v, b || (decide (v < (sigs3[k]'(by simpa [sigs3] using hk)).mn) || decide ((sigs3[k]'(by simpa [sigs3] using hk)).mx < v)), 0⟩ := by
  have hlow := int4_low v
  have hlv : lowI v = v := by unfold lowI; omega
  rw [hlv] at hlow
  have hkm : (k : Int) % 256 = k := by omega
  have hfb : ¬ 1 < flagB b := by cases b <;> decide
  have hfe : (flagB b == 1) = b := by cases b <;> decide
  have hkl : k < sigs3.length := by simpa [sigs3] using hk
  show rdSmp [(k : Int) % 256, sq, flagB b, v / 16777216 % 256, v / 65536 % 256, v / 256 % 256, v % 256] sigs3 = _
  rw [hkm]
  simp only [rdSmp, if_neg hfb, Int.toNat_natCast, dif_pos hkl, hlow, hfe]

set_option maxHeartbeats 8000000 in
set_option maxRecDepth 100000 in
theorem walk (w : World) (sg : Int) (wsg : (Lit.int .u8 sg).wf = true) (sq : Int) (wsq : (Lit.int .u8 sq).wf = true) (v : Int) (wv : (Lit.int .i32 v).wf = true) (b : Bool) :
    Calls Try.prog 5 #[.int .u8 sg, .int .u8 sq, .int .i32 v, .bool b] w fun e w' => e = .returned (.bool true) ∧ Below w.heap.size w w' := by
  obtain ⟨n0, n1⟩ := bounds_u8 wsg
  obtain ⟨q0, q1⟩ := bounds_u8 wsq
  obtain ⟨v0, v1⟩ := bounds_i32 wv
  obtain ⟨j, hj, hj3⟩ : ∃ j : Nat, sg.tmod 3 = j ∧ j < 3 := ⟨(sg.tmod 3).toNat, by have := Int.tmod_eq_emod_of_nonneg (b := 3) n0; omega, by have := Int.tmod_eq_emod_of_nonneg (b := 3) n0; omega⟩
  have HJ := hid hj
  clear hj wsg wsq wv
  rcases (show j = 0 ∨ j = 1 ∨ j = 2 by omega) with rfl | rfl | rfl
  · have hbk : rdSmp (payL 0 sq v b) sigs3 = ⟨0, sq, v, b || (decide (v < -100) || decide (300 < v)), 0⟩ := back_any (k := 0) (by decide) sq v b v0 v1
    obtain ⟨lo, D1⟩ : ∃ x, decide (v < (-100 : Int)) = x := ⟨_, rfl⟩
    obtain ⟨hi, D2⟩ : ∃ x, decide ((300 : Int) < v) = x := ⟨_, rfl⟩
    rw [D1, D2] at hbk
    have HBK := hid hbk
    have D3 : decide (v > 300) = hi := D2
    have hj := HJ.out
    have hj2 : sg % 3 = 0 := (Int.tmod_eq_emod_of_nonneg (b := 3) n0).symm.trans hj
    clear hbk D2 HJ
    go_enter Try.func5, Try.ntmps5
    go_wp2_with fail
    with_reducible refine (gaps_true _).mono ?_
    rintro e w1 ⟨rfl, k⟩
    have K1 := hid (k)
    clear k
    go_wp2_with fail
    obtain ⟨W2, hW2⟩ : ∃ W2, w1.alloc (.cells #[.int .i64 0, .int .u8 sq, .int .i64 v, .bool b] 47) = W2 := ⟨_, rfl⟩
    rw [hW2]
    have hk2 : Keeps No w1 W2 := by rw [← hW2]; exact (Keeps.refl _ _).alloc _
    have hb2 : BlkL W2 w1.heap.size 47 [.int .i64 0, .int .u8 sq, .int .i64 v, .bool b] := by rw [← hW2]; exact heap_alloc_new w1 _
    have K2 := hid (K1.out.trans hk2)
    have HB2 := hid hb2
    clear hW2 hk2 hb2
    with_reducible refine (sbytes_any W2 0 sq v b).mono ?_
    rintro e w3 ⟨vb, rfl, ho, k, hn⟩
    have hsl := own_sl ho
    obtain ⟨va, vc, rfl⟩ := own_any ho
    have HVB := hid hsl
    have K3 := hid (K2.out.trans k)
    have HB3 := hid (HB2.out.keep k (fun h => h))
    clear ho hsl k hn HB2
    go_wp2_with fail
    with_reducible refine (signals_any _).mono ?_
    rintro e w4 ⟨rfl, hsg, k⟩
    have HSG := hid hsg
    have HVB4 := hid (Sl.keep (S := No) HVB.out k (fun _ _ h => h))
    have K4 := hid (K3.out.trans k)
    have HB4 := hid (HB3.out.keep k (fun h => h))
    clear hsg k HB3 HVB
    go_wp2_with fail
    have c1 := sread_any (p := payL 0 sq v b) (L := sigs3) (sv := .slice (some ⟨w3.heap.size, 0, none⟩) 3 3) HVB4.out (pay_bytes (by omega) (by omega) q0 q1) (by rw [payL_len]; decide) HSG.out (by decide)
    rw [HBK.out] at c1
    unfold RdA.val at c1
    dsimp only at c1
    have C1 := hid c1
    clear c1
    with_reducible refine C1.out.mono ?_
    rintro e w5 ⟨rfl, k⟩
    have K5 := hid (K4.out.trans k)
    have HB5 := hid (HB4.out.keep k (fun h => h))
    clear k HB4 HVB4 HSG C1
    obtain ⟨W6, hW6⟩ : ∃ W6, w5.alloc (.cells #[.int .i64 0, .int .u8 sq, .int .i64 v, .bool (b || (lo || hi))] 47) = W6 := ⟨_, rfl⟩
    have hk6 : Keeps No w5 W6 := by rw [← hW6]; exact (Keeps.refl _ _).alloc _
    have hr6 : BlkL W6 w5.heap.size 47 [.int .i64 0, .int .u8 sq, .int .i64 v, .bool (b || (lo || hi))] := by rw [← hW6]; exact heap_alloc_new w5 _
    have hz6 : W6.heap.size = w5.heap.size + 1 := by rw [← hW6]; simp
    have K6 := hid (K5.out.trans hk6)
    have hb6 := HB5.out.keep hk6 (fun h => h)
    have hlt6 := HB5.out.lt
    have hkz1 := K1.out.size
    have HW6 := hid hW6
    have HB6 := hid hb6
    have HR6 := hid hr6
    have hgz : w1.heap.size ≠ W6.heap.size := by omega
    have HZ6 := hid hz6
    clear hW6 hk6 hz6 HB5
    go_upto_region 6 with fail
    rw [HW6.out]
    have x0 := hb6.cell (o := 0) rfl
    have x0a := cellA (.cells #[.int .i64 0, .int .i64 0] 44) x0
    clear hb6 hr6 hj hj2
    go_cut [13] (fun v13 wx => ∃ G, v13 = .pointer (some ⟨G, 0, none⟩) ∧ Hid (BlkL wx G 44 [.int .i64 (-100), .int .i64 300]) ∧ Hid (BlkL wx w1.heap.size 47 [.int .i64 0, .int .u8 sq, .int .i64 v, .bool b]) ∧ Hid (BlkL wx w5.heap.size 47 [.int .i64 0, .int .u8 sq, .int .i64 v, .bool (b || (lo || hi))]) ∧ Hid (Keeps No w wx))
    case first =>
      go_wp2_with fail
      go_region_with ((go_at_call 17; (with_reducible refine (signals_any _).mono ?_); rintro e w7 ⟨rfl, hsg, k⟩; have HSG := hid hsg; have HKK := hid k; have K67 : Hid (Keeps No W6 w7) := hid (Keeps.trans (by repeat' (first | with_reducible exact Keeps.refl _ _ | with_reducible assumption | with_reducible refine Keeps.drewN ?_ _ | with_reducible refine Keeps.drew ?_ | with_reducible refine Keeps.alloc ?_ _)) k); have x0 := K67.out.cell (fun h => h) x0; have x0a := cellA (.cells #[.int .i64 0, .int .i64 0] 44) x0; (first | (refine imp2 (p := w7.cell? ⟨W6.heap.size, 0, none⟩ = some (.int .i64 (-100)) ∧ w7.cell? ⟨W6.heap.size, 1, none⟩ = some (.int .i64 300)) ?_ ?_; (focus (exact ⟨sg_cell hsg rfl, sg_cell hsg rfl⟩)); rintro ⟨c0, c1⟩; have c0a := cellA (.cells #[.int .i64 0, .int .i64 0] 44) c0; have c1a := cellA (.cells #[.int .i64 0, .int .i64 0] 44) c1) | (refine imp2 (p := w7.cell? ⟨W6.heap.size + 1, 0, none⟩ = some (.int .i64 (-100)) ∧ w7.cell? ⟨W6.heap.size + 1, 1, none⟩ = some (.int .i64 300)) ?_ ?_; (focus (refine ⟨?_, ?_⟩; (focus (simpa using sg_cell hsg (j := 0) rfl)); (focus (simpa using sg_cell hsg (j := 1) rfl)))); rintro ⟨c0, c1⟩)); first | (refine imp2 (p := Keeps No (W6.alloc (.cells #[.int .i64 0, .int .i64 0] 44)) w7) ?_ ?_; (focus (refine Keeps.trans (b := _) ?_ k; repeat' (first | with_reducible exact Keeps.refl _ _ | with_reducible assumption | with_reducible refine Keeps.drewN ?_ _ | with_reducible refine Keeps.drew ?_ | with_reducible refine Keeps.alloc ?_ _))); intro kz; have hnb := (show BlkL (W6.alloc (.cells #[.int .i64 0, .int .i64 0] 44)) W6.heap.size 44 [.int .i64 0, .int .i64 0] from heap_alloc_new W6 _).keep kz (fun h => h); have n0 := hnb.cell (o := 0) rfl; have n1 := hnb.cell (o := 1) rfl; have e0 := hnb.free 0; have e1 := hnb.free 1; have HNB := hid hnb; clear hnb k kz) | (clear k)))
      all_goals
        clear x0 x0a c0 c1
        go_wp2_with fail
        go_meet
        first
          | (obtain ⟨WX, hwx⟩ : ∃ WX, w7.alloc (.cells #[.int .i64 (-100), .int .i64 300] 44) = WX := ⟨_, rfl⟩
             rw [hwx]
             have hkx : Keeps No w7 WX := by rw [← hwx]; exact (Keeps.refl _ _).alloc _
             exact ⟨w7.heap.size, rfl, hid (by rw [← hwx]; exact heap_alloc_new w7 _), hid ((HB6.out.keep K67.out (fun h => h)).keep hkx (fun h => h)), hid ((HR6.out.keep K67.out (fun h => h)).keep hkx (fun h => h)), hid ((K6.out.trans K67.out).trans hkx)⟩)
          | (obtain ⟨WX, hwx⟩ : ∃ WX, (w7.setCell ⟨W6.heap.size, 0, none⟩ (.int .i64 (-100))).setCell ⟨W6.heap.size, 1, none⟩ (.int .i64 300) = WX := ⟨_, rfl⟩
             rw [hwx]
             have hkx : Keeps (fun i => i = W6.heap.size) w7 WX := by rw [← hwx]; exact (Keeps.refl _ _).at.at
             exact ⟨W6.heap.size, rfl, hid (by rw [← hwx]; exact (HNB.out.put 0 _ rfl).put 1 _ rfl), hid ((HB6.out.keep K67.out (fun h => h)).keep hkx (fun e => hgz e)), hid ((HR6.out.keep K67.out (fun h => h)).keep hkx (fun e => by have := HZ6.out; omega)), hid ((K6.out.trans K67.out).trans' hkx (T := No) (fun _ _ h => h) (fun i hi e => by have := K6.out.size; omega))⟩)
    case rest =>
    obtain ⟨G, rfl, HGX, HBX, HRX, HKX⟩ := hcut
    clear x0 x0a HB6 HR6
    have g0 := HGX.out.cell (o := 0) rfl
    have g1 := HGX.out.cell (o := 1) rfl
    have y0 := HBX.out.cell (o := 0) rfl
    have y1 := HBX.out.cell (o := 1) rfl
    have y2 := HBX.out.cell (o := 2) rfl
    have y3 := HBX.out.cell (o := 3) rfl
    have u3 := HBX.out.free 3
    cases b <;> cases lo <;> cases hi
    · go_upto_region 8 with fail
      obtain ⟨WZ, hWZ⟩ : ∃ WZ, wc.setCell ⟨w1.heap.size, 3, none⟩ (.bool false) = WZ := ⟨_, rfl⟩
      rw [hWZ]
      have hkz : Keeps (fun i => i = w1.heap.size) wc WZ := by rw [← hWZ]; exact (Keeps.refl _ _).at
      have hsz : BlkL WZ w1.heap.size 47 [.int .i64 0, .int .u8 sq, .int .i64 v, .bool false] := by rw [← hWZ]; exact HBX.out.put 3 _ rfl
      have hrz : BlkL WZ w5.heap.size 47 [.int .i64 0, .int .u8 sq, .int .i64 v, .bool false] := HRX.out.keep hkz (fun e => by have := hlt6; omega)
      have KZ := hid (HKX.out.trans' hkz (T := No) (fun _ _ h => h) (fun i hi e => by have := hkz1; omega))
      have hq := smp_eql 0 sq v false
      have hgd := smp_guard
      clear g0 g1 y0 y1 y2 y3 u3 hWZ hkz HBX HRX HKX
      have x0 := hsz.cell (o := 0) rfl
      have x1 := hsz.cell (o := 1) rfl
      have x2 := hsz.cell (o := 2) rfl
      have x3 := hsz.cell (o := 3) rfl
      have z0 := hrz.cell (o := 0) rfl
      have z1 := hrz.cell (o := 1) rfl
      have z2 := hrz.cell (o := 2) rfl
      have z3 := hrz.cell (o := 3) rfl
      clear hsz hrz
      go_wp2_with fail
      go_ret
      exact ⟨by simp, KZ.out.toBelow⟩
    · go_upto_region 8 with fail
      obtain ⟨WZ, hWZ⟩ : ∃ WZ, wc.setCell ⟨w1.heap.size, 3, none⟩ (.bool true) = WZ := ⟨_, rfl⟩
      rw [hWZ]
      have hkz : Keeps (fun i => i = w1.heap.size) wc WZ := by rw [← hWZ]; exact (Keeps.refl _ _).at
      have hsz : BlkL WZ w1.heap.size 47 [.int .i64 0, .int .u8 sq, .int .i64 v, .bool true] := by rw [← hWZ]; exact HBX.out.put 3 _ rfl
      have hrz : BlkL WZ w5.heap.size 47 [.int .i64 0, .int .u8 sq, .int .i64 v, .bool true] := HRX.out.keep hkz (fun e => by have := hlt6; omega)
      have KZ := hid (HKX.out.trans' hkz (T := No) (fun _ _ h => h) (fun i hi e => by have := hkz1; omega))
      have hq := smp_eql 0 sq v true
      have hgd := smp_guard
      clear g0 g1 y0 y1 y2 y3 u3 hWZ hkz HBX HRX HKX
      have x0 := hsz.cell (o := 0) rfl
      have x1 := hsz.cell (o := 1) rfl
      have x2 := hsz.cell (o := 2) rfl
      have x3 := hsz.cell (o := 3) rfl
      have z0 := hrz.cell (o := 0) rfl
      have z1 := hrz.cell (o := 1) rfl
      have z2 := hrz.cell (o := 2) rfl
      have z3 := hrz.cell (o := 3) rfl
      clear hsz hrz
      go_wp2_with fail
      go_ret
      exact ⟨by simp, KZ.out.toBelow⟩
    · go_upto_region 8 with fail
      obtain ⟨WZ, hWZ⟩ : ∃ WZ, wc.setCell ⟨w1.heap.size, 3, none⟩ (.bool true) = WZ := ⟨_, rfl⟩
      rw [hWZ]
      have hkz : Keeps (fun i => i = w1.heap.size) wc WZ := by rw [← hWZ]; exact (Keeps.refl _ _).at
      have hsz : BlkL WZ w1.heap.size 47 [.int .i64 0, .int .u8 sq, .int .i64 v, .bool true] := by rw [← hWZ]; exact HBX.out.put 3 _ rfl
      have hrz : BlkL WZ w5.heap.size 47 [.int .i64 0, .int .u8 sq, .int .i64 v, .bool true] := HRX.out.keep hkz (fun e => by have := hlt6; omega)
      have KZ := hid (HKX.out.trans' hkz (T := No) (fun _ _ h => h) (fun i hi e => by have := hkz1; omega))
      have hq := smp_eql 0 sq v true
      have hgd := smp_guard
      clear g0 g1 y0 y1 y2 y3 u3 hWZ hkz HBX HRX HKX
      have x0 := hsz.cell (o := 0) rfl
      have x1 := hsz.cell (o := 1) rfl
      have x2 := hsz.cell (o := 2) rfl
      have x3 := hsz.cell (o := 3) rfl
      have z0 := hrz.cell (o := 0) rfl
      have z1 := hrz.cell (o := 1) rfl
      have z2 := hrz.cell (o := 2) rfl
      have z3 := hrz.cell (o := 3) rfl
      clear hsz hrz
      go_wp2_with fail
      go_ret
      exact ⟨by simp, KZ.out.toBelow⟩
    · go_upto_region 8 with fail
      obtain ⟨WZ, hWZ⟩ : ∃ WZ, wc.setCell ⟨w1.heap.size, 3, none⟩ (.bool true) = WZ := ⟨_, rfl⟩
      rw [hWZ]
      have hkz : Keeps (fun i => i = w1.heap.size) wc WZ := by rw [← hWZ]; exact (Keeps.refl _ _).at
      have hsz : BlkL WZ w1.heap.size 47 [.int .i64 0, .int .u8 sq, .int .i64 v, .bool true] := by rw [← hWZ]; exact HBX.out.put 3 _ rfl
      have hrz : BlkL WZ w5.heap.size 47 [.int .i64 0, .int .u8 sq, .int .i64 v, .bool true] := HRX.out.keep hkz (fun e => by have := hlt6; omega)
      have KZ := hid (HKX.out.trans' hkz (T := No) (fun _ _ h => h) (fun i hi e => by have := hkz1; omega))
      have hq := smp_eql 0 sq v true
      have hgd := smp_guard
      clear g0 g1 y0 y1 y2 y3 u3 hWZ hkz HBX HRX HKX
      have x0 := hsz.cell (o := 0) rfl
      have x1 := hsz.cell (o := 1) rfl
      have x2 := hsz.cell (o := 2) rfl
      have x3 := hsz.cell (o := 3) rfl
      have z0 := hrz.cell (o := 0) rfl
      have z1 := hrz.cell (o := 1) rfl
      have z2 := hrz.cell (o := 2) rfl
      have z3 := hrz.cell (o := 3) rfl
      clear hsz hrz
      go_wp2_with fail
      go_ret
      exact ⟨by simp, KZ.out.toBelow⟩
    · go_upto_region 8 with fail
      obtain ⟨WZ, hWZ⟩ : ∃ WZ, wc.setCell ⟨w1.heap.size, 3, none⟩ (.bool true) = WZ := ⟨_, rfl⟩
      rw [hWZ]
      have hkz : Keeps (fun i => i = w1.heap.size) wc WZ := by rw [← hWZ]; exact (Keeps.refl _ _).at
      have hsz : BlkL WZ w1.heap.size 47 [.int .i64 0, .int .u8 sq, .int .i64 v, .bool true] := by rw [← hWZ]; exact HBX.out.put 3 _ rfl
      have hrz : BlkL WZ w5.heap.size 47 [.int .i64 0, .int .u8 sq, .int .i64 v, .bool true] := HRX.out.keep hkz (fun e => by have := hlt6; omega)
      have KZ := hid (HKX.out.trans' hkz (T := No) (fun _ _ h => h) (fun i hi e => by have := hkz1; omega))
      have hq := smp_eql 0 sq v true
      have hgd := smp_guard
      clear g0 g1 y0 y1 y2 y3 u3 hWZ hkz HBX HRX HKX
      have x0 := hsz.cell (o := 0) rfl
      have x1 := hsz.cell (o := 1) rfl
      have x2 := hsz.cell (o := 2) rfl
      have x3 := hsz.cell (o := 3) rfl
      have z0 := hrz.cell (o := 0) rfl
      have z1 := hrz.cell (o := 1) rfl
      have z2 := hrz.cell (o := 2) rfl
      have z3 := hrz.cell (o := 3) rfl
      clear hsz hrz
      go_wp2_with fail
      go_ret
      exact ⟨by simp, KZ.out.toBelow⟩
    · go_upto_region 8 with fail
      obtain ⟨WZ, hWZ⟩ : ∃ WZ, wc.setCell ⟨w1.heap.size, 3, none⟩ (.bool true) = WZ := ⟨_, rfl⟩
      rw [hWZ]
      have hkz : Keeps (fun i => i = w1.heap.size) wc WZ := by rw [← hWZ]; exact (Keeps.refl _ _).at
      have hsz : BlkL WZ w1.heap.size 47 [.int .i64 0, .int .u8 sq, .int .i64 v, .bool true] := by rw [← hWZ]; exact HBX.out.put 3 _ rfl
      have hrz : BlkL WZ w5.heap.size 47 [.int .i64 0, .int .u8 sq, .int .i64 v, .bool true] := HRX.out.keep hkz (fun e => by have := hlt6; omega)
      have KZ := hid (HKX.out.trans' hkz (T := No) (fun _ _ h => h) (fun i hi e => by have := hkz1; omega))
      have hq := smp_eql 0 sq v true
      have hgd := smp_guard
      clear g0 g1 y0 y1 y2 y3 u3 hWZ hkz HBX HRX HKX
      have x0 := hsz.cell (o := 0) rfl
      have x1 := hsz.cell (o := 1) rfl
      have x2 := hsz.cell (o := 2) rfl
      have x3 := hsz.cell (o := 3) rfl
      have z0 := hrz.cell (o := 0) rfl
      have z1 := hrz.cell (o := 1) rfl
      have z2 := hrz.cell (o := 2) rfl
      have z3 := hrz.cell (o := 3) rfl
      clear hsz hrz
      go_wp2_with fail
      go_ret
      exact ⟨by simp, KZ.out.toBelow⟩
    · go_upto_region 8 with fail
      obtain ⟨WZ, hWZ⟩ : ∃ WZ, wc.setCell ⟨w1.heap.size, 3, none⟩ (.bool true) = WZ := ⟨_, rfl⟩
      rw [hWZ]
      have hkz : Keeps (fun i => i = w1.heap.size) wc WZ := by rw [← hWZ]; exact (Keeps.refl _ _).at
      have hsz : BlkL WZ w1.heap.size 47 [.int .i64 0, .int .u8 sq, .int .i64 v, .bool true] := by rw [← hWZ]; exact HBX.out.put 3 _ rfl
      have hrz : BlkL WZ w5.heap.size 47 [.int .i64 0, .int .u8 sq, .int .i64 v, .bool true] := HRX.out.keep hkz (fun e => by have := hlt6; omega)
      have KZ := hid (HKX.out.trans' hkz (T := No) (fun _ _ h => h) (fun i hi e => by have := hkz1; omega))
      have hq := smp_eql 0 sq v true
      have hgd := smp_guard
      clear g0 g1 y0 y1 y2 y3 u3 hWZ hkz HBX HRX HKX
      have x0 := hsz.cell (o := 0) rfl
      have x1 := hsz.cell (o := 1) rfl
      have x2 := hsz.cell (o := 2) rfl
      have x3 := hsz.cell (o := 3) rfl
      have z0 := hrz.cell (o := 0) rfl
      have z1 := hrz.cell (o := 1) rfl
      have z2 := hrz.cell (o := 2) rfl
      have z3 := hrz.cell (o := 3) rfl
      clear hsz hrz
      go_wp2_with fail
      go_ret
      exact ⟨by simp, KZ.out.toBelow⟩
    · go_upto_region 8 with fail
      obtain ⟨WZ, hWZ⟩ : ∃ WZ, wc.setCell ⟨w1.heap.size, 3, none⟩ (.bool true) = WZ := ⟨_, rfl⟩
      rw [hWZ]
      have hkz : Keeps (fun i => i = w1.heap.size) wc WZ := by rw [← hWZ]; exact (Keeps.refl _ _).at
      have hsz : BlkL WZ w1.heap.size 47 [.int .i64 0, .int .u8 sq, .int .i64 v, .bool true] := by rw [← hWZ]; exact HBX.out.put 3 _ rfl
      have hrz : BlkL WZ w5.heap.size 47 [.int .i64 0, .int .u8 sq, .int .i64 v, .bool true] := HRX.out.keep hkz (fun e => by have := hlt6; omega)
      have KZ := hid (HKX.out.trans' hkz (T := No) (fun _ _ h => h) (fun i hi e => by have := hkz1; omega))
      have hq := smp_eql 0 sq v true
      have hgd := smp_guard
      clear g0 g1 y0 y1 y2 y3 u3 hWZ hkz HBX HRX HKX
      have x0 := hsz.cell (o := 0) rfl
      have x1 := hsz.cell (o := 1) rfl
      have x2 := hsz.cell (o := 2) rfl
      have x3 := hsz.cell (o := 3) rfl
      have z0 := hrz.cell (o := 0) rfl
      have z1 := hrz.cell (o := 1) rfl
      have z2 := hrz.cell (o := 2) rfl
      have z3 := hrz.cell (o := 3) rfl
      clear hsz hrz
      go_wp2_with fail
      go_ret
      exact ⟨by simp, KZ.out.toBelow⟩
  · have hbk : rdSmp (payL 1 sq v b) sigs3 = ⟨1, sq, v, b || (decide (v < 5) || decide (5 < v)), 0⟩ := back_any (k := 1) (by decide) sq v b v0 v1
    obtain ⟨lo, D1⟩ : ∃ x, decide (v < (5 : Int)) = x := ⟨_, rfl⟩
    obtain ⟨hi, D2⟩ : ∃ x, decide ((5 : Int) < v) = x := ⟨_, rfl⟩
    rw [D1, D2] at hbk
    have HBK := hid hbk
    have D3 : decide (v > 5) = hi := D2
    have hj := HJ.out
    have hj2 : sg % 3 = 1 := (Int.tmod_eq_emod_of_nonneg (b := 3) n0).symm.trans hj
    clear hbk D2 HJ
    go_enter Try.func5, Try.ntmps5
    go_wp2_with fail
    with_reducible refine (gaps_true _).mono ?_
    rintro e w1 ⟨rfl, k⟩
    have K1 := hid (k)
    clear k
    go_wp2_with fail
    obtain ⟨W2, hW2⟩ : ∃ W2, w1.alloc (.cells #[.int .i64 1, .int .u8 sq, .int .i64 v, .bool b] 47) = W2 := ⟨_, rfl⟩
    rw [hW2]
    have hk2 : Keeps No w1 W2 := by rw [← hW2]; exact (Keeps.refl _ _).alloc _
    have hb2 : BlkL W2 w1.heap.size 47 [.int .i64 1, .int .u8 sq, .int .i64 v, .bool b] := by rw [← hW2]; exact heap_alloc_new w1 _
    have K2 := hid (K1.out.trans hk2)
    have HB2 := hid hb2
    clear hW2 hk2 hb2
    with_reducible refine (sbytes_any W2 1 sq v b).mono ?_
    rintro e w3 ⟨vb, rfl, ho, k, hn⟩
    have hsl := own_sl ho
    obtain ⟨va, vc, rfl⟩ := own_any ho
    have HVB := hid hsl
    have K3 := hid (K2.out.trans k)
    have HB3 := hid (HB2.out.keep k (fun h => h))
    clear ho hsl k hn HB2
    go_wp2_with fail
    with_reducible refine (signals_any _).mono ?_
    rintro e w4 ⟨rfl, hsg, k⟩
    have HSG := hid hsg
    have HVB4 := hid (Sl.keep (S := No) HVB.out k (fun _ _ h => h))
    have K4 := hid (K3.out.trans k)
    have HB4 := hid (HB3.out.keep k (fun h => h))
    clear hsg k HB3 HVB
    go_wp2_with fail
    have c1 := sread_any (p := payL 1 sq v b) (L := sigs3) (sv := .slice (some ⟨w3.heap.size, 0, none⟩) 3 3) HVB4.out (pay_bytes (by omega) (by omega) q0 q1) (by rw [payL_len]; decide) HSG.out (by decide)
    rw [HBK.out] at c1
    unfold RdA.val at c1
    dsimp only at c1
    have C1 := hid c1
    clear c1
    with_reducible refine C1.out.mono ?_
    rintro e w5 ⟨rfl, k⟩
    have K5 := hid (K4.out.trans k)
    have HB5 := hid (HB4.out.keep k (fun h => h))
    clear k HB4 HVB4 HSG C1
    obtain ⟨W6, hW6⟩ : ∃ W6, w5.alloc (.cells #[.int .i64 1, .int .u8 sq, .int .i64 v, .bool (b || (lo || hi))] 47) = W6 := ⟨_, rfl⟩
    have hk6 : Keeps No w5 W6 := by rw [← hW6]; exact (Keeps.refl _ _).alloc _
    have hr6 : BlkL W6 w5.heap.size 47 [.int .i64 1, .int .u8 sq, .int .i64 v, .bool (b || (lo || hi))] := by rw [← hW6]; exact heap_alloc_new w5 _
    have hz6 : W6.heap.size = w5.heap.size + 1 := by rw [← hW6]; simp
    have K6 := hid (K5.out.trans hk6)
    have hb6 := HB5.out.keep hk6 (fun h => h)
    have hlt6 := HB5.out.lt
    have hkz1 := K1.out.size
    have HW6 := hid hW6
    have HB6 := hid hb6
    have HR6 := hid hr6
    have hgz : w1.heap.size ≠ W6.heap.size := by omega
    have HZ6 := hid hz6
    clear hW6 hk6 hz6 HB5
    go_upto_region 6 with fail
    rw [HW6.out]
    have x0 := hb6.cell (o := 0) rfl
    have x0a := cellA (.cells #[.int .i64 0, .int .i64 0] 44) x0
    clear hb6 hr6 hj hj2
    go_cut [13] (fun v13 wx => ∃ G, v13 = .pointer (some ⟨G, 0, none⟩) ∧ Hid (BlkL wx G 44 [.int .i64 (5), .int .i64 5]) ∧ Hid (BlkL wx w1.heap.size 47 [.int .i64 1, .int .u8 sq, .int .i64 v, .bool b]) ∧ Hid (BlkL wx w5.heap.size 47 [.int .i64 1, .int .u8 sq, .int .i64 v, .bool (b || (lo || hi))]) ∧ Hid (Keeps No w wx))
    case first =>
      go_wp2_with fail
      go_region_with ((go_at_call 17; (with_reducible refine (signals_any _).mono ?_); rintro e w7 ⟨rfl, hsg, k⟩; have HSG := hid hsg; have HKK := hid k; have K67 : Hid (Keeps No W6 w7) := hid (Keeps.trans (by repeat' (first | with_reducible exact Keeps.refl _ _ | with_reducible assumption | with_reducible refine Keeps.drewN ?_ _ | with_reducible refine Keeps.drew ?_ | with_reducible refine Keeps.alloc ?_ _)) k); have x0 := K67.out.cell (fun h => h) x0; have x0a := cellA (.cells #[.int .i64 0, .int .i64 0] 44) x0; (first | (refine imp2 (p := w7.cell? ⟨W6.heap.size, 2, none⟩ = some (.int .i64 (5)) ∧ w7.cell? ⟨W6.heap.size, 3, none⟩ = some (.int .i64 5)) ?_ ?_; (focus (exact ⟨sg_cell hsg rfl, sg_cell hsg rfl⟩)); rintro ⟨c0, c1⟩; have c0a := cellA (.cells #[.int .i64 0, .int .i64 0] 44) c0; have c1a := cellA (.cells #[.int .i64 0, .int .i64 0] 44) c1) | (refine imp2 (p := w7.cell? ⟨W6.heap.size + 1, 2, none⟩ = some (.int .i64 (5)) ∧ w7.cell? ⟨W6.heap.size + 1, 3, none⟩ = some (.int .i64 5)) ?_ ?_; (focus (refine ⟨?_, ?_⟩; (focus (simpa using sg_cell hsg (j := 2) rfl)); (focus (simpa using sg_cell hsg (j := 3) rfl)))); rintro ⟨c0, c1⟩)); first | (refine imp2 (p := Keeps No (W6.alloc (.cells #[.int .i64 0, .int .i64 0] 44)) w7) ?_ ?_; (focus (refine Keeps.trans (b := _) ?_ k; repeat' (first | with_reducible exact Keeps.refl _ _ | with_reducible assumption | with_reducible refine Keeps.drewN ?_ _ | with_reducible refine Keeps.drew ?_ | with_reducible refine Keeps.alloc ?_ _))); intro kz; have hnb := (show BlkL (W6.alloc (.cells #[.int .i64 0, .int .i64 0] 44)) W6.heap.size 44 [.int .i64 0, .int .i64 0] from heap_alloc_new W6 _).keep kz (fun h => h); have n0 := hnb.cell (o := 0) rfl; have n1 := hnb.cell (o := 1) rfl; have e0 := hnb.free 0; have e1 := hnb.free 1; have HNB := hid hnb; clear hnb k kz) | (clear k)))
      all_goals
        clear x0 x0a c0 c1
        go_wp2_with fail
        go_meet
        first
          | (obtain ⟨WX, hwx⟩ : ∃ WX, w7.alloc (.cells #[.int .i64 (5), .int .i64 5] 44) = WX := ⟨_, rfl⟩
             rw [hwx]
             have hkx : Keeps No w7 WX := by rw [← hwx]; exact (Keeps.refl _ _).alloc _
             exact ⟨w7.heap.size, rfl, hid (by rw [← hwx]; exact heap_alloc_new w7 _), hid ((HB6.out.keep K67.out (fun h => h)).keep hkx (fun h => h)), hid ((HR6.out.keep K67.out (fun h => h)).keep hkx (fun h => h)), hid ((K6.out.trans K67.out).trans hkx)⟩)
          | (obtain ⟨WX, hwx⟩ : ∃ WX, (w7.setCell ⟨W6.heap.size, 0, none⟩ (.int .i64 (5))).setCell ⟨W6.heap.size, 1, none⟩ (.int .i64 5) = WX := ⟨_, rfl⟩
             rw [hwx]
             have hkx : Keeps (fun i => i = W6.heap.size) w7 WX := by rw [← hwx]; exact (Keeps.refl _ _).at.at
             exact ⟨W6.heap.size, rfl, hid (by rw [← hwx]; exact (HNB.out.put 0 _ rfl).put 1 _ rfl), hid ((HB6.out.keep K67.out (fun h => h)).keep hkx (fun e => hgz e)), hid ((HR6.out.keep K67.out (fun h => h)).keep hkx (fun e => by have := HZ6.out; omega)), hid ((K6.out.trans K67.out).trans' hkx (T := No) (fun _ _ h => h) (fun i hi e => by have := K6.out.size; omega))⟩)
    case rest =>
    obtain ⟨G, rfl, HGX, HBX, HRX, HKX⟩ := hcut
    clear x0 x0a HB6 HR6
    have g0 := HGX.out.cell (o := 0) rfl
    have g1 := HGX.out.cell (o := 1) rfl
    have y0 := HBX.out.cell (o := 0) rfl
    have y1 := HBX.out.cell (o := 1) rfl
    have y2 := HBX.out.cell (o := 2) rfl
    have y3 := HBX.out.cell (o := 3) rfl
    have u3 := HBX.out.free 3
    cases b <;> cases lo <;> cases hi
    · go_upto_region 8 with fail
      obtain ⟨WZ, hWZ⟩ : ∃ WZ, wc.setCell ⟨w1.heap.size, 3, none⟩ (.bool false) = WZ := ⟨_, rfl⟩
      rw [hWZ]
      have hkz : Keeps (fun i => i = w1.heap.size) wc WZ := by rw [← hWZ]; exact (Keeps.refl _ _).at
      have hsz : BlkL WZ w1.heap.size 47 [.int .i64 1, .int .u8 sq, .int .i64 v, .bool false] := by rw [← hWZ]; exact HBX.out.put 3 _ rfl
      have hrz : BlkL WZ w5.heap.size 47 [.int .i64 1, .int .u8 sq, .int .i64 v, .bool false] := HRX.out.keep hkz (fun e => by have := hlt6; omega)
      have KZ := hid (HKX.out.trans' hkz (T := No) (fun _ _ h => h) (fun i hi e => by have := hkz1; omega))
      have hq := smp_eql 1 sq v false
      have hgd := smp_guard
      clear g0 g1 y0 y1 y2 y3 u3 hWZ hkz HBX HRX HKX
      have x0 := hsz.cell (o := 0) rfl
      have x1 := hsz.cell (o := 1) rfl
      have x2 := hsz.cell (o := 2) rfl
      have x3 := hsz.cell (o := 3) rfl
      have z0 := hrz.cell (o := 0) rfl
      have z1 := hrz.cell (o := 1) rfl
      have z2 := hrz.cell (o := 2) rfl
      have z3 := hrz.cell (o := 3) rfl
      clear hsz hrz
      go_wp2_with fail
      go_ret
      exact ⟨by simp, KZ.out.toBelow⟩
    · go_upto_region 8 with fail
      obtain ⟨WZ, hWZ⟩ : ∃ WZ, wc.setCell ⟨w1.heap.size, 3, none⟩ (.bool true) = WZ := ⟨_, rfl⟩
      rw [hWZ]
      have hkz : Keeps (fun i => i = w1.heap.size) wc WZ := by rw [← hWZ]; exact (Keeps.refl _ _).at
      have hsz : BlkL WZ w1.heap.size 47 [.int .i64 1, .int .u8 sq, .int .i64 v, .bool true] := by rw [← hWZ]; exact HBX.out.put 3 _ rfl
      have hrz : BlkL WZ w5.heap.size 47 [.int .i64 1, .int .u8 sq, .int .i64 v, .bool true] := HRX.out.keep hkz (fun e => by have := hlt6; omega)
      have KZ := hid (HKX.out.trans' hkz (T := No) (fun _ _ h => h) (fun i hi e => by have := hkz1; omega))
      have hq := smp_eql 1 sq v true
      have hgd := smp_guard
      clear g0 g1 y0 y1 y2 y3 u3 hWZ hkz HBX HRX HKX
      have x0 := hsz.cell (o := 0) rfl
      have x1 := hsz.cell (o := 1) rfl
      have x2 := hsz.cell (o := 2) rfl
      have x3 := hsz.cell (o := 3) rfl
      have z0 := hrz.cell (o := 0) rfl
      have z1 := hrz.cell (o := 1) rfl
      have z2 := hrz.cell (o := 2) rfl
      have z3 := hrz.cell (o := 3) rfl
      clear hsz hrz
      go_wp2_with fail
      go_ret
      exact ⟨by simp, KZ.out.toBelow⟩
    · go_upto_region 8 with fail
      obtain ⟨WZ, hWZ⟩ : ∃ WZ, wc.setCell ⟨w1.heap.size, 3, none⟩ (.bool true) = WZ := ⟨_, rfl⟩
      rw [hWZ]
      have hkz : Keeps (fun i => i = w1.heap.size) wc WZ := by rw [← hWZ]; exact (Keeps.refl _ _).at
      have hsz : BlkL WZ w1.heap.size 47 [.int .i64 1, .int .u8 sq, .int .i64 v, .bool true] := by rw [← hWZ]; exact HBX.out.put 3 _ rfl
      have hrz : BlkL WZ w5.heap.size 47 [.int .i64 1, .int .u8 sq, .int .i64 v, .bool true] := HRX.out.keep hkz (fun e => by have := hlt6; omega)
      have KZ := hid (HKX.out.trans' hkz (T := No) (fun _ _ h => h) (fun i hi e => by have := hkz1; omega))
      have hq := smp_eql 1 sq v true
      have hgd := smp_guard
      clear g0 g1 y0 y1 y2 y3 u3 hWZ hkz HBX HRX HKX
      have x0 := hsz.cell (o := 0) rfl
      have x1 := hsz.cell (o := 1) rfl
      have x2 := hsz.cell (o := 2) rfl
      have x3 := hsz.cell (o := 3) rfl
      have z0 := hrz.cell (o := 0) rfl
      have z1 := hrz.cell (o := 1) rfl
      have z2 := hrz.cell (o := 2) rfl
      have z3 := hrz.cell (o := 3) rfl
      clear hsz hrz
      go_wp2_with fail
      go_ret
      exact ⟨by simp, KZ.out.toBelow⟩
    · go_upto_region 8 with fail
      obtain ⟨WZ, hWZ⟩ : ∃ WZ, wc.setCell ⟨w1.heap.size, 3, none⟩ (.bool true) = WZ := ⟨_, rfl⟩
      rw [hWZ]
      have hkz : Keeps (fun i => i = w1.heap.size) wc WZ := by rw [← hWZ]; exact (Keeps.refl _ _).at
      have hsz : BlkL WZ w1.heap.size 47 [.int .i64 1, .int .u8 sq, .int .i64 v, .bool true] := by rw [← hWZ]; exact HBX.out.put 3 _ rfl
      have hrz : BlkL WZ w5.heap.size 47 [.int .i64 1, .int .u8 sq, .int .i64 v, .bool true] := HRX.out.keep hkz (fun e => by have := hlt6; omega)
      have KZ := hid (HKX.out.trans' hkz (T := No) (fun _ _ h => h) (fun i hi e => by have := hkz1; omega))
      have hq := smp_eql 1 sq v true
      have hgd := smp_guard
      clear g0 g1 y0 y1 y2 y3 u3 hWZ hkz HBX HRX HKX
      have x0 := hsz.cell (o := 0) rfl
      have x1 := hsz.cell (o := 1) rfl
      have x2 := hsz.cell (o := 2) rfl
      have x3 := hsz.cell (o := 3) rfl
      have z0 := hrz.cell (o := 0) rfl
      have z1 := hrz.cell (o := 1) rfl
      have z2 := hrz.cell (o := 2) rfl
      have z3 := hrz.cell (o := 3) rfl
      clear hsz hrz
      go_wp2_with fail
      go_ret
      exact ⟨by simp, KZ.out.toBelow⟩
    · go_upto_region 8 with fail
      obtain ⟨WZ, hWZ⟩ : ∃ WZ, wc.setCell ⟨w1.heap.size, 3, none⟩ (.bool true) = WZ := ⟨_, rfl⟩
      rw [hWZ]
      have hkz : Keeps (fun i => i = w1.heap.size) wc WZ := by rw [← hWZ]; exact (Keeps.refl _ _).at
      have hsz : BlkL WZ w1.heap.size 47 [.int .i64 1, .int .u8 sq, .int .i64 v, .bool true] := by rw [← hWZ]; exact HBX.out.put 3 _ rfl
      have hrz : BlkL WZ w5.heap.size 47 [.int .i64 1, .int .u8 sq, .int .i64 v, .bool true] := HRX.out.keep hkz (fun e => by have := hlt6; omega)
      have KZ := hid (HKX.out.trans' hkz (T := No) (fun _ _ h => h) (fun i hi e => by have := hkz1; omega))
      have hq := smp_eql 1 sq v true
      have hgd := smp_guard
      clear g0 g1 y0 y1 y2 y3 u3 hWZ hkz HBX HRX HKX
      have x0 := hsz.cell (o := 0) rfl
      have x1 := hsz.cell (o := 1) rfl
      have x2 := hsz.cell (o := 2) rfl
      have x3 := hsz.cell (o := 3) rfl
      have z0 := hrz.cell (o := 0) rfl
      have z1 := hrz.cell (o := 1) rfl
      have z2 := hrz.cell (o := 2) rfl
      have z3 := hrz.cell (o := 3) rfl
      clear hsz hrz
      go_wp2_with fail
      go_ret
      exact ⟨by simp, KZ.out.toBelow⟩
    · go_upto_region 8 with fail
      obtain ⟨WZ, hWZ⟩ : ∃ WZ, wc.setCell ⟨w1.heap.size, 3, none⟩ (.bool true) = WZ := ⟨_, rfl⟩
      rw [hWZ]
      have hkz : Keeps (fun i => i = w1.heap.size) wc WZ := by rw [← hWZ]; exact (Keeps.refl _ _).at
      have hsz : BlkL WZ w1.heap.size 47 [.int .i64 1, .int .u8 sq, .int .i64 v, .bool true] := by rw [← hWZ]; exact HBX.out.put 3 _ rfl
      have hrz : BlkL WZ w5.heap.size 47 [.int .i64 1, .int .u8 sq, .int .i64 v, .bool true] := HRX.out.keep hkz (fun e => by have := hlt6; omega)
      have KZ := hid (HKX.out.trans' hkz (T := No) (fun _ _ h => h) (fun i hi e => by have := hkz1; omega))
      have hq := smp_eql 1 sq v true
      have hgd := smp_guard
      clear g0 g1 y0 y1 y2 y3 u3 hWZ hkz HBX HRX HKX
      have x0 := hsz.cell (o := 0) rfl
      have x1 := hsz.cell (o := 1) rfl
      have x2 := hsz.cell (o := 2) rfl
      have x3 := hsz.cell (o := 3) rfl
      have z0 := hrz.cell (o := 0) rfl
      have z1 := hrz.cell (o := 1) rfl
      have z2 := hrz.cell (o := 2) rfl
      have z3 := hrz.cell (o := 3) rfl
      clear hsz hrz
      go_wp2_with fail
      go_ret
      exact ⟨by simp, KZ.out.toBelow⟩
    · go_upto_region 8 with fail
      obtain ⟨WZ, hWZ⟩ : ∃ WZ, wc.setCell ⟨w1.heap.size, 3, none⟩ (.bool true) = WZ := ⟨_, rfl⟩
      rw [hWZ]
      have hkz : Keeps (fun i => i = w1.heap.size) wc WZ := by rw [← hWZ]; exact (Keeps.refl _ _).at
      have hsz : BlkL WZ w1.heap.size 47 [.int .i64 1, .int .u8 sq, .int .i64 v, .bool true] := by rw [← hWZ]; exact HBX.out.put 3 _ rfl
      have hrz : BlkL WZ w5.heap.size 47 [.int .i64 1, .int .u8 sq, .int .i64 v, .bool true] := HRX.out.keep hkz (fun e => by have := hlt6; omega)
      have KZ := hid (HKX.out.trans' hkz (T := No) (fun _ _ h => h) (fun i hi e => by have := hkz1; omega))
      have hq := smp_eql 1 sq v true
      have hgd := smp_guard
      clear g0 g1 y0 y1 y2 y3 u3 hWZ hkz HBX HRX HKX
      have x0 := hsz.cell (o := 0) rfl
      have x1 := hsz.cell (o := 1) rfl
      have x2 := hsz.cell (o := 2) rfl
      have x3 := hsz.cell (o := 3) rfl
      have z0 := hrz.cell (o := 0) rfl
      have z1 := hrz.cell (o := 1) rfl
      have z2 := hrz.cell (o := 2) rfl
      have z3 := hrz.cell (o := 3) rfl
      clear hsz hrz
      go_wp2_with fail
      go_ret
      exact ⟨by simp, KZ.out.toBelow⟩
    · go_upto_region 8 with fail
      obtain ⟨WZ, hWZ⟩ : ∃ WZ, wc.setCell ⟨w1.heap.size, 3, none⟩ (.bool true) = WZ := ⟨_, rfl⟩
      rw [hWZ]
      have hkz : Keeps (fun i => i = w1.heap.size) wc WZ := by rw [← hWZ]; exact (Keeps.refl _ _).at
      have hsz : BlkL WZ w1.heap.size 47 [.int .i64 1, .int .u8 sq, .int .i64 v, .bool true] := by rw [← hWZ]; exact HBX.out.put 3 _ rfl
      have hrz : BlkL WZ w5.heap.size 47 [.int .i64 1, .int .u8 sq, .int .i64 v, .bool true] := HRX.out.keep hkz (fun e => by have := hlt6; omega)
      have KZ := hid (HKX.out.trans' hkz (T := No) (fun _ _ h => h) (fun i hi e => by have := hkz1; omega))
      have hq := smp_eql 1 sq v true
      have hgd := smp_guard
      clear g0 g1 y0 y1 y2 y3 u3 hWZ hkz HBX HRX HKX
      have x0 := hsz.cell (o := 0) rfl
      have x1 := hsz.cell (o := 1) rfl
      have x2 := hsz.cell (o := 2) rfl
      have x3 := hsz.cell (o := 3) rfl
      have z0 := hrz.cell (o := 0) rfl
      have z1 := hrz.cell (o := 1) rfl
      have z2 := hrz.cell (o := 2) rfl
      have z3 := hrz.cell (o := 3) rfl
      clear hsz hrz
      go_wp2_with fail
      go_ret
      exact ⟨by simp, KZ.out.toBelow⟩
  · have hbk : rdSmp (payL 2 sq v b) sigs3 = ⟨2, sq, v, b || (decide (v < -2147483648) || decide (2147483647 < v)), 0⟩ := back_any (k := 2) (by decide) sq v b v0 v1
    obtain ⟨lo, D1⟩ : ∃ x, decide (v < (-2147483648 : Int)) = x := ⟨_, rfl⟩
    obtain ⟨hi, D2⟩ : ∃ x, decide ((2147483647 : Int) < v) = x := ⟨_, rfl⟩
    rw [D1, D2] at hbk
    have HBK := hid hbk
    have D3 : decide (v > 2147483647) = hi := D2
    have hj := HJ.out
    have hj2 : sg % 3 = 2 := (Int.tmod_eq_emod_of_nonneg (b := 3) n0).symm.trans hj
    clear hbk D2 HJ
    go_enter Try.func5, Try.ntmps5
    go_wp2_with fail
    with_reducible refine (gaps_true _).mono ?_
    rintro e w1 ⟨rfl, k⟩
    have K1 := hid (k)
    clear k
    go_wp2_with fail
    obtain ⟨W2, hW2⟩ : ∃ W2, w1.alloc (.cells #[.int .i64 2, .int .u8 sq, .int .i64 v, .bool b] 47) = W2 := ⟨_, rfl⟩
    rw [hW2]
    have hk2 : Keeps No w1 W2 := by rw [← hW2]; exact (Keeps.refl _ _).alloc _
    have hb2 : BlkL W2 w1.heap.size 47 [.int .i64 2, .int .u8 sq, .int .i64 v, .bool b] := by rw [← hW2]; exact heap_alloc_new w1 _
    have K2 := hid (K1.out.trans hk2)
    have HB2 := hid hb2
    clear hW2 hk2 hb2
    with_reducible refine (sbytes_any W2 2 sq v b).mono ?_
    rintro e w3 ⟨vb, rfl, ho, k, hn⟩
    have hsl := own_sl ho
    obtain ⟨va, vc, rfl⟩ := own_any ho
    have HVB := hid hsl
    have K3 := hid (K2.out.trans k)
    have HB3 := hid (HB2.out.keep k (fun h => h))
    clear ho hsl k hn HB2
    go_wp2_with fail
    with_reducible refine (signals_any _).mono ?_
    rintro e w4 ⟨rfl, hsg, k⟩
    have HSG := hid hsg
    have HVB4 := hid (Sl.keep (S := No) HVB.out k (fun _ _ h => h))
    have K4 := hid (K3.out.trans k)
    have HB4 := hid (HB3.out.keep k (fun h => h))
    clear hsg k HB3 HVB
    go_wp2_with fail
    have c1 := sread_any (p := payL 2 sq v b) (L := sigs3) (sv := .slice (some ⟨w3.heap.size, 0, none⟩) 3 3) HVB4.out (pay_bytes (by omega) (by omega) q0 q1) (by rw [payL_len]; decide) HSG.out (by decide)
    rw [HBK.out] at c1
    unfold RdA.val at c1
    dsimp only at c1
    have C1 := hid c1
    clear c1
    with_reducible refine C1.out.mono ?_
    rintro e w5 ⟨rfl, k⟩
    have K5 := hid (K4.out.trans k)
    have HB5 := hid (HB4.out.keep k (fun h => h))
    clear k HB4 HVB4 HSG C1
    obtain ⟨W6, hW6⟩ : ∃ W6, w5.alloc (.cells #[.int .i64 2, .int .u8 sq, .int .i64 v, .bool (b || (lo || hi))] 47) = W6 := ⟨_, rfl⟩
    have hk6 : Keeps No w5 W6 := by rw [← hW6]; exact (Keeps.refl _ _).alloc _
    have hr6 : BlkL W6 w5.heap.size 47 [.int .i64 2, .int .u8 sq, .int .i64 v, .bool (b || (lo || hi))] := by rw [← hW6]; exact heap_alloc_new w5 _
    have hz6 : W6.heap.size = w5.heap.size + 1 := by rw [← hW6]; simp
    have K6 := hid (K5.out.trans hk6)
    have hb6 := HB5.out.keep hk6 (fun h => h)
    have hlt6 := HB5.out.lt
    have hkz1 := K1.out.size
    have HW6 := hid hW6
    have HB6 := hid hb6
    have HR6 := hid hr6
    have hgz : w1.heap.size ≠ W6.heap.size := by omega
    have HZ6 := hid hz6
    clear hW6 hk6 hz6 HB5
    go_upto_region 6 with fail
    rw [HW6.out]
    have x0 := hb6.cell (o := 0) rfl
    have x0a := cellA (.cells #[.int .i64 0, .int .i64 0] 44) x0
    clear hb6 hr6 hj hj2
    go_cut [13] (fun v13 wx => ∃ G, v13 = .pointer (some ⟨G, 0, none⟩) ∧ Hid (BlkL wx G 44 [.int .i64 (-2147483648), .int .i64 2147483647]) ∧ Hid (BlkL wx w1.heap.size 47 [.int .i64 2, .int .u8 sq, .int .i64 v, .bool b]) ∧ Hid (BlkL wx w5.heap.size 47 [.int .i64 2, .int .u8 sq, .int .i64 v, .bool (b || (lo || hi))]) ∧ Hid (Keeps No w wx))
    case first =>
      go_wp2_with fail
      go_region_with ((go_at_call 17; (with_reducible refine (signals_any _).mono ?_); rintro e w7 ⟨rfl, hsg, k⟩; have HSG := hid hsg; have HKK := hid k; have K67 : Hid (Keeps No W6 w7) := hid (Keeps.trans (by repeat' (first | with_reducible exact Keeps.refl _ _ | with_reducible assumption | with_reducible refine Keeps.drewN ?_ _ | with_reducible refine Keeps.drew ?_ | with_reducible refine Keeps.alloc ?_ _)) k); have x0 := K67.out.cell (fun h => h) x0; have x0a := cellA (.cells #[.int .i64 0, .int .i64 0] 44) x0; (first | (refine imp2 (p := w7.cell? ⟨W6.heap.size, 4, none⟩ = some (.int .i64 (-2147483648)) ∧ w7.cell? ⟨W6.heap.size, 5, none⟩ = some (.int .i64 2147483647)) ?_ ?_; (focus (exact ⟨sg_cell hsg rfl, sg_cell hsg rfl⟩)); rintro ⟨c0, c1⟩; have c0a := cellA (.cells #[.int .i64 0, .int .i64 0] 44) c0; have c1a := cellA (.cells #[.int .i64 0, .int .i64 0] 44) c1) | (refine imp2 (p := w7.cell? ⟨W6.heap.size + 1, 4, none⟩ = some (.int .i64 (-2147483648)) ∧ w7.cell? ⟨W6.heap.size + 1, 5, none⟩ = some (.int .i64 2147483647)) ?_ ?_; (focus (refine ⟨?_, ?_⟩; (focus (simpa using sg_cell hsg (j := 4) rfl)); (focus (simpa using sg_cell hsg (j := 5) rfl)))); rintro ⟨c0, c1⟩)); first | (refine imp2 (p := Keeps No (W6.alloc (.cells #[.int .i64 0, .int .i64 0] 44)) w7) ?_ ?_; (focus (refine Keeps.trans (b := _) ?_ k; repeat' (first | with_reducible exact Keeps.refl _ _ | with_reducible assumption | with_reducible refine Keeps.drewN ?_ _ | with_reducible refine Keeps.drew ?_ | with_reducible refine Keeps.alloc ?_ _))); intro kz; have hnb := (show BlkL (W6.alloc (.cells #[.int .i64 0, .int .i64 0] 44)) W6.heap.size 44 [.int .i64 0, .int .i64 0] from heap_alloc_new W6 _).keep kz (fun h => h); have n0 := hnb.cell (o := 0) rfl; have n1 := hnb.cell (o := 1) rfl; have e0 := hnb.free 0; have e1 := hnb.free 1; have HNB := hid hnb; clear hnb k kz) | (clear k)))
      all_goals
        clear x0 x0a c0 c1
        go_wp2_with fail
        go_meet
        first
          | (obtain ⟨WX, hwx⟩ : ∃ WX, w7.alloc (.cells #[.int .i64 (-2147483648), .int .i64 2147483647] 44) = WX := ⟨_, rfl⟩
             rw [hwx]
             have hkx : Keeps No w7 WX := by rw [← hwx]; exact (Keeps.refl _ _).alloc _
             exact ⟨w7.heap.size, rfl, hid (by rw [← hwx]; exact heap_alloc_new w7 _), hid ((HB6.out.keep K67.out (fun h => h)).keep hkx (fun h => h)), hid ((HR6.out.keep K67.out (fun h => h)).keep hkx (fun h => h)), hid ((K6.out.trans K67.out).trans hkx)⟩)
          | (obtain ⟨WX, hwx⟩ : ∃ WX, (w7.setCell ⟨W6.heap.size, 0, none⟩ (.int .i64 (-2147483648))).setCell ⟨W6.heap.size, 1, none⟩ (.int .i64 2147483647) = WX := ⟨_, rfl⟩
             rw [hwx]
             have hkx : Keeps (fun i => i = W6.heap.size) w7 WX := by rw [← hwx]; exact (Keeps.refl _ _).at.at
             exact ⟨W6.heap.size, rfl, hid (by rw [← hwx]; exact (HNB.out.put 0 _ rfl).put 1 _ rfl), hid ((HB6.out.keep K67.out (fun h => h)).keep hkx (fun e => hgz e)), hid ((HR6.out.keep K67.out (fun h => h)).keep hkx (fun e => by have := HZ6.out; omega)), hid ((K6.out.trans K67.out).trans' hkx (T := No) (fun _ _ h => h) (fun i hi e => by have := K6.out.size; omega))⟩)
    case rest =>
    obtain ⟨G, rfl, HGX, HBX, HRX, HKX⟩ := hcut
    clear x0 x0a HB6 HR6
    have g0 := HGX.out.cell (o := 0) rfl
    have g1 := HGX.out.cell (o := 1) rfl
    have y0 := HBX.out.cell (o := 0) rfl
    have y1 := HBX.out.cell (o := 1) rfl
    have y2 := HBX.out.cell (o := 2) rfl
    have y3 := HBX.out.cell (o := 3) rfl
    have u3 := HBX.out.free 3
    cases b <;> cases lo <;> cases hi
    · go_upto_region 8 with fail
      obtain ⟨WZ, hWZ⟩ : ∃ WZ, wc.setCell ⟨w1.heap.size, 3, none⟩ (.bool false) = WZ := ⟨_, rfl⟩
      rw [hWZ]
      have hkz : Keeps (fun i => i = w1.heap.size) wc WZ := by rw [← hWZ]; exact (Keeps.refl _ _).at
      have hsz : BlkL WZ w1.heap.size 47 [.int .i64 2, .int .u8 sq, .int .i64 v, .bool false] := by rw [← hWZ]; exact HBX.out.put 3 _ rfl
      have hrz : BlkL WZ w5.heap.size 47 [.int .i64 2, .int .u8 sq, .int .i64 v, .bool false] := HRX.out.keep hkz (fun e => by have := hlt6; omega)
      have KZ := hid (HKX.out.trans' hkz (T := No) (fun _ _ h => h) (fun i hi e => by have := hkz1; omega))
      have hq := smp_eql 2 sq v false
      have hgd := smp_guard
      clear g0 g1 y0 y1 y2 y3 u3 hWZ hkz HBX HRX HKX
      have x0 := hsz.cell (o := 0) rfl
      have x1 := hsz.cell (o := 1) rfl
      have x2 := hsz.cell (o := 2) rfl
      have x3 := hsz.cell (o := 3) rfl
      have z0 := hrz.cell (o := 0) rfl
      have z1 := hrz.cell (o := 1) rfl
      have z2 := hrz.cell (o := 2) rfl
      have z3 := hrz.cell (o := 3) rfl
      clear hsz hrz
      go_wp2_with fail
      go_ret
      exact ⟨by simp, KZ.out.toBelow⟩
    · go_upto_region 8 with fail
      obtain ⟨WZ, hWZ⟩ : ∃ WZ, wc.setCell ⟨w1.heap.size, 3, none⟩ (.bool true) = WZ := ⟨_, rfl⟩
      rw [hWZ]
      have hkz : Keeps (fun i => i = w1.heap.size) wc WZ := by rw [← hWZ]; exact (Keeps.refl _ _).at
      have hsz : BlkL WZ w1.heap.size 47 [.int .i64 2, .int .u8 sq, .int .i64 v, .bool true] := by rw [← hWZ]; exact HBX.out.put 3 _ rfl
      have hrz : BlkL WZ w5.heap.size 47 [.int .i64 2, .int .u8 sq, .int .i64 v, .bool true] := HRX.out.keep hkz (fun e => by have := hlt6; omega)
      have KZ := hid (HKX.out.trans' hkz (T := No) (fun _ _ h => h) (fun i hi e => by have := hkz1; omega))
      have hq := smp_eql 2 sq v true
      have hgd := smp_guard
      clear g0 g1 y0 y1 y2 y3 u3 hWZ hkz HBX HRX HKX
      have x0 := hsz.cell (o := 0) rfl
      have x1 := hsz.cell (o := 1) rfl
      have x2 := hsz.cell (o := 2) rfl
      have x3 := hsz.cell (o := 3) rfl
      have z0 := hrz.cell (o := 0) rfl
      have z1 := hrz.cell (o := 1) rfl
      have z2 := hrz.cell (o := 2) rfl
      have z3 := hrz.cell (o := 3) rfl
      clear hsz hrz
      go_wp2_with fail
      go_ret
      exact ⟨by simp, KZ.out.toBelow⟩
    · go_upto_region 8 with fail
      obtain ⟨WZ, hWZ⟩ : ∃ WZ, wc.setCell ⟨w1.heap.size, 3, none⟩ (.bool true) = WZ := ⟨_, rfl⟩
      rw [hWZ]
      have hkz : Keeps (fun i => i = w1.heap.size) wc WZ := by rw [← hWZ]; exact (Keeps.refl _ _).at
      have hsz : BlkL WZ w1.heap.size 47 [.int .i64 2, .int .u8 sq, .int .i64 v, .bool true] := by rw [← hWZ]; exact HBX.out.put 3 _ rfl
      have hrz : BlkL WZ w5.heap.size 47 [.int .i64 2, .int .u8 sq, .int .i64 v, .bool true] := HRX.out.keep hkz (fun e => by have := hlt6; omega)
      have KZ := hid (HKX.out.trans' hkz (T := No) (fun _ _ h => h) (fun i hi e => by have := hkz1; omega))
      have hq := smp_eql 2 sq v true
      have hgd := smp_guard
      clear g0 g1 y0 y1 y2 y3 u3 hWZ hkz HBX HRX HKX
      have x0 := hsz.cell (o := 0) rfl
      have x1 := hsz.cell (o := 1) rfl
      have x2 := hsz.cell (o := 2) rfl
      have x3 := hsz.cell (o := 3) rfl
      have z0 := hrz.cell (o := 0) rfl
      have z1 := hrz.cell (o := 1) rfl
      have z2 := hrz.cell (o := 2) rfl
      have z3 := hrz.cell (o := 3) rfl
      clear hsz hrz
      go_wp2_with fail
      go_ret
      exact ⟨by simp, KZ.out.toBelow⟩
    · go_upto_region 8 with fail
      obtain ⟨WZ, hWZ⟩ : ∃ WZ, wc.setCell ⟨w1.heap.size, 3, none⟩ (.bool true) = WZ := ⟨_, rfl⟩
      rw [hWZ]
      have hkz : Keeps (fun i => i = w1.heap.size) wc WZ := by rw [← hWZ]; exact (Keeps.refl _ _).at
      have hsz : BlkL WZ w1.heap.size 47 [.int .i64 2, .int .u8 sq, .int .i64 v, .bool true] := by rw [← hWZ]; exact HBX.out.put 3 _ rfl
      have hrz : BlkL WZ w5.heap.size 47 [.int .i64 2, .int .u8 sq, .int .i64 v, .bool true] := HRX.out.keep hkz (fun e => by have := hlt6; omega)
      have KZ := hid (HKX.out.trans' hkz (T := No) (fun _ _ h => h) (fun i hi e => by have := hkz1; omega))
      have hq := smp_eql 2 sq v true
      have hgd := smp_guard
      clear g0 g1 y0 y1 y2 y3 u3 hWZ hkz HBX HRX HKX
      have x0 := hsz.cell (o := 0) rfl
      have x1 := hsz.cell (o := 1) rfl
      have x2 := hsz.cell (o := 2) rfl
      have x3 := hsz.cell (o := 3) rfl
      have z0 := hrz.cell (o := 0) rfl
      have z1 := hrz.cell (o := 1) rfl
      have z2 := hrz.cell (o := 2) rfl
      have z3 := hrz.cell (o := 3) rfl
      clear hsz hrz
      go_wp2_with fail
      go_ret
      exact ⟨by simp, KZ.out.toBelow⟩
    · go_upto_region 8 with fail
      obtain ⟨WZ, hWZ⟩ : ∃ WZ, wc.setCell ⟨w1.heap.size, 3, none⟩ (.bool true) = WZ := ⟨_, rfl⟩
      rw [hWZ]
      have hkz : Keeps (fun i => i = w1.heap.size) wc WZ := by rw [← hWZ]; exact (Keeps.refl _ _).at
      have hsz : BlkL WZ w1.heap.size 47 [.int .i64 2, .int .u8 sq, .int .i64 v, .bool true] := by rw [← hWZ]; exact HBX.out.put 3 _ rfl
      have hrz : BlkL WZ w5.heap.size 47 [.int .i64 2, .int .u8 sq, .int .i64 v, .bool true] := HRX.out.keep hkz (fun e => by have := hlt6; omega)
      have KZ := hid (HKX.out.trans' hkz (T := No) (fun _ _ h => h) (fun i hi e => by have := hkz1; omega))
      have hq := smp_eql 2 sq v true
      have hgd := smp_guard
      clear g0 g1 y0 y1 y2 y3 u3 hWZ hkz HBX HRX HKX
      have x0 := hsz.cell (o := 0) rfl
      have x1 := hsz.cell (o := 1) rfl
      have x2 := hsz.cell (o := 2) rfl
      have x3 := hsz.cell (o := 3) rfl
      have z0 := hrz.cell (o := 0) rfl
      have z1 := hrz.cell (o := 1) rfl
      have z2 := hrz.cell (o := 2) rfl
      have z3 := hrz.cell (o := 3) rfl
      clear hsz hrz
      go_wp2_with fail
      go_ret
      exact ⟨by simp, KZ.out.toBelow⟩
    · go_upto_region 8 with fail
      obtain ⟨WZ, hWZ⟩ : ∃ WZ, wc.setCell ⟨w1.heap.size, 3, none⟩ (.bool true) = WZ := ⟨_, rfl⟩
      rw [hWZ]
      have hkz : Keeps (fun i => i = w1.heap.size) wc WZ := by rw [← hWZ]; exact (Keeps.refl _ _).at
      have hsz : BlkL WZ w1.heap.size 47 [.int .i64 2, .int .u8 sq, .int .i64 v, .bool true] := by rw [← hWZ]; exact HBX.out.put 3 _ rfl
      have hrz : BlkL WZ w5.heap.size 47 [.int .i64 2, .int .u8 sq, .int .i64 v, .bool true] := HRX.out.keep hkz (fun e => by have := hlt6; omega)
      have KZ := hid (HKX.out.trans' hkz (T := No) (fun _ _ h => h) (fun i hi e => by have := hkz1; omega))
      have hq := smp_eql 2 sq v true
      have hgd := smp_guard
      clear g0 g1 y0 y1 y2 y3 u3 hWZ hkz HBX HRX HKX
      have x0 := hsz.cell (o := 0) rfl
      have x1 := hsz.cell (o := 1) rfl
      have x2 := hsz.cell (o := 2) rfl
      have x3 := hsz.cell (o := 3) rfl
      have z0 := hrz.cell (o := 0) rfl
      have z1 := hrz.cell (o := 1) rfl
      have z2 := hrz.cell (o := 2) rfl
      have z3 := hrz.cell (o := 3) rfl
      clear hsz hrz
      go_wp2_with fail
      go_ret
      exact ⟨by simp, KZ.out.toBelow⟩
    · go_upto_region 8 with fail
      obtain ⟨WZ, hWZ⟩ : ∃ WZ, wc.setCell ⟨w1.heap.size, 3, none⟩ (.bool true) = WZ := ⟨_, rfl⟩
      rw [hWZ]
      have hkz : Keeps (fun i => i = w1.heap.size) wc WZ := by rw [← hWZ]; exact (Keeps.refl _ _).at
      have hsz : BlkL WZ w1.heap.size 47 [.int .i64 2, .int .u8 sq, .int .i64 v, .bool true] := by rw [← hWZ]; exact HBX.out.put 3 _ rfl
      have hrz : BlkL WZ w5.heap.size 47 [.int .i64 2, .int .u8 sq, .int .i64 v, .bool true] := HRX.out.keep hkz (fun e => by have := hlt6; omega)
      have KZ := hid (HKX.out.trans' hkz (T := No) (fun _ _ h => h) (fun i hi e => by have := hkz1; omega))
      have hq := smp_eql 2 sq v true
      have hgd := smp_guard
      clear g0 g1 y0 y1 y2 y3 u3 hWZ hkz HBX HRX HKX
      have x0 := hsz.cell (o := 0) rfl
      have x1 := hsz.cell (o := 1) rfl
      have x2 := hsz.cell (o := 2) rfl
      have x3 := hsz.cell (o := 3) rfl
      have z0 := hrz.cell (o := 0) rfl
      have z1 := hrz.cell (o := 1) rfl
      have z2 := hrz.cell (o := 2) rfl
      have z3 := hrz.cell (o := 3) rfl
      clear hsz hrz
      go_wp2_with fail
      go_ret
      exact ⟨by simp, KZ.out.toBelow⟩
    · go_upto_region 8 with fail
      obtain ⟨WZ, hWZ⟩ : ∃ WZ, wc.setCell ⟨w1.heap.size, 3, none⟩ (.bool true) = WZ := ⟨_, rfl⟩
      rw [hWZ]
      have hkz : Keeps (fun i => i = w1.heap.size) wc WZ := by rw [← hWZ]; exact (Keeps.refl _ _).at
      have hsz : BlkL WZ w1.heap.size 47 [.int .i64 2, .int .u8 sq, .int .i64 v, .bool true] := by rw [← hWZ]; exact HBX.out.put 3 _ rfl
      have hrz : BlkL WZ w5.heap.size 47 [.int .i64 2, .int .u8 sq, .int .i64 v, .bool true] := HRX.out.keep hkz (fun e => by have := hlt6; omega)
      have KZ := hid (HKX.out.trans' hkz (T := No) (fun _ _ h => h) (fun i hi e => by have := hkz1; omega))
      have hq := smp_eql 2 sq v true
      have hgd := smp_guard
      clear g0 g1 y0 y1 y2 y3 u3 hWZ hkz HBX HRX HKX
      have x0 := hsz.cell (o := 0) rfl
      have x1 := hsz.cell (o := 1) rfl
      have x2 := hsz.cell (o := 2) rfl
      have x3 := hsz.cell (o := 3) rfl
      have z0 := hrz.cell (o := 0) rfl
      have z1 := hrz.cell (o := 1) rfl
      have z2 := hrz.cell (o := 2) rfl
      have z3 := hrz.cell (o := 3) rfl
      clear hsz hrz
      go_wp2_with fail
      go_ret
      exact ⟨by simp, KZ.out.toBelow⟩

theorem own : ownKnob Try.prog.godebug = none := by kernel_rfl
theorem laidOut : laidOutB Try.prog = true := by kernel_rfl
set_option maxRecDepth 100000 in
theorem lifted (os : Os) (started : os.Started) (H : Type) (enc : TypeId × Value → H) :
    ReturnsInHanded {} Try.checked os 5 .any (Rows.sampleBackSpec.pre6 enc Try.prog Try.f5 Rows.sampleBackRow.domain false) (Rows.sampleBackSpec.post enc Try.prog Try.f5 false true false false) := by
  refine returnsInHanded_of_change (C := Try.checked) own started (by kernel_rfl) Try.func5
    (ChangeSpec.witness6 (enc := enc) (C := Try.checked) false ⟨#[], #[.int .u8 0, .int .u8 0, .int .i32 0, .bool false], []⟩ 8 (by kernel_rfl) (by kernel_rfl) (by kernel_rfl) (by kernel_rfl)) ?_
  intro W base args ds gs before hval0 hW hcnd _
  have hval : ∀ (j : Nat) t v, Try.f5.params[j]? = some t → args[j]? = some v → Value.okWide Try.prog W .any base t v := hval0
  have hW' := hW
  obtain ⟨p, q, hA0, hV, rfl, hfz, hnd⟩ := hW
  have hA : DataW.TrodAll enc Try.prog W 0 (fun _ => true) true Try.f5.params.toList args.toList ds p := hA0
  rw [Try.params5] at hA hval
  obtain ⟨v0, vs0, d0, ds0, p0, q0, hargs, rfl, rfl, h0, r0⟩ := trodAll_cons hA
  obtain ⟨v1, vs1, d1, ds1, p1, q1, rfl, rfl, rfl, h1, r1⟩ := trodAll_cons r0
  obtain ⟨v2, vs2, d2, ds2, p2, q2, rfl, rfl, rfl, h2, r2⟩ := trodAll_cons r1
  obtain ⟨v3, vs3, d3, ds3, p3, q3, rfl, rfl, rfl, h3, r3⟩ := trodAll_cons r2
  obtain ⟨rfl, rfl, rfl⟩ := trodAll_nil r3
  obtain rfl : args = #[v0, v1, v2, v3] := by cases args; simp_all
  obtain ⟨rfl, rfl⟩ := trodVars_none hV
  have k0 := h0
  have lt0 : ∀ x ∈ p0, x.block < W.heap.size := by obtain ⟨m, hm⟩ := k0; exact DataW.trod_lt m _ _ _ hm
  have k1 := h1
  have lt1 : ∀ x ∈ p1, x.block < W.heap.size := by obtain ⟨m, hm⟩ := k1; exact DataW.trod_lt m _ _ _ hm
  have k2 := h2
  have lt2 : ∀ x ∈ p2, x.block < W.heap.size := by obtain ⟨m, hm⟩ := k2; exact DataW.trod_lt m _ _ _ hm
  have k3 := h3
  have lt3 : ∀ x ∈ p3, x.block < W.heap.size := by obtain ⟨m, hm⟩ := k3; exact DataW.trod_lt m _ _ _ hm
  obtain ⟨a0, rfl, rfl, rfl, w0⟩ := open_int Try.underlying5 (hval 0 5 v0 rfl rfl) h0
  obtain ⟨a1, rfl, rfl, rfl, w1⟩ := open_int Try.underlying5 (hval 1 5 v1 rfl rfl) h1
  obtain ⟨a2, rfl, rfl, rfl, w2⟩ := open_int Try.underlying21 (hval 2 21 v2 rfl rfl) h2
  obtain ⟨a3, rfl, rfl, rfl⟩ := open_bool Try.underlying4 (hval 3 4 v3 rfl rfl) h3
  clear hA0 hval0
  refine (walk W a0 w0 a1 w1 a2 w2 a3).mono fun e W' ⟨he, bel⟩ => ?_
  subst he
  exact ⟨_, rfl, _, _, _, [], _, [], hW', trodAll_mk1 (shut_bool Try.underlying4 _), (trodAll_cons_mk (Below.trod laidOut (by kernel_rfl) (of_decide_eq_true (by kernel_rfl)) k0 bel lt0) (trodAll_cons_mk (Below.trod laidOut (by kernel_rfl) (of_decide_eq_true (by kernel_rfl)) k1 bel lt1) (trodAll_cons_mk (Below.trod laidOut (by kernel_rfl) (of_decide_eq_true (by kernel_rfl)) k2 bel lt2) (trodAll_cons_mk (Below.trod laidOut (by kernel_rfl) (of_decide_eq_true (by kernel_rfl)) k3 bel lt3) trodAll_mk0)))), rfl, bel.frame _, fun h => by cases h⟩

theorem over : Rows.sampleBackRow.holds Try.pinned (OpenSpec.ofChange Rows.sampleBackSpec) :=
  OpenClaim.holds_of_wide 5 Try.f5 rfl rfl rfl rfl rfl rfl rfl ⟨rfl, rfl, rfl, rfl, rfl⟩ rfl rfl rfl rfl rfl (by kernel_rfl) Try.func5 (by kernel_rfl)
    (of_decide_eq_true (by kernel_rfl)) (by unfold Func.isWrapper; first | (rw [if_pos (by decide +kernel)]; kernel_rfl) | (rw [if_neg (by decide +kernel)]; exact ⟨rfl, rfl⟩))
    (fun os started H enc _ => lifted os started H enc)

theorem proved : Rows.SampleBackSaid := over
#print axioms proved
end Go.Proofs.Ytaakmlgkfbpdoaa.sampleBack
