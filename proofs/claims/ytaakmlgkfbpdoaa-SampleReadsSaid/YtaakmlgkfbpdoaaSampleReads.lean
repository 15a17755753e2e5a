/- Any bytes, also of another length: what they are, or that they aren't, as the document says. No conditions. -/
import Derived.Test.YtaakmlgkfbpdoaaRows
import Derived.Test.YtaakmlgkfbpdoaaArgs
import Derived.Test.YtaakmlgkfbpdoaaSmp7
import Derived.Test.YtaakmlgkfbpdoaaSmp3
import Derived.ProofKit
import Derived.OpenShut
namespace Go.Proofs.Ytaakmlgkfbpdoaa.sampleReads
open Go.ChangeShapes Go.WideShapes Go.ChangeAt Go.RowKit
open Go.ChangeMaps (open_string shut_string)
set_option linter.unusedVariables false

set_option maxHeartbeats 8000000 in
set_option maxRecDepth 100000 in
theorem walk (w : World) (s0 : Option Addr) (cap0 : Nat) (p : List Int) (hs0 : Sl w 1 (.slice s0 p.length cap0) p.length (p.map (Value.int .u8))) (hb0 : ∀ n ∈ p, (Lit.int .u8 n).wf = true) (n : Int) (wn : (Lit.int .u8 n).wf = true) :
    Calls Try.prog 6 #[.slice s0 p.length cap0, .int .u8 n] w fun e w' => e = .returned (.bool true) ∧ Below w.heap.size w w' := by
  obtain ⟨n0, n1⟩ := bounds_u8 wn
  have hb : Bytes p := fun x hx => bounds_u8 (hb0 x hx)
  have HB := hid hb
  have HS0 := hid hs0
  have hmx : p.length ≤ maxLen := hs0.2.1
  unfold maxLen at hmx
  clear hb hs0 hb0 wn
  by_cases hl : 50 < p.length
  · have hd : decide ((p.length : Int) > 50) = true := decide_eq_true (by omega)
    clear hl
    go_enter Try.func6, Try.ntmps6
    go_wp2_with fail
    with_reducible refine (gaps_true _).mono ?_
    rintro e w1 ⟨rfl, k⟩
    have K1 := hid (k)
    clear k
    go_wp2_with fail
    with_reducible refine (gaps_true _).mono ?_
    rintro e w2 ⟨rfl, k⟩
    have K2 := hid (K1.out.trans k)
    clear k
    go_wp2_with fail
    go_ret
    exact ⟨rfl, K2.out.toBelow⟩
  · have hd : decide ((p.length : Int) > 50) = false := decide_eq_false (by omega)
    have hl5 : p.length ≤ 100000 := by omega
    clear hl
    obtain ⟨j, hj, hj4⟩ : ∃ j : Nat, n.tmod 4 = j ∧ j < 4 := ⟨(n.tmod 4).toNat, by have := Int.tmod_eq_emod_of_nonneg (b := 4) n0; omega, by have := Int.tmod_eq_emod_of_nonneg (b := 4) n0; omega⟩
    have HJ := hid hj
    clear hj hmx
    rcases (show j = 0 ∨ j = 1 ∨ j = 2 ∨ j = 3 by omega) with rfl | rfl | rfl | rfl
    · obtain ⟨⟨rg, rq, rv, rb, re⟩, hR⟩ : ∃ R, rdSmp p (sigs3.take 0) = R := ⟨_, rfl⟩
      have HR := hid hR
      have hj := HJ.out
      have hj2 : n % 4 = 0 := (Int.tmod_eq_emod_of_nonneg (b := 4) n0).symm.trans hj
      clear hR HJ hj4
      go_enter Try.func6, Try.ntmps6
      go_wp2_with fail
      with_reducible refine (gaps_true _).mono ?_
      rintro e w1 ⟨rfl, k⟩
      have K1 := hid (k)
      clear k
      go_wp2_with fail
      with_reducible refine (signals_any _).mono ?_
      rintro e w2 ⟨rfl, hsg, k⟩
      have K2 := hid (K1.out.trans k)
      have HSG := hid hsg
      clear hsg
      clear k
      go_wp2_with fail
      have HKK := hid (Keeps.refl No w2)
      have c1 := sread_any (w := w2) (pv := .slice s0 p.length cap0) (sv := .slice (some ⟨w1.heap.size, 0, none⟩) 0 3) (p := p) (L := sigs3.take 0) (HS0.out.keep K2.out (fun _ _ h => h)) HB.out hl5 (Sl.keep (Sl.front HSG.out (m := 0) (by decide)) (by have := HKK.out; first | exact Keeps.refl _ _ | exact (HKK.out)) (fun _ _ h => h)) (by decide)
      rw [HR.out] at c1
      unfold RdA.val at c1
      dsimp only at c1
      have C1 := hid c1
      clear c1
      with_reducible refine C1.out.mono ?_
      rintro e w3 ⟨rfl, k⟩
      have K3 := hid (K2.out.trans k)
      clear C1
      have HK3 := hid k
      clear k hj hj2
      obtain ⟨W4, hW4⟩ : ∃ W4, w3.alloc (.cells #[.int .i64 rg, .int .u8 rq, .int .i64 rv, .bool rb] 47) = W4 := ⟨_, rfl⟩
      have hk4 : Keeps No w3 W4 := by rw [← hW4]; exact (Keeps.refl _ _).alloc _
      have hb4 : BlkL W4 w3.heap.size 47 [.int .i64 rg, .int .u8 rq, .int .i64 rv, .bool rb] := by rw [← hW4]; exact heap_alloc_new w3 _
      have K4 := hid (K3.out.trans hk4)
      clear HKK
      have HKK := hid (HK3.out.trans hk4)
      have HB4 := hid hb4
      have HW4 := hid hW4
      clear hk4 hb4 hW4
      go_upto_region 5 with fail
      rw [HW4.out]
      go_wp2_with fail
      have c1 := rread_any (w := W4) (pv := .slice s0 p.length cap0) (sv := .slice (some ⟨w1.heap.size, 0, none⟩) 0 3) (p := p) (L := sigs3.take 0) (HS0.out.keep K4.out (fun _ _ h => h)) HB.out hl5 (Sl.keep (Sl.front HSG.out (m := 0) (by decide)) (by have := HKK.out; first | exact Keeps.refl _ _ | exact (HKK.out)) (fun _ _ h => h)) (by decide)
      rw [HR.out] at c1
      unfold RdA.val at c1
      dsimp only at c1
      have C1 := hid c1
      clear c1
      with_reducible refine C1.out.mono ?_
      rintro e w5 ⟨rfl, k⟩
      have K5 := hid (K4.out.trans k)
      clear C1
      have hb5 := HB4.out.keep k (fun h => h)
      obtain ⟨W6, hW6⟩ : ∃ W6, w5.alloc (.cells #[.int .i64 rg, .int .u8 rq, .int .i64 rv, .bool rb] 47) = W6 := ⟨_, rfl⟩
      have hk6 : Keeps No w5 W6 := by rw [← hW6]; exact (Keeps.refl _ _).alloc _
      have hb6 : BlkL W6 w5.heap.size 47 [.int .i64 rg, .int .u8 rq, .int .i64 rv, .bool rb] := by rw [← hW6]; exact heap_alloc_new w5 _
      have hb5' := hb5.keep hk6 (fun h => h)
      have K6 := hid (K5.out.trans hk6)
      have HW6 := hid hW6
      clear hW6 hk6 hb5 k
      go_upto_region 6 with fail
      rw [HW6.out]
      have x0 := hb5'.cell (o := 0) rfl
      have x1 := hb5'.cell (o := 1) rfl
      have x2 := hb5'.cell (o := 2) rfl
      have x3 := hb5'.cell (o := 3) rfl
      have y0 := hb6.cell (o := 0) rfl
      have y1 := hb6.cell (o := 1) rfl
      have y2 := hb6.cell (o := 2) rfl
      have y3 := hb6.cell (o := 3) rfl
      have hq := smp_eql rg rq rv rb
      have hgd := smp_guard
      clear hb5' hb6 HB4 HKK
      go_wp2_with fail
      go_ret
      exact ⟨by simp, K6.out.toBelow⟩
    · obtain ⟨⟨rg, rq, rv, rb, re⟩, hR⟩ : ∃ R, rdSmp p (sigs3.take 1) = R := ⟨_, rfl⟩
      have HR := hid hR
      have hj := HJ.out
      have hj2 : n % 4 = 1 := (Int.tmod_eq_emod_of_nonneg (b := 4) n0).symm.trans hj
      clear hR HJ hj4
      go_enter Try.func6, Try.ntmps6
      go_wp2_with fail
      with_reducible refine (gaps_true _).mono ?_
      rintro e w1 ⟨rfl, k⟩
      have K1 := hid (k)
      clear k
      go_wp2_with fail
      with_reducible refine (signals_any _).mono ?_
      rintro e w2 ⟨rfl, hsg, k⟩
      have K2 := hid (K1.out.trans k)
      have HSG := hid hsg
      clear hsg
      clear k
      go_wp2_with fail
      have HKK := hid (Keeps.refl No w2)
      have c1 := sread_any (w := w2) (pv := .slice s0 p.length cap0) (sv := .slice (some ⟨w1.heap.size, 0, none⟩) 1 3) (p := p) (L := sigs3.take 1) (HS0.out.keep K2.out (fun _ _ h => h)) HB.out hl5 (Sl.keep (Sl.front HSG.out (m := 1) (by decide)) (by have := HKK.out; first | exact Keeps.refl _ _ | exact (HKK.out)) (fun _ _ h => h)) (by decide)
      rw [HR.out] at c1
      unfold RdA.val at c1
      dsimp only at c1
      have C1 := hid c1
      clear c1
      with_reducible refine C1.out.mono ?_
      rintro e w3 ⟨rfl, k⟩
      have K3 := hid (K2.out.trans k)
      clear C1
      have HK3 := hid k
      clear k hj hj2
      obtain ⟨W4, hW4⟩ : ∃ W4, w3.alloc (.cells #[.int .i64 rg, .int .u8 rq, .int .i64 rv, .bool rb] 47) = W4 := ⟨_, rfl⟩
      have hk4 : Keeps No w3 W4 := by rw [← hW4]; exact (Keeps.refl _ _).alloc _
      have hb4 : BlkL W4 w3.heap.size 47 [.int .i64 rg, .int .u8 rq, .int .i64 rv, .bool rb] := by rw [← hW4]; exact heap_alloc_new w3 _
      have K4 := hid (K3.out.trans hk4)
      clear HKK
      have HKK := hid (HK3.out.trans hk4)
      have HB4 := hid hb4
      have HW4 := hid hW4
      clear hk4 hb4 hW4
      go_upto_region 5 with fail
      rw [HW4.out]
      go_wp2_with fail
      have c1 := rread_any (w := W4) (pv := .slice s0 p.length cap0) (sv := .slice (some ⟨w1.heap.size, 0, none⟩) 1 3) (p := p) (L := sigs3.take 1) (HS0.out.keep K4.out (fun _ _ h => h)) HB.out hl5 (Sl.keep (Sl.front HSG.out (m := 1) (by decide)) (by have := HKK.out; first | exact Keeps.refl _ _ | exact (HKK.out)) (fun _ _ h => h)) (by decide)
      rw [HR.out] at c1
      unfold RdA.val at c1
      dsimp only at c1
      have C1 := hid c1
      clear c1
      with_reducible refine C1.out.mono ?_
      rintro e w5 ⟨rfl, k⟩
      have K5 := hid (K4.out.trans k)
      clear C1
      have hb5 := HB4.out.keep k (fun h => h)
      obtain ⟨W6, hW6⟩ : ∃ W6, w5.alloc (.cells #[.int .i64 rg, .int .u8 rq, .int .i64 rv, .bool rb] 47) = W6 := ⟨_, rfl⟩
      have hk6 : Keeps No w5 W6 := by rw [← hW6]; exact (Keeps.refl _ _).alloc _
      have hb6 : BlkL W6 w5.heap.size 47 [.int .i64 rg, .int .u8 rq, .int .i64 rv, .bool rb] := by rw [← hW6]; exact heap_alloc_new w5 _
      have hb5' := hb5.keep hk6 (fun h => h)
      have K6 := hid (K5.out.trans hk6)
      have HW6 := hid hW6
      clear hW6 hk6 hb5 k
      go_upto_region 6 with fail
      rw [HW6.out]
      have x0 := hb5'.cell (o := 0) rfl
      have x1 := hb5'.cell (o := 1) rfl
      have x2 := hb5'.cell (o := 2) rfl
      have x3 := hb5'.cell (o := 3) rfl
      have y0 := hb6.cell (o := 0) rfl
      have y1 := hb6.cell (o := 1) rfl
      have y2 := hb6.cell (o := 2) rfl
      have y3 := hb6.cell (o := 3) rfl
      have hq := smp_eql rg rq rv rb
      have hgd := smp_guard
      clear hb5' hb6 HB4 HKK
      go_wp2_with fail
      go_ret
      exact ⟨by simp, K6.out.toBelow⟩
    · obtain ⟨⟨rg, rq, rv, rb, re⟩, hR⟩ : ∃ R, rdSmp p (sigs3.take 2) = R := ⟨_, rfl⟩
      have HR := hid hR
      have hj := HJ.out
      have hj2 : n % 4 = 2 := (Int.tmod_eq_emod_of_nonneg (b := 4) n0).symm.trans hj
      clear hR HJ hj4
      go_enter Try.func6, Try.ntmps6
      go_wp2_with fail
      with_reducible refine (gaps_true _).mono ?_
      rintro e w1 ⟨rfl, k⟩
      have K1 := hid (k)
      clear k
      go_wp2_with fail
      with_reducible refine (signals_any _).mono ?_
      rintro e w2 ⟨rfl, hsg, k⟩
      have K2 := hid (K1.out.trans k)
      have HSG := hid hsg
      clear hsg
      clear k
      go_wp2_with fail
      have HKK := hid (Keeps.refl No w2)
      have c1 := sread_any (w := w2) (pv := .slice s0 p.length cap0) (sv := .slice (some ⟨w1.heap.size, 0, none⟩) 2 3) (p := p) (L := sigs3.take 2) (HS0.out.keep K2.out (fun _ _ h => h)) HB.out hl5 (Sl.keep (Sl.front HSG.out (m := 2) (by decide)) (by have := HKK.out; first | exact Keeps.refl _ _ | exact (HKK.out)) (fun _ _ h => h)) (by decide)
      rw [HR.out] at c1
      unfold RdA.val at c1
      dsimp only at c1
      have C1 := hid c1
      clear c1
      with_reducible refine C1.out.mono ?_
      rintro e w3 ⟨rfl, k⟩
      have K3 := hid (K2.out.trans k)
      clear C1
      have HK3 := hid k
      clear k hj hj2
      obtain ⟨W4, hW4⟩ : ∃ W4, w3.alloc (.cells #[.int .i64 rg, .int .u8 rq, .int .i64 rv, .bool rb] 47) = W4 := ⟨_, rfl⟩
      have hk4 : Keeps No w3 W4 := by rw [← hW4]; exact (Keeps.refl _ _).alloc _
      have hb4 : BlkL W4 w3.heap.size 47 [.int .i64 rg, .int .u8 rq, .int .i64 rv, .bool rb] := by rw [← hW4]; exact heap_alloc_new w3 _
      have K4 := hid (K3.out.trans hk4)
      clear HKK
      have HKK := hid (HK3.out.trans hk4)
      have HB4 := hid hb4
      have HW4 := hid hW4
      clear hk4 hb4 hW4
      go_upto_region 5 with fail
      rw [HW4.out]
      go_wp2_with fail
      have c1 := rread_any (w := W4) (pv := .slice s0 p.length cap0) (sv := .slice (some ⟨w1.heap.size, 0, none⟩) 2 3) (p := p) (L := sigs3.take 2) (HS0.out.keep K4.out (fun _ _ h => h)) HB.out hl5 (Sl.keep (Sl.front HSG.out (m := 2) (by decide)) (by have := HKK.out; first | exact Keeps.refl _ _ | exact (HKK.out)) (fun _ _ h => h)) (by decide)
      rw [HR.out] at c1
      unfold RdA.val at c1
      dsimp only at c1
      have C1 := hid c1
      clear c1
      with_reducible refine C1.out.mono ?_
      rintro e w5 ⟨rfl, k⟩
      have K5 := hid (K4.out.trans k)
      clear C1
      have hb5 := HB4.out.keep k (fun h => h)
      obtain ⟨W6, hW6⟩ : ∃ W6, w5.alloc (.cells #[.int .i64 rg, .int .u8 rq, .int .i64 rv, .bool rb] 47) = W6 := ⟨_, rfl⟩
      have hk6 : Keeps No w5 W6 := by rw [← hW6]; exact (Keeps.refl _ _).alloc _
      have hb6 : BlkL W6 w5.heap.size 47 [.int .i64 rg, .int .u8 rq, .int .i64 rv, .bool rb] := by rw [← hW6]; exact heap_alloc_new w5 _
      have hb5' := hb5.keep hk6 (fun h => h)
      have K6 := hid (K5.out.trans hk6)
      have HW6 := hid hW6
      clear hW6 hk6 hb5 k
      go_upto_region 6 with fail
      rw [HW6.out]
      have x0 := hb5'.cell (o := 0) rfl
      have x1 := hb5'.cell (o := 1) rfl
      have x2 := hb5'.cell (o := 2) rfl
      have x3 := hb5'.cell (o := 3) rfl
      have y0 := hb6.cell (o := 0) rfl
      have y1 := hb6.cell (o := 1) rfl
      have y2 := hb6.cell (o := 2) rfl
      have y3 := hb6.cell (o := 3) rfl
      have hq := smp_eql rg rq rv rb
      have hgd := smp_guard
      clear hb5' hb6 HB4 HKK
      go_wp2_with fail
      go_ret
      exact ⟨by simp, K6.out.toBelow⟩
    · obtain ⟨⟨rg, rq, rv, rb, re⟩, hR⟩ : ∃ R, rdSmp p (sigs3.take 3) = R := ⟨_, rfl⟩
      have HR := hid hR
      have hj := HJ.out
      have hj2 : n % 4 = 3 := (Int.tmod_eq_emod_of_nonneg (b := 4) n0).symm.trans hj
      clear hR HJ hj4
      go_enter Try.func6, Try.ntmps6
      go_wp2_with fail
      with_reducible refine (gaps_true _).mono ?_
      rintro e w1 ⟨rfl, k⟩
      have K1 := hid (k)
      clear k
      go_wp2_with fail
      with_reducible refine (signals_any _).mono ?_
      rintro e w2 ⟨rfl, hsg, k⟩
      have K2 := hid (K1.out.trans k)
      have HSG := hid hsg
      clear hsg
      clear k
      go_wp2_with fail
      have HKK := hid (Keeps.refl No w2)
      have c1 := sread_any (w := w2) (pv := .slice s0 p.length cap0) (sv := .slice (some ⟨w1.heap.size, 0, none⟩) 3 3) (p := p) (L := sigs3.take 3) (HS0.out.keep K2.out (fun _ _ h => h)) HB.out hl5 (Sl.keep (Sl.front HSG.out (m := 3) (by decide)) (by have := HKK.out; first | exact Keeps.refl _ _ | exact (HKK.out)) (fun _ _ h => h)) (by decide)
      rw [HR.out] at c1
      unfold RdA.val at c1
      dsimp only at c1
      have C1 := hid c1
      clear c1
      with_reducible refine C1.out.mono ?_
      rintro e w3 ⟨rfl, k⟩
      have K3 := hid (K2.out.trans k)
      clear C1
      have HK3 := hid k
      clear k hj hj2
      obtain ⟨W4, hW4⟩ : ∃ W4, w3.alloc (.cells #[.int .i64 rg, .int .u8 rq, .int .i64 rv, .bool rb] 47) = W4 := ⟨_, rfl⟩
      have hk4 : Keeps No w3 W4 := by rw [← hW4]; exact (Keeps.refl _ _).alloc _
      have hb4 : BlkL W4 w3.heap.size 47 [.int .i64 rg, .int .u8 rq, .int .i64 rv, .bool rb] := by rw [← hW4]; exact heap_alloc_new w3 _
      have K4 := hid (K3.out.trans hk4)
      clear HKK
      have HKK := hid (HK3.out.trans hk4)
      have HB4 := hid hb4
      have HW4 := hid hW4
      clear hk4 hb4 hW4
      go_upto_region 5 with fail
      rw [HW4.out]
      go_wp2_with fail
      have c1 := rread_any (w := W4) (pv := .slice s0 p.length cap0) (sv := .slice (some ⟨w1.heap.size, 0, none⟩) 3 3) (p := p) (L := sigs3.take 3) (HS0.out.keep K4.out (fun _ _ h => h)) HB.out hl5 (Sl.keep (Sl.front HSG.out (m := 3) (by decide)) (by have := HKK.out; first | exact Keeps.refl _ _ | exact (HKK.out)) (fun _ _ h => h)) (by decide)
      rw [HR.out] at c1
      unfold RdA.val at c1
      dsimp only at c1
      have C1 := hid c1
      clear c1
      with_reducible refine C1.out.mono ?_
      rintro e w5 ⟨rfl, k⟩
      have K5 := hid (K4.out.trans k)
      clear C1
      have hb5 := HB4.out.keep k (fun h => h)
      obtain ⟨W6, hW6⟩ : ∃ W6, w5.alloc (.cells #[.int .i64 rg, .int .u8 rq, .int .i64 rv, .bool rb] 47) = W6 := ⟨_, rfl⟩
      have hk6 : Keeps No w5 W6 := by rw [← hW6]; exact (Keeps.refl _ _).alloc _
      have hb6 : BlkL W6 w5.heap.size 47 [.int .i64 rg, .int .u8 rq, .int .i64 rv, .bool rb] := by rw [← hW6]; exact heap_alloc_new w5 _
      have hb5' := hb5.keep hk6 (fun h => h)
      have K6 := hid (K5.out.trans hk6)
      have HW6 := hid hW6
      clear hW6 hk6 hb5 k
      go_upto_region 6 with fail
      rw [HW6.out]
      have x0 := hb5'.cell (o := 0) rfl
      have x1 := hb5'.cell (o := 1) rfl
      have x2 := hb5'.cell (o := 2) rfl
      have x3 := hb5'.cell (o := 3) rfl
      have y0 := hb6.cell (o := 0) rfl
      have y1 := hb6.cell (o := 1) rfl
      have y2 := hb6.cell (o := 2) rfl
      have y3 := hb6.cell (o := 3) rfl
      have hq := smp_eql rg rq rv rb
      have hgd := smp_guard
      clear hb5' hb6 HB4 HKK
      go_wp2_with fail
      go_ret
      exact ⟨by simp, K6.out.toBelow⟩

theorem own : ownKnob Try.prog.godebug = none := by kernel_rfl
theorem laidOut : laidOutB Try.prog = true := by kernel_rfl
set_option maxRecDepth 100000 in
theorem lifted (os : Os) (started : os.Started) (H : Type) (enc : TypeId × Value → H) :
    ReturnsInHanded {} Try.checked os 6 .any (Rows.sampleReadsSpec.pre6 enc Try.prog Try.f6 Rows.sampleReadsRow.domain false) (Rows.sampleReadsSpec.post enc Try.prog Try.f6 false true false false) := by
  refine returnsInHanded_of_change (C := Try.checked) own started (by kernel_rfl) Try.func6
    (ChangeSpec.witness6 (enc := enc) (C := Try.checked) false ⟨#[], #[.slice none 0 0, .int .u8 0], []⟩ 8 (by kernel_rfl) (by kernel_rfl) (by kernel_rfl) (by kernel_rfl)) ?_
  intro W base args ds gs before hval0 hW hcnd _
  have hval : ∀ (j : Nat) t v, Try.f6.params[j]? = some t → args[j]? = some v → Value.okWide Try.prog W .any base t v := hval0
  have hW' := hW
  obtain ⟨p, q, hA0, hV, rfl, hfz, hnd⟩ := hW
  have hA : DataW.TrodAll enc Try.prog W 0 (fun _ => true) true Try.f6.params.toList args.toList ds p := hA0
  rw [Try.params6] at hA hval
  obtain ⟨v0, vs0, d0, ds0, p0, q0, hargs, rfl, rfl, h0, r0⟩ := trodAll_cons hA
  obtain ⟨v1, vs1, d1, ds1, p1, q1, rfl, rfl, rfl, h1, r1⟩ := trodAll_cons r0
  obtain ⟨rfl, rfl, rfl⟩ := trodAll_nil r1
  obtain rfl : args = #[v0, v1] := by cases args; simp_all
  obtain ⟨rfl, rfl⟩ := trodVars_none hV
  have k0 := h0
  have lt0 : ∀ x ∈ p0, x.block < W.heap.size := by obtain ⟨m, hm⟩ := k0; exact DataW.trod_lt m _ _ _ hm
  have k1 := h1
  have lt1 : ∀ x ∈ p1, x.block < W.heap.size := by obtain ⟨m, hm⟩ := k1; exact DataW.trod_lt m _ _ _ hm
  obtain ⟨s0, len0, cap0, rfl⟩ := okWide_slice Try.underlying23 (hval 0 23 v0 rfl rfl)
  obtain ⟨l0, rfl, w0, b0⟩ := argInts .u8 Try.underlying23 Try.underlying5 (by kernel_rfl) h0
  obtain ⟨a1, rfl, rfl, rfl, w1⟩ := open_int Try.underlying5 (hval 1 5 v1 rfl rfl) h1
  clear hA0 hval0
  refine (walk W s0 cap0 l0 w0 b0 a1 w1).mono fun e W' ⟨he, bel⟩ => ?_
  subst he
  exact ⟨_, rfl, _, _, _, [], _, [], hW', trodAll_mk1 (shut_bool Try.underlying4 _), (trodAll_cons_mk (Below.trod laidOut (by kernel_rfl) (of_decide_eq_true (by kernel_rfl)) k0 bel lt0) (trodAll_cons_mk (Below.trod laidOut (by kernel_rfl) (of_decide_eq_true (by kernel_rfl)) k1 bel lt1) trodAll_mk0)), rfl, bel.frame _, fun h => by cases h⟩

theorem over : Rows.sampleReadsRow.holds Try.pinned (OpenSpec.ofChange Rows.sampleReadsSpec) :=
  OpenClaim.holds_of_wide 6 Try.f6 rfl rfl rfl rfl rfl rfl rfl ⟨rfl, rfl, rfl, rfl, rfl⟩ rfl rfl rfl rfl rfl (by kernel_rfl) Try.func6 (by kernel_rfl)
    (of_decide_eq_true (by kernel_rfl)) (by unfold Func.isWrapper; first | (rw [if_pos (by decide +kernel)]; kernel_rfl) | (rw [if_neg (by decide +kernel)]; exact ⟨rfl, rfl⟩))
    (fun os started H enc _ => lifted os started H enc)

theorem proved : Rows.SampleReadsSaid := over
#print axioms proved
end Go.Proofs.Ytaakmlgkfbpdoaa.sampleReads
