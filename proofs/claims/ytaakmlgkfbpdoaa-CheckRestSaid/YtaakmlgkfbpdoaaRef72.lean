/-
  The document's check: is a rule's own rule broken.
-/
import Derived.Test.YtaakmlgkfbpdoaaRef7
import Derived.Test.YtaakmlgkfbpdoaaChk2
namespace Go.Proofs.Ytaakmlgkfbpdoaa
open Go.RowKit
set_option linter.unusedVariables false

section
variable {w : World} {sa ra ta va : Option Addr} {sn rn tn vc sc rc tc : Nat}

set_option maxHeartbeats 2000000 in
set_option maxRecDepth 100000 in
theorem mbroken4_any (r : Rul) (i0 i1 i2 i3 i4 i5 i6 : Int) (br : Bool) :
    Calls Try.prog 47 #[cfgV (.slice sa sn sc) (.slice ra rn rc) (.slice ta tn tc) i0 i1 i2 i3 i4 i5 br i6, .agg (encRul (r, .slice va r.stages.length vc)).toArray, .int .i64 4] w fun e w' => e = .returned (.bool (!rulR sn r 3)) ∧ Keeps No w w' := by
  unfold cfgV encRul
  obtain ⟨W2, hW2⟩ : ∃ W2, (w.alloc (.cells #[.slice sa sn sc, .slice ra rn rc, .slice ta tn tc, .int .i64 i0, .int .i64 i1, .int .i64 i2, .int .i64 i3, .int .i64 i4, .int .i64 i5, .bool br, .int .i64 i6] 33)).alloc (.cells #[.int .u8 r.kind, .int .i64 r.sig, .int .i64 r.limit, .int .i64 r.back, .int .i64 r.delay, .int .i64 r.span, .int .u8 r.pri, .bool r.latch, .slice va r.stages.length vc] 38) = W2 := ⟨_, rfl⟩
  have k2 : Keeps No w W2 := by rw [← hW2]; exact ((Keeps.refl _ _).alloc _).alloc _
  have b1 : BlkL W2 w.heap.size 33 [.slice sa sn sc, .slice ra rn rc, .slice ta tn tc, .int .i64 i0, .int .i64 i1, .int .i64 i2, .int .i64 i3, .int .i64 i4, .int .i64 i5, .bool br, .int .i64 i6] := by rw [← hW2]; exact heapA _ (heap_alloc_new w _)
  have b2 : BlkL W2 (w.heap.size + 1) 38 [.int .u8 r.kind, .int .i64 r.sig, .int .i64 r.limit, .int .i64 r.back, .int .i64 r.delay, .int .i64 r.span, .int .u8 r.pri, .bool r.latch, .slice va r.stages.length vc] := by rw [← hW2]; exact heap_alloc_at (by simp) _
  have c0 := b1.cell (o := 0) rfl
  obtain ⟨y0, y1, y2, y3, y4, y5, y6, y7, y8⟩ := cells9 b2
  have HW2 := hid hW2
  have K2 := hid k2
  clear hW2 k2 b1 b2
  by_cases h0 : r.kind < 1
  · have HR : Hid ((!rulR sn r 3) = true) := hid (by show (!inB r.kind 1 6) = true; rw [inB_false.2 (by omega)]; rfl)
    have d0 : decide (r.kind < 1) = true := decide_eq_true (by omega)
    clear h0
    go_enter Try.func47, Try.ntmps47
    go_upto_region 1 with fail
    rw [HW2.out]
    go_wp2_with fail
    go_ret
    exact ⟨by rw [HR.out]; rfl, K2.out⟩
  · by_cases h1 : 6 < r.kind
    · have HR : Hid ((!rulR sn r 3) = true) := hid (by show (!inB r.kind 1 6) = true; rw [inB_false.2 (by omega)]; rfl)
      have d0 : decide (r.kind < 1) = false := decide_eq_false (by omega)
      have d1 : decide (6 < r.kind) = true := decide_eq_true (by omega)
      clear h0 h1
      go_enter Try.func47, Try.ntmps47
      go_upto_region 1 with fail
      rw [HW2.out]
      go_wp2_with fail
      go_ret
      exact ⟨by rw [HR.out]; rfl, K2.out⟩
    · have HR : Hid ((!rulR sn r 3) = false) := hid (by show (!inB r.kind 1 6) = false; rw [inB_true.2 ⟨by omega, by omega⟩]; rfl)
      have d0 : decide (r.kind < 1) = false := decide_eq_false (by omega)
      have d1 : decide (6 < r.kind) = false := decide_eq_false (by omega)
      clear h0 h1
      go_enter Try.func47, Try.ntmps47
      go_upto_region 1 with fail
      rw [HW2.out]
      go_wp2_with fail
      go_ret
      exact ⟨by rw [HR.out]; rfl, K2.out⟩

set_option maxHeartbeats 2000000 in
set_option maxRecDepth 100000 in
theorem mbroken8_any (r : Rul) (i0 i1 i2 i3 i4 i5 i6 : Int) (br : Bool) :
    Calls Try.prog 47 #[cfgV (.slice sa sn sc) (.slice ra rn rc) (.slice ta tn tc) i0 i1 i2 i3 i4 i5 br i6, .agg (encRul (r, .slice va r.stages.length vc)).toArray, .int .i64 8] w fun e w' => e = .returned (.bool (!rulR sn r 7)) ∧ Keeps No w w' := by
  unfold cfgV encRul
  obtain ⟨W2, hW2⟩ : ∃ W2, (w.alloc (.cells #[.slice sa sn sc, .slice ra rn rc, .slice ta tn tc, .int .i64 i0, .int .i64 i1, .int .i64 i2, .int .i64 i3, .int .i64 i4, .int .i64 i5, .bool br, .int .i64 i6] 33)).alloc (.cells #[.int .u8 r.kind, .int .i64 r.sig, .int .i64 r.limit, .int .i64 r.back, .int .i64 r.delay, .int .i64 r.span, .int .u8 r.pri, .bool r.latch, .slice va r.stages.length vc] 38) = W2 := ⟨_, rfl⟩
  have k2 : Keeps No w W2 := by rw [← hW2]; exact ((Keeps.refl _ _).alloc _).alloc _
  have b1 : BlkL W2 w.heap.size 33 [.slice sa sn sc, .slice ra rn rc, .slice ta tn tc, .int .i64 i0, .int .i64 i1, .int .i64 i2, .int .i64 i3, .int .i64 i4, .int .i64 i5, .bool br, .int .i64 i6] := by rw [← hW2]; exact heapA _ (heap_alloc_new w _)
  have b2 : BlkL W2 (w.heap.size + 1) 38 [.int .u8 r.kind, .int .i64 r.sig, .int .i64 r.limit, .int .i64 r.back, .int .i64 r.delay, .int .i64 r.span, .int .u8 r.pri, .bool r.latch, .slice va r.stages.length vc] := by rw [← hW2]; exact heap_alloc_at (by simp) _
  have c0 := b1.cell (o := 0) rfl
  obtain ⟨y0, y1, y2, y3, y4, y5, y6, y7, y8⟩ := cells9 b2
  have HW2 := hid hW2
  have K2 := hid k2
  clear hW2 k2 b1 b2
  by_cases h0 : r.delay < 0
  · have HR : Hid ((!rulR sn r 7) = true) := hid (by show (!inB r.delay 0 10000) = true; rw [inB_false.2 (by omega)]; rfl)
    have d0 : decide (r.delay < 0) = true := decide_eq_true (by omega)
    clear h0
    go_enter Try.func47, Try.ntmps47
    go_upto_region 1 with fail
    rw [HW2.out]
    go_wp2_with fail
    go_ret
    exact ⟨by rw [HR.out]; rfl, K2.out⟩
  · by_cases h1 : 10000 < r.delay
    · have HR : Hid ((!rulR sn r 7) = true) := hid (by show (!inB r.delay 0 10000) = true; rw [inB_false.2 (by omega)]; rfl)
      have d0 : decide (r.delay < 0) = false := decide_eq_false (by omega)
      have d1 : decide (10000 < r.delay) = true := decide_eq_true (by omega)
      clear h0 h1
      go_enter Try.func47, Try.ntmps47
      go_upto_region 1 with fail
      rw [HW2.out]
      go_wp2_with fail
      go_ret
      exact ⟨by rw [HR.out]; rfl, K2.out⟩
    · have HR : Hid ((!rulR sn r 7) = false) := hid (by show (!inB r.delay 0 10000) = false; rw [inB_true.2 ⟨by omega, by omega⟩]; rfl)
      have d0 : decide (r.delay < 0) = false := decide_eq_false (by omega)
      have d1 : decide (10000 < r.delay) = false := decide_eq_false (by omega)
      clear h0 h1
      go_enter Try.func47, Try.ntmps47
      go_upto_region 1 with fail
      rw [HW2.out]
      go_wp2_with fail
      go_ret
      exact ⟨by rw [HR.out]; rfl, K2.out⟩

set_option maxHeartbeats 2000000 in
set_option maxRecDepth 100000 in
theorem mbroken9_any (r : Rul) (i0 i1 i2 i3 i4 i5 i6 : Int) (br : Bool) :
    Calls Try.prog 47 #[cfgV (.slice sa sn sc) (.slice ra rn rc) (.slice ta tn tc) i0 i1 i2 i3 i4 i5 br i6, .agg (encRul (r, .slice va r.stages.length vc)).toArray, .int .i64 9] w fun e w' => e = .returned (.bool (!rulR sn r 8)) ∧ Keeps No w w' := by
  unfold cfgV encRul
  obtain ⟨W2, hW2⟩ : ∃ W2, (w.alloc (.cells #[.slice sa sn sc, .slice ra rn rc, .slice ta tn tc, .int .i64 i0, .int .i64 i1, .int .i64 i2, .int .i64 i3, .int .i64 i4, .int .i64 i5, .bool br, .int .i64 i6] 33)).alloc (.cells #[.int .u8 r.kind, .int .i64 r.sig, .int .i64 r.limit, .int .i64 r.back, .int .i64 r.delay, .int .i64 r.span, .int .u8 r.pri, .bool r.latch, .slice va r.stages.length vc] 38) = W2 := ⟨_, rfl⟩
  have k2 : Keeps No w W2 := by rw [← hW2]; exact ((Keeps.refl _ _).alloc _).alloc _
  have b1 : BlkL W2 w.heap.size 33 [.slice sa sn sc, .slice ra rn rc, .slice ta tn tc, .int .i64 i0, .int .i64 i1, .int .i64 i2, .int .i64 i3, .int .i64 i4, .int .i64 i5, .bool br, .int .i64 i6] := by rw [← hW2]; exact heapA _ (heap_alloc_new w _)
  have b2 : BlkL W2 (w.heap.size + 1) 38 [.int .u8 r.kind, .int .i64 r.sig, .int .i64 r.limit, .int .i64 r.back, .int .i64 r.delay, .int .i64 r.span, .int .u8 r.pri, .bool r.latch, .slice va r.stages.length vc] := by rw [← hW2]; exact heap_alloc_at (by simp) _
  have c0 := b1.cell (o := 0) rfl
  obtain ⟨y0, y1, y2, y3, y4, y5, y6, y7, y8⟩ := cells9 b2
  have HW2 := hid hW2
  have K2 := hid k2
  clear hW2 k2 b1 b2
  by_cases h0 : r.pri < 1
  · have HR : Hid ((!rulR sn r 8) = true) := hid (by show (!inB r.pri 1 3) = true; rw [inB_false.2 (by omega)]; rfl)
    have d0 : decide (r.pri < 1) = true := decide_eq_true (by omega)
    clear h0
    go_enter Try.func47, Try.ntmps47
    go_upto_region 1 with fail
    rw [HW2.out]
    go_wp2_with fail
    go_ret
    exact ⟨by rw [HR.out]; rfl, K2.out⟩
  · by_cases h1 : 3 < r.pri
    · have HR : Hid ((!rulR sn r 8) = true) := hid (by show (!inB r.pri 1 3) = true; rw [inB_false.2 (by omega)]; rfl)
      have d0 : decide (r.pri < 1) = false := decide_eq_false (by omega)
      have d1 : decide (3 < r.pri) = true := decide_eq_true (by omega)
      clear h0 h1
      go_enter Try.func47, Try.ntmps47
      go_upto_region 1 with fail
      rw [HW2.out]
      go_wp2_with fail
      go_ret
      exact ⟨by rw [HR.out]; rfl, K2.out⟩
    · have HR : Hid ((!rulR sn r 8) = false) := hid (by show (!inB r.pri 1 3) = false; rw [inB_true.2 ⟨by omega, by omega⟩]; rfl)
      have d0 : decide (r.pri < 1) = false := decide_eq_false (by omega)
      have d1 : decide (3 < r.pri) = false := decide_eq_false (by omega)
      clear h0 h1
      go_enter Try.func47, Try.ntmps47
      go_upto_region 1 with fail
      rw [HW2.out]
      go_wp2_with fail
      go_ret
      exact ⟨by rw [HR.out]; rfl, K2.out⟩

set_option maxHeartbeats 2000000 in
set_option maxRecDepth 100000 in
theorem mbroken5_any (r : Rul) (i0 i1 i2 i3 i4 i5 i6 : Int) (br : Bool) :
    Calls Try.prog 47 #[cfgV (.slice sa sn sc) (.slice ra rn rc) (.slice ta tn tc) i0 i1 i2 i3 i4 i5 br i6, .agg (encRul (r, .slice va r.stages.length vc)).toArray, .int .i64 5] w fun e w' => e = .returned (.bool (!rulR sn r 4)) ∧ Keeps No w w' := by
  unfold cfgV encRul
  obtain ⟨W2, hW2⟩ : ∃ W2, (w.alloc (.cells #[.slice sa sn sc, .slice ra rn rc, .slice ta tn tc, .int .i64 i0, .int .i64 i1, .int .i64 i2, .int .i64 i3, .int .i64 i4, .int .i64 i5, .bool br, .int .i64 i6] 33)).alloc (.cells #[.int .u8 r.kind, .int .i64 r.sig, .int .i64 r.limit, .int .i64 r.back, .int .i64 r.delay, .int .i64 r.span, .int .u8 r.pri, .bool r.latch, .slice va r.stages.length vc] 38) = W2 := ⟨_, rfl⟩
  have k2 : Keeps No w W2 := by rw [← hW2]; exact ((Keeps.refl _ _).alloc _).alloc _
  have b1 : BlkL W2 w.heap.size 33 [.slice sa sn sc, .slice ra rn rc, .slice ta tn tc, .int .i64 i0, .int .i64 i1, .int .i64 i2, .int .i64 i3, .int .i64 i4, .int .i64 i5, .bool br, .int .i64 i6] := by rw [← hW2]; exact heapA _ (heap_alloc_new w _)
  have b2 : BlkL W2 (w.heap.size + 1) 38 [.int .u8 r.kind, .int .i64 r.sig, .int .i64 r.limit, .int .i64 r.back, .int .i64 r.delay, .int .i64 r.span, .int .u8 r.pri, .bool r.latch, .slice va r.stages.length vc] := by rw [← hW2]; exact heap_alloc_at (by simp) _
  have c0 := b1.cell (o := 0) rfl
  obtain ⟨y0, y1, y2, y3, y4, y5, y6, y7, y8⟩ := cells9 b2
  have HW2 := hid hW2
  have K2 := hid k2
  clear hW2 k2 b1 b2
  by_cases h0 : r.sig < 0
  · have HR : Hid ((!rulR sn r 4) = true) := hid (by show (!inB r.sig 0 ((sn : Int) - 1)) = true; rw [inB_false.2 (by omega)]; rfl)
    have d0 : decide (r.sig < 0) = true := decide_eq_true (by omega)
    clear h0
    go_enter Try.func47, Try.ntmps47
    go_upto_region 1 with fail
    rw [HW2.out]
    go_wp2_with fail
    go_ret
    exact ⟨by rw [HR.out]; rfl, K2.out⟩
  · by_cases h1 : ((sn : Int) - 1) < r.sig
    · have HR : Hid ((!rulR sn r 4) = true) := hid (by show (!inB r.sig 0 ((sn : Int) - 1)) = true; rw [inB_false.2 (by omega)]; rfl)
      have d0 : decide (r.sig < 0) = false := decide_eq_false (by omega)
      have d1 : decide ((sn : Int) ≤ r.sig) = true := decide_eq_true (by omega)
      clear h0 h1
      go_enter Try.func47, Try.ntmps47
      go_upto_region 1 with fail
      rw [HW2.out]
      go_wp2_with fail
      go_ret
      exact ⟨by rw [HR.out]; rfl, K2.out⟩
    · have HR : Hid ((!rulR sn r 4) = false) := hid (by show (!inB r.sig 0 ((sn : Int) - 1)) = false; rw [inB_true.2 ⟨by omega, by omega⟩]; rfl)
      have d0 : decide (r.sig < 0) = false := decide_eq_false (by omega)
      have d1 : decide ((sn : Int) ≤ r.sig) = false := decide_eq_false (by omega)
      clear h0 h1
      go_enter Try.func47, Try.ntmps47
      go_upto_region 1 with fail
      rw [HW2.out]
      go_wp2_with fail
      go_ret
      exact ⟨by rw [HR.out]; rfl, K2.out⟩

set_option maxHeartbeats 2000000 in
set_option maxRecDepth 100000 in
theorem mbroken7_any (r : Rul) (i0 i1 i2 i3 i4 i5 i6 : Int) (br : Bool) :
    Calls Try.prog 47 #[cfgV (.slice sa sn sc) (.slice ra rn rc) (.slice ta tn tc) i0 i1 i2 i3 i4 i5 br i6, .agg (encRul (r, .slice va r.stages.length vc)).toArray, .int .i64 7] w fun e w' => e = .returned (.bool (!rulR sn r 6)) ∧ Keeps No w w' := by
  unfold cfgV encRul
  obtain ⟨W2, hW2⟩ : ∃ W2, (w.alloc (.cells #[.slice sa sn sc, .slice ra rn rc, .slice ta tn tc, .int .i64 i0, .int .i64 i1, .int .i64 i2, .int .i64 i3, .int .i64 i4, .int .i64 i5, .bool br, .int .i64 i6] 33)).alloc (.cells #[.int .u8 r.kind, .int .i64 r.sig, .int .i64 r.limit, .int .i64 r.back, .int .i64 r.delay, .int .i64 r.span, .int .u8 r.pri, .bool r.latch, .slice va r.stages.length vc] 38) = W2 := ⟨_, rfl⟩
  have k2 : Keeps No w W2 := by rw [← hW2]; exact ((Keeps.refl _ _).alloc _).alloc _
  have b1 : BlkL W2 w.heap.size 33 [.slice sa sn sc, .slice ra rn rc, .slice ta tn tc, .int .i64 i0, .int .i64 i1, .int .i64 i2, .int .i64 i3, .int .i64 i4, .int .i64 i5, .bool br, .int .i64 i6] := by rw [← hW2]; exact heapA _ (heap_alloc_new w _)
  have b2 : BlkL W2 (w.heap.size + 1) 38 [.int .u8 r.kind, .int .i64 r.sig, .int .i64 r.limit, .int .i64 r.back, .int .i64 r.delay, .int .i64 r.span, .int .u8 r.pri, .bool r.latch, .slice va r.stages.length vc] := by rw [← hW2]; exact heap_alloc_at (by simp) _
  have c0 := b1.cell (o := 0) rfl
  obtain ⟨y0, y1, y2, y3, y4, y5, y6, y7, y8⟩ := cells9 b2
  have HW2 := hid hW2
  have K2 := hid k2
  clear hW2 k2 b1 b2
  have HK : Hid (rulR sn r 6 = (if r.kind = 3 ∨ r.kind = 4 ∨ r.kind = 5 then inB r.span 1 10000 else decide (r.span = 0))) := hid rfl
  obtain ⟨kk, hkk⟩ : ∃ k, r.kind = k := ⟨_, rfl⟩
  rw [hkk] at HW2 HK y0 ⊢
  clear hkk
  by_cases hc : kk = 3 ∨ kk = 4 ∨ kk = 5
  · by_cases h0 : r.span < 1
    · have HR : Hid ((!rulR sn r 6) = true) := hid (by rw [HK.out, if_pos hc, inB_false.2 (by omega)]; rfl)
      have d0 : decide (r.span < 1) = true := decide_eq_true (by omega)
      clear h0
      rcases hc with rfl | rfl | rfl
      all_goals
        go_enter Try.func47, Try.ntmps47
        go_upto_region 1 with fail
        rw [HW2.out]
        go_wp2_with fail
        go_ret
        exact ⟨by rw [HR.out]; rfl, K2.out⟩
    · by_cases h1 : 10000 < r.span
      · have HR : Hid ((!rulR sn r 6) = true) := hid (by rw [HK.out, if_pos hc, inB_false.2 (by omega)]; rfl)
        have d0 : decide (r.span < 1) = false := decide_eq_false (by omega)
        have d1 : decide (10000 < r.span) = true := decide_eq_true (by omega)
        clear h0 h1
        rcases hc with rfl | rfl | rfl
        all_goals
          go_enter Try.func47, Try.ntmps47
          go_upto_region 1 with fail
          rw [HW2.out]
          go_wp2_with fail
          go_ret
          exact ⟨by rw [HR.out]; rfl, K2.out⟩
      · have HR : Hid ((!rulR sn r 6) = false) := hid (by rw [HK.out, if_pos hc, inB_true.2 ⟨by omega, by omega⟩]; rfl)
        have d0 : decide (r.span < 1) = false := decide_eq_false (by omega)
        have d1 : decide (10000 < r.span) = false := decide_eq_false (by omega)
        clear h0 h1
        rcases hc with rfl | rfl | rfl
        all_goals
          go_enter Try.func47, Try.ntmps47
          go_upto_region 1 with fail
          rw [HW2.out]
          go_wp2_with fail
          go_ret
          exact ⟨by rw [HR.out]; rfl, K2.out⟩
  · have e3 : (kk == 3) = false := by simp; omega
    have e4 : (kk == 4) = false := by simp; omega
    have e5 : (kk == 5) = false := by simp; omega
    by_cases h0 : r.span = 0
    · have HR : Hid ((!rulR sn r 6) = false) := hid (by rw [HK.out, if_neg hc, decide_eq_true h0]; rfl)
      have d0 : (r.span == 0) = true := by simpa using h0
      have d1 : (r.span != 0) = false := by simpa using h0
      clear h0 hc
      go_enter Try.func47, Try.ntmps47
      go_upto_region 1 with fail
      rw [HW2.out]
      go_wp2_with fail
      go_ret
      exact ⟨by rw [HR.out]; rfl, K2.out⟩
    · have HR : Hid ((!rulR sn r 6) = true) := hid (by rw [HK.out, if_neg hc, decide_eq_false h0]; rfl)
      have d0 : (r.span == 0) = false := by simpa using h0
      have d1 : (r.span != 0) = true := by simpa using h0
      clear h0 hc
      go_enter Try.func47, Try.ntmps47
      go_upto_region 1 with fail
      rw [HW2.out]
      go_wp2_with fail
      go_ret
      exact ⟨by rw [HR.out]; rfl, K2.out⟩

set_option maxHeartbeats 2000000 in
set_option maxRecDepth 100000 in
theorem mbroken6_any (r : Rul) (i0 i1 i2 i3 i4 i5 i6 : Int) (br : Bool) :
    Calls Try.prog 47 #[cfgV (.slice sa sn sc) (.slice ra rn rc) (.slice ta tn tc) i0 i1 i2 i3 i4 i5 br i6, .agg (encRul (r, .slice va r.stages.length vc)).toArray, .int .i64 6] w fun e w' => e = .returned (.bool (!rulR sn r 5)) ∧ Keeps No w w' := by
  unfold cfgV encRul
  obtain ⟨W2, hW2⟩ : ∃ W2, (w.alloc (.cells #[.slice sa sn sc, .slice ra rn rc, .slice ta tn tc, .int .i64 i0, .int .i64 i1, .int .i64 i2, .int .i64 i3, .int .i64 i4, .int .i64 i5, .bool br, .int .i64 i6] 33)).alloc (.cells #[.int .u8 r.kind, .int .i64 r.sig, .int .i64 r.limit, .int .i64 r.back, .int .i64 r.delay, .int .i64 r.span, .int .u8 r.pri, .bool r.latch, .slice va r.stages.length vc] 38) = W2 := ⟨_, rfl⟩
  have k2 : Keeps No w W2 := by rw [← hW2]; exact ((Keeps.refl _ _).alloc _).alloc _
  have b1 : BlkL W2 w.heap.size 33 [.slice sa sn sc, .slice ra rn rc, .slice ta tn tc, .int .i64 i0, .int .i64 i1, .int .i64 i2, .int .i64 i3, .int .i64 i4, .int .i64 i5, .bool br, .int .i64 i6] := by rw [← hW2]; exact heapA _ (heap_alloc_new w _)
  have b2 : BlkL W2 (w.heap.size + 1) 38 [.int .u8 r.kind, .int .i64 r.sig, .int .i64 r.limit, .int .i64 r.back, .int .i64 r.delay, .int .i64 r.span, .int .u8 r.pri, .bool r.latch, .slice va r.stages.length vc] := by rw [← hW2]; exact heap_alloc_at (by simp) _
  have c0 := b1.cell (o := 0) rfl
  obtain ⟨y0, y1, y2, y3, y4, y5, y6, y7, y8⟩ := cells9 b2
  have HW2 := hid hW2
  have K2 := hid k2
  clear hW2 k2 b1 b2
  have HK : Hid (rulR sn r 5 = (if r.kind = 1 then i32B r.limit && i32B r.back && decide (r.back ≤ r.limit) else if r.kind = 2 then i32B r.limit && i32B r.back && decide (r.limit ≤ r.back) else if r.kind = 3 ∨ r.kind = 4 then i32B r.limit && decide (1 ≤ r.limit) && inB r.back 0 r.limit else decide (r.limit = 0) && decide (r.back = 0))) := hid rfl
  obtain ⟨kk, hkk⟩ : ∃ k, r.kind = k := ⟨_, rfl⟩
  obtain ⟨li, hli⟩ : ∃ k, r.limit = k := ⟨_, rfl⟩
  obtain ⟨ba, hba⟩ : ∃ k, r.back = k := ⟨_, rfl⟩
  rw [hkk, hli, hba] at HW2 HK ⊢
  rw [hkk] at y0
  rw [hli] at y2
  rw [hba] at y3
  clear hkk hli hba
  have H1 := fun w' => hid (mnumber_any li w')
  have H2 := fun w' => hid (mnumber_any ba w')
  rcases (show kk = 1 ∨ kk = 2 ∨ (kk = 3 ∨ kk = 4) ∨ (kk ≠ 1 ∧ kk ≠ 2 ∧ kk ≠ 3 ∧ kk ≠ 4) by omega) with rfl | rfl | hc | hc
  · have HK2 : Hid (rulR sn r 5 = (i32B li && i32B ba && decide (ba ≤ li))) := hid (by rw [HK.out]; rfl)
    cases h1 : i32B li
    · simp only [h1] at H1 HK2
      have HR : Hid ((!rulR sn r 5) = true) := hid (by rw [HK2.out]; simp)
      clear h1
      go_enter Try.func47, Try.ntmps47
      go_upto_region 1 with fail
      rw [HW2.out]
      go_wp2_with (first | (go_at_call 46; (with_reducible refine (H1 _).out.mono ?_); rintro e w' ⟨rfl, rfl⟩) | (go_at_call 46; (with_reducible refine (H2 _).out.mono ?_); rintro e w' ⟨rfl, rfl⟩))
      go_ret
      exact ⟨by rw [HR.out]; rfl, K2.out⟩
    · cases h2 : i32B ba
      · simp only [h1, h2] at H1 H2 HK2
        have HR : Hid ((!rulR sn r 5) = true) := hid (by rw [HK2.out]; simp)
        clear h1 h2
        go_enter Try.func47, Try.ntmps47
        go_upto_region 1 with fail
        rw [HW2.out]
        go_wp2_with (first | (go_at_call 46; (with_reducible refine (H1 _).out.mono ?_); rintro e w' ⟨rfl, rfl⟩) | (go_at_call 46; (with_reducible refine (H2 _).out.mono ?_); rintro e w' ⟨rfl, rfl⟩))
        go_ret
        exact ⟨by rw [HR.out]; rfl, K2.out⟩
      · simp only [h1, h2] at H1 H2 HK2
        clear h1 h2
        by_cases h3 : li < ba
        · have HR : Hid ((!rulR sn r 5) = true) := hid (by rw [HK2.out, decide_eq_false (by omega)]; rfl)
          have d : decide (li < ba) = true := decide_eq_true h3
          clear h3
          go_enter Try.func47, Try.ntmps47
          go_upto_region 1 with fail
          rw [HW2.out]
          go_wp2_with (first | (go_at_call 46; (with_reducible refine (H1 _).out.mono ?_); rintro e w' ⟨rfl, rfl⟩) | (go_at_call 46; (with_reducible refine (H2 _).out.mono ?_); rintro e w' ⟨rfl, rfl⟩))
          go_ret
          exact ⟨by rw [HR.out]; rfl, K2.out⟩
        · have HR : Hid ((!rulR sn r 5) = false) := hid (by rw [HK2.out, decide_eq_true (by omega)]; rfl)
          have d : decide (li < ba) = false := decide_eq_false h3
          clear h3
          go_enter Try.func47, Try.ntmps47
          go_upto_region 1 with fail
          rw [HW2.out]
          go_wp2_with (first | (go_at_call 46; (with_reducible refine (H1 _).out.mono ?_); rintro e w' ⟨rfl, rfl⟩) | (go_at_call 46; (with_reducible refine (H2 _).out.mono ?_); rintro e w' ⟨rfl, rfl⟩))
          go_ret
          exact ⟨by rw [HR.out]; rfl, K2.out⟩
  · have HK2 : Hid (rulR sn r 5 = (i32B li && i32B ba && decide (li ≤ ba))) := hid (by rw [HK.out]; rfl)
    cases h1 : i32B li
    · simp only [h1] at H1 HK2
      have HR : Hid ((!rulR sn r 5) = true) := hid (by rw [HK2.out]; simp)
      clear h1
      go_enter Try.func47, Try.ntmps47
      go_upto_region 1 with fail
      rw [HW2.out]
      go_wp2_with (first | (go_at_call 46; (with_reducible refine (H1 _).out.mono ?_); rintro e w' ⟨rfl, rfl⟩) | (go_at_call 46; (with_reducible refine (H2 _).out.mono ?_); rintro e w' ⟨rfl, rfl⟩))
      go_ret
      exact ⟨by rw [HR.out]; rfl, K2.out⟩
    · cases h2 : i32B ba
      · simp only [h1, h2] at H1 H2 HK2
        have HR : Hid ((!rulR sn r 5) = true) := hid (by rw [HK2.out]; simp)
        clear h1 h2
        go_enter Try.func47, Try.ntmps47
        go_upto_region 1 with fail
        rw [HW2.out]
        go_wp2_with (first | (go_at_call 46; (with_reducible refine (H1 _).out.mono ?_); rintro e w' ⟨rfl, rfl⟩) | (go_at_call 46; (with_reducible refine (H2 _).out.mono ?_); rintro e w' ⟨rfl, rfl⟩))
        go_ret
        exact ⟨by rw [HR.out]; rfl, K2.out⟩
      · simp only [h1, h2] at H1 H2 HK2
        clear h1 h2
        by_cases h3 : ba < li
        · have HR : Hid ((!rulR sn r 5) = true) := hid (by rw [HK2.out, decide_eq_false (by omega)]; rfl)
          have d : decide (ba < li) = true := decide_eq_true h3
          clear h3
          go_enter Try.func47, Try.ntmps47
          go_upto_region 1 with fail
          rw [HW2.out]
          go_wp2_with (first | (go_at_call 46; (with_reducible refine (H1 _).out.mono ?_); rintro e w' ⟨rfl, rfl⟩) | (go_at_call 46; (with_reducible refine (H2 _).out.mono ?_); rintro e w' ⟨rfl, rfl⟩))
          go_ret
          exact ⟨by rw [HR.out]; rfl, K2.out⟩
        · have HR : Hid ((!rulR sn r 5) = false) := hid (by rw [HK2.out, decide_eq_true (by omega)]; rfl)
          have d : decide (ba < li) = false := decide_eq_false h3
          clear h3
          go_enter Try.func47, Try.ntmps47
          go_upto_region 1 with fail
          rw [HW2.out]
          go_wp2_with (first | (go_at_call 46; (with_reducible refine (H1 _).out.mono ?_); rintro e w' ⟨rfl, rfl⟩) | (go_at_call 46; (with_reducible refine (H2 _).out.mono ?_); rintro e w' ⟨rfl, rfl⟩))
          go_ret
          exact ⟨by rw [HR.out]; rfl, K2.out⟩
  · have HK2 : Hid (rulR sn r 5 = (i32B li && decide (1 ≤ li) && inB ba 0 li)) := hid (by rw [HK.out, if_neg (by omega), if_neg (by omega), if_pos hc])
    have HC := hid hc
    clear hc HK
    cases h1 : i32B li
    · simp only [h1] at H1 HK2
      have HR : Hid ((!rulR sn r 5) = true) := hid (by rw [HK2.out]; simp)
      clear h1
      rcases HC.out with rfl | rfl
      all_goals
        go_enter Try.func47, Try.ntmps47
        go_upto_region 1 with fail
        rw [HW2.out]
        go_wp2_with (first | (go_at_call 46; (with_reducible refine (H1 _).out.mono ?_); rintro e w' ⟨rfl, rfl⟩) | (go_at_call 46; (with_reducible refine (H2 _).out.mono ?_); rintro e w' ⟨rfl, rfl⟩))
        go_ret
        exact ⟨by rw [HR.out]; rfl, K2.out⟩
    · simp only [h1] at H1 HK2
      clear h1
      by_cases h3 : li < 1
      · have HR : Hid ((!rulR sn r 5) = true) := hid (by rw [HK2.out, decide_eq_false (by omega)]; rfl)
        have d : decide (li < 1) = true := decide_eq_true h3
        clear h3
        rcases HC.out with rfl | rfl
        all_goals
          go_enter Try.func47, Try.ntmps47
          go_upto_region 1 with fail
          rw [HW2.out]
          go_wp2_with (first | (go_at_call 46; (with_reducible refine (H1 _).out.mono ?_); rintro e w' ⟨rfl, rfl⟩) | (go_at_call 46; (with_reducible refine (H2 _).out.mono ?_); rintro e w' ⟨rfl, rfl⟩))
          go_ret
          exact ⟨by rw [HR.out]; rfl, K2.out⟩
      · have d : decide (li < 1) = false := decide_eq_false h3
        by_cases h4 : ba < 0
        · have HR : Hid ((!rulR sn r 5) = true) := hid (by rw [HK2.out, decide_eq_true (by omega), inB_false.2 (Or.inl h4)]; rfl)
          have d4 : decide (ba < 0) = true := decide_eq_true h4
          clear h3 h4
          rcases HC.out with rfl | rfl
          all_goals
            go_enter Try.func47, Try.ntmps47
            go_upto_region 1 with fail
            rw [HW2.out]
            go_wp2_with (first | (go_at_call 46; (with_reducible refine (H1 _).out.mono ?_); rintro e w' ⟨rfl, rfl⟩) | (go_at_call 46; (with_reducible refine (H2 _).out.mono ?_); rintro e w' ⟨rfl, rfl⟩))
            go_ret
            exact ⟨by rw [HR.out]; rfl, K2.out⟩
        · have d4 : decide (ba < 0) = false := decide_eq_false h4
          by_cases h5 : li < ba
          · have HR : Hid ((!rulR sn r 5) = true) := hid (by rw [HK2.out, decide_eq_true (by omega), inB_false.2 (Or.inr h5)]; rfl)
            have d5 : decide (li < ba) = true := decide_eq_true h5
            clear h3 h4 h5
            rcases HC.out with rfl | rfl
            all_goals
              go_enter Try.func47, Try.ntmps47
              go_upto_region 1 with fail
              rw [HW2.out]
              go_wp2_with (first | (go_at_call 46; (with_reducible refine (H1 _).out.mono ?_); rintro e w' ⟨rfl, rfl⟩) | (go_at_call 46; (with_reducible refine (H2 _).out.mono ?_); rintro e w' ⟨rfl, rfl⟩))
              go_ret
              exact ⟨by rw [HR.out]; rfl, K2.out⟩
          · have HR : Hid ((!rulR sn r 5) = false) := hid (by rw [HK2.out, decide_eq_true (by omega), inB_true.2 ⟨by omega, by omega⟩]; rfl)
            have d5 : decide (li < ba) = false := decide_eq_false h5
            clear h3 h4 h5
            rcases HC.out with rfl | rfl
            all_goals
              go_enter Try.func47, Try.ntmps47
              go_upto_region 1 with fail
              rw [HW2.out]
              go_wp2_with (first | (go_at_call 46; (with_reducible refine (H1 _).out.mono ?_); rintro e w' ⟨rfl, rfl⟩) | (go_at_call 46; (with_reducible refine (H2 _).out.mono ?_); rintro e w' ⟨rfl, rfl⟩))
              go_ret
              exact ⟨by rw [HR.out]; rfl, K2.out⟩
  · obtain ⟨n1, n2, n3, n4⟩ := hc
    have HK2 : Hid (rulR sn r 5 = (decide (li = 0) && decide (ba = 0))) := hid (by rw [HK.out, if_neg n1, if_neg n2, if_neg (by omega)])
    have e1 : (kk == 1) = false := by simpa using n1
    have e2 : (kk == 2) = false := by simpa using n2
    have e3 : (kk == 3) = false := by simpa using n3
    have e4 : (kk == 4) = false := by simpa using n4
    clear n1 n2 n3 n4 HK
    by_cases h1 : li = 0
    · have d1 : (li == 0) = true := by simpa using h1
      have d2 : (li != 0) = false := by simpa using h1
      by_cases h2 : ba = 0
      · have HR : Hid ((!rulR sn r 5) = false) := hid (by rw [HK2.out, decide_eq_true h1, decide_eq_true h2]; rfl)
        have d3 : (ba == 0) = true := by simpa using h2
        have d4 : (ba != 0) = false := by simpa using h2
        clear h1 h2
        go_enter Try.func47, Try.ntmps47
        go_upto_region 1 with fail
        rw [HW2.out]
        go_wp2_with fail
        go_ret
        exact ⟨by rw [HR.out]; rfl, K2.out⟩
      · have HR : Hid ((!rulR sn r 5) = true) := hid (by rw [HK2.out, decide_eq_false h2]; simp)
        have d3 : (ba == 0) = false := by simpa using h2
        have d4 : (ba != 0) = true := by simpa using h2
        clear h1 h2
        go_enter Try.func47, Try.ntmps47
        go_upto_region 1 with fail
        rw [HW2.out]
        go_wp2_with fail
        go_ret
        exact ⟨by rw [HR.out]; rfl, K2.out⟩
    · have HR : Hid ((!rulR sn r 5) = true) := hid (by rw [HK2.out, decide_eq_false h1]; simp)
      have d1 : (li == 0) = false := by simpa using h1
      have d2 : (li != 0) = true := by simpa using h1
      clear h1
      go_enter Try.func47, Try.ntmps47
      go_upto_region 1 with fail
      rw [HW2.out]
      go_wp2_with fail
      go_ret
      exact ⟨by rw [HR.out]; rfl, K2.out⟩

end
end Go.Proofs.Ytaakmlgkfbpdoaa
