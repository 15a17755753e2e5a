/-
  The program's rules of check: what each answers at a place.
-/
import Derived.Test.YtaakmlgkfbpdoaaChk
namespace Go.Proofs.Ytaakmlgkfbpdoaa
open Go.RowKit

theorem drawsNo (w : World) (n : Nat) : Keeps No w (w.drewN n) := (Keeps.refl _ _).drewN n

/-- A configuration's variable at block b. -/
structure CfgB (w : World) (b : Nat) (C : Cfg) (sa ra ta : Option Addr) (sc rc tc : Nat) : Prop where
  blk : BlkL w b 33 [.slice sa C.sigs.length sc, .slice ra C.ruls.length rc, .slice ta C.tab.length tc, .int .i64 C.b0, .int .i64 C.b1, .int .i64 C.b2, .int .i64 C.drain, .int .i64 C.pause, .int .i64 C.off, .bool C.brk, .int .i64 C.log]
  cfg : CfgR w C (.slice sa C.sigs.length sc) (.slice ra C.ruls.length rc) (.slice ta C.tab.length tc)

theorem CfgB.calm {w w' : World} {b : Nat} {C : Cfg} {sa ra ta : Option Addr} {sc rc tc : Nat} (h : CfgB w b C sa ra ta sc rc tc) (k : Keeps No w w') : CfgB w' b C sa ra ta sc rc tc :=
  ⟨h.blk.keep k (fun h => h), h.cfg.calm k⟩

/-- The cells of a struct in a slice. -/
theorem Sl.structAt {α : Type} {w : World} {size : Nat} {enc : α → List Value} (he : ∀ x, (enc x).length = size) {a : Option Addr} {cap : Nat} {l : List α} (h : Sl w size (.slice a l.length cap) l.length (l.flatMap enc)) {k : Nat} (hk : k < l.length) (hs : 0 < size) :
    ∃ g off, a = some ⟨g, off, none⟩ ∧ g < w.heap.size ∧ ∀ j u, (enc l[k])[j]? = some u → w.cell? ⟨g, off + k * size + j, none⟩ = some u := by
  have hc : ∀ j u, (enc l[k])[j]? = some u → ∃ g off, a = some ⟨g, off, none⟩ ∧ g < w.heap.size ∧ w.cell? ⟨g, off + (k * size + j), none⟩ = some u := fun j u hu => by
    have hj : j < size := by have := (List.getElem?_eq_some_iff.1 hu).1; rwa [he] at this
    exact Sl.cellAt h (by rw [getElem?_flatMap_enc he _ k j hj hk]; exact hu)
  have h0 : (enc l[k])[0]? = some ((enc l[k])[0]'(by rw [he]; exact hs)) := List.getElem?_eq_getElem _
  obtain ⟨g, off, e, hg, _⟩ := hc 0 _ h0
  refine ⟨g, off, e, hg, fun j u hu => ?_⟩
  obtain ⟨g', off', e', _, hc'⟩ := hc j u hu
  rw [e] at e'
  simp only [Option.some.injEq, Addr.mk.injEq, and_true] at e'
  obtain ⟨rfl, rfl⟩ := e'
  rw [Nat.add_assoc]; exact hc'

theorem encRul_len (x : Rul × Value) : (encRul x).length = 9 := rfl
theorem encSig_len (x : Sig) : (encSig x).length = 2 := rfl
theorem encStg_len (x : Stg) : (encStg x).length = 2 := rfl

theorem inB_def (n a b : Int) : inB n a b = (decide (a ≤ n) && decide (n ≤ b)) := rfl

set_option maxRecDepth 100000 in
theorem within_int (n a b : Int) (w : World) : Calls Try.prog 74 #[.int .i64 n, .int .i64 a, .int .i64 b] w fun e w' => e = .returned (.bool (inB n a b)) ∧ w = w' := by
  by_cases h1 : a ≤ n
  · by_cases h2 : n ≤ b
    · have hh : Hid (inB n a b = true) := hid (inB_true.2 ⟨h1, h2⟩)
      have d1 : decide (a ≤ n) = true := by simpa using h1
      have d2 : decide (n ≤ b) = true := by simpa using h2
      go_enter Try.func74, Try.ntmps74
      go_wp2_with fail
      go_ret
      exact ⟨by rw [hh.out]; rfl, rfl⟩
    · have hh : Hid (inB n a b = false) := hid (inB_false.2 (by omega))
      have d1 : decide (a ≤ n) = true := by simpa using h1
      have d2 : decide (n ≤ b) = false := by simpa using h2
      go_enter Try.func74, Try.ntmps74
      go_wp2_with fail
      go_ret
      exact ⟨by rw [hh.out]; rfl, rfl⟩
  · have hh : Hid (inB n a b = false) := hid (inB_false.2 (by omega))
    have d1 : decide (a ≤ n) = false := by simpa using h1
    go_enter Try.func74, Try.ntmps74
    go_wp2_with fail
    go_ret
    exact ⟨by rw [hh.out]; rfl, rfl⟩

set_option maxRecDepth 100000 in
theorem within_int64 (n a b : Int) (w : World) : Calls Try.prog 77 #[.int .i64 n, .int .i64 a, .int .i64 b] w fun e w' => e = .returned (.bool (inB n a b)) ∧ w = w' := by
  by_cases h1 : a ≤ n
  · by_cases h2 : n ≤ b
    · have hh : Hid (inB n a b = true) := hid (inB_true.2 ⟨h1, h2⟩)
      have d1 : decide (a ≤ n) = true := by simpa using h1
      have d2 : decide (n ≤ b) = true := by simpa using h2
      go_enter Try.func77, Try.ntmps77
      go_wp2_with fail
      go_ret
      exact ⟨by rw [hh.out]; rfl, rfl⟩
    · have hh : Hid (inB n a b = false) := hid (inB_false.2 (by omega))
      have d1 : decide (a ≤ n) = true := by simpa using h1
      have d2 : decide (n ≤ b) = false := by simpa using h2
      go_enter Try.func77, Try.ntmps77
      go_wp2_with fail
      go_ret
      exact ⟨by rw [hh.out]; rfl, rfl⟩
  · have hh : Hid (inB n a b = false) := hid (inB_false.2 (by omega))
    have d1 : decide (a ≤ n) = false := by simpa using h1
    go_enter Try.func77, Try.ntmps77
    go_wp2_with fail
    go_ret
    exact ⟨by rw [hh.out]; rfl, rfl⟩

set_option maxRecDepth 100000 in
theorem within_byte (n a b : Int) (w : World) : Calls Try.prog 76 #[.int .u8 n, .int .u8 a, .int .u8 b] w fun e w' => e = .returned (.bool (inB n a b)) ∧ w = w' := by
  by_cases h1 : a ≤ n
  · by_cases h2 : n ≤ b
    · have hh : Hid (inB n a b = true) := hid (inB_true.2 ⟨h1, h2⟩)
      have d1 : decide (a ≤ n) = true := by simpa using h1
      have d2 : decide (n ≤ b) = true := by simpa using h2
      go_enter Try.func76, Try.ntmps76
      go_wp2_with fail
      go_ret
      exact ⟨by rw [hh.out]; rfl, rfl⟩
    · have hh : Hid (inB n a b = false) := hid (inB_false.2 (by omega))
      have d1 : decide (a ≤ n) = true := by simpa using h1
      have d2 : decide (n ≤ b) = false := by simpa using h2
      go_enter Try.func76, Try.ntmps76
      go_wp2_with fail
      go_ret
      exact ⟨by rw [hh.out]; rfl, rfl⟩
  · have hh : Hid (inB n a b = false) := hid (inB_false.2 (by omega))
    have d1 : decide (a ≤ n) = false := by simpa using h1
    go_enter Try.func76, Try.ntmps76
    go_wp2_with fail
    go_ret
    exact ⟨by rw [hh.out]; rfl, rfl⟩

set_option maxRecDepth 100000 in
theorem isInt_any (n : Int) (w : World) : Calls Try.prog 75 #[.int .i64 n] w fun e w' => e = .returned (.bool (i32B n)) ∧ w = w' := by
  have H := hid (within_int n (-2147483648) 2147483647 w)
  go_enter Try.func75, Try.ntmps75
  go_wp2_with fail
  refine H.out.mono ?_
  rintro e w' ⟨rfl, rfl⟩
  go_wp2_with fail
  go_ret
  exact ⟨rfl, rfl⟩

section
variable {w : World} {b : Nat} {C : Cfg} {sa ra ta : Option Addr} {sc rc tc : Nat}

set_option maxHeartbeats 1000000 in
set_option maxRecDepth 100000 in
theorem kp0_any (h : CfgB w b C sa ra ta sc rc tc) (a : Nat) : Calls Try.prog 57 #[.pointer (some ⟨b, 0, none⟩), .int .i64 a] w fun e w' => e = .returned (.bool (keepB rulP C 0 a)) ∧ Keeps No w w' := by
  have c := h.blk.cell (o := 0) rfl
  have hl : ((C.sigs.length : Int) : Int) = (C.sigs.length : Int) := rfl
  have H := fun w' => hid (within_int (C.sigs.length : Int) 1 8 w')
  clear h hl
  go_enter Try.func57, Try.ntmps57
  go_wp2_with fail
  refine (H _).out.mono ?_
  rintro e w' ⟨rfl, rfl⟩
  go_wp2_with fail
  go_ret
  exact ⟨rfl, Keeps.refl _ _⟩

set_option maxHeartbeats 1000000 in
set_option maxRecDepth 100000 in
theorem kp2_any (h : CfgB w b C sa ra ta sc rc tc) (a : Nat) : Calls Try.prog 59 #[.pointer (some ⟨b, 0, none⟩), .int .i64 a] w fun e w' => e = .returned (.bool (keepB rulP C 2 a)) ∧ Keeps No w w' := by
  have c := h.blk.cell (o := 1) rfl
  have hl : ((C.ruls.length : Int) : Int) = (C.ruls.length : Int) := rfl
  have H := fun w' => hid (within_int (C.ruls.length : Int) 1 32 w')
  clear h hl
  go_enter Try.func59, Try.ntmps59
  go_wp2_with fail
  refine (H _).out.mono ?_
  rintro e w' ⟨rfl, rfl⟩
  go_wp2_with fail
  go_ret
  exact ⟨rfl, Keeps.refl _ _⟩

set_option maxHeartbeats 1000000 in
set_option maxRecDepth 100000 in
theorem kp10_any (h : CfgB w b C sa ra ta sc rc tc) (a : Nat) : Calls Try.prog 67 #[.pointer (some ⟨b, 0, none⟩), .int .i64 a] w fun e w' => e = .returned (.bool (keepB rulP C 10 a)) ∧ Keeps No w w' := by
  have c := h.blk.cell (o := 2) rfl
  have hl : ((C.tab.length : Int) : Int) = (C.tab.length : Int) := rfl
  have H := fun w' => hid (within_int (C.tab.length : Int) 1 64 w')
  clear h hl
  go_enter Try.func67, Try.ntmps67
  go_wp2_with fail
  refine (H _).out.mono ?_
  rintro e w' ⟨rfl, rfl⟩
  go_wp2_with fail
  go_ret
  exact ⟨rfl, Keeps.refl _ _⟩

set_option maxHeartbeats 1000000 in
set_option maxRecDepth 100000 in
theorem kp16_any (h : CfgB w b C sa ra ta sc rc tc) (a : Nat) : Calls Try.prog 73 #[.pointer (some ⟨b, 0, none⟩), .int .i64 a] w fun e w' => e = .returned (.bool (keepB rulP C 16 a)) ∧ Keeps No w w' := by
  have c := h.blk.cell (o := 10) rfl
  have hl : (C.log : Int) = C.log := rfl
  have H := fun w' => hid (within_int C.log 1 256 w')
  clear h hl
  go_enter Try.func73, Try.ntmps73
  go_wp2_with fail
  refine (H _).out.mono ?_
  rintro e w' ⟨rfl, rfl⟩
  go_wp2_with fail
  go_ret
  exact ⟨rfl, Keeps.refl _ _⟩

set_option maxHeartbeats 1000000 in
set_option maxRecDepth 100000 in
theorem kp3_any (h : CfgB w b C sa ra ta sc rc tc) {a : Nat} (ha : a < C.ruls.length) : Calls Try.prog 60 #[.pointer (some ⟨b, 0, none⟩), .int .i64 a] w fun e w' => e = .returned (.bool (keepB rulP C 3 a)) ∧ Keeps No w w' := by
  obtain ⟨x, hx⟩ : ∃ x, C.ruls[a] = x := ⟨_, rfl⟩
  have hk : keepB rulP C 3 a = rulP C.sigs.length x.1 3 := by
    show (C.ruls[a]?).all _ = _
    rw [List.getElem?_eq_getElem ha, hx]; rfl
  obtain ⟨g, off, rfl, hg, hc⟩ := Sl.structAt encRul_len h.cfg.rul ha (by decide)
  rw [hx] at hc
  have HK := hid hk
  have c1 := h.blk.cell (o := 1) rfl
  have r := hc 0 _ rfl
  have H := fun w' => hid (within_byte x.1.kind 1 6 w')
  clear h hk hx hc
  try simp only [Nat.add_zero] at r
  go_enter Try.func60, Try.ntmps60
  go_wp2_with fail
  refine (H _).out.mono ?_
  rintro e w' ⟨rfl, rfl⟩
  go_wp2_with fail
  go_ret
  exact ⟨by rw [HK.out]; rfl, Keeps.refl _ _⟩

set_option maxHeartbeats 1000000 in
set_option maxRecDepth 100000 in
theorem kp7_any (h : CfgB w b C sa ra ta sc rc tc) {a : Nat} (ha : a < C.ruls.length) : Calls Try.prog 64 #[.pointer (some ⟨b, 0, none⟩), .int .i64 a] w fun e w' => e = .returned (.bool (keepB rulP C 7 a)) ∧ Keeps No w w' := by
  obtain ⟨x, hx⟩ : ∃ x, C.ruls[a] = x := ⟨_, rfl⟩
  have hk : keepB rulP C 7 a = rulP C.sigs.length x.1 7 := by
    show (C.ruls[a]?).all _ = _
    rw [List.getElem?_eq_getElem ha, hx]; rfl
  obtain ⟨g, off, rfl, hg, hc⟩ := Sl.structAt encRul_len h.cfg.rul ha (by decide)
  rw [hx] at hc
  have HK := hid hk
  have c1 := h.blk.cell (o := 1) rfl
  have r := hc 4 _ rfl
  have H := fun w' => hid (within_int64 x.1.delay 0 10000 w')
  clear h hk hx hc
  try simp only [Nat.add_zero] at r
  go_enter Try.func64, Try.ntmps64
  go_wp2_with fail
  refine (H _).out.mono ?_
  rintro e w' ⟨rfl, rfl⟩
  go_wp2_with fail
  go_ret
  exact ⟨by rw [HK.out]; rfl, Keeps.refl _ _⟩

set_option maxHeartbeats 1000000 in
set_option maxRecDepth 100000 in
theorem kp8_any (h : CfgB w b C sa ra ta sc rc tc) {a : Nat} (ha : a < C.ruls.length) : Calls Try.prog 65 #[.pointer (some ⟨b, 0, none⟩), .int .i64 a] w fun e w' => e = .returned (.bool (keepB rulP C 8 a)) ∧ Keeps No w w' := by
  obtain ⟨x, hx⟩ : ∃ x, C.ruls[a] = x := ⟨_, rfl⟩
  have hk : keepB rulP C 8 a = rulP C.sigs.length x.1 8 := by
    show (C.ruls[a]?).all _ = _
    rw [List.getElem?_eq_getElem ha, hx]; rfl
  obtain ⟨g, off, rfl, hg, hc⟩ := Sl.structAt encRul_len h.cfg.rul ha (by decide)
  rw [hx] at hc
  have HK := hid hk
  have c1 := h.blk.cell (o := 1) rfl
  have r := hc 6 _ rfl
  have H := fun w' => hid (within_byte x.1.pri 1 3 w')
  clear h hk hx hc
  try simp only [Nat.add_zero] at r
  go_enter Try.func65, Try.ntmps65
  go_wp2_with fail
  refine (H _).out.mono ?_
  rintro e w' ⟨rfl, rfl⟩
  go_wp2_with fail
  go_ret
  exact ⟨by rw [HK.out]; rfl, Keeps.refl _ _⟩

end
end Go.Proofs.Ytaakmlgkfbpdoaa
