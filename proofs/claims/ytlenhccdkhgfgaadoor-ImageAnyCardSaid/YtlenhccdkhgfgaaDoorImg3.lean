/-
  What a pass that lays does with lists.
-/
import Derived.Test.YtlenhccdkhgfgaaDoorImg2
namespace Go.Proofs.YtlenhccdkhgfgaaDoor
open Go.RowKit

theorem flatten_take {α : Type} (B : List (List α)) {i : Nat} (h : i < B.length) : (B.take (i + 1)).flatten = (B.take i).flatten ++ B[i] := by
  rw [List.take_succ_eq_append_getElem h, List.flatten_append]; simp

theorem flatten_take_le {α : Type} (B : List (List α)) (i : Nat) : (B.take i).flatten.length ≤ B.flatten.length := by
  have h : B.flatten = (B.take i).flatten ++ (B.drop i).flatten := by rw [← List.flatten_append, List.take_append_drop]
  rw [h, List.length_append]; omega

section
variable {w : World} {pb wb : Nat} {F : Nat → Prop} {l : List Int} {b o : Nat}

set_option maxHeartbeats 4000000 in
set_option maxRecDepth 100000 in
theorem wlistSig {qb : Nat} (hp : Lay w pb wb) (h : Wr w wb F l) (np : ¬ F pb) (hb : ¬ F b) {a : Option Addr} {n cap : Nat} (hc : w.cell? ⟨b, o, none⟩ = some (.slice a n cap)) (hn : n ≤ 1000000) (B : List (List Int)) (hB : B.length = n)
    (ha : 0 < n → ∃ g off, a = some ⟨g, off, none⟩) (hl : l.length + 1 + B.flatten.length ≤ 100000)
    (hcl : ∀ i (hi : i < B.length) g off, a = some ⟨g, off, none⟩ → ∀ w' F' l', Upd F w w' F' → Wr w' wb F' l' → l'.length + B[i].length ≤ 100000 →
      Calls Tryd.prog 35 #[.pointer (some ⟨g, off + i * 2, none⟩), .pointer (some ⟨qb, 0, none⟩)] w' fun e w'' => e = .returned (.tuple #[]) ∧ ∃ F'', Wr w'' wb F'' (l' ++ B[i]) ∧ Upd F' w' w'' F'') :
    Calls Tryd.prog 34 #[.pointer (some ⟨pb, 0, none⟩), .pointer (some ⟨b, o, none⟩), .func (.func 35) #[] #[.pointer (some ⟨qb, 0, none⟩)]] w fun e w' => e = .returned (.tuple #[]) ∧ ∃ F', Wr w' wb F' (l ++ ([(n : Int) % 256] ++ B.flatten)) ∧ Upd F w w' F' := by
  have HC := hid hcl
  have HS := hid (wsmallI_any (w := w.alloc (.cells #[.int .i64 n] 3)) (b := w.heap.size) (o := 0) (Keeps.heap ((Keeps.refl No w).alloc _) (fun h => h) hp) (h.keep ((Keeps.refl No w).alloc _) (fun _ _ h => h)) (n : Int) (by simp) (by omega))
  have HP := hid hp
  have HW := hid h
  have HCC := hid hc
  have HB := hid hB
  have HA := hid ha
  have HL := hid hl
  have hbw : b < w.heap.size := World.block_lt_of_cell? w _ hc
  have hnb : ¬ b = w.heap.size := by omega
  have hnb' : ¬ w.heap.size = b := by omega
  clear hcl hp h hB ha hl
  go_enter Tryd.func34, Tryd.ntmps34
  go_wp2_with fail
  refine HS.out.mono ?_
  rintro e w1 ⟨rfl, F1, h1, u1⟩
  have U1 := hid (Upd.behind ((Keeps.refl No w).alloc _) u1)
  have hp1 := U1.out.keeps.heap np HP.out
  have hc1 := U1.out.keeps.cell hb HCC.out
  have c1 := cell_at (i := 0) hp1 rfl
  have H1 := hid h1
  clear u1 h1 HS hp1 hc hnb hnb'
  go_wp2_with fail
  go_loopw [27] (fun v27 wr => ∃ (i : Nat) (F' : Nat → Prop), i ≤ n ∧ v27 = .int .i64 i ∧ Hid (Wr wr wb F' (l ++ ([(n : Int) % 256] ++ (B.take i).flatten))) ∧ Hid (Upd F w wr F')) (fun v27 _ => n - (intOf v27).toNat)
  case atStart => exact ⟨0, F1, Nat.zero_le _, rfl, hid (by simpa using H1.out), U1⟩
  case round =>
    obtain ⟨i, F', hi, rfl, HWi, HU⟩ := hrel
    clear H1 U1 c1 hc1
    by_cases hlt : i < n
    · obtain ⟨g, off, rfl⟩ := HA.out (by omega)
      have hcr := HU.out.keeps.cell hb HCC.out
      have hib : i < B.length := by rw [HB.out]; exact hlt
      have hlen : (l ++ ([(n : Int) % 256] ++ (B.take i).flatten)).length + B[i].length ≤ 100000 := by
        have h1 := flatten_take B hib
        have h2 := flatten_take_le B (i + 1)
        have h3 := congrArg List.length h1
        have h4 := HL.out
        simp only [List.length_append, List.length_singleton] at *
        omega
      have HCi := hid (HC.out i hib g off rfl wr F' _ HU.out HWi.out hlen)
      have HT := hid (flatten_take B hib)
      clear hlen
      go_wp2_with fail
      refine HCi.out.mono ?_
      rintro e w2 ⟨rfl, F2, h2, u2⟩
      have H2 := hid h2
      have U2 := hid (HU.out.trans u2)
      clear h2 u2 HCi
      go_wp2_with fail
      go_roundw
      case rel => exact ⟨i + 1, F2, by omega, by go_num, hid (by rw [HT.out]; simpa [List.append_assoc] using H2.out), U2⟩
      case measure => simp [intOf]; omega
    · obtain rfl : i = n := by omega
      go_wp2_with fail
      go_end0
      have := HWi.out
      rw [← HB.out, List.take_length, HB.out] at this
      exact ⟨rfl, F', this, HU.out⟩

set_option maxHeartbeats 4000000 in
set_option maxRecDepth 100000 in
theorem wlistRul  (hp : Lay w pb wb) (h : Wr w wb F l) (np : ¬ F pb) (hb : ¬ F b) {a : Option Addr} {n cap : Nat} (hc : w.cell? ⟨b, o, none⟩ = some (.slice a n cap)) (hn : n ≤ 1000000) (B : List (List Int)) (hB : B.length = n)
    (ha : 0 < n → ∃ g off, a = some ⟨g, off, none⟩) (hl : l.length + 1 + B.flatten.length ≤ 100000)
    (hcl : ∀ i (hi : i < B.length) g off, a = some ⟨g, off, none⟩ → ∀ w' F' l', Upd F w w' F' → Wr w' wb F' l' → l'.length + B[i].length ≤ 100000 →
      Calls Tryd.prog 38 #[.pointer (some ⟨pb, 0, none⟩), .pointer (some ⟨g, off + i * 9, none⟩)] w' fun e w'' => e = .returned (.tuple #[]) ∧ ∃ F'', Wr w'' wb F'' (l' ++ B[i]) ∧ Upd F' w' w'' F'') :
    Calls Tryd.prog 37 #[.pointer (some ⟨pb, 0, none⟩), .pointer (some ⟨b, o, none⟩), .func (.func 38) #[.pointer (some ⟨pb, 0, none⟩)] #[]] w fun e w' => e = .returned (.tuple #[]) ∧ ∃ F', Wr w' wb F' (l ++ ([(n : Int) % 256] ++ B.flatten)) ∧ Upd F w w' F' := by
  have HC := hid hcl
  have HS := hid (wsmallI_any (w := w.alloc (.cells #[.int .i64 n] 3)) (b := w.heap.size) (o := 0) (Keeps.heap ((Keeps.refl No w).alloc _) (fun h => h) hp) (h.keep ((Keeps.refl No w).alloc _) (fun _ _ h => h)) (n : Int) (by simp) (by omega))
  have HP := hid hp
  have HW := hid h
  have HCC := hid hc
  have HB := hid hB
  have HA := hid ha
  have HL := hid hl
  have hbw : b < w.heap.size := World.block_lt_of_cell? w _ hc
  have hnb : ¬ b = w.heap.size := by omega
  have hnb' : ¬ w.heap.size = b := by omega
  clear hcl hp h hB ha hl
  go_enter Tryd.func37, Tryd.ntmps37
  go_wp2_with fail
  refine HS.out.mono ?_
  rintro e w1 ⟨rfl, F1, h1, u1⟩
  have U1 := hid (Upd.behind ((Keeps.refl No w).alloc _) u1)
  have hp1 := U1.out.keeps.heap np HP.out
  have hc1 := U1.out.keeps.cell hb HCC.out
  have c1 := cell_at (i := 0) hp1 rfl
  have H1 := hid h1
  clear u1 h1 HS hp1 hc hnb hnb'
  go_wp2_with fail
  go_loopw [27] (fun v27 wr => ∃ (i : Nat) (F' : Nat → Prop), i ≤ n ∧ v27 = .int .i64 i ∧ Hid (Wr wr wb F' (l ++ ([(n : Int) % 256] ++ (B.take i).flatten))) ∧ Hid (Upd F w wr F')) (fun v27 _ => n - (intOf v27).toNat)
  case atStart => exact ⟨0, F1, Nat.zero_le _, rfl, hid (by simpa using H1.out), U1⟩
  case round =>
    obtain ⟨i, F', hi, rfl, HWi, HU⟩ := hrel
    clear H1 U1 c1 hc1
    by_cases hlt : i < n
    · obtain ⟨g, off, rfl⟩ := HA.out (by omega)
      have hcr := HU.out.keeps.cell hb HCC.out
      have hib : i < B.length := by rw [HB.out]; exact hlt
      have hlen : (l ++ ([(n : Int) % 256] ++ (B.take i).flatten)).length + B[i].length ≤ 100000 := by
        have h1 := flatten_take B hib
        have h2 := flatten_take_le B (i + 1)
        have h3 := congrArg List.length h1
        have h4 := HL.out
        simp only [List.length_append, List.length_singleton] at *
        omega
      have HCi := hid (HC.out i hib g off rfl wr F' _ HU.out HWi.out hlen)
      have HT := hid (flatten_take B hib)
      clear hlen
      go_wp2_with fail
      refine HCi.out.mono ?_
      rintro e w2 ⟨rfl, F2, h2, u2⟩
      have H2 := hid h2
      have U2 := hid (HU.out.trans u2)
      clear h2 u2 HCi
      go_wp2_with fail
      go_roundw
      case rel => exact ⟨i + 1, F2, by omega, by go_num, hid (by rw [HT.out]; simpa [List.append_assoc] using H2.out), U2⟩
      case measure => simp [intOf]; omega
    · obtain rfl : i = n := by omega
      go_wp2_with fail
      go_end0
      have := HWi.out
      rw [← HB.out, List.take_length, HB.out] at this
      exact ⟨rfl, F', this, HU.out⟩

set_option maxHeartbeats 4000000 in
set_option maxRecDepth 100000 in
theorem wlistTab {qb : Nat} (hp : Lay w pb wb) (h : Wr w wb F l) (np : ¬ F pb) (hb : ¬ F b) {a : Option Addr} {n cap : Nat} (hc : w.cell? ⟨b, o, none⟩ = some (.slice a n cap)) (hn : n ≤ 1000000) (B : List (List Int)) (hB : B.length = n)
    (ha : 0 < n → ∃ g off, a = some ⟨g, off, none⟩) (hl : l.length + 1 + B.flatten.length ≤ 100000)
    (hcl : ∀ i (hi : i < B.length) g off, a = some ⟨g, off, none⟩ → ∀ w' F' l', Upd F w w' F' → Wr w' wb F' l' → l'.length + B[i].length ≤ 100000 →
      Calls Tryd.prog 40 #[.pointer (some ⟨g, off + i, none⟩), .pointer (some ⟨qb, 0, none⟩)] w' fun e w'' => e = .returned (.tuple #[]) ∧ ∃ F'', Wr w'' wb F'' (l' ++ B[i]) ∧ Upd F' w' w'' F'') :
    Calls Tryd.prog 39 #[.pointer (some ⟨pb, 0, none⟩), .pointer (some ⟨b, o, none⟩), .func (.func 40) #[] #[.pointer (some ⟨qb, 0, none⟩)]] w fun e w' => e = .returned (.tuple #[]) ∧ ∃ F', Wr w' wb F' (l ++ ([(n : Int) % 256] ++ B.flatten)) ∧ Upd F w w' F' := by
  have HC := hid hcl
  have HS := hid (wsmallI_any (w := w.alloc (.cells #[.int .i64 n] 3)) (b := w.heap.size) (o := 0) (Keeps.heap ((Keeps.refl No w).alloc _) (fun h => h) hp) (h.keep ((Keeps.refl No w).alloc _) (fun _ _ h => h)) (n : Int) (by simp) (by omega))
  have HP := hid hp
  have HW := hid h
  have HCC := hid hc
  have HB := hid hB
  have HA := hid ha
  have HL := hid hl
  have hbw : b < w.heap.size := World.block_lt_of_cell? w _ hc
  have hnb : ¬ b = w.heap.size := by omega
  have hnb' : ¬ w.heap.size = b := by omega
  clear hcl hp h hB ha hl
  go_enter Tryd.func39, Tryd.ntmps39
  go_wp2_with fail
  refine HS.out.mono ?_
  rintro e w1 ⟨rfl, F1, h1, u1⟩
  have U1 := hid (Upd.behind ((Keeps.refl No w).alloc _) u1)
  have hp1 := U1.out.keeps.heap np HP.out
  have hc1 := U1.out.keeps.cell hb HCC.out
  have c1 := cell_at (i := 0) hp1 rfl
  have H1 := hid h1
  clear u1 h1 HS hp1 hc hnb hnb'
  go_wp2_with fail
  go_loopw [27] (fun v27 wr => ∃ (i : Nat) (F' : Nat → Prop), i ≤ n ∧ v27 = .int .i64 i ∧ Hid (Wr wr wb F' (l ++ ([(n : Int) % 256] ++ (B.take i).flatten))) ∧ Hid (Upd F w wr F')) (fun v27 _ => n - (intOf v27).toNat)
  case atStart => exact ⟨0, F1, Nat.zero_le _, rfl, hid (by simpa using H1.out), U1⟩
  case round =>
    obtain ⟨i, F', hi, rfl, HWi, HU⟩ := hrel
    clear H1 U1 c1 hc1
    by_cases hlt : i < n
    · obtain ⟨g, off, rfl⟩ := HA.out (by omega)
      have hcr := HU.out.keeps.cell hb HCC.out
      have hib : i < B.length := by rw [HB.out]; exact hlt
      have hlen : (l ++ ([(n : Int) % 256] ++ (B.take i).flatten)).length + B[i].length ≤ 100000 := by
        have h1 := flatten_take B hib
        have h2 := flatten_take_le B (i + 1)
        have h3 := congrArg List.length h1
        have h4 := HL.out
        simp only [List.length_append, List.length_singleton] at *
        omega
      have HCi := hid (HC.out i hib g off rfl wr F' _ HU.out HWi.out hlen)
      have HT := hid (flatten_take B hib)
      clear hlen
      go_wp2_with fail
      refine HCi.out.mono ?_
      rintro e w2 ⟨rfl, F2, h2, u2⟩
      have H2 := hid h2
      have U2 := hid (HU.out.trans u2)
      clear h2 u2 HCi
      go_wp2_with fail
      go_roundw
      case rel => exact ⟨i + 1, F2, by omega, by go_num, hid (by rw [HT.out]; simpa [List.append_assoc] using H2.out), U2⟩
      case measure => simp [intOf]; omega
    · obtain rfl : i = n := by omega
      go_wp2_with fail
      go_end0
      have := HWi.out
      rw [← HB.out, List.take_length, HB.out] at this
      exact ⟨rfl, F', this, HU.out⟩

set_option maxHeartbeats 4000000 in
set_option maxRecDepth 100000 in
theorem wlistInt {qb : Nat} (hp : Lay w pb wb) (h : Wr w wb F l) (np : ¬ F pb) (hb : ¬ F b) {a : Option Addr} {n cap : Nat} (hc : w.cell? ⟨b, o, none⟩ = some (.slice a n cap)) (hn : n ≤ 1000000) (B : List (List Int)) (hB : B.length = n)
    (ha : 0 < n → ∃ g off, a = some ⟨g, off, none⟩) (hl : l.length + 1 + B.flatten.length ≤ 100000)
    (hcl : ∀ i (hi : i < B.length) g off, a = some ⟨g, off, none⟩ → ∀ w' F' l', Upd F w w' F' → Wr w' wb F' l' → l'.length + B[i].length ≤ 100000 →
      Calls Tryd.prog 42 #[.pointer (some ⟨g, off + i, none⟩), .pointer (some ⟨qb, 0, none⟩)] w' fun e w'' => e = .returned (.tuple #[]) ∧ ∃ F'', Wr w'' wb F'' (l' ++ B[i]) ∧ Upd F' w' w'' F'') :
    Calls Tryd.prog 41 #[.pointer (some ⟨pb, 0, none⟩), .pointer (some ⟨b, o, none⟩), .func (.func 42) #[] #[.pointer (some ⟨qb, 0, none⟩)]] w fun e w' => e = .returned (.tuple #[]) ∧ ∃ F', Wr w' wb F' (l ++ ([(n : Int) % 256] ++ B.flatten)) ∧ Upd F w w' F' := by
  have HC := hid hcl
  have HS := hid (wsmallI_any (w := w.alloc (.cells #[.int .i64 n] 3)) (b := w.heap.size) (o := 0) (Keeps.heap ((Keeps.refl No w).alloc _) (fun h => h) hp) (h.keep ((Keeps.refl No w).alloc _) (fun _ _ h => h)) (n : Int) (by simp) (by omega))
  have HP := hid hp
  have HW := hid h
  have HCC := hid hc
  have HB := hid hB
  have HA := hid ha
  have HL := hid hl
  have hbw : b < w.heap.size := World.block_lt_of_cell? w _ hc
  have hnb : ¬ b = w.heap.size := by omega
  have hnb' : ¬ w.heap.size = b := by omega
  clear hcl hp h hB ha hl
  go_enter Tryd.func41, Tryd.ntmps41
  go_wp2_with fail
  refine HS.out.mono ?_
  rintro e w1 ⟨rfl, F1, h1, u1⟩
  have U1 := hid (Upd.behind ((Keeps.refl No w).alloc _) u1)
  have hp1 := U1.out.keeps.heap np HP.out
  have hc1 := U1.out.keeps.cell hb HCC.out
  have c1 := cell_at (i := 0) hp1 rfl
  have H1 := hid h1
  clear u1 h1 HS hp1 hc hnb hnb'
  go_wp2_with fail
  go_loopw [27] (fun v27 wr => ∃ (i : Nat) (F' : Nat → Prop), i ≤ n ∧ v27 = .int .i64 i ∧ Hid (Wr wr wb F' (l ++ ([(n : Int) % 256] ++ (B.take i).flatten))) ∧ Hid (Upd F w wr F')) (fun v27 _ => n - (intOf v27).toNat)
  case atStart => exact ⟨0, F1, Nat.zero_le _, rfl, hid (by simpa using H1.out), U1⟩
  case round =>
    obtain ⟨i, F', hi, rfl, HWi, HU⟩ := hrel
    clear H1 U1 c1 hc1
    by_cases hlt : i < n
    · obtain ⟨g, off, rfl⟩ := HA.out (by omega)
      have hcr := HU.out.keeps.cell hb HCC.out
      have hib : i < B.length := by rw [HB.out]; exact hlt
      have hlen : (l ++ ([(n : Int) % 256] ++ (B.take i).flatten)).length + B[i].length ≤ 100000 := by
        have h1 := flatten_take B hib
        have h2 := flatten_take_le B (i + 1)
        have h3 := congrArg List.length h1
        have h4 := HL.out
        simp only [List.length_append, List.length_singleton] at *
        omega
      have HCi := hid (HC.out i hib g off rfl wr F' _ HU.out HWi.out hlen)
      have HT := hid (flatten_take B hib)
      clear hlen
      go_wp2_with fail
      refine HCi.out.mono ?_
      rintro e w2 ⟨rfl, F2, h2, u2⟩
      have H2 := hid h2
      have U2 := hid (HU.out.trans u2)
      clear h2 u2 HCi
      go_wp2_with fail
      go_roundw
      case rel => exact ⟨i + 1, F2, by omega, by go_num, hid (by rw [HT.out]; simpa [List.append_assoc] using H2.out), U2⟩
      case measure => simp [intOf]; omega
    · obtain rfl : i = n := by omega
      go_wp2_with fail
      go_end0
      have := HWi.out
      rw [← HB.out, List.take_length, HB.out] at this
      exact ⟨rfl, F', this, HU.out⟩

set_option maxHeartbeats 4000000 in
set_option maxRecDepth 100000 in
theorem wlistStg {qb : Nat} (hp : Lay w pb wb) (h : Wr w wb F l) (np : ¬ F pb) (hb : ¬ F b) {a : Option Addr} {n cap : Nat} (hc : w.cell? ⟨b, o, none⟩ = some (.slice a n cap)) (hn : n ≤ 1000000) (B : List (List Int)) (hB : B.length = n)
    (ha : 0 < n → ∃ g off, a = some ⟨g, off, none⟩) (hl : l.length + 1 + B.flatten.length ≤ 100000)
    (hcl : ∀ i (hi : i < B.length) g off, a = some ⟨g, off, none⟩ → ∀ w' F' l', Upd F w w' F' → Wr w' wb F' l' → l'.length + B[i].length ≤ 100000 →
      Calls Tryd.prog 65 #[.pointer (some ⟨g, off + i * 2, none⟩), .pointer (some ⟨qb, 0, none⟩)] w' fun e w'' => e = .returned (.tuple #[]) ∧ ∃ F'', Wr w'' wb F'' (l' ++ B[i]) ∧ Upd F' w' w'' F'') :
    Calls Tryd.prog 64 #[.pointer (some ⟨pb, 0, none⟩), .pointer (some ⟨b, o, none⟩), .func (.func 65) #[] #[.pointer (some ⟨qb, 0, none⟩)]] w fun e w' => e = .returned (.tuple #[]) ∧ ∃ F', Wr w' wb F' (l ++ ([(n : Int) % 256] ++ B.flatten)) ∧ Upd F w w' F' := by
  have HC := hid hcl
  have HS := hid (wsmallI_any (w := w.alloc (.cells #[.int .i64 n] 3)) (b := w.heap.size) (o := 0) (Keeps.heap ((Keeps.refl No w).alloc _) (fun h => h) hp) (h.keep ((Keeps.refl No w).alloc _) (fun _ _ h => h)) (n : Int) (by simp) (by omega))
  have HP := hid hp
  have HW := hid h
  have HCC := hid hc
  have HB := hid hB
  have HA := hid ha
  have HL := hid hl
  have hbw : b < w.heap.size := World.block_lt_of_cell? w _ hc
  have hnb : ¬ b = w.heap.size := by omega
  have hnb' : ¬ w.heap.size = b := by omega
  clear hcl hp h hB ha hl
  go_enter Tryd.func64, Tryd.ntmps64
  go_wp2_with fail
  refine HS.out.mono ?_
  rintro e w1 ⟨rfl, F1, h1, u1⟩
  have U1 := hid (Upd.behind ((Keeps.refl No w).alloc _) u1)
  have hp1 := U1.out.keeps.heap np HP.out
  have hc1 := U1.out.keeps.cell hb HCC.out
  have c1 := cell_at (i := 0) hp1 rfl
  have H1 := hid h1
  clear u1 h1 HS hp1 hc hnb hnb'
  go_wp2_with fail
  go_loopw [27] (fun v27 wr => ∃ (i : Nat) (F' : Nat → Prop), i ≤ n ∧ v27 = .int .i64 i ∧ Hid (Wr wr wb F' (l ++ ([(n : Int) % 256] ++ (B.take i).flatten))) ∧ Hid (Upd F w wr F')) (fun v27 _ => n - (intOf v27).toNat)
  case atStart => exact ⟨0, F1, Nat.zero_le _, rfl, hid (by simpa using H1.out), U1⟩
  case round =>
    obtain ⟨i, F', hi, rfl, HWi, HU⟩ := hrel
    clear H1 U1 c1 hc1
    by_cases hlt : i < n
    · obtain ⟨g, off, rfl⟩ := HA.out (by omega)
      have hcr := HU.out.keeps.cell hb HCC.out
      have hib : i < B.length := by rw [HB.out]; exact hlt
      have hlen : (l ++ ([(n : Int) % 256] ++ (B.take i).flatten)).length + B[i].length ≤ 100000 := by
        have h1 := flatten_take B hib
        have h2 := flatten_take_le B (i + 1)
        have h3 := congrArg List.length h1
        have h4 := HL.out
        simp only [List.length_append, List.length_singleton] at *
        omega
      have HCi := hid (HC.out i hib g off rfl wr F' _ HU.out HWi.out hlen)
      have HT := hid (flatten_take B hib)
      clear hlen
      go_wp2_with fail
      refine HCi.out.mono ?_
      rintro e w2 ⟨rfl, F2, h2, u2⟩
      have H2 := hid h2
      have U2 := hid (HU.out.trans u2)
      clear h2 u2 HCi
      go_wp2_with fail
      go_roundw
      case rel => exact ⟨i + 1, F2, by omega, by go_num, hid (by rw [HT.out]; simpa [List.append_assoc] using H2.out), U2⟩
      case measure => simp [intOf]; omega
    · obtain rfl : i = n := by omega
      go_wp2_with fail
      go_end0
      have := HWi.out
      rw [← HB.out, List.take_length, HB.out] at this
      exact ⟨rfl, F', this, HU.out⟩

end
end Go.Proofs.YtlenhccdkhgfgaaDoor
