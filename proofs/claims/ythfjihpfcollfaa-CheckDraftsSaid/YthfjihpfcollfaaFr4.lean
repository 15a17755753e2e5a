/-
  What stands at a place: the program's look, of two bytes and more.
-/
import Derived.Test.YthfjihpfcollfaaFr3
import Derived.Test.YthfjihpfcollfaaSum3
namespace Go.Proofs.Ythfjihpfcollfaa
open Go.RowKit

theorem run_slice1Both {P : Program} {t e : TypeId} {n cap lo hi : Nat} {a : Option Addr} {z y : Int} (ht : P.underlying t = some (.slice e)) (hs : (P.info? e).map (·.size) = some 1) (hz : z = lo) (hy : y = hi) (h : lo ≤ hi) (h2 : hi ≤ cap) (w : World) :
    (Instr.slice t (.slice a n cap) (some (.int .i64 z)) (some (.int .i64 y)) none).run P w = .ok (.slice (if cap = lo then a else a.map (·.add lo)) (hi - lo) (cap - lo)) w := by
  subst hz hy
  obtain ⟨i, hi', hi1⟩ : ∃ i, P.info? e = some i ∧ i.size = 1 := by simpa [Option.map_eq_some_iff] using hs
  have h1 : (lo : Int) ≤ hi := by omega
  have h3 : (hi : Int) ≤ cap := by omega
  simp [Instr.slice, run_underlying ht, Instr.sliceBounds, run_sliceBound, sizeOf, typeInfo, hi', h1, h3, hi1]

theorem SlB.frontN {w : World} {p : List Int} {a : Option Addr} {cap n : Nat} (h : SlB w (.slice a p.length cap) p) (hn : n ≤ p.length) : SlB w (.slice a n cap) (p.take n) := by
  have := Sl.front h hn
  rw [Nat.mul_one, ← List.map_take] at this
  unfold SlB
  rw [List.length_take, Nat.min_eq_left hn]
  exact this

/-- A piece of a slice of bytes. -/
theorem piece {w : World} {p : List Int} {ao : Option Addr} {cap : Nat} (h : SlB w (.slice ao p.length cap) p) (lo hi : Nat) (h1 : lo ≤ hi) (h2 : hi ≤ p.length) :
    ∃ a2 c2, Sl w 1 (.slice a2 (hi - lo) c2) (hi - lo) (((p.drop lo).take (hi - lo)).map (Value.int .u8)) ∧
      (∀ (w : World) (z y : Int), z = lo → y = hi → (Instr.slice 26 (.slice ao p.length cap) (some (.int .i64 z)) (some (.int .i64 y)) none).run Try.prog w = .ok (.slice a2 (hi - lo) c2) w) ∧
      (∀ k, (Value.slice a2 (hi - lo) c2).ownBlock = some k → (Value.slice ao p.length cap).ownBlock = some k) := by
  have hc := Sl.cap h
  have hs := Sl.sub h h1 h2
  simp only [Nat.mul_one] at hs
  rw [← List.map_drop, ← List.map_take] at hs
  exact ⟨_, _, hs, fun w z y hz hy => run_slice1Both Try.underlying26 (by kernel_rfl) hz hy h1 (by omega) w, fun k hk => own_from hk⟩

theorem piece_from {w : World} {p : List Int} {ao : Option Addr} {cap : Nat} (h : SlB w (.slice ao p.length cap) p) (lo : Nat) (h1 : lo ≤ p.length) :
    ∃ a2 c2, SlB w (.slice a2 (p.drop lo).length c2) (p.drop lo) ∧
      (∀ (w : World) (z : Int), z = lo → (Instr.slice 26 (.slice ao p.length cap) (some (.int .i64 z)) none none).run Try.prog w = .ok (.slice a2 (p.drop lo).length c2) w) ∧
      (∀ k, (Value.slice a2 (p.drop lo).length c2).ownBlock = some k → (Value.slice ao p.length cap).ownBlock = some k) := by
  have hs := Sl.sub h h1 (Nat.le_refl _)
  simp only [Nat.mul_one] at hs
  rw [← List.map_drop, List.take_of_length_le (by simp)] at hs
  rw [List.length_drop]
  exact ⟨_, _, by unfold SlB; rw [List.length_drop]; exact hs, fun w z hz => run_slice1From Try.underlying26 (by kernel_rfl) hz h1 w, fun k hk => own_from hk⟩

section
variable {w : World} {v : Value}

set_option maxHeartbeats 1000000 in
set_option maxRecDepth 100000 in
theorem slook_two {a b : Int} (h : SlB w v [a, b]) (ha : 0 ≤ a ∧ a ≤ 255) (hb : 0 ≤ b ∧ b ≤ 255) :
    Calls Try.prog 37 #[v] w fun e w' => e = .returned (.tuple #[.int .i64 (if a = 85 ∧ b = 170 then 1 else 0), .slice none 0 0]) ∧ Keeps No w w' := by
  obtain ⟨ao, cap, rfl⟩ := h.any
  obtain ⟨S, hS⟩ : ∃ S, strOfNums [a, b] = S := ⟨_, rfl⟩
  have hcv : ∀ n, (convert 26 9 (.slice ao 2 cap)).run Try.prog (w.drewN n) = .ok (.string S) (w.drewN n) := fun n => hS ▸ conv_sl (w := w.drewN n) (v := .slice ao 2 cap) (h.drewN n)
  have hcap : 2 ≤ cap := Sl.cap h
  have hE := str_eq2 ha hb
  rw [hS] at hE
  clear h hS
  by_cases ea : a = 85 ∧ b = 170
  · rw [if_pos ea]
    rw [decide_eq_true ea] at hE
    go_enter Try.func37, Try.ntmps37
    go_wp2_with fail
    go_quiet (fail)
    go_wp2_with fail
    go_ret2
    exact ⟨rfl, (Keeps.refl _ _).drewN _⟩
  · rw [if_neg ea]
    rw [decide_eq_false ea] at hE
    go_enter Try.func37, Try.ntmps37
    go_wp2_with fail
    go_quiet (fail)
    go_wp2_with fail
    go_ret2
    exact ⟨rfl, (Keeps.refl _ _).drewN _⟩

set_option maxHeartbeats 1000000 in
set_option maxRecDepth 100000 in
theorem slook_head {a b : Int} {p : List Int} (h : SlB w v p) (hp : p.take 2 = [a, b]) (h3 : 3 ≤ p.length) (ha : 0 ≤ a ∧ a ≤ 255) (hb : 0 ≤ b ∧ b ≤ 255) (hne : ¬ (a = 85 ∧ b = 170)) :
    Calls Try.prog 37 #[v] w fun e w' => e = .returned (.tuple #[.int .i64 0, .slice none 0 0]) ∧ Keeps No w w' := by
  obtain ⟨ao, cap, rfl⟩ := h.any
  obtain ⟨S, hS⟩ : ∃ S, strOfNums [a, b] = S := ⟨_, rfl⟩
  have hfr := SlB.frontN h (n := 2) (by omega)
  rw [hp] at hfr
  have hcv : ∀ n, (convert 26 9 (.slice ao 2 cap)).run Try.prog (w.drewN n) = .ok (.string S) (w.drewN n) := fun n => hS ▸ conv_sl (w := w.drewN n) (v := .slice ao 2 cap) (hfr.drewN n)
  have hcap : 2 ≤ cap := by have := Sl.cap h; omega
  have hE := str_eq2 ha hb
  rw [hS, decide_eq_false hne] at hE
  obtain ⟨N, hN⟩ : ∃ N, p.length = N := ⟨_, rfl⟩
  rw [hN] at h3 ⊢
  have hmin : min (N : Int) 2 = 2 := by omega
  clear h hS hp hne hfr hN
  go_enter Try.func37, Try.ntmps37
  go_wp2_with fail
  go_quiet (fail)
  go_wp2_with fail
  go_ret2
  exact ⟨rfl, (Keeps.refl _ _).drewN _⟩

set_option maxHeartbeats 1000000 in
set_option maxRecDepth 100000 in
theorem slook_size {c : Int} {p t : List Int} (h : SlB w v p) (hp : p = 85 :: 170 :: c :: t) (hc : 0 ≤ c ∧ c ≤ 255) (hne : ¬ (1 ≤ c ∧ c ≤ 32)) :
    Calls Try.prog 37 #[v] w fun e w' => e = .returned (.tuple #[.int .i64 0, .slice none 0 0]) ∧ Keeps No w w' := by
  obtain ⟨ao, cap, rfl⟩ := h.any
  have h3 : 3 ≤ p.length := by rw [hp]; simp
  obtain ⟨S, hS⟩ : ∃ S, strOfNums [85, 170] = S := ⟨_, rfl⟩
  have hfr := SlB.frontN h (n := 2) (by omega)
  have ht2 : p.take 2 = [85, 170] := by rw [hp]; rfl
  rw [ht2] at hfr
  have hcv : ∀ n, (convert 26 9 (.slice ao 2 cap)).run Try.prog (w.drewN n) = .ok (.string S) (w.drewN n) := fun n => hS ▸ conv_sl (w := w.drewN n) (v := .slice ao 2 cap) (hfr.drewN n)
  have hcap : 3 ≤ cap := by have := Sl.cap h; omega
  have hE := str_eq2 (a := 85) (b := 170) (by omega) (by omega)
  rw [hS, decide_eq_true (by decide)] at hE
  obtain ⟨g, off, rfl, _, c2⟩ := SlB.cellAt h (k := 2) (by omega)
  have e2 : p[2]'(by omega) = c := by simp [hp]
  rw [e2] at c2
  obtain ⟨N, hN⟩ : ∃ N, p.length = N := ⟨_, rfl⟩
  rw [hN] at h3 ⊢
  have hmin : min (N : Int) 2 = 2 := by omega
  have hd3 : decide ((N : Int) < 3) = false := by simp; omega
  clear h hS hp hfr ht2 e2 hN
  by_cases hc1 : c < 1
  · go_enter Try.func37, Try.ntmps37
    go_wp2_with fail
    go_quiet (fail)
    go_wp2_with fail
    go_ret2
    exact ⟨rfl, (Keeps.refl _ _).drewN _⟩
  · have hc2 : c > 32 := by omega
    clear hne
    go_enter Try.func37, Try.ntmps37
    go_wp2_with fail
    go_quiet (fail)
    go_wp2_with fail
    go_ret2
    exact ⟨rfl, (Keeps.refl _ _).drewN _⟩

end
end Go.Proofs.Ythfjihpfcollfaa
