/-
  What stands at a place: the program's look, of a right beginning.
-/
import Derived.Test.YthfjihpfcollfaaFr4
namespace Go.Proofs.Ythfjihpfcollfaa
open Go.RowKit

section
variable {w : World} {v : Value}

set_option maxHeartbeats 1000000 in
set_option maxRecDepth 100000 in
theorem slook_wait {n : Nat} {p t : List Int} (h : SlB w v p) (hp : p = 85 :: 170 :: (n : Int) :: t) (h1 : 1 ≤ n) (h32 : n ≤ 32) (hl : t.length < n + 2) :
    Calls Try.prog 37 #[v] w fun e w' => e = .returned (.tuple #[.int .i64 1, .slice none 0 0]) ∧ Keeps No w w' := by
  obtain ⟨ao, cap, rfl⟩ := h.any
  have h3 : 3 ≤ p.length := by rw [hp]; simp
  obtain ⟨S, hS⟩ : ∃ S, strOfNums [85, 170] = S := ⟨_, rfl⟩
  have hfr := SlB.frontN h (n := 2) (by omega)
  have ht2 : p.take 2 = [85, 170] := by rw [hp]; rfl
  rw [ht2] at hfr
  have hcv : ∀ n, (convert 26 9 (.slice ao 2 cap)).run Try.prog (w.drewN n) = .ok (.string S) (w.drewN n) := fun n => hS ▸ conv_sl (w := w.drewN n) (v := .slice ao 2 cap) (hfr.drewN n)
  have hcap : 3 ≤ cap := by have := Sl.cap h; omega
  have hE := str_eq2 (a := 85) (b := 170) (by omega) (by omega)
  rw [hS, decide_eq_true (by decide)] at hE
  obtain ⟨g, off, rfl, _, c2⟩ := SlB.cellAt h (k := 2) (by omega)
  have e2 : p[2]'(by omega) = (n : Int) := by simp [hp]
  rw [e2] at c2
  have hN2 : p.length < 5 + n := by rw [hp]; simp; omega
  obtain ⟨N, hN⟩ : ∃ N, p.length = N := ⟨_, rfl⟩
  rw [hN] at h3 hN2 ⊢
  have hmin : min (N : Int) 2 = 2 := by omega
  have hd3 : decide ((N : Int) < 3) = false := by simp; omega
  have hd4 : decide ((N : Int) < 5 + (n : Int)) = true := by simp; omega
  have hd5 : decide ((n : Int) < 1) = false := by simp; omega
  have hd6 : decide ((n : Int) > 32) = false := by simp; omega
  have hd7 : decide ((32 : Int) < (n : Int)) = false := by simp; omega
  clear h hS hp hfr ht2 e2 hN
  go_enter Try.func37, Try.ntmps37
  go_wp2_with fail
  go_quiet (fail)
  go_wp2_with fail
  go_ret2
  exact ⟨rfl, (Keeps.refl _ _).drewN _⟩

set_option maxHeartbeats 1000000 in
set_option maxRecDepth 100000 in
theorem slook_bad {p m t : List Int} {a b : Int} (h : SlB w v p) (hb : Bytes p) (hp : p = 85 :: 170 :: (m.length : Int) :: (m ++ a :: b :: t)) (h1 : 1 ≤ m.length) (h32 : m.length ≤ 32) (hne : mof ((m.length : Int) :: m) ≠ word a b) :
    Calls Try.prog 37 #[v] w fun e w' => e = .returned (.tuple #[.int .i64 0, .slice none 0 0]) ∧ Keeps No w w' := by
  obtain ⟨ao, cap, rfl⟩ := h.any
  have hN2 : 5 + m.length ≤ p.length := by rw [hp]; simp; omega
  have h3 : 3 ≤ p.length := by omega
  obtain ⟨S, hS⟩ : ∃ S, strOfNums [85, 170] = S := ⟨_, rfl⟩
  have hfr := SlB.frontN h (n := 2) (by omega)
  have ht2 : p.take 2 = [85, 170] := by rw [hp]; rfl
  rw [ht2] at hfr
  have hcv : ∀ n, (convert 26 9 (.slice ao 2 cap)).run Try.prog (w.drewN n) = .ok (.string S) (w.drewN n) := fun n => hS ▸ conv_sl (w := w.drewN n) (v := .slice ao 2 cap) (hfr.drewN n)
  have hcap := Sl.cap h
  have hE := str_eq2 (a := 85) (b := 170) (by omega) (by omega)
  rw [hS, decide_eq_true (by decide)] at hE
  obtain ⟨a2, c2, hs2, hr2, _⟩ := piece h 2 (5 + m.length) (by omega) hN2
  have eq2 : (p.drop 2).take (5 + m.length - 2) = ((m.length : Int) :: m) ++ [a, b] := by
    rw [hp, show 5 + m.length - 2 = m.length + 3 by omega]
    simp [List.take_append]
    exact List.take_of_length_le (by omega)
  rw [eq2, show 5 + m.length - 2 = m.length + 3 by omega] at hs2
  rw [show 5 + m.length - 2 = m.length + 3 by omega] at hr2
  obtain ⟨M, hM⟩ : ∃ M, (m.length : Int) :: m = M := ⟨_, rfl⟩
  have hMl : M.length = m.length + 1 := by rw [← hM]; rfl
  have hs3 : SlB w (.slice a2 (m.length + 3) c2) (M ++ [a, b]) := by
    rw [hM] at hs2
    unfold SlB
    rw [List.length_append, hMl]
    exact hs2
  have hbM : Bytes (M ++ [a, b]) := by
    rw [← hM]
    intro x hx
    refine hb x ?_
    rw [hp]
    simp only [List.mem_append, List.mem_cons, List.not_mem_nil, or_false] at hx ⊢
    rcases hx with (rfl | hx) | (rfl | rfl) <;> simp [*]
  rw [hM] at hne
  have ho := fun k => sopen_bad (w := w.drewN k) (hs3.drewN k) hbM (by omega) hne
  have HO := hid ho
  obtain ⟨g, off, rfl, _, cc⟩ := SlB.cellAt h (k := 2) (by omega)
  have e2 : p[2]'(by omega) = (m.length : Int) := by simp [hp]
  rw [e2] at cc
  obtain ⟨n, hn⟩ : ∃ n, m.length = n := ⟨_, rfl⟩
  rw [hn] at hN2 h1 h32 hr2 cc HO
  obtain ⟨N, hN⟩ : ∃ N, p.length = N := ⟨_, rfl⟩
  rw [hN] at h3 hN2 hr2 hcap ⊢
  have hr3 : ∀ (w : World), (Instr.slice 26 (.slice (some ⟨g, off, none⟩) N cap) (some (.int .i64 2)) (some (.int .i64 (5 + (n : Int)))) none).run Try.prog w = .ok (.slice a2 (n + 3) c2) w := fun w => hr2 w 2 (5 + (n : Int)) rfl (by omega)
  have hmin : min (N : Int) 2 = 2 := by omega
  have hd3 : decide ((N : Int) < 3) = false := by simp; omega
  have hd4 : decide ((N : Int) < 5 + (n : Int)) = false := by simp; omega
  have hd5 : decide ((n : Int) < 1) = false := by simp; omega
  have hd6 : decide ((n : Int) > 32) = false := by simp; omega
  have hd7 : decide ((32 : Int) < (n : Int)) = false := by simp; omega
  clear h hS hp hfr ht2 e2 hN hb hr2 hs2 eq2 hM hMl hs3 hbM hne ho hn
  go_enter Try.func37, Try.ntmps37
  go_wp2_with fail
  go_quiet (fail)
  go_wp2_with fail
  refine (HO.out _).mono ?_
  rintro e w1 ⟨rfl, k1⟩
  have K1 := hid (((Keeps.refl _ _).drewN _).trans k1)
  clear k1
  go_wp2_with fail
  go_ret2
  exact ⟨rfl, K1.out⟩

set_option maxHeartbeats 1000000 in
set_option maxRecDepth 100000 in
theorem slook_whole {p m t : List Int} {a b : Int} (h : SlB w v p) (hb : Bytes p) (hp : p = 85 :: 170 :: (m.length : Int) :: (m ++ a :: b :: t)) (h1 : 1 ≤ m.length) (h32 : m.length ≤ 32) (he : mof ((m.length : Int) :: m) = word a b) :
    Calls Try.prog 37 #[v] w fun e w' => ∃ v', e = .returned (.tuple #[.int .i64 2, v']) ∧ SlB w' v' m ∧ Keeps No w w' ∧ Fresh w v' ∧ Soft w' v' := by
  obtain ⟨ao, cap, rfl⟩ := h.any
  have hN2 : 5 + m.length ≤ p.length := by rw [hp]; simp; omega
  have h3 : 3 ≤ p.length := by omega
  obtain ⟨S, hS⟩ : ∃ S, strOfNums [85, 170] = S := ⟨_, rfl⟩
  have hfr := SlB.frontN h (n := 2) (by omega)
  have ht2 : p.take 2 = [85, 170] := by rw [hp]; rfl
  rw [ht2] at hfr
  have hcv : ∀ n, (convert 26 9 (.slice ao 2 cap)).run Try.prog (w.drewN n) = .ok (.string S) (w.drewN n) := fun n => hS ▸ conv_sl (w := w.drewN n) (v := .slice ao 2 cap) (hfr.drewN n)
  have hcap := Sl.cap h
  have hE := str_eq2 (a := 85) (b := 170) (by omega) (by omega)
  rw [hS, decide_eq_true (by decide)] at hE
  obtain ⟨a2, c2, hs2, hr2, _⟩ := piece h 2 (5 + m.length) (by omega) hN2
  have eq2 : (p.drop 2).take (5 + m.length - 2) = ((m.length : Int) :: m) ++ [a, b] := by
    rw [hp, show 5 + m.length - 2 = m.length + 3 by omega]
    simp [List.take_append]
    exact List.take_of_length_le (by omega)
  rw [eq2, show 5 + m.length - 2 = m.length + 3 by omega] at hs2
  rw [show 5 + m.length - 2 = m.length + 3 by omega] at hr2
  obtain ⟨M, hM⟩ : ∃ M, (m.length : Int) :: m = M := ⟨_, rfl⟩
  have hMl : M.length = m.length + 1 := by rw [← hM]; rfl
  have hMd : M.drop 1 = m := by rw [← hM]; rfl
  have hs3 : SlB w (.slice a2 (m.length + 3) c2) (M ++ [a, b]) := by
    rw [hM] at hs2
    unfold SlB
    rw [List.length_append, hMl]
    exact hs2
  have hbM : Bytes (M ++ [a, b]) := by
    rw [← hM]
    intro x hx
    refine hb x ?_
    rw [hp]
    simp only [List.mem_append, List.mem_cons, List.not_mem_nil, or_false] at hx ⊢
    rcases hx with (rfl | hx) | (rfl | rfl) <;> simp [*]
  rw [hM] at he
  have ho := fun k => sopen_ok (w := w.drewN k) (hs3.drewN k) hbM (by omega) he
  have HO := hid ho
  have HMD := hid hMd
  have HML := hid hMl
  obtain ⟨g, off, rfl, _, cc⟩ := SlB.cellAt h (k := 2) (by omega)
  have e2 : p[2]'(by omega) = (m.length : Int) := by simp [hp]
  rw [e2] at cc
  obtain ⟨n, hn⟩ : ∃ n, m.length = n := ⟨_, rfl⟩
  rw [hn] at hN2 h1 h32 hr2 cc HO
  obtain ⟨N, hN⟩ : ∃ N, p.length = N := ⟨_, rfl⟩
  rw [hN] at h3 hN2 hr2 hcap ⊢
  have hr3 : ∀ (w : World), (Instr.slice 26 (.slice (some ⟨g, off, none⟩) N cap) (some (.int .i64 2)) (some (.int .i64 (5 + (n : Int)))) none).run Try.prog w = .ok (.slice a2 (n + 3) c2) w := fun w => hr2 w 2 (5 + (n : Int)) rfl (by omega)
  have hmin : min (N : Int) 2 = 2 := by omega
  have hd3 : decide ((N : Int) < 3) = false := by simp; omega
  have hd4 : decide ((N : Int) < 5 + (n : Int)) = false := by simp; omega
  have hd5 : decide ((n : Int) < 1) = false := by simp; omega
  have hd6 : decide ((n : Int) > 32) = false := by simp; omega
  have hd7 : decide ((32 : Int) < (n : Int)) = false := by simp; omega
  clear h hS hp hfr ht2 e2 hN hb hr2 hs2 eq2 hM hMl hMd hs3 hbM he ho hn
  go_enter Try.func37, Try.ntmps37
  go_wp2_with fail
  go_quiet (fail)
  go_wp2_with fail
  refine (HO.out _).mono ?_
  rintro e w1 ⟨v1, rfl, ho1, k1, f1⟩
  obtain ⟨a1, n1, rfl⟩ := own_any ho1
  have hs1 : SlB w1 (.slice a1 M.length n1) M := Sl.ofOwn ho1
  obtain ⟨a4, n4, hs4, hr4, hb4⟩ := piece_from hs1 1 (by have := HML.out; omega)
  rw [HMD.out] at hs4 hr4 hb4
  have hr5 : ∀ (w : World), (Instr.slice 26 (.slice a1 M.length n1) (some (.int .i64 1)) none none).run Try.prog w = .ok (.slice a4 m.length n4) w := fun w => hr4 w 1 rfl
  have K1 := hid (((Keeps.refl _ _).drewN _).trans k1)
  have HS4 := hid hs4
  have HSO : Hid (Soft w1 (.slice a4 m.length n4)) := hid (fun k hk => Soft.ofOwn ho1 k (hb4 k hk))
  have HF4 : Hid (Fresh w (.slice a4 m.length n4)) := hid (fun k hk => f1 k (hb4 k hk))
  clear ho1 k1 f1 hs1 hs4 hr4 hb4 HO
  go_wp2_with fail
  go_quiet (fail)
  go_wp2_with fail
  go_ret2
  exact ⟨_, rfl, HS4.out.drewN _, K1.out.drewN _, HF4.out, HSO.out⟩

end
end Go.Proofs.Ythfjihpfcollfaa
