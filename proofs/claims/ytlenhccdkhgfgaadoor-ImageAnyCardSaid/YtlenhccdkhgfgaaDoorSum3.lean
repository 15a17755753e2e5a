/-
  The sum's functions, more: Open.
-/
import Derived.Test.YtlenhccdkhgfgaaDoorSum2
namespace Go.Proofs.YtlenhccdkhgfgaaDoor
open Go.RowKit
set_option linter.unusedVariables false

theorem or_word {h l : Int} (hb : Bytes [h, l]) : bits .or .u16 (h * 256) l = 256 * h + l := by
  have a := hb h (by simp)
  have b := hb l (by simp)
  obtain ⟨H, rfl⟩ := Int.eq_ofNat_of_zero_le a.1
  obtain ⟨L, rfl⟩ := Int.eq_ofNat_of_zero_le b.1
  rw [show (H : Int) * 256 = ((H * 256 : Nat) : Int) by omega, u16_or_nat _ _ (by omega) (by omega)]
  rw [show H * 256 = 2 ^ 8 * H by omega, ← Nat.two_pow_add_eq_or_of_lt (by omega) H]
  have e : 2 ^ 8 * H + L = 256 * H + L := by omega
  rw [e]; omega

/-- A list of two or more, its last two apart. -/
theorem last_two (p : List Int) (h : 2 ≤ p.length) : ∃ m a b, p = m ++ [a, b] := by
  refine ⟨p.take (p.length - 2), p[p.length - 2], p[p.length - 1], ?_⟩
  have h1 : p.drop (p.length - 2) = [p[p.length - 2], p[p.length - 1]] := by
    rw [List.drop_eq_getElem_cons (by omega)]
    congr 1
    rw [List.drop_eq_getElem_cons (by omega)]
    simp only [show p.length - 2 + 1 = p.length - 1 by omega]
    congr 1
    exact List.drop_of_length_le (by omega)
  rw [← h1, List.take_append_drop]

section
variable {w : World} {v : Value}

set_option maxHeartbeats 1000000 in
set_option maxRecDepth 100000 in
theorem sopen_short {p : List Int} (h : SlB w v p) (hl : p.length < 2) :
    Calls Tryd.prog 48 #[v] w fun e w' => e = .returned (.tuple #[.slice none 0 0, .int .i64 4]) ∧ w = w' := by
  obtain ⟨ao, cap, rfl⟩ := h.any
  clear h
  have hd : decide ((p.length : Int) < 2) = true := by simp; omega
  go_enter Tryd.func48, Tryd.ntmps48
  go_wp2_with fail
  go_ret2
  exact ⟨rfl, rfl⟩

theorem SlB.two {m : List Int} {a b : Int} {ao : Option Addr} {cap : Nat} (h : SlB w (.slice ao (m ++ [a, b]).length cap) (m ++ [a, b])) :
    ∃ g off, ao = some ⟨g, off, none⟩ ∧ g < w.heap.size ∧ w.cell? ⟨g, off + m.length, none⟩ = some (.int .u8 a) ∧ w.cell? ⟨g, off + (m.length + 1), none⟩ = some (.int .u8 b) := by
  obtain ⟨g, off, e, hg, h1⟩ := SlB.cellAt h (k := m.length) (by simp)
  obtain ⟨g', off', e', _, h2⟩ := SlB.cellAt h (k := m.length + 1) (by simp)
  rw [e] at e'
  simp only [Option.some.injEq, Addr.mk.injEq, and_true] at e'
  obtain ⟨rfl, rfl⟩ := e'
  refine ⟨g, off, e, hg, by simpa using h1, ?_⟩
  rw [h2]
  simp

set_option maxHeartbeats 1000000 in
set_option maxRecDepth 100000 in
theorem sopen_bad {m : List Int} {a b : Int} (h : SlB w v (m ++ [a, b])) (hb : Bytes (m ++ [a, b])) (hl : m.length ≤ 1000) (hne : mof m ≠ word a b) :
    Calls Tryd.prog 48 #[v] w fun e w' => e = .returned (.tuple #[.slice none 0 0, .int .i64 3]) ∧ Keeps No w w' := by
  obtain ⟨ao, cap, rfl⟩ := h.any
  have hcap := Sl.cap h
  rw [List.length_append] at hcap
  simp only [List.length_cons, List.length_nil] at hcap
  have hcm : m.length ≤ cap := by omega
  obtain ⟨g, off, rfl, _, c0, c1⟩ := SlB.two h
  have hab : Bytes [a, b] := fun x hx => hb x (by simp at hx ⊢; exact Or.inr hx)
  have hof := fun n => sof_any (w := w.drewN n) (Sl.drewN (SlB.front h) n) (fun x hx => hb x (by simp; exact Or.inl hx))
  have hor := or_word hab
  have hwi := word_int hab
  have hba := hab a (by simp)
  have hbb := hab b (by simp)
  have hne2 : (256 * a + b != ((mof m).toNat : Int)) = true := by
    rw [bne_iff_ne, ← hwi]
    intro e
    exact hne (BitVec.eq_of_toNat_eq (by omega)).symm
  obtain ⟨ha0, ha1⟩ := hba
  obtain ⟨hb0, hb1⟩ := hbb
  have hlen : (m ++ [a, b]).length = m.length + 2 := by simp
  rw [hlen]
  clear h hb hab hwi hne hlen
  go_enter Tryd.func48, Tryd.ntmps48
  go_wp2_with fail
  go_quiet (fail)
  go_wp2_with fail
  refine (hof _).mono ?_
  rintro e w' ⟨rfl, rfl⟩
  go_wp2_with fail
  go_ret2
  exact ⟨rfl, (Keeps.refl _ _).drewN _⟩

set_option maxHeartbeats 1000000 in
set_option maxRecDepth 100000 in
theorem sopen_ok {m : List Int} {a b : Int} (h : SlB w v (m ++ [a, b])) (hb : Bytes (m ++ [a, b])) (hl : m.length ≤ 1000) (he : mof m = word a b) :
    Calls Tryd.prog 48 #[v] w fun e w' => ∃ v', e = .returned (.tuple #[v', .int .i64 0]) ∧ w'.ownsRow 0 5 1 v' m.length (m.map (Value.int .u8)) ∧ Keeps No w w' ∧ ∀ k, v'.ownBlock = some k → w.heap.size ≤ k := by
  obtain ⟨ao, cap, rfl⟩ := h.any
  have hcap := Sl.cap h
  rw [List.length_append] at hcap
  simp only [List.length_cons, List.length_nil] at hcap
  have hcm : m.length ≤ cap := by omega
  obtain ⟨g, off, rfl, _, c0, c1⟩ := SlB.two h
  have hab : Bytes [a, b] := fun x hx => hb x (by simp at hx ⊢; exact Or.inr hx)
  have hfr := SlB.front h
  have hof := fun n => sof_any (w := w.drewN n) (Sl.drewN hfr n) (fun x hx => hb x (by simp; exact Or.inl hx))
  have hor := or_word hab
  have hwi := word_int hab
  have hba := hab a (by simp)
  have hbb := hab b (by simp)
  rw [he, hwi] at hof
  obtain ⟨ha0, ha1⟩ := hba
  obtain ⟨hb0, hb1⟩ := hbb
  have hlen : (m ++ [a, b]).length = m.length + 2 := by simp
  rw [hlen]
  obtain ⟨i0, hi, hz0, hz1, hz2⟩ := info_parts info_byte
  have HI := hid hi
  have HF := hid hfr
  clear h hb hab hwi he hlen hfr hi
  go_enter Tryd.func48, Tryd.ntmps48
  go_wp2_with fail
  go_quiet (fail)
  go_wp2_with fail
  refine (hof _).mono ?_
  rintro e w' ⟨rfl, rfl⟩
  clear hof hor
  go_wp2_with (at_builtin; refine wpl_append rfl _ _ 23 rfl 5 i0 (.int .u8 0) 1 1 Tryd.underlying23 HI.out hz0 hz1 hz2 rfl (by decide) _ _ _ _ _ _ rfl rfl (own_empty _ _ _) ((HF.out.drewN _).alloc _) (bytes_one _) ?c3 ?c4 ?_)
  case c3 => unfold maxLen; omega
  case c4 => omega
  intro v1 w1 ho1 k1 hb1
  replace ho1 : w1.ownsRow 0 5 1 v1 m.length (m.map (Value.int .u8)) := by simpa using ho1
  have hk1 : Keeps No w w1 := (((Keeps.refl No w).drewN _).alloc _).trans' k1 (fun _ _ h => h) (fun i hi h => by simp [Bl, Value.ownBlock] at h; omega)
  have hb1' : ∀ k, v1.ownBlock = some k → w.heap.size ≤ k := fun k hk => by
    rcases hb1 k hk with h | h
    · simp [Value.ownBlock] at h; omega
    · have h1 : w.heap.size + 1 ≤ k := by simpa using h
      omega
  have HO1 := hid ho1
  have K1 := hid hk1
  have B1 := hid hb1'
  clear ho1 k1 hb1 hk1 hb1'
  obtain ⟨a1, c1, rfl⟩ := own_any HO1.out
  go_wp2_with fail
  go_ret2
  exact ⟨_, rfl, HO1.out, K1.out, B1.out⟩

end

end Go.Proofs.YtlenhccdkhgfgaaDoor
