/-
  The document's sums, more: Close, Open; the document's example.
-/
import Derived.Test.YthfjihpfcollfaaSum5
import Derived.Deep.RegionHeld3
namespace Go.Proofs.Ythfjihpfcollfaa
open Go.RowKit

set_option maxHeartbeats 1000000 in
set_option maxRecDepth 100000 in
theorem mclose_any {w : World} {v : Value} {p : List Int} (h : SlB w v p) (hb : Bytes p) (hl : p.length ≤ 900) :
    Calls Try.prog 35 #[v] w fun e w' => ∃ v', e = .returned v' ∧ w'.ownsRow 0 5 1 v' (p.length + 2) ((p ++ [((mof p).toNat : Int) / 256, ((mof p).toNat : Int) % 256]).map (Value.int .u8)) ∧ Keeps No w w' ∧ ∀ k, v'.ownBlock = some k → w.heap.size ≤ k := by
  obtain ⟨ao, cap, rfl⟩ := h.any
  have hof := mref_of h hb
  have hlt := (mof p).isLt
  obtain ⟨n, hn⟩ : ∃ n, (mof p).toNat = n := ⟨_, rfl⟩
  rw [hn] at hof hlt ⊢
  have h8 : IntKind.u8.wrap ((n : Int) / 256) = (n : Int) / 256 := by rw [IntKind.wrap_u8]; omega
  have h9 : IntKind.u8.wrap ((n : Int) % 256) = (n : Int) % 256 := by rw [IntKind.wrap_u8]; omega
  have HS := hid h
  clear h hb hn
  go_enter Try.func35, Try.ntmps35
  go_wp2_with fail
  refine hof.mono ?_
  rintro e w1 ⟨rfl, k1⟩
  have K1 := hid k1
  clear hof k1
  go_wp2_with fail
  refine (mjoin_any ((HS.out.keep K1.out (fun _ _ h => h)).alloc _) (q := [(n : Int) / 256, (n : Int) % 256]) (Sl.new _ _ _ _ _ rfl (by simp [maxLen])) (by simp; omega)).mono ?_
  rintro e w2 ⟨v2, rfl, ho2, k2, hb2⟩
  have HO2 := hid ho2
  have K2 := hid ((K1.out.alloc _).trans k2)
  have B2 : Hid (∀ k, v2.ownBlock = some k → w.heap.size ≤ k) := hid (fun k hk => by
    have h1 : w1.heap.size + 1 ≤ k := by simpa using hb2 k hk
    have h2 := K1.out.size
    omega)
  clear ho2 k2 hb2
  obtain ⟨a2, c2, rfl⟩ := own_any HO2.out
  go_wp2_with fail
  go_ret
  exact ⟨_, rfl, HO2.out, K2.out, B2.out⟩

section
variable {w : World} {v : Value}

set_option maxHeartbeats 1000000 in
set_option maxRecDepth 100000 in
theorem mopen_short {p : List Int} (h : SlB w v p) (hl : p.length < 2) :
    Calls Try.prog 47 #[v] w fun e w' => e = .returned (.tuple #[.slice none 0 0, .int .i64 4]) ∧ w = w' := by
  obtain ⟨ao, cap, rfl⟩ := h.any
  clear h
  go_enter Try.func47, Try.ntmps47
  go_wp2_with fail
  go_ret2
  exact ⟨rfl, rfl⟩

set_option maxHeartbeats 4000000 in
set_option maxRecDepth 100000 in
theorem mopen_bad {m : List Int} {a b : Int} (h : SlB w v (m ++ [a, b])) (hb : Bytes (m ++ [a, b])) (hl : m.length ≤ 900) (hne : mof m ≠ word a b) :
    Calls Try.prog 47 #[v] w fun e w' => e = .returned (.tuple #[.slice none 0 0, .int .i64 3]) ∧ Keeps No w w' := by
  obtain ⟨ao, cap, rfl⟩ := h.any
  have hcap := Sl.cap h
  rw [List.length_append] at hcap
  simp only [List.length_cons, List.length_nil] at hcap
  have hcm : m.length ≤ cap := by omega
  obtain ⟨g, off, rfl, _, c0, c1⟩ := SlB.two h
  have hab : Bytes [a, b] := fun x hx => hb x (by simp at hx ⊢; exact Or.inr hx)
  have hof := fun (w' : World) (k : Keeps No w w') => mref_of (w := w') (Sl.keep (SlB.front h) k (fun _ _ h => h)) (fun x hx => hb x (by simp; exact Or.inl hx))
  have hwi := word_int hab
  have hba := hab a (by simp)
  have hbb := hab b (by simp)
  have hne2 : (a * 256 + b != ((mof m).toNat : Int)) = true := by
    rw [bne_iff_ne, show a * 256 + b = 256 * a + b by omega, ← hwi]
    intro e
    exact hne (BitVec.eq_of_toNat_eq (by omega)).symm
  obtain ⟨ha0, ha1⟩ := hba
  obtain ⟨hb0, hb1⟩ := hbb
  have hlen : (m ++ [a, b]).length = m.length + 2 := by simp
  rw [hlen]
  obtain ⟨n, hn⟩ : ∃ n, (mof m).toNat = n := ⟨_, rfl⟩
  rw [hn] at hof hne2
  have hne3 : ¬ (a * 256 + b = (n : Int)) := by simpa using hne2
  have hne4 : (a * 256 + b == (n : Int)) = false := by simpa using hne2
  have HO := hid hof
  have hl0 : (0 : Int) ≤ (m.length : Int) := by omega
  have hl1 : (m.length : Int) < (m.length : Int) + 2 := by omega
  have hl2 : (m.length : Int) + 1 < (m.length : Int) + 2 := by omega
  have hl3 : 0 ≤ (m.length : Int) + 1 := by omega
  have hl4 : (m.length : Int) ≤ (cap : Int) := by omega
  have hw1 : IntKind.u16.wrap (a * 256) = a * 256 := by rw [IntKind.wrap_u16]; omega
  have hw2 : IntKind.u16.wrap (a * 256 + b) = a * 256 + b := by rw [IntKind.wrap_u16]; omega
  have hw3 : IntKind.i64.wrap ((m.length : Int) + 1) = (m.length : Int) + 1 := by rw [IntKind.wrap_i64]; omega
  have hw4 : ((m.length : Int) + 1).toNat = m.length + 1 := by omega
  have hw5 : IntKind.u16.wrap (IntKind.u16.wrap (IntKind.u16.wrap a * 256) + IntKind.u16.wrap b) = a * 256 + b := by simp only [IntKind.wrap_u16]; omega
  have hne5 : (IntKind.u16.wrap (IntKind.u16.wrap (IntKind.u16.wrap a * 256) + IntKind.u16.wrap b) != (n : Int)) = true := by rw [hw5]; exact hne2
  clear hw5
  clear h hb hab hwi hne hlen hof hn
  go_enter Try.func47, Try.ntmps47
  go_wp2_with fail
  go_region_with (go_at_call 44; refine (HO.out _ (by first | exact (Keeps.refl No _).drew | exact Keeps.refl No _)).mono ?_; rintro e w2 ⟨rfl, k2⟩; have d0 := k2.cell (fun h => h) c0; have d1 := k2.cell (fun h => h) c1; have K2 := hid k2; clear k2)
  all_goals
    go_wp2_with fail
    all_goals first
      | (exfalso; omega)
      | (go_ret2; exact ⟨rfl, by have hk := (Keeps.refl No w).drew.trans K2.out; exact hk⟩)

set_option maxHeartbeats 4000000 in
set_option maxRecDepth 100000 in
theorem mopen_ok {m : List Int} {a b : Int} {ao : Option Addr} {cap : Nat} (h : SlB w (.slice ao (m ++ [a, b]).length cap) (m ++ [a, b])) (hb : Bytes (m ++ [a, b])) (hl : m.length ≤ 900) (he : mof m = word a b) :
    Calls Try.prog 47 #[.slice ao (m ++ [a, b]).length cap] w fun e w' => e = .returned (.tuple #[.slice ao m.length cap, .int .i64 0]) ∧ Keeps No w w' := by
  have hcap := Sl.cap h
  rw [List.length_append] at hcap
  simp only [List.length_cons, List.length_nil] at hcap
  have hcm : m.length ≤ cap := by omega
  obtain ⟨g, off, rfl, _, c0, c1⟩ := SlB.two h
  have hab : Bytes [a, b] := fun x hx => hb x (by simp at hx ⊢; exact Or.inr hx)
  have hof := fun (w' : World) (k : Keeps No w w') => mref_of (w := w') (Sl.keep (SlB.front h) k (fun _ _ h => h)) (fun x hx => hb x (by simp; exact Or.inl hx))
  have hwi := word_int hab
  have hba := hab a (by simp)
  have hbb := hab b (by simp)
  rw [he] at hof
  obtain ⟨n, hn⟩ : ∃ n, (word a b).toNat = n := ⟨_, rfl⟩
  rw [hn] at hof hwi
  have hne2 : (a * 256 + b != (n : Int)) = false := by rw [hwi]; simp; omega
  have hne3 : a * 256 + b = (n : Int) := by omega
  have HN := hid hne3
  obtain ⟨ha0, ha1⟩ := hba
  obtain ⟨hb0, hb1⟩ := hbb
  have hlen : (m ++ [a, b]).length = m.length + 2 := by simp
  rw [hlen]
  have HO := hid hof
  have hl0 : (0 : Int) ≤ (m.length : Int) := by omega
  have hl1 : (m.length : Int) < (m.length : Int) + 2 := by omega
  have hl2 : (m.length : Int) + 1 < (m.length : Int) + 2 := by omega
  have hl3 : 0 ≤ (m.length : Int) + 1 := by omega
  have hl4 : (m.length : Int) ≤ (cap : Int) := by omega
  have hw1 : IntKind.u16.wrap (a * 256) = a * 256 := by rw [IntKind.wrap_u16]; omega
  have hw2 : IntKind.u16.wrap (a * 256 + b) = a * 256 + b := by rw [IntKind.wrap_u16]; omega
  have hw3 : IntKind.i64.wrap ((m.length : Int) + 1) = (m.length : Int) + 1 := by rw [IntKind.wrap_i64]; omega
  have hw4 : ((m.length : Int) + 1).toNat = m.length + 1 := by omega
  have hw5 : IntKind.u16.wrap (IntKind.u16.wrap (IntKind.u16.wrap a * 256) + IntKind.u16.wrap b) = a * 256 + b := by simp only [IntKind.wrap_u16]; omega
  have hne5 : (IntKind.u16.wrap (IntKind.u16.wrap (IntKind.u16.wrap a * 256) + IntKind.u16.wrap b) != (n : Int)) = false := by rw [hw5]; exact hne2
  clear hw5
  clear h hb hab hwi he hlen hof hn hne3
  go_enter Try.func47, Try.ntmps47
  go_wp2_with fail
  go_region_with (go_at_call 44; refine (HO.out _ (by first | exact (Keeps.refl No _).drew | exact Keeps.refl No _)).mono ?_; rintro e w2 ⟨rfl, k2⟩; have d0 := k2.cell (fun h => h) c0; have d1 := k2.cell (fun h => h) c1; have K2 := hid k2; clear k2)
  all_goals
    go_wp2_with fail
    all_goals first
      | (exfalso; have hx := HN.out; omega)
      | (go_ret2; exact ⟨rfl, by have hk := (Keeps.refl No w).drew.trans K2.out; exact hk⟩)

end

end Go.Proofs.Ythfjihpfcollfaa
