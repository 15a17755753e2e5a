/-
  Who is looked at when: the document's.
-/
import Derived.Test.YtfiijbpcaceibaaTblP
import Derived.Test.YtfiijbpcaceibaaBlk
import Derived.BigQuiet
import Derived.Lib.SliceRun
import Derived.Deep.RegionHeld3
namespace Go.Proofs.Ytfiijbpcaceibaa
open Go.RowKit
set_option linter.unusedVariables false

section
variable {w : World} {sa ra ta : Option Addr} {sn sc rn rc tc : Nat} {t : List (List Int × Value)}

set_option maxHeartbeats 4000000 in
set_option maxRecDepth 100000 in
theorem mslot_any (h : TabR w (.slice ta t.length tc) t) (hL : 1 ≤ t.length) (now : Int) (hn : -9223372036854775808 ≤ now ∧ now ≤ 9223372036854775807) (hm : ∀ l ∈ t, l.1.length ≤ 100000) (i0 i1 i2 i3 i4 i5 i6 : Int) (b : Bool) :
    Calls Try.prog 13 #[cfgV (.slice sa sn sc) (.slice ra rn rc) (.slice ta t.length tc) i0 i1 i2 i3 i4 i5 b i6, .int .i64 now] w fun e w' => ∃ v, e = .returned v ∧ SlI w' v (slotD (t.map (·.1)) now) ∧ Keeps No w w' := by
  unfold cfgV
  obtain ⟨W1, hW1⟩ : ∃ W1, W1 = w.alloc (.cells #[.slice sa sn sc, .slice ra rn rc, .slice ta t.length tc, .int .i64 i0, .int .i64 i1, .int .i64 i2, .int .i64 i3, .int .i64 i4, .int .i64 i5, .bool b, .int .i64 i6] 33) := ⟨_, rfl⟩
  have k1 : Keeps No w W1 := by rw [hW1]; exact (Keeps.refl _ _).alloc _
  have hb : BlkL W1 w.heap.size 33 [.slice sa sn sc, .slice ra rn rc, .slice ta t.length tc, .int .i64 i0, .int .i64 i1, .int .i64 i2, .int .i64 i3, .int .i64 i4, .int .i64 i5, .bool b, .int .i64 i6] := by rw [hW1]; exact heap_alloc_new w _
  have c2 : W1.cell? ⟨w.heap.size, 2, none⟩ = some (.slice ta t.length tc) := hb.cell rfl
  have H := hid (h.calm k1)
  have hl : (t.length : Int) ≤ 9223372036854775807 := by
    have := h.row.2.1
    unfold maxLen at this
    omega
  have HW1 := hid hW1.symm
  have K1 := hid k1
  clear h hW1 k1 hb
  obtain ⟨n0, n1⟩ := hn
  by_cases h1 : now < 1
  · have d1 : decide (now < 1) = true := decide_eq_true h1
    have e : slotD (t.map (·.1)) now = [] := by unfold slotD; rw [if_pos h1]
    rw [e]
    clear e
    go_enter Try.func13, Try.ntmps13
    go_wp2_with fail
    rw [HW1.out]
    go_ret
    exact ⟨_, rfl, Sl.nil _ _, K1.out⟩
  have d1 : decide (now < 1) = false := decide_eq_false h1
  obtain ⟨k, hk⟩ : ∃ k : Nat, (now - 1) % (t.length : Int) = k := ⟨((now - 1) % (t.length : Int)).toNat, by have := Int.emod_nonneg (now - 1) (show (t.length : Int) ≠ 0 by omega); omega⟩
  have hkL : k < t.length := by have := Int.emod_lt_of_pos (now - 1) (show 0 < (t.length : Int) by omega); omega
  have e : slotD (t.map (·.1)) now = t[k].1 := by
    unfold slotD
    rw [if_neg h1, List.length_map, hk]
    simp [hkL]
  have hml := hm _ (List.getElem_mem hkL)
  obtain ⟨g, off, la, lc, rfl, hg, hc, hs, _⟩ := TabR.at H.out hkL
  rw [e]
  obtain ⟨l, hle⟩ : ∃ l, t[k].1 = l := ⟨_, rfl⟩
  rw [hle] at hc hs hml ⊢
  have HS := hid hs
  have HML := hid hml
  obtain ⟨L, hLL⟩ : ∃ L, t.length = L := ⟨_, rfl⟩
  have hw1 : IntKind.i64.wrap (now - 1) = now - 1 := by simp only [IntKind.wrap_i64]; omega
  have htm : (now - 1).tmod (L : Int) = (k : Int) := by rw [Int.tmod_eq_emod_of_nonneg (by omega), ← hLL, hk]
  have hwk : IntKind.i64.wrap (k : Int) = (k : Int) := by simp only [IntKind.wrap_i64]; omega
  have hz : ¬ ((L : Int) = 0) := by omega
  have hz2 : ((L : Int) == 0) = false := by simpa using hz
  have hz3 : ¬ (L = 0) := by omega
  have hz4 : (L == 0) = false := by simpa using hz3
  have HLL := hid hLL
  have HW2 : Hid (w.alloc (.cells #[.slice sa sn sc, .slice ra rn rc, .slice (some ⟨g, off, none⟩) t.length tc, .int .i64 i0, .int .i64 i1, .int .i64 i2, .int .i64 i3, .int .i64 i4, .int .i64 i5, .bool b, .int .i64 i6] 33) = W1) := HW1
  rw [hLL] at c2 hl hkL hL ⊢
  rw [hLL] at HW2
  clear HW1
  clear hk e hle hs hml hm hLL
  have k9 : (k : Int) ≤ 9223372036854775807 := by omega
  go_enter Try.func13, Try.ntmps13
  go_upto_region 3 with fail
  rw [HW2.out]
  go_quiet (fail)
  go_wp2_with fail
  go_ret
  exact ⟨_, rfl, HS.out.keep ((Keeps.refl No W1).drewN _) (fun _ _ h => h), K1.out.drewN _⟩

end
end Go.Proofs.Ytfiijbpcaceibaa
