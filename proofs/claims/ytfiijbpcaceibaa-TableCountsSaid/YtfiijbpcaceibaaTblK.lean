/-
  Who is looked at when: the example; what a draft's configuration is.
-/
import Derived.Test.YtfiijbpcaceibaaTblS
import Derived.Test.YtfiijbpcaceibaaTblS2
import Derived.Test.YtfiijbpcaceibaaMake3
import Derived.Test.YtfiijbpcaceibaaSame
namespace Go.Proofs.Ytfiijbpcaceibaa
open Go.RowKit
set_option linter.unusedVariables false

/-- The shapes of a configuration's three values. -/
theorem CfgR.shape {w : World} {C : Cfg} {sv rv tv : Value} (h : CfgR w C sv rv tv) : ∃ sa sc ra rc ta tc, sv = .slice sa C.sigs.length sc ∧ rv = .slice ra C.ruls.length rc ∧ tv = .slice ta C.tab.length tc := by
  obtain ⟨sa, sc, rfl⟩ := h.sig.any
  obtain ⟨ra, rc, rfl⟩ := h.rul.any
  obtain ⟨ta, tc, rfl⟩ := h.tab.any
  exact ⟨sa, sc, ra, rc, ta, tc, rfl, rfl, rfl⟩

theorem made_short {C : Cfg} (hm : Made C) : ∀ l ∈ C.tab, l.1.length ≤ 100000 := fun l hl => by
  have h1 := hm.room
  have h2 := hm.drain
  have h3 := hm.slots
  have h4 : l.1.length ≤ entries (C.tab.map (·.1)) := by
    unfold entries
    exact (List.sublist_flatten_of_mem (List.mem_map_of_mem hl)).length_le
  have h5 : C.drain * C.tab.length ≤ 64 * 6 := Int.mul_le_mul h2.2 (by omega) (by omega) (by omega)
  omega

def exT (z : Nat) : List (List Int × Value) := [([0, 1], .slice (some ⟨z + 1, 0, none⟩) 2 2), ([0], .slice (some ⟨z + 1 + 1, 0, none⟩) 1 1), ([], .slice none 0 0)]

theorem run_make_rul {P : Program} {t e : TypeId} {z : Value} {size bytes : Nat} (ht : P.underlying t = some (.slice e)) (hi : (P.info? e).map (fun i => (i.zero, i.size, i.bytes)) = some (some z, size, bytes)) (n : Nat) (hb : bytes * n ≤ 281474976710656) (hn : n ≤ 1000000) (w : World) :
    (Instr.makeSlice t (.int .i64 (n : Int)) (.int .i64 (n : Int))).run P w = .ok (.slice (some ⟨w.heap.size, 0, none⟩) n n) (w.alloc (.cells (madeCells z.cells (n * size)) e)) := by
  obtain ⟨i, hi', hz, hs, hb'⟩ := info_parts hi
  subst hs
  have := run_make (P := P) (w := w) t e i z ht hi' hz .i64 .i64 (n : Int) (n : Int) (by omega) (Int.le_refl _) (by rw [hb', ← Int.natCast_mul]; omega) (by omega)
  simpa using this

theorem make2 : ∃ Z : Array Value, ∀ W : World, (Instr.makeSlice 29 (.int .i64 2) (.int .i64 2)).run Try.prog W = .ok (.slice (some ⟨W.heap.size, 0, none⟩) 2 2) (W.alloc (.cells Z 46)) :=
  ⟨_, fun W => run_make_rul (P := Try.prog) Try.underlying29 info_rulA 2 (by omega) (by omega) W⟩

set_option maxHeartbeats 4000000 in
set_option maxRecDepth 100000 in
theorem gaps_true (w : World) : Calls Try.prog 8 #[] w fun e w' => e = .returned (.bool true) ∧ Keeps No w w' := by
  obtain ⟨Z, hmk⟩ := make2
  go_enter Try.func8, Try.ntmps8
  go_wp2_with fail
  obtain ⟨z, hz⟩ : ∃ z, w.heap.size = z := ⟨_, rfl⟩
  rw [hz]
  obtain ⟨W, hW⟩ : ∃ W, ((((w.alloc (.cells Z 46)).alloc (.cells #[.int .i64 0, .int .i64 1] 3)).alloc (.cells #[.int .i64 0] 3)).alloc (.cells #[.slice (some ⟨z + 1, 0, none⟩) 2 2, .slice (some ⟨z + 1 + 1, 0, none⟩) 1 1, .slice none 0 0] 36)).alloc (.cells #[.slice none 0 0, .slice (some ⟨z, 0, none⟩) 2 2, .slice (some ⟨z + 1 + 1 + 1, 0, none⟩) 3 3, .int .i64 0, .int .i64 0, .int .i64 0, .int .i64 0, .int .i64 0, .int .i64 0, .bool false, .int .i64 0] 33) = W := ⟨_, rfl⟩
  have b1 : BlkL W (z + 1) 3 [.int .i64 0, .int .i64 1] := by rw [← hW]; exact ((Bk.new (by simp [hz]) [.int .i64 0, .int .i64 1] 3).alloc _ |>.alloc _ |>.alloc _)
  have b2 : BlkL W (z + 1 + 1) 3 [.int .i64 0] := by rw [← hW]; exact ((Bk.new (by simp [hz]) [.int .i64 0] 3).alloc _ |>.alloc _)
  have b3 : BlkL W (z + 1 + 1 + 1) 36 [.slice (some ⟨z + 1, 0, none⟩) 2 2, .slice (some ⟨z + 1 + 1, 0, none⟩) 1 1, .slice none 0 0] := by rw [← hW]; exact ((Bk.new (by simp [hz]) [.slice (some ⟨z + 1, 0, none⟩) 2 2, .slice (some ⟨z + 1 + 1, 0, none⟩) 1 1, .slice none 0 0] 36).alloc _)
  have b4 : Bk W (z + 1 + 1 + 1 + 1) 33 [.slice none 0 0, .slice (some ⟨z, 0, none⟩) 2 2, .slice (some ⟨z + 1 + 1 + 1, 0, none⟩) 3 3, .int .i64 0, .int .i64 0, .int .i64 0, .int .i64 0, .int .i64 0, .int .i64 0, .bool false, .int .i64 0] := by rw [← hW]; exact Bk.new (by simp [hz]) _ _
  have kW : Keeps No w W := by rw [← hW]; exact (((((Keeps.refl No w).alloc _).alloc _).alloc _).alloc _).alloc _
  have hT : TabR W (.slice (some ⟨z + 1 + 1 + 1, 0, none⟩) (exT z).length 3) (exT z) := ⟨Sl.ofBlkM b3 rfl (by show 3 ≤ maxLen; unfold maxLen; decide), fun x hx => by
    simp only [exT, List.mem_cons, List.not_mem_nil, or_false] at hx
    rcases hx with rfl | rfl | rfl
    · exact Sl.ofBlkM b1 rfl (by unfold maxLen; decide)
    · exact Sl.ofBlkM b2 rfl (by unfold maxLen; decide)
    · exact Sl.nil _ _⟩
  have HT := hid hT
  have HB := hid b4
  have HK := hid kW
  have HM : Hid (∀ l ∈ exT z, l.1.length ≤ 100000) := hid (fun x hx => by
    simp only [exT, List.mem_cons, List.not_mem_nil, or_false] at hx
    rcases hx with rfl | rfl | rfl <;> simp)
  rw [hW]
  clear hW b1 b2 b3 b4 kW hT hz
  have g0 : gapD ((exT z).map (·.1)) 0 = 2 := by show gapD [[0, 1], [0], []] 0 = 2; decide
  have g1 : gapD ((exT z).map (·.1)) 1 = 3 := by show gapD [[0, 1], [0], []] 1 = 3; decide
  have G0 := hid g0
  have G1 := hid g1
  clear g0 g1
  refine (tgap_any (sa := none) (sn := 0) (sc := 0) (ra := some ⟨z, 0, none⟩) (rn := 2) (rc := 2) HT.out ⟨by show 1 ≤ 3; decide, by show 3 ≤ 64; decide⟩ HM.out (by decide) 0 (fun h => absurd ⟨by decide, by decide⟩ h) 0 0 0 0 0 0 0 false).mono ?_
  rintro e w1 ⟨rfl, k⟩
  have HT1 := hid (HT.out.calm k)
  have HB1 := hid (HB.out.kept k)
  have HK1 := hid (HK.out.trans k)
  rw [G0.out]
  clear k HT HB HK G0
  have x0_0 := HB1.out.cell 0 rfl
  have x0_1 := HB1.out.cell 1 rfl
  have x0_2 := HB1.out.cell 2 rfl
  have x0_3 := HB1.out.cell 3 rfl
  have x0_4 := HB1.out.cell 4 rfl
  have x0_5 := HB1.out.cell 5 rfl
  have x0_6 := HB1.out.cell 6 rfl
  have x0_7 := HB1.out.cell 7 rfl
  have x0_8 := HB1.out.cell 8 rfl
  have x0_9 := HB1.out.cell 9 rfl
  have x0_10 := HB1.out.cell 10 rfl
  go_wp2_with fail
  refine (tgap_any (sa := none) (sn := 0) (sc := 0) (ra := some ⟨z, 0, none⟩) (rn := 2) (rc := 2) HT1.out ⟨by show 1 ≤ 3; decide, by show 3 ≤ 64; decide⟩ HM.out (by decide) 1 (fun h => absurd ⟨by decide, by decide⟩ h) 0 0 0 0 0 0 0 false).mono ?_
  rintro e w2 ⟨rfl, k⟩
  have HT2 := hid (HT1.out.calm k)
  have HB2 := hid (HB1.out.kept k)
  have HK2 := hid (HK1.out.trans k)
  rw [G1.out]
  clear k HT1 HB1 HK1 G1 x0_0 x0_1 x0_2 x0_3 x0_4 x0_5 x0_6 x0_7 x0_8 x0_9 x0_10
  have x0_0 := HB2.out.cell 0 rfl
  have x0_1 := HB2.out.cell 1 rfl
  have x0_2 := HB2.out.cell 2 rfl
  have x0_3 := HB2.out.cell 3 rfl
  have x0_4 := HB2.out.cell 4 rfl
  have x0_5 := HB2.out.cell 5 rfl
  have x0_6 := HB2.out.cell 6 rfl
  have x0_7 := HB2.out.cell 7 rfl
  have x0_8 := HB2.out.cell 8 rfl
  have x0_9 := HB2.out.cell 9 rfl
  have x0_10 := HB2.out.cell 10 rfl
  go_wp2_with fail
  refine (tslot_any (sa := none) (sn := 0) (sc := 0) (ra := some ⟨z, 0, none⟩) (rn := 2) (rc := 2) HT2.out (by show 1 ≤ 3; decide) 5 ⟨by decide, by decide⟩ HM.out 0 0 0 0 0 0 0 false).mono ?_
  rintro e w3 ⟨v, rfl, hv, k⟩
  have e5 : slotD ((exT z).map (·.1)) 5 = [0] := by show slotD [[0, 1], [0], []] 5 = [0]; decide
  rw [e5] at hv
  have hsl : SlI w3 v [0] := hv.sl
  have HV := hid hsl
  have HT3 := hid (HT2.out.calm k)
  have HB3 := hid (HB2.out.kept k)
  have HK3 := hid (HK2.out.trans k)
  clear k hv hsl e5 HT2 HB2 HK2 x0_0 x0_1 x0_2 x0_3 x0_4 x0_5 x0_6 x0_7 x0_8 x0_9 x0_10
  go_wp2_with fail
  refine (msame_true (l := [0]) (HV.out.keep ((Keeps.refl No w3).alloc _) (fun _ _ h => h)) (Sl.new _ _ _ 1 1 rfl (by decide))).mono ?_
  rintro e w4 ⟨rfl, k⟩
  have K4 := hid (Keeps.trans ((Keeps.refl No w3).alloc _) k)
  have HB4 := hid (HB3.out.kept K4.out)
  have HK4 := hid (HK3.out.trans K4.out)
  clear k HT3 HB3 HK3 HV
  have x0_0 := HB4.out.cell 0 rfl
  have x0_1 := HB4.out.cell 1 rfl
  have x0_2 := HB4.out.cell 2 rfl
  have x0_3 := HB4.out.cell 3 rfl
  have x0_4 := HB4.out.cell 4 rfl
  have x0_5 := HB4.out.cell 5 rfl
  have x0_6 := HB4.out.cell 6 rfl
  have x0_7 := HB4.out.cell 7 rfl
  have x0_8 := HB4.out.cell 8 rfl
  have x0_9 := HB4.out.cell 9 rfl
  have x0_10 := HB4.out.cell 10 rfl
  go_wp2_with fail
  refine (twait_any (sa := none) (sn := 0) (sc := 0) (ra := some ⟨z, 0, none⟩) (rn := 2) (rc := 2) (ta := some ⟨z + 1 + 1 + 1, 0, none⟩) (tc := 3) _ 3 (by decide) (by decide) 0 0 0 0 0 0 0 false).mono ?_
  rintro e w5 ⟨rfl, k⟩
  have HK5 := hid (HK4.out.trans k)
  have e9 : waitD 2 3 = 9 := rfl
  rw [e9]
  clear k e9 HB4 HK4 x0_0 x0_1 x0_2 x0_3 x0_4 x0_5 x0_6 x0_7 x0_8 x0_9 x0_10
  go_wp2_with fail
  go_ret
  exact ⟨rfl, HK5.out⟩

end Go.Proofs.Ytfiijbpcaceibaa
