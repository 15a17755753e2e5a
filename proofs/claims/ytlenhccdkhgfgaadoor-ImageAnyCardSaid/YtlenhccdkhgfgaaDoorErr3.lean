/-
  What an image's reader tells of an error: meet, where, which; the letters.
-/
import Derived.Test.YtlenhccdkhgfgaaDoorErr2
import Derived.Test.YtlenhccdkhgfgaaDoorSum3
import Derived.Laws.BytesArg
import Derived.Lib.Strings
namespace Go.Proofs.YtlenhccdkhgfgaaDoor
open Go.RowKit
set_option linter.unusedVariables false

set_option maxHeartbeats 1000000 in
set_option maxRecDepth 100000 in
theorem meet_ok (n : Int) (w : World) : Calls Tryd.prog 49 #[.int .i64 n, .int .i64 0] w fun e w' => e = .returned .nilIface ∧ w = w' := by
  go_enter Tryd.func49, Tryd.ntmps49
  go_wp2
  go_ret
  exact ⟨rfl, rfl⟩

set_option maxHeartbeats 1000000 in
set_option maxRecDepth 100000 in
theorem meet_bad (n c : Int) (hc : c ≠ 0) (w : World) :
    Calls Tryd.prog 49 #[.int .i64 n, .int .i64 c] w fun e w' => ∃ mb, e = .returned (.iface 109 (.pointer (some ⟨mb, 0, none⟩))) ∧ Met w' mb n c ∧ Keeps No w w' ∧ w.heap.size ≤ mb := by
  have hd : (c == 0) = false := by simpa using hc
  clear hc
  go_enter Tryd.func49, Tryd.ntmps49
  go_wp2
  go_ret
  exact ⟨w.heap.size, rfl, heap_alloc_new w _, (Keeps.refl _ _).alloc _, Nat.le_refl _⟩

theorem Met.keep {w w' : World} {mb : Nat} {n c : Int} (h : Met w mb n c) (k : Keeps No w w') : Met w' mb n c := k.heap (fun h => h) h

set_option maxHeartbeats 2000000 in
set_option maxRecDepth 100000 in
theorem where_met {w : World} {mb : Nat} {n c : Int} (hg : ErrV w) (h : Met w mb n c) :
    Calls Tryd.prog 26 #[.iface 109 (.pointer (some ⟨mb, 0, none⟩))] w fun e w' => e = .returned (.int .i64 n) ∧ Keeps No w w' := by
  have k0 : Keeps No w (w.alloc (.cells #[.pointer none] 109)) := (Keeps.refl _ _).alloc _
  have hm := as_met ⟨mb, 0, none⟩ ⟨w.heap.size, 0, none⟩ (.pointer none) (w.alloc (.cells #[.pointer none] 109)) (hg.keep k0) (cell_at (heap_alloc_new w _) rfl) (free_at (heap_alloc_new w _))
  have HM := hid hm
  have H := hid h
  have hml : mb < w.heap.size := lt_of_block h
  clear hm h hg k0
  go_enter Tryd.func26, Tryd.ntmps26
  go_wp2_with fail
  refine HM.out.mono ?_
  rintro e w1 ⟨rfl, hw⟩
  obtain ⟨W4, hW4⟩ : ∃ W4, w1 = World.setCell W4 ⟨w.heap.size, 0, none⟩ (.pointer (some ⟨mb, 0, none⟩)) ∧ Keeps No (w.alloc (.cells #[.pointer none] 109)) W4 := ⟨_, hw, ((((Keeps.refl No _).alloc _).alloc _).alloc _).alloc _⟩
  obtain ⟨e1, k4⟩ := hW4
  have hb4 := k4.heap (fun h => h) (heap_alloc_new w (.cells #[.pointer none] 109))
  have hb1 : w1.heap[w.heap.size]? = some (.cells #[.pointer (some ⟨mb, 0, none⟩)] 109 (0, 0)) := by
    rw [e1]
    have := heap_setCell_at (i := 0) (v := .pointer (some ⟨mb, 0, none⟩)) hb4
    simpa using this
  have x0 := cell_at (i := 0) hb1 rfl
  have kw : Keeps No w w1 := by
    rw [e1]
    exact ((Keeps.refl No w).alloc _ |>.trans k4).setCell (p := ⟨w.heap.size, 0, none⟩) (Or.inl (Nat.le_refl _)) _
  have x1 := cell_at (i := 0) (H.out.keep kw) rfl
  have KW := hid kw
  simp at x0 x1
  clear hw e1 k4 hb4 hb1 kw HM
  go_wp2_with fail
  go_ret
  exact ⟨rfl, KW.out⟩

set_option maxHeartbeats 1000000 in
set_option maxRecDepth 100000 in
theorem which_met {w : World} {mb : Nat} {n c : Int} (h : Met w mb n c) (hc : c = 2 ∨ c = 3 ∨ c = 4) :
    Calls Tryd.prog 27 #[.iface 109 (.pointer (some ⟨mb, 0, none⟩))] w fun e w' => e = .returned (.int .i64 c) ∧ w = w' := by
  have h4 := is_met mb n c 4 w h
  have h3 := is_met mb n c 3 w h
  rcases hc with rfl | rfl | rfl
  all_goals
    simp only [Int.reduceBEq] at h4 h3
    go_enter Tryd.func27, Tryd.ntmps27
    go_wp2_with (first | ((with_reducible refine h4.mono ?_); rintro e w' ⟨rfl, rfl⟩) | ((with_reducible refine h3.mono ?_); rintro e w' ⟨rfl, rfl⟩))
    go_ret
    exact ⟨rfl, rfl⟩

/-- Do the bytes begin with the letters? -/
def begins (m : List Int) : Bool := m.take 3 == lettersB

theorem begins_str {m : List Int} (hb : Bytes m) : (decide (3 ≤ (strOfNums m).size) && ((strOfNums m).data.toList.take 3 == [72, 66, 49])) = begins m := by
  rw [strOfNums_size, strOfNums_data]
  unfold begins lettersB
  match m, hb with
  | [], _ => rfl
  | [_], _ => simp
  | [_, _], _ => simp
  | a :: b :: c :: t, hb =>
    have ha := hb a (by simp)
    have hbb := hb b (by simp)
    have hc := hb c (by simp)
    have key : ∀ (x : Int) (k : Nat), 0 ≤ x ∧ x ≤ 255 → k ≤ 255 → ((UInt8.ofNat x.toNat == UInt8.ofNat k) = (x == (k : Int))) := by
      intro x k hx hk
      rw [Bool.eq_iff_iff]
      simp only [beq_iff_eq]
      constructor
      · intro h
        have := congrArg UInt8.toNat h
        simp only [UInt8.toNat_ofNat'] at this
        omega
      · rintro rfl
        simp
    have e1 := key a 72 ha (by omega)
    have e2 := key b 66 hbb (by omega)
    have e3 := key c 49 hc (by omega)
    simp only [List.map_cons, List.take_succ_cons, List.take_zero, List.length_cons]
    have hd : decide (3 ≤ t.length + 1 + 1 + 1) = true := by simp
    rw [hd, Bool.true_and]
    show ((UInt8.ofNat a.toNat == 72) && ((UInt8.ofNat b.toNat == 66) && ((UInt8.ofNat c.toNat == 49) && true))) = ((a == 72) && ((b == 66) && ((c == 49) && true)))
    rw [← show UInt8.ofNat 72 = 72 from rfl, ← show UInt8.ofNat 66 = 66 from rfl, ← show UInt8.ofNat 49 = 49 from rfl, e1, e2, e3]
    rfl

set_option maxHeartbeats 1000000 in
set_option maxRecDepth 100000 in
theorem prefix_any (s p : ByteArray) (w : World) :
    Calls Tryd.prog 50 #[.string s, .string p] w fun e w' => e = .returned (.bool (decide (p.size ≤ s.size) && (s.data.toList.take p.size == p.data.toList))) ∧ w = w' := by
  have inner : Calls Tryd.prog 69 #[.string s, .string p] w fun e w' => e = .returned (.bool (decide (p.size ≤ s.size) && (s.data.toList.take p.size == p.data.toList))) ∧ w = w' := by
    go_enter Tryd.func69, Tryd.ntmps69
    go_wp2
    · rename_i h
      go_ret
      refine ⟨?_, rfl⟩
      show Ending.returned (Value.bool ((s.extract 0 p.size).toList == p.toList)) = _
      rw [Lib.extract_toList, Lib.toList_data]
      simp [h]
    · rename_i h
      go_ret
      refine ⟨?_, rfl⟩
      show Ending.returned (Value.bool false) = _
      simp [h]
  go_enter Tryd.func50, Tryd.ntmps50
  go_wp2_with ((with_reducible refine inner.mono ?_); rintro e w' ⟨rfl, rfl⟩)
  go_ret
  exact ⟨rfl, rfl⟩

theorem conv_own {w : World} {v : Value} {m : List Int} (h : w.ownsRow 0 5 1 v m.length (m.map (Value.int .u8))) :
    (convert 23 9 v).run Tryd.prog w = .ok (.string (strOfNums m)) w := by
  rcases h.2 with ⟨rfl, h0⟩ | ⟨g, cap, cur, rfl, _⟩
  · obtain rfl := List.length_eq_zero_iff.1 h0
    exact run_convert_bytes_nil w 23 5 Tryd.underlying23 Tryd.underlying5 _ _ _ Tryd.underlying9
  · refine run_convert_bytes_arg w 23 5 Tryd.underlying23 Tryd.underlying5 g 0 m.length cap m rfl (fun i hi => ?_) _ Tryd.underlying9
    obtain ⟨g', off, he, _, hc⟩ := SlB.cellAt (Sl.ofOwn h) hi
    simp only [Option.some.injEq, Addr.mk.injEq, and_true] at he
    obtain ⟨rfl, rfl⟩ := he
    rw [hc]
    simp [List.getD, List.getElem?_eq_getElem hi]

end Go.Proofs.YtlenhccdkhgfgaaDoor
