/-
  The ring of ints, more: New, Force, At, Set, All, and what a nil ring answers.
-/
import Derived.Test.YtebodpphimfdoaaRing
import Derived.Deep.RegionWith
import Derived.Deep.RegionHeld3
namespace Go.Proofs.Ytebodpphimfdoaa
open Go.RowKit

/-- The room that New(n) gives. -/
def roomOf (n : Int) : Nat := if n < 0 then 0 else if 1024 < n then 1024 else n.toNat

theorem roomOf_le (n : Int) : roomOf n ≤ 1024 := by unfold roomOf; split <;> (try split) <;> omega

set_option maxHeartbeats 400000 in
theorem inew_any (n : Int) (w : World) :
    Calls Try.prog 15 #[.int .i64 n] w fun e w' => e = .returned (.pointer (some ⟨w.heap.size, 0, none⟩)) ∧ RingI w' w.heap.size (fun k => k = w.heap.size) (roomOf n) [] ∧ Keeps No w w' := by
  have key : ∀ r : Nat, r = roomOf n → RingI (w.alloc (.cells #[.int .i64 r, .int .i64 0, .int .i64 0, .slice none 0 0] 86)) w.heap.size (fun k => k = w.heap.size) (roomOf n) [] := by
    rintro r rfl; exact RingG.new w (roomOf_le n)
  have K := hid key
  have hk : Keeps No w (w.alloc (.cells #[.int .i64 (roomOf n), .int .i64 0, .int .i64 0, .slice none 0 0] 86)) := (Keeps.refl _ _).alloc _
  have HK := hid hk
  clear key hk
  rcases (show n < 0 ∨ (0 ≤ n ∧ n ≤ 1024) ∨ 1024 < n by omega) with h | ⟨h, h'⟩ | h
  · have er : roomOf n = 0 := by simp [roomOf, h]
    rw [er] at HK
    have ER := hid er
    clear er
    go_enter Try.func15, Try.ntmps15
    go_wp2
    go_ret
    exact ⟨rfl, K.out 0 ER.out.symm, HK.out⟩
  · have er : (roomOf n : Int) = n := by unfold roomOf; rw [if_neg (by omega), if_neg (by omega)]; omega
    obtain ⟨m, rfl⟩ := Int.eq_ofNat_of_zero_le h
    have er' : roomOf (m : Int) = m := by omega
    rw [er'] at HK
    have ER := hid er'
    clear er er'
    go_enter Try.func15, Try.ntmps15
    go_wp2
    go_ret
    exact ⟨rfl, K.out m ER.out.symm, HK.out⟩
  · have er : roomOf n = 1024 := by unfold roomOf; rw [if_neg (by omega), if_pos h]
    rw [er] at HK
    have ER := hid er
    clear er
    go_enter Try.func15, Try.ntmps15
    go_wp2
    go_ret
    exact ⟨rfl, K.out 1024 ER.out.symm, HK.out⟩

set_option maxHeartbeats 400000 in
theorem iforce_zero {w : World} {b : Nat} {F : Nat → Prop} {l : List Int} (h : RingI w b F 0 l) (x : Int) :
    Calls Try.prog 22 #[.pointer (some ⟨b, 0, none⟩), .int .i64 x] w fun e w' => e = .returned (.tuple #[.int .i64 x, .bool true]) ∧ w = w' := by
  obtain ⟨first, v, xs, hb, ho, hne, hF, hok⟩ := h
  have c0 := cell_at (i := 0) hb rfl
  clear ho hne hF hok
  go_enter Try.func22, Try.ntmps22
  go_wp2_with fail
  go_ret2
  exact ⟨rfl, rfl⟩

theorem RingI.room_cell {w : World} {b room : Nat} {F : Nat → Prop} {l : List Int} (h : RingI w b F room l) : w.cell? ⟨b, 0, none⟩ = some (.int .i64 room) := by
  obtain ⟨first, v, xs, hb, ho, hne, hF, hok⟩ := h
  exact cell_at (i := 0) hb rfl

theorem RingI.len_cell {w : World} {b room : Nat} {F : Nat → Prop} {l : List Int} (h : RingI w b F room l) : w.cell? ⟨b, 2, none⟩ = some (.int .i64 l.length) := by
  obtain ⟨first, v, xs, hb, ho, hne, hF, hok⟩ := h
  exact cell_at (i := 2) hb rfl

set_option maxHeartbeats 400000 in
theorem iforce_room {w : World} {b room : Nat} {F : Nat → Prop} {l : List Int} (h : RingI w b F room l) (hc : l.length < room) (x : Int) :
    Calls Try.prog 22 #[.pointer (some ⟨b, 0, none⟩), .int .i64 x] w fun e w' => e = .returned (.tuple #[.int .i64 0, .bool false]) ∧
      ∃ F', RingI w' b F' room (l ++ [x]) ∧ Upd F w w' F' := by
  have c0 := h.room_cell
  have hr : ((room : Int) == 0) = false := by rw [beq_eq_false_iff_ne]; omega
  have H := hid h
  clear h
  go_enter Try.func22, Try.ntmps22
  go_wp2_with (go_at_call 18; refine (ipush_ok H.out hc x).mono ?_; rintro e w' ⟨rfl, hp⟩; have HP := hid hp; clear hp)
  go_ret2
  exact ⟨rfl, HP.out⟩

set_option maxHeartbeats 400000 in
theorem iforce_full {w : World} {b room : Nat} {F : Nat → Prop} {y : Int} {l : List Int} (h : RingI w b F room (y :: l)) (hc : l.length + 1 = room) (x : Int) :
    Calls Try.prog 22 #[.pointer (some ⟨b, 0, none⟩), .int .i64 x] w fun e w' => e = .returned (.tuple #[.int .i64 y, .bool true]) ∧
      ∃ F', RingI w' b F' room (l ++ [x]) ∧ Upd F w w' F' := by
  have c0 := h.room_cell
  have hr : ((room : Int) == 0) = false := by rw [beq_eq_false_iff_ne]; omega
  have H := hid h
  have HC := hid hc
  clear h hc
  go_enter Try.func22, Try.ntmps22
  go_wp2_with fail
  refine (ipush_full H.out HC.out x).mono ?_
  rintro e w' ⟨rfl, rfl⟩
  go_wp2_with fail
  refine (ipop_ok H.out).mono ?_
  rintro e w1 ⟨rfl, F1, hR1, hK1⟩
  have H1 := hid hR1
  have HK1 := hid hK1
  clear hR1 hK1
  go_wp2_with fail
  refine (ipush_ok H1.out (by have := HC.out; omega) x).mono ?_
  rintro e w2 ⟨rfl, F2, hR2, hK2⟩
  have H2 := hid hR2
  have HK2 := hid hK2
  clear hR2 hK2
  go_wp2_with fail
  go_ret2
  exact ⟨rfl, F2, H2.out, HK1.out.trans HK2.out⟩

end Go.Proofs.Ytebodpphimfdoaa
