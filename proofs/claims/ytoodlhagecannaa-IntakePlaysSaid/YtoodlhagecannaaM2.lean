/-
  The document's answers for layer 2: Same, Band.
-/
import Derived.Test.YtoodlhagecannaaERing4
import Derived.Test.YtoodlhagecannaaEvEq
import Derived.Test.YtoodlhagecannaaLib2
import Derived.BigQuiet
namespace Go.Proofs.Ytoodlhagecannaa
open Go.RowKit

/-- A list of events. -/
abbrev SlEv (w : World) (v : Value) (l : List Ev) : Prop := Sl w 3 v l.length (l.flatMap encE)

theorem SlEv.at {w : World} {ao : Option Addr} {cap : Nat} {l : List Ev} (h : SlEv w (.slice ao l.length cap) l) {k : Nat} (hk : k < l.length) :
    ∃ g off, ao = some ⟨g, off, none⟩ ∧ g < w.heap.size ∧ w.cell? ⟨g, off + k * 3, none⟩ = some (.int .i64 l[k].rule) ∧ w.cell? ⟨g, off + k * 3 + 1, none⟩ = some (.bool l[k].on) ∧ w.cell? ⟨g, off + k * 3 + 2, none⟩ = some (.int .i64 l[k].at_) := by
  have e0 := getElem?_flatMap_enc (size := 3) encE_len l k 0 (by omega) hk
  have e1 := getElem?_flatMap_enc (size := 3) encE_len l k 1 (by omega) hk
  have e2 := getElem?_flatMap_enc (size := 3) encE_len l k 2 (by omega) hk
  simp only [encE] at e0 e1 e2
  obtain ⟨g, off, rfl, hg, c0⟩ := Sl.cellAt h e0
  obtain ⟨g1, off1, h1, _, c1⟩ := Sl.cellAt h e1
  obtain ⟨g2, off2, h2, _, c2⟩ := Sl.cellAt h e2
  simp only [Option.some.injEq, Addr.mk.injEq, and_true] at h1 h2
  obtain ⟨rfl, rfl⟩ := h1
  obtain ⟨rfl, rfl⟩ := h2
  exact ⟨g, off, rfl, hg, c0, c1, c2⟩

theorem ev_neq_same (r : Int) (o : Bool) (a : Int) (w : World) : (binOp .neq 64 (.agg #[.int .i64 r, .bool o, .int .i64 a]) (.agg #[.int .i64 r, .bool o, .int .i64 a])).run Try.prog w = .ok (.bool false) w := by
  have := ev_neq ⟨r, o, a⟩ ⟨r, o, a⟩ w
  rw [Ev.same_refl] at this
  exact this

set_option maxHeartbeats 1000000 in
set_option maxRecDepth 100000 in
theorem msameE_true {w : World} {va vb : Value} {l : List Ev} (ha : SlEv w va l) (hb : SlEv w vb l) :
    Calls Try.prog 15 #[va, vb] w fun e w' => e = .returned (.bool true) ∧ Keeps No w w' := by
  obtain ⟨aa, ca, rfl⟩ := ha.any
  obtain ⟨ab, cb, rfl⟩ := hb.any
  have HA := hid ha
  have HB := hid hb
  have hlen := ha.2.1
  have hne := ev_neq_same
  have hgd := ev_guard
  unfold maxLen at hlen
  clear ha hb
  go_enter Try.func15, Try.ntmps15
  go_wp2
  go_loopw [5] (fun v5 wr => ∃ k : Nat, k ≤ l.length ∧ v5 = .int .i64 k ∧ Hid (∃ n, wr = w.drewN n)) (fun v5 _ => l.length - (intOf v5).toNat)
  case atStart => exact ⟨0, Nat.zero_le _, rfl, hid ⟨0, rfl⟩⟩
  case round =>
    obtain ⟨k, hk, rfl, HN⟩ := hrel
    obtain ⟨n0, rfl⟩ := HN.out
    by_cases hlt : k < l.length
    · obtain ⟨ga, offa, rfl, _, a0, a1, a2⟩ := SlEv.at HA.out hlt
      obtain ⟨gb, offb, rfl, _, b0, b1, b2⟩ := SlEv.at HB.out hlt
      generalize l[k] = x at *
      go_wp2_with fail
      go_quiet (fail)
      go_wp2_with fail
      go_roundw
      case rel => exact ⟨k + 1, by omega, by go_num, hid ⟨_, rfl⟩⟩
      case measure => simp [intOf]; omega
    · go_wp2_with fail
      go_ret
      exact ⟨rfl, (Keeps.refl _ _).drewN _⟩

/-- An event that waits, and its priority. -/
def encI (x : Int × Ev) : List Value := .int .u8 x.1 :: encE x.2
theorem encI_len (x : Int × Ev) : (encI x).length = 4 := rfl
abbrev SlIt (w : World) (v : Value) (l : List (Int × Ev)) : Prop := Sl w 4 v l.length (l.flatMap encI)

theorem SlIt.at {w : World} {ao : Option Addr} {cap : Nat} {l : List (Int × Ev)} (h : SlIt w (.slice ao l.length cap) l) {k : Nat} (hk : k < l.length) :
    ∃ g off, ao = some ⟨g, off, none⟩ ∧ g < w.heap.size ∧ w.cell? ⟨g, off + k * 4, none⟩ = some (.int .u8 l[k].1) ∧ w.cell? ⟨g, off + k * 4 + 1, none⟩ = some (.int .i64 l[k].2.rule) ∧ w.cell? ⟨g, off + k * 4 + 2, none⟩ = some (.bool l[k].2.on) ∧ w.cell? ⟨g, off + k * 4 + 3, none⟩ = some (.int .i64 l[k].2.at_) := by
  have e0 := getElem?_flatMap_enc (size := 4) encI_len l k 0 (by omega) hk
  have e1 := getElem?_flatMap_enc (size := 4) encI_len l k 1 (by omega) hk
  have e2 := getElem?_flatMap_enc (size := 4) encI_len l k 2 (by omega) hk
  have e3 := getElem?_flatMap_enc (size := 4) encI_len l k 3 (by omega) hk
  simp only [encI, encE] at e0 e1 e2 e3
  obtain ⟨g, off, rfl, hg, c0⟩ := Sl.cellAt h e0
  obtain ⟨g1, off1, h1, _, c1⟩ := Sl.cellAt h e1
  obtain ⟨g2, off2, h2, _, c2⟩ := Sl.cellAt h e2
  obtain ⟨g3, off3, h3, _, c3⟩ := Sl.cellAt h e3
  simp only [Option.some.injEq, Addr.mk.injEq, and_true] at h1 h2 h3
  obtain ⟨rfl, rfl⟩ := h1
  obtain ⟨rfl, rfl⟩ := h2
  obtain ⟨rfl, rfl⟩ := h3
  exact ⟨g, off, rfl, hg, c0, c1, c2, c3⟩

/-- Those of a priority. -/
def bandL (p : Int) (l : List (Int × Ev)) : List Ev := (l.filter (fun x => x.1 == p)).map (·.2)

theorem bandL_snoc (p : Int) (l : List (Int × Ev)) (x : Int × Ev) : bandL p (l ++ [x]) = if x.1 = p then bandL p l ++ [x.2] else bandL p l := by
  unfold bandL
  by_cases h : x.1 = p <;> simp [h, List.filter_append]

theorem bandL_take (p : Int) (l : List (Int × Ev)) {k : Nat} (hk : k < l.length) : bandL p (l.take (k + 1)) = if l[k].1 = p then bandL p (l.take k) ++ [l[k].2] else bandL p (l.take k) := by
  rw [List.take_add_one, List.getElem?_eq_getElem hk]
  exact bandL_snoc p _ _

theorem bandL_le (p : Int) (l : List (Int × Ev)) : (bandL p l).length ≤ l.length := by
  unfold bandL; rw [List.length_map]; exact List.length_filter_le _ _

end Go.Proofs.Ytoodlhagecannaa
