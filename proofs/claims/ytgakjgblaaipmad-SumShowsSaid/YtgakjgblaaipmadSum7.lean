/-
  The document's example for layer 4; two bytes of a list that are turned.
-/
import Derived.Test.YtgakjgblaaipmadSum6
import Derived.Lib.SmallJoins
namespace Go.Proofs.Ytgakjgblaaipmad
open Go.RowKit

theorem Sl.marked (w : World) (cs : Array Value) (t : TypeId) (fr : Nat × Nat) (k size n : Nat) (hk : k = w.heap.size) (hs : cs.size = n * size) (hm : n ≤ maxLen) : Sl (w.alloc (.cells cs t fr)) size (.slice (some ⟨k, 0, none⟩) n n) n cs.toList := by
  subst hk
  refine ⟨by simpa using hs, hm, _, n, rfl, Nat.le_refl _, fun h => (by cases h), fun _ => ⟨w.heap.size, 0, rfl, by simp, fun j u hu => ?_⟩⟩
  rw [Nat.zero_add]
  exact cell_at (heap_alloc_new w _) (by simpa using hu)

set_option maxHeartbeats 1000000 in
set_option maxRecDepth 100000 in
theorem letters_true (w : World) :
    Calls Try.prog 8 #[] w fun e w' => e = .returned (.bool true) ∧ Keeps No w w' := by
  have hs : ((mof [49, 50, 51, 52, 53, 54, 55, 56, 57]).toNat : Int) = 10673 := by rw [letters_sum]; rfl
  have HS := hid hs
  have hcv := Go.Joins.run_convert_bytes_const_at (P := Try.prog) (w.alloc (.cells #[.int .u8 7] 5)) 22 5 #[.int .u8 49, .int .u8 50, .int .u8 51, .int .u8 52, .int .u8 53, .int .u8 54, .int .u8 55, .int .u8 56, .int .u8 57] 9 9 (w.heap.size + 1) (by simp) Try.underlying22 Try.underlying5
  clear hs
  go_enter Try.func8, Try.ntmps8
  go_wp2_with fail
  refine (sopen_short (p := [7]) (Sl.new _ _ _ _ _ rfl (by decide)) (by decide)).mono ?_
  rintro e w' ⟨rfl, rfl⟩
  go_wp2_with fail
  refine (sof_any (p := [49, 50, 51, 52, 53, 54, 55, 56, 57]) (Sl.marked _ _ _ _ _ _ _ (by simp) rfl (by decide)) (by intro x hx; simp at hx; omega)).mono ?_
  rintro e w' ⟨rfl, rfl⟩
  rw [HS.out]
  go_wp2_with fail
  go_ret
  exact ⟨rfl, ((Keeps.refl _ _).alloc _).alloc _⟩

theorem set_two (q : List Int) (k : Nat) (h : k + 1 < q.length) (u v : Int) :
    ∃ A B, q = A ++ q[k] :: q[k + 1] :: B ∧ (q.set k u).set (k + 1) v = A ++ u :: v :: B := by
  have e1 := List.drop_eq_getElem_cons (l := q) (i := k) (by omega)
  have e2 := List.drop_eq_getElem_cons (l := q) (i := k + 1) h
  have e : q = q.take k ++ q[k] :: q[k + 1] :: q.drop (k + 1 + 1) := by rw [← e2, ← e1, List.take_append_drop]
  refine ⟨q.take k, q.drop (k + 1 + 1), e, ?_⟩
  have hl : (q.take k).length = k := by simp; omega
  obtain ⟨A, hA⟩ : ∃ A, q.take k = A := ⟨_, rfl⟩
  obtain ⟨B, hB⟩ : ∃ B, q.drop (k + 1 + 1) = B := ⟨_, rfl⟩
  obtain ⟨x, hx⟩ : ∃ x, q[k] = x := ⟨_, rfl⟩
  obtain ⟨y, hy⟩ : ∃ y, q[k + 1] = y := ⟨_, rfl⟩
  rw [hA, hB, hx, hy] at e
  rw [hA] at hl
  rw [hA, hB, e]
  subst hl
  rw [List.set_append_right _ _ (Nat.le_refl _), Nat.sub_self, List.set_cons_zero, List.set_append_right _ _ (by omega)]
  rw [show A.length + 1 - A.length = 1 by omega]
  rfl

/-- A closed list, two bytes of it turned, is not right any more. -/
theorem turned_bad {p : List Int} (hb : Bytes p) {k : Nat} {a b : Int} (ha : 0 ≤ a ∧ a ≤ 255) (hbb : 0 ≤ b ∧ b ≤ 255) (hne : ¬ (a = 0 ∧ b = 0)) (q : List Int)
    (hq : q = p ++ [((mof p).toNat : Int) / 256, ((mof p).toNat : Int) % 256]) (h0 : k < q.length) (h1 : k + 1 < q.length) :
    ∃ m u v, (q.set k (xb q[k] a)).set (k + 1) (xb q[k + 1] b) = m ++ [u, v] ∧ m.length = p.length ∧ Bytes (m ++ [u, v]) ∧ mof m ≠ word u v := by
  have hlt := (mof p).isLt
  have hqb : Bytes q := by
    intro x hx
    rw [hq] at hx
    simp only [List.mem_append, List.mem_cons, List.not_mem_nil, or_false] at hx
    rcases hx with hx | rfl | rfl
    · exact hb x hx
    · omega
    · omega
  have hq0 : mof q = 0#16 := by
    rw [hq, mof_right _ (fun x hx => by simp at hx; rcases hx with rfl | rfl <;> omega), word_parts]
  obtain ⟨A, B, e1, e2⟩ := set_two q k h1 (xb q[k] a) (xb q[k + 1] b)
  have hx := hqb q[k] (List.getElem_mem h0)
  have hy := hqb q[k + 1] (List.getElem_mem h1)
  have hlen : ((q.set k (xb q[k] a)).set (k + 1) (xb q[k + 1] b)).length = p.length + 2 := by simp [hq]
  obtain ⟨m, u, v, hm⟩ := last_two ((q.set k (xb q[k] a)).set (k + 1) (xb q[k + 1] b)) (by omega)
  have hmb : Bytes (m ++ [u, v]) := by
    intro z hz
    rw [← hm, e2] at hz
    have hAB : ∀ z ∈ A ++ B, 0 ≤ z ∧ z ≤ 255 := fun z hz => hqb z (by rw [e1]; simp at hz ⊢; rcases hz with h | h; exact Or.inl h; exact Or.inr (Or.inr (Or.inr h)))
    simp only [List.mem_append, List.mem_cons] at hz
    rcases hz with h | rfl | rfl | h
    · exact hAB z (List.mem_append_left _ h)
    · exact xb_byte hx ha
    · exact xb_byte hy hbb
    · exact hAB z (List.mem_append_right _ h)
  refine ⟨m, u, v, hm, by rw [hm] at hlen; simp at hlen; omega, hmb, fun e => ?_⟩
  rw [← mof_right m (fun z hz => hmb z (List.mem_append_right _ hz)), ← hm, e2] at e
  apply hne
  refine shown A B hx hy ha hbb ?_
  rw [e, ← hq0]
  exact congrArg mof e1

theorem SlB.ofOwn2 {w : World} {v : Value} {p : List Int} {a b : Int} {e : TypeId} (ho : w.ownsRow 0 e 1 v (p.length + 2) ((p ++ [a, b]).map (Value.int .u8))) : SlB w v (p ++ [a, b]) := by
  have := Sl.ofOwn ho
  unfold SlB
  rw [List.length_append]; exact this

end Go.Proofs.Ytgakjgblaaipmad
