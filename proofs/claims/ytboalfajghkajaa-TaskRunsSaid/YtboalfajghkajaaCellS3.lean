/-
  The store, walked: New.
-/
import Derived.Test.YtboalfajghkajaaCellS2
namespace Go.Proofs.Ytboalfajghkajaa
open Go.RowKit
set_option linter.unusedVariables false

theorem set_flatMap {α : Type} {size : Nat} {enc : α → List Value} (he : ∀ x, (enc x).length = size) : ∀ (xs : List α) (p j : Nat) (u : Value) (y : α) (hp : p < xs.length), j < size → enc y = (enc xs[p]).set j u → (xs.flatMap enc).set (p * size + j) u = (xs.set p y).flatMap enc
  | [], p, j, u, y, hp, hj, h => by simp at hp
  | x :: xs, 0, j, u, y, hp, hj, h => by
    simp only [Nat.zero_mul, Nat.zero_add, List.flatMap_cons, List.set_cons_zero]
    rw [List.set_append_left _ _ (by rw [he]; exact hj), h]
    rfl
  | x :: xs, p + 1, j, u, y, hp, hj, h => by
    simp only [List.flatMap_cons, List.set_cons_succ]
    have hp' : p < xs.length := by simpa using hp
    rw [List.set_append_right _ _ (by rw [he, Nat.succ_mul]; omega), he, show (p + 1) * size + j - size = p * size + j by rw [Nat.succ_mul]; omega, set_flatMap he xs p j u y hp' hj (by simpa using h)]

/-- One cell of an item is another one. -/
theorem own_set {α : Type} {e size : Nat} {enc : α → List Value} {w : World} {g cap n p j : Nat} {xs : List α} (he : ∀ x, (enc x).length = size) (ho : w.ownsRow 0 e size (.slice (some ⟨g, 0, none⟩) n cap) n (xs.flatMap enc)) (hp : p < xs.length) (hj : j < size) (u : Value) (y : α) (hy : enc y = (enc xs[p]).set j u) :
    (w.setCell ⟨g, p * size + j, none⟩ u).ownsRow 0 e size (.slice (some ⟨g, 0, none⟩) n cap) n ((xs.set p y).flatMap enc) := by
  have h := (ho.stored (p * size + j) u).1
  rwa [set_flatMap he xs p j u y hp hj hy] at h

theorem Keeps.frozen {S : Nat → Prop} {w w' : World} (h : Keeps S w w') {p : Addr} (hs : ¬ S p.block) (hp : p.block < w.heap.size) (hf : w.frozen? p = false) : w'.frozen? p = false := by
  unfold World.frozen? at hf ⊢
  rw [h.block p.block hp hs]
  exact hf

theorem info_cell : (Try.prog.info? 66).map (fun i => (i.zero, i.size, i.bytes)) = some (some (.agg #[.pointer none, .int .i64 0, .bool false]), 3, 24) := by kernel_rfl

/-- The cells of a store that is being made: so many have their rings. -/
def cellsN (rb : Nat → Nat) (n i : Nat) : List CellD := (List.range n).map (fun k => if k < i then ⟨some ⟨rb k, 0, none⟩, 0, false⟩ else CellD.zero)
theorem cellsN_len (rb : Nat → Nat) (n i : Nat) : (cellsN rb n i).length = n := by simp [cellsN]
theorem cellsN_zero (rb : Nat → Nat) (n : Nat) : cellsN rb n 0 = List.replicate n CellD.zero := by
  apply List.ext_getElem?
  intro j
  by_cases hj : j < n
  · simp [cellsN, hj]
  · simp [cellsN, hj]
theorem cellsN_at (rb : Nat → Nat) (n i : Nat) (hi : i < n) : (cellsN rb n i)[i]'(by rw [cellsN_len]; exact hi) = CellD.zero := by simp [cellsN]
theorem cellsN_step (rb : Nat → Nat) (n i x : Nat) (hi : i < n) : cellsN (fun k => if k = i then x else rb k) n (i + 1) = (cellsN rb n i).set i ⟨some ⟨x, 0, none⟩, 0, false⟩ := by
  apply List.ext_getElem?
  intro j
  by_cases hj : j < n
  · by_cases he : i = j
    · subst he
      rw [List.getElem?_set_self (by rw [cellsN_len]; exact hj)]
      simp [cellsN, hj]
    · rw [List.getElem?_set_ne he]
      have h1 : ¬ j = i := fun e => he e.symm
      by_cases hl : j < i
      · have h2 : j < i + 1 := by omega
        simp [cellsN, hj, hl, h1, h2]
      · have h2 : ¬ j < i + 1 := by omega
        simp [cellsN, hj, hl, h2]
  · rw [List.getElem?_eq_none (by rw [cellsN_len]; omega), List.getElem?_eq_none (by rw [List.length_set, cellsN_len]; omega)]
theorem cellsN_all (rb : Nat → Nat) (n : Nat) : cellsN rb n n = cellsOf rb n [] := by
  apply List.ext_getElem?
  intro j
  by_cases hj : j < n
  · simp [cellsN, cellsOf, cellOf, hj, cameD, badD, lastE]
  · rw [List.getElem?_eq_none (by rw [cellsN_len]; omega), List.getElem?_eq_none (by rw [cellsOf_len]; omega)]

/-- A store that is being made. -/
def StoN (B sb n i : Nat) (w : World) : Prop := ∃ rb : Nat → Nat, B < sb ∧
  w.heap[sb]? = some (.cells #[.slice (some ⟨B, 0, none⟩) n n] 60 (0, 0)) ∧
  w.ownsRow 0 66 3 (.slice (some ⟨B, 0, none⟩) n n) n ((cellsN rb n i).flatMap encC) ∧
  (∀ k, k < i → RingV w (rb k) (fun j => j = rb k) 16 [] ∧ sb < rb k) ∧ (∀ j k, j < k → k < i → rb j < rb k)

theorem StoN.step {B sb n i x : Nat} {wr w' w2 : World} (h : StoN B sb n i wr) (hi : i < n) (hxw : wr.heap.size ≤ x) (k1 : Keeps No wr w') (hr : RingV w' x (fun j => j = x) 16 []) (he : w'.setCell ⟨B, i * 3, none⟩ (.pointer (some ⟨x, 0, none⟩)) = w2) : StoN B sb n (i + 1) w2 := by
  obtain ⟨rb, hBs, hb, ho, hr0, hlt⟩ := h
  have hsw := lt_of_block hb
  have kk : Keeps (fun b => b = B) w' w2 := by rw [← he]; exact (Keeps.refl _ _).at
  refine ⟨fun k => if k = i then x else rb k, hBs, kk.heap (by omega) (k1.heap (fun h => h) hb), ?_, ?_, ?_⟩
  · rw [cellsN_step rb n i x hi, ← he]
    exact own_set (size := 3) (j := 0) encC_len (k1.own ho (fun _ _ h => h)) (by rw [cellsN_len]; exact hi) (by decide) _ _ (by rw [cellsN_at rb n i hi]; rfl)
  · intro k hk
    dsimp only
    by_cases e : k = i
    · rw [if_pos e]
      exact ⟨RingG.keep hr kk (fun j hj e => by omega), by omega⟩
    · rw [if_neg e]
      obtain ⟨h1, h2⟩ := hr0 k (by omega)
      exact ⟨RingG.keep (RingG.keep h1 k1 (fun _ _ h => h)) kk (fun j hj e => by omega), h2⟩
  · intro j k hjk hk
    have hj : ¬ j = i := by omega
    dsimp only
    by_cases e : k = i
    · rw [if_neg hj, if_pos e]
      have := RingG.lt (hr0 j (by omega)).1 (rb j) rfl
      omega
    · rw [if_neg hj, if_neg e]
      exact hlt j k hjk (by omega)

theorem StoN.done {B sb n : Nat} {w : World} (h : StoN B sb n n w) (h8 : n ≤ 8) : ∃ F, Sto0 w sb F n [] ∧ ∀ i, F i → B ≤ i := by
  obtain ⟨rb, hBs, hb, ho, hr0, hlt⟩ := h
  have hsw := lt_of_block hb
  rw [cellsN_all] at ho
  refine ⟨fun i => i = sb ∨ i = B ∨ ∃ k, k < n ∧ i = rb k, ⟨B, rb, fun k j => j = rb k, h8, hb, ho, by omega, fun k hk => (hr0 k hk).1, fun k hk => ?_, ?_, fun i => Iff.rfl⟩, ?_⟩
  · have := (hr0 k hk).2
    exact ⟨fun e => by omega, fun e => by omega⟩
  · intro j k hj hk hjk i e1 e2
    rcases Nat.lt_or_gt_of_ne hjk with h | h
    · have := hlt j k h hk; omega
    · have := hlt k j h hj; omega
  · rintro i (e | e | ⟨k, hk, e⟩)
    · omega
    · omega
    · have := (hr0 k hk).2; omega

set_option maxHeartbeats 4000000 in
set_option maxRecDepth 100000 in
theorem cnew0 (z : Int) (w : World) (hz : I64 z) : Calls Try.prog 11 #[.int .i64 z] w fun e w' => ∃ sb F, e = .returned (.pointer (some ⟨sb, 0, none⟩)) ∧ Sto0 w' sb F (clampS z) [] ∧ Keeps No w w' ∧ (∀ i, F i → w.heap.size ≤ i) := by
  obtain ⟨n, hn⟩ : ∃ n, clampS z = n := ⟨_, rfl⟩
  have hcl : (z < 0 ∧ n = 0) ∨ (0 ≤ z ∧ z ≤ 8 ∧ z = n) ∨ (8 < z ∧ n = 8) := by rw [← hn]; unfold clampS; omega
  have hn8 : n ≤ 8 := by rw [← hn]; unfold clampS; omega
  obtain ⟨i0, hi, hz0, hz1, hz2⟩ := info_parts info_cell
  obtain ⟨B, hB⟩ : ∃ B, w.heap.size = B := ⟨_, rfl⟩
  have HI := hid hi
  have HB := hid hB
  have HCL := hid hcl
  rw [hn]
  clear hn hi hcl hB hz
  go_enter Try.func11, Try.ntmps11
  go_upto_region 1 with fail
  go_cut [3] from 5 to 10 (fun v3 wx => ∃ sb, v3 = .pointer (some ⟨sb, 0, none⟩) ∧ Hid (StoN B sb n 0 wx) ∧ Hid (Keeps No w wx))
  case first =>
    have hfin : ∀ (w1 : World) (m : Nat), m = n → w1.ownsRow 0 66 3 (.slice (some ⟨w.heap.size, 0, none⟩) m m) m (madeCells (Value.agg #[.pointer none, .int .i64 0, .bool false]).cells (m * 3)).toList → Keeps No w w1 → StoN B w1.heap.size n 0 (w1.alloc (.cells #[.slice (some ⟨w.heap.size, 0, none⟩) m m] 60)) := by
      intro w1 m hm ho hk
      subst hm
      have hb := HB.out
      subst hb
      have ho' : w1.ownsRow 0 66 3 (.slice (some ⟨w.heap.size, 0, none⟩) m m) m ((cellsN (fun k => k) m 0).flatMap encC) := by
        have h1 := ho
        rw [made_enc encC_len (by decide) CellD.zero (Value.agg #[.pointer none, .int .i64 0, .bool false]).cells rfl] at h1
        rw [cellsN_zero]; exact h1
      exact ⟨fun k => k, (ho'.lt _ rfl).2, heap_alloc_new w1 _, ho'.alloc _, fun k hk => by omega, fun j k _ hk => by omega⟩
    have HFIN := hid hfin
    clear hfin
    rcases HCL.out with ⟨a, b⟩ | ⟨a, b, c⟩ | ⟨a, b⟩
    all_goals
      first | subst n | subst z
      go_wp2_with (first | (at_make; refine wpList_make_full _ rfl _ _ 58 rfl 0 66 i0 (.agg #[.pointer none, .int .i64 0, .bool false]) 3 Try.underlying58 HI.out hz0 hz1 _ _ _ _ 0 rfl rfl rfl rfl (by rw [hz2]; omega) (by unfold maxLen; omega) (by omega) ?_) | (at_make; refine wpList_make_full _ rfl _ _ 58 rfl 0 66 i0 (.agg #[.pointer none, .int .i64 0, .bool false]) 3 Try.underlying58 HI.out hz0 hz1 _ _ _ _ 8 rfl rfl rfl rfl (by rw [hz2]; omega) (by unfold maxLen; omega) (by omega) ?_) | (at_make; refine wpList_make_full _ rfl _ _ 58 rfl 0 66 i0 (.agg #[.pointer none, .int .i64 0, .bool false]) 3 Try.underlying58 HI.out hz0 hz1 _ _ _ _ n rfl rfl rfl rfl (by rw [hz2]; omega) (by unfold maxLen; omega) (by omega) ?_))
      intro w1 hown hgrow
      have hk1 : Keeps No w w1 := (Keeps.refl _ _).grown hgrow (fun k h => by cases h)
      have hst := HFIN.out w1 _ rfl hown hk1
      have HST := hid hst
      have HK1 := hid hk1
      clear hown hgrow hk1 hst HFIN
      go_wp2_with fail
      go_meet
      exact ⟨_, rfl, HST, hid (HK1.out.alloc _)⟩
  case rest =>
  obtain ⟨sb, rfl, HS, HK⟩ := hcut
  have x0 : wc.cell? ⟨sb, 0, none⟩ = some (.slice (some ⟨B, 0, none⟩) n n) := by obtain ⟨rb, _, hb, _⟩ := HS.out; exact cell_at (i := 0) hb rfl
  go_wp2_with fail
  go_loopw [16] (fun v16 wr => ∃ i : Nat, i ≤ n ∧ v16 = .int .i64 i ∧ Hid (StoN B sb n i wr) ∧ Hid (Keeps No w wr)) (fun v16 _ => n - (intOf v16).toNat)
  case atStart => exact ⟨0, Nat.zero_le _, rfl, HS, HK⟩
  case round =>
    clear HS HK x0
    obtain ⟨i, hi, rfl, HS, HK⟩ := hrel
    have x0 : wr.cell? ⟨sb, 0, none⟩ = some (.slice (some ⟨B, 0, none⟩) n n) := by obtain ⟨rb, _, hb, _⟩ := HS.out; exact cell_at (i := 0) hb rfl
    by_cases hlt : i < n
    · obtain ⟨z0, z1⟩ : wr.cell? ⟨B, i * 3, none⟩ = some (.pointer none) ∧ wr.frozen? ⟨B, i * 3, none⟩ = false := by
        obtain ⟨rb, _, hb, ho, _⟩ := HS.out
        have h3 := own_cellC ho (cellsN_len _ _ _).symm (p := i) (by rw [cellsN_len]; exact hlt)
        rw [cellsN_at rb n i hlt] at h3
        exact ⟨h3.1, ho.frozenAt _⟩
      have hbs : (⟨B, i * 3, none⟩ : Addr) ≠ ⟨sb, 0, none⟩ := fun e => by obtain ⟨rb, h1, _⟩ := HS.out; have h2 : B = sb := congrArg Addr.block e; omega
      go_wp2_with fail
      go_region_held3 (fun w' => w'.cell? ⟨sb, 0, none⟩ = some (.slice (some ⟨B, 0, none⟩) n n)) (first | with_reducible exact x0 | with_reducible exact cellS hbs x0 | (go_keep; done)) ((go_at_call 19; (with_reducible refine (vnew_any 16 _).mono ?_); rintro e w2 ⟨rfl, hr, k2⟩; have HR := hid hr; have K2 := hid k2; have x0 := k2.cell (fun h => h) x0; have z1 := k2.frozen (fun h => h) (World.block_lt_of_cell? _ _ z0) z1; have z0 := k2.cell (fun h => h) z0; clear k2 hr))
      all_goals
        go_wp2_with fail
        go_roundw
        case rel =>
          refine ⟨i + 1, by omega, by go_num, hid ?_, hid ?_⟩
          · exact HS.out.step hlt (by first | exact Nat.le_refl _ | simp) (Keeps.trans (Keeps.refl No wr).drew K2.out) HR.out rfl
          · exact (HK.out.trans (Keeps.trans (Keeps.refl No wr).drew K2.out)).setCell (Or.inl (by have h1 := HB.out; show w.heap.size ≤ B; omega)) _
        case measure => simp [intOf]; omega
    · obtain rfl : i = n := by omega
      go_wp2_with fail
      go_ret
      obtain ⟨F, h1, h2⟩ := HS.out.done hn8
      have hb := HB.out
      subst hb
      exact ⟨sb, F, rfl, h1, HK.out, h2⟩

end Go.Proofs.Ytboalfajghkajaa
