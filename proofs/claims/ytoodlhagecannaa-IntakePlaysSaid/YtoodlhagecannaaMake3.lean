/-
  The document's Make: the table while it is laid.
-/
import Derived.Test.YtoodlhagecannaaMake1
import Derived.Test.YtoodlhagecannaaTab
import Derived.IntWalk
namespace Go.Proofs.Ytoodlhagecannaa
open Go.RowKit
set_option linter.unusedVariables false

/-- wR is the world behind the rules; m is how many there are. -/
structure TbS (w wR wr : World) (crv ctv : Value) (m : Nat) (ts : List (List Int × Value)) : Prop where
  c : BlkL wr (w.heap.size + 1 + 1 + 1) 34 (cfgL (w.heap.size + 1 + 1) crv ctv)
  old : Keeps (fun b => b = w.heap.size + 1 + 1 + 1) wR wr
  own : wr.ownsRow 0 61 1 ctv ts.length (ts.map (·.2))
  new : ∀ b, ctv.ownBlock = some b → wR.heap.size ≤ b
  slot : ∀ x ∈ ts, wr.ownsRow 0 3 1 x.2 x.1.length (x.1.map (Value.int .i64))
  snew : ∀ x ∈ ts, ∀ b, x.2.ownBlock = some b → wR.heap.size ≤ b ∧ b < wr.heap.size ∧ ctv.ownBlock ≠ some b
  sep : ts.Pairwise (fun x y => ∀ b, x.2.ownBlock = some b → y.2.ownBlock ≠ some b)
  ok : ∀ x ∈ ts, SlotOk m x.1

section
variable {w wR wr : World} {crv ctv : Value} {m : Nat} {ts : List (List Int × Value)}

theorem TbS.keep {S : Nat → Prop} {wr' : World} (h : TbS w wR wr crv ctv m ts) (k : Keeps S wr wr') (hS : ∀ b, b < wr.heap.size → ¬ S b) : TbS w wR wr' crv ctv m ts := by
  have hk : Keeps No wr wr' := k.mono (fun i hi hs => (hS i hi hs).elim)
  exact ⟨h.c.keep hk (fun h => h), h.old.trans (hk.mono (fun _ _ h => h.elim)), hk.own h.own (fun _ _ h => h), h.new, fun x hx => hk.own (h.slot x hx) (fun _ _ h => h), fun x hx b hb => by obtain ⟨a, c, d⟩ := h.snew x hx b hb; exact ⟨a, Nat.lt_of_lt_of_le c k.size, d⟩, h.sep, h.ok⟩

theorem TbS.mid {S : Nat → Prop} {W w2 : World} (h : TbS w wR wr crv ctv m ts) (hcb : w.heap.size + 1 + 1 + 1 < wR.heap.size) (hk : Keeps S wr W) (hS : ∀ b, b < wr.heap.size → ¬ S b) (hk2 : Keeps (Bl ctv) W w2) :
    BlkL w2 (w.heap.size + 1 + 1 + 1) 34 (cfgL (w.heap.size + 1 + 1) crv ctv) :=
  (h.keep hk hS).c.keep hk2 (fun h' => by have := h.new _ h'; omega)

/-- A slot more. -/
theorem TbS.add {S : Nat → Prop} {W w2 : World} {v2 : Value} {x : List Int × Value} (h : TbS w wR wr crv ctv m ts) (hcb : w.heap.size + 1 + 1 + 1 < wR.heap.size) (hk : Keeps S wr W) (hS : ∀ b, b < wr.heap.size → ¬ S b)
    (ho : w2.ownsRow 0 61 1 v2 (ts.length + 1) (ts.map (·.2) ++ [x.2])) (hk2 : Keeps (Bl ctv) W w2) (hb2 : ∀ k, v2.ownBlock = some k → ctv.ownBlock = some k ∨ W.heap.size ≤ k)
    (hx : W.ownsRow 0 3 1 x.2 x.1.length (x.1.map (Value.int .i64))) (hn : ∀ b, x.2.ownBlock = some b → wr.heap.size ≤ b) (hok : SlotOk m x.1) :
    TbS w wR (w2.setCell ⟨w.heap.size + 1 + 1 + 1, 2, none⟩ v2) crv v2 m (ts ++ [x]) := by
  have hW := h.keep hk hS
  have hs0 := h.old.size
  have hs1 := hk.size
  have hs2 := hk2.size
  have hcl : ∀ b, ctv.ownBlock = some b → b < wr.heap.size := fun b hb => (h.own.lt b hb).2
  have hxl : ∀ b, x.2.ownBlock = some b → b < W.heap.size := fun b hb => (hx.lt b hb).2
  have hnew : ∀ k, v2.ownBlock = some k → wR.heap.size ≤ k := fun k hk' => by
    rcases hb2 k hk' with h' | h'
    · exact h.new k h'
    · omega
  have hset : Keeps (fun b => b = w.heap.size + 1 + 1 + 1) w2 (w2.setCell ⟨w.heap.size + 1 + 1 + 1, 2, none⟩ v2) := (Keeps.refl _ _).at
  have hsn : ∀ y ∈ ts ++ [x], ∀ b, y.2.ownBlock = some b → wR.heap.size ≤ b ∧ b < W.heap.size ∧ ctv.ownBlock ≠ some b := fun y hy b hb => by
    rcases List.mem_append.1 hy with hy | hy
    · obtain ⟨a, c, d⟩ := hW.snew y hy b hb
      exact ⟨a, c, d⟩
    · simp at hy; subst hy
      have := hn b hb
      exact ⟨by omega, hxl b hb, fun e => by have := hcl b e; omega⟩
  refine ⟨?_, ?_, ?_, hnew, ?_, ?_, ?_, ?_⟩
  · have := (h.mid hcb hk hS hk2).set 2 v2
    simpa [cfgL] using this
  · exact (hW.old.trans' hk2 (fun _ _ h => h) (fun i hi h' => by have := h.new i h'; omega)).trans hset
  · have := ownsRow_setCell_other (a := ⟨w.heap.size + 1 + 1 + 1, 2, none⟩) ho (fun e => by have := hnew (w.heap.size + 1 + 1 + 1) e; omega) v2
    rw [List.length_append, List.map_append]
    simpa using this
  · intro y hy
    have hy0 : W.ownsRow 0 3 1 y.2 y.1.length (y.1.map (Value.int .i64)) := by
      rcases List.mem_append.1 hy with hy | hy
      · exact hW.slot y hy
      · simp at hy; subst hy; exact hx
    exact hset.own (hk2.own hy0 (fun b hb e => (hsn y hy b hb).2.2 e)) (fun b hb e => by have := (hsn y hy b hb).1; omega)
  · intro y hy b hb
    obtain ⟨a, c, d⟩ := hsn y hy b hb
    refine ⟨a, by simp; omega, fun e => ?_⟩
    rcases hb2 b e with h' | h'
    · exact d h'
    · omega
  · rw [List.pairwise_append]
    refine ⟨h.sep, List.pairwise_singleton _ _, fun y hy z hz b hb e => ?_⟩
    simp at hz; subst hz
    have := (h.snew y hy b hb).2.1
    have := hn b e
    omega
  · intro y hy
    rcases List.mem_append.1 hy with hy | hy
    · exact h.ok y hy
    · simp at hy; subst hy; exact hok

/-- A number more in the last slot. -/
theorem TbS.more {S : Nat → Prop} {W w2 : World} {gb cap : Nat} {v2 : Value} {y : List Int × Value} {i : Int} (h : TbS w wR wr crv (.slice (some ⟨gb, 0, none⟩) (ts.length + 1) cap) m (ts ++ [y])) (hcb : w.heap.size + 1 + 1 + 1 < wR.heap.size) (hk : Keeps S wr W) (hS : ∀ b, b < wr.heap.size → ¬ S b)
    (ho : w2.ownsRow 0 3 1 v2 (y.1.length + 1) (y.1.map (Value.int .i64) ++ [.int .i64 i])) (hk2 : Keeps (Bl y.2) W w2) (hb2 : ∀ k, v2.ownBlock = some k → y.2.ownBlock = some k ∨ W.heap.size ≤ k)
    (hok : SlotOk m (y.1 ++ [i])) :
    TbS w wR (w2.setCell ⟨gb, ts.length, none⟩ v2) crv (.slice (some ⟨gb, 0, none⟩) (ts.length + 1) cap) m (ts ++ [(y.1 ++ [i], v2)]) := by
  have hW := h.keep hk hS
  have hs0 := h.old.size
  have hs1 := hk.size
  have hs2 := hk2.size
  have hgb : (Value.slice (some ⟨gb, 0, none⟩) (ts.length + 1) cap).ownBlock = some gb := rfl
  have hgl : gb < wr.heap.size := (h.own.lt gb hgb).2
  have hgn := h.new gb hgb
  have hym : y ∈ ts ++ [y] := by simp
  have hyn : ∀ b, y.2.ownBlock = some b → wR.heap.size ≤ b ∧ b < wr.heap.size ∧ b ≠ gb := fun b hb => by
    obtain ⟨a, c, d⟩ := h.snew y hym b hb
    exact ⟨a, c, fun e => d (by rw [hgb, e])⟩
  have hnew : ∀ k, v2.ownBlock = some k → wR.heap.size ≤ k ∧ k ≠ gb ∧ k < w2.heap.size := fun k hk' => by
    have hl := (ho.lt k hk').2
    rcases hb2 k hk' with h' | h'
    · obtain ⟨a, _, c⟩ := hyn k h'
      exact ⟨a, c, hl⟩
    · exact ⟨by omega, by omega, hl⟩
  have hset : Keeps (fun b => b = gb) w2 (w2.setCell ⟨gb, ts.length, none⟩ v2) := (Keeps.refl _ _).at
  have hsep : ∀ x ∈ ts, ∀ b, x.2.ownBlock = some b → y.2.ownBlock ≠ some b := fun x hx b hb => (List.pairwise_append.1 h.sep).2.2 x hx y (by simp) b hb
  have hsx : ∀ x ∈ ts, ∀ b, x.2.ownBlock = some b → wR.heap.size ≤ b ∧ b < wr.heap.size ∧ b ≠ gb := fun x hx b hb => by
    obtain ⟨a, c, d⟩ := h.snew x (List.mem_append_left _ hx) b hb
    exact ⟨a, c, fun e => d (by rw [hgb, e])⟩
  refine ⟨?_, ?_, ?_, h.new, ?_, ?_, ?_, ?_⟩
  · exact (hW.c.keep hk2 (fun e => by have := (hyn _ e).1; omega)).keep hset (by omega)
  · exact (hW.old.trans' hk2 (fun _ _ h => h) (fun i hi h' => by have := (hyn i h').1; omega)).trans' hset (fun _ _ h => h) (fun i hi e => by omega)
  · have h1 : w2.ownsRow 0 61 1 (.slice (some ⟨gb, 0, none⟩) (ts.length + 1) cap) (ts.length + 1) ((ts ++ [y]).map (·.2)) := by
      have := hk2.own hW.own (fun b hb e => by
        have hb' : gb = b := by simpa [Value.ownBlock] using hb
        subst hb'
        exact (hyn gb e).2.2 rfl)
      simpa using this
    have h2 := (h1.stored ts.length v2).1
    rw [List.map_append] at h2
    have e : (List.map (fun x : List Int × Value => x.2) ts ++ List.map (fun x : List Int × Value => x.2) [y]).set ts.length v2 = List.map (fun x : List Int × Value => x.2) (ts ++ [(y.1 ++ [i], v2)]) := by
      rw [List.set_append_right _ _ (by simp), List.map_append]
      simp
    rw [e] at h2
    simpa using h2
  · intro x hx
    rcases List.mem_append.1 hx with hx | hx
    · exact hset.own (hk2.own (hW.slot x (List.mem_append_left _ hx)) (fun b hb e => hsep x hx b hb e)) (fun b hb e => (hsx x hx b hb).2.2 e)
    · simp at hx; subst hx
      have := hset.own ho (fun b hb e => (hnew b hb).2.1 e)
      simpa using this
  · intro x hx b hb
    rcases List.mem_append.1 hx with hx | hx
    · obtain ⟨a, c, d⟩ := hsx x hx b hb
      exact ⟨a, by simp; omega, fun e => d (by simpa [Value.ownBlock] using e.symm)⟩
    · simp at hx; subst hx
      obtain ⟨a, c, d⟩ := hnew b hb
      exact ⟨a, by simpa using d, fun e => c (by simpa [Value.ownBlock] using e.symm)⟩
  · rw [List.pairwise_append]
    refine ⟨(List.pairwise_append.1 h.sep).1, List.pairwise_singleton _ _, fun x hx z hz b hb e => ?_⟩
    simp at hz; subst hz
    rcases hb2 b e with h' | h'
    · exact hsep x hx b hb h'
    · have := (hsx x hx b hb).2.1; omega
  · intro x hx
    rcases List.mem_append.1 hx with hx | hx
    · exact h.ok x (List.mem_append_left _ hx)
    · simp at hx; subst hx; exact hok

theorem TbS.tabR (h : TbS w wR wr crv ctv m ts) : TabR wr ctv ts :=
  ⟨Sl.ofOwn h.own, fun x hx => Sl.ofOwn (h.slot x hx)⟩

end

theorem SlotOk.nil (n : Nat) : SlotOk n [] := ⟨List.nodup_nil, fun _ h => by simp at h⟩

theorem SlotOk.snoc {n : Nat} {l : List Int} {x : Int} (h : SlotOk n l) (hx : x ∉ l) (h0 : 0 ≤ x) (hn : x < n) : SlotOk n (l ++ [x]) := by
  refine ⟨List.nodup_append.2 ⟨h.nodup, List.nodup_cons.2 ⟨by simp, List.nodup_nil⟩, fun a ha b hb => ?_⟩, fun y hy => ?_⟩
  · simp at hb; subst hb
    intro e; subst e; exact hx ha
  · rcases List.mem_append.1 hy with hy | hy
    · exact h.rul y hy
    · simp at hy; subst hy; exact ⟨h0, hn⟩

theorem entries_snoc (ts : List (List Int × Value)) (y : List Int × Value) : entries ((ts ++ [y]).map (·.1)) = entries (ts.map (·.1)) + y.1.length := by
  unfold entries
  simp

theorem entries_few : ∀ (ts : List (List Int × Value)), (∀ x ∈ ts, x.1.length ≤ 24) → entries (ts.map (·.1)) ≤ 24 * ts.length
  | [], _ => by simp [entries]
  | x :: ts, h => by
    have h1 := entries_few ts (fun y hy => h y (List.mem_cons_of_mem _ hy))
    have h2 := h x List.mem_cons_self
    unfold entries at h1 ⊢
    simp only [List.map_cons, List.flatten_cons, List.length_append, List.length_cons]
    omega

theorem own_free {w : World} {base : Nat} {e : TypeId} {size g n cap : Nat} {xs : List Value} (h : w.ownsRow base e size (.slice (some ⟨g, 0, none⟩) n cap) n xs) (i : Nat) : w.frozen? ⟨g, i, none⟩ = false := by
  rcases h.2 with ⟨h0, _⟩ | ⟨g', cap', cur, hv, _, hgg, _⟩
  · cases h0
  · simp only [Value.slice.injEq, Option.some.injEq, Addr.mk.injEq, and_true] at hv
    obtain ⟨rfl, _⟩ := hv
    exact free_at hgg

theorem own_cell {w : World} {base : Nat} {e : TypeId} {size g n cap : Nat} {xs : List Value} (h : w.ownsRow base e size (.slice (some ⟨g, 0, none⟩) n cap) n xs) {i : Nat} {u : Value} (hu : xs[i]? = some u) : w.cell? ⟨g, i, none⟩ = some u := by
  obtain ⟨g', off, hv, _, hc⟩ := Sl.cellAt (Sl.ofOwn h) hu
  simp only [Option.some.injEq, Addr.mk.injEq, and_true] at hv
  obtain ⟨rfl, rfl⟩ := hv
  simpa using hc

section
variable {w wR wr : World} {crv ctv : Value} {m : Nat} {ts : List (List Int × Value)}

/-- What stands of the table behind an append in its last slot. -/
theorem TbS.midRow {S : Nat → Prop} {W w2 : World} {gb cap : Nat} {y : List Int × Value} (h : TbS w wR wr crv (.slice (some ⟨gb, 0, none⟩) (ts.length + 1) cap) m (ts ++ [y])) (hcb : w.heap.size + 1 + 1 + 1 < wR.heap.size) (hk : Keeps S wr W) (hS : ∀ b, b < wr.heap.size → ¬ S b) (hk2 : Keeps (Bl y.2) W w2) :
    BlkL w2 (w.heap.size + 1 + 1 + 1) 34 (cfgL (w.heap.size + 1 + 1) crv (.slice (some ⟨gb, 0, none⟩) (ts.length + 1) cap)) ∧ w2.cell? ⟨gb, ts.length, none⟩ = some y.2 ∧ w2.frozen? ⟨gb, ts.length, none⟩ = false := by
  have hW := h.keep hk hS
  have hyn : ∀ b, y.2.ownBlock = some b → wR.heap.size ≤ b ∧ b ≠ gb := fun b hb => by
    obtain ⟨a, c, d⟩ := h.snew y (by simp) b hb
    exact ⟨a, fun e => d (by rw [e]; rfl)⟩
  have h1 : w2.ownsRow 0 61 1 (.slice (some ⟨gb, 0, none⟩) (ts.length + 1) cap) (ts.length + 1) ((ts ++ [y]).map (·.2)) := by
    have := hk2.own hW.own (fun b hb e => by
      have hb' : gb = b := by simpa [Value.ownBlock] using hb
      subst hb'
      exact (hyn gb e).2 rfl)
    simpa using this
  exact ⟨hW.c.keep hk2 (fun e => by have := (hyn _ e).1; omega), own_cell h1 (by simp), own_free h1 _⟩

end

theorem snoc_of {α : Type} {l : List α} (h : 0 < l.length) : ∃ l' y, l = l' ++ [y] :=
  ⟨l.dropLast, l.getLast (by intro e; subst e; simp at h), (List.dropLast_concat_getLast _).symm⟩

theorem stands_more {tsi : List (List Int × Value)} {l : List Int} {v v' : Value} {i p : Int} (h : standsB ((tsi ++ [(l, v)]).map (·.1)) p = true ∨ p = i) : standsB ((tsi ++ [(l ++ [i], v')]).map (·.1)) p = true := by
  rw [standsB_iff]
  rcases h with h | rfl
  · rw [standsB_iff] at h
    obtain ⟨x, hx, hp⟩ := h
    rw [List.map_append, List.mem_append] at hx
    rcases hx with hx | hx
    · exact ⟨x, by rw [List.map_append, List.mem_append]; exact Or.inl hx, hp⟩
    · simp at hx; subst hx
      exact ⟨x ++ [i], by simp, List.mem_append_left _ hp⟩
  · exact ⟨l ++ [p], by simp, by simp⟩

theorem not_stands {tsi : List (List Int × Value)} {l : List Int} {v : Value} {q : Int} (h : ¬ standsB ((tsi ++ [(l, v)]).map (·.1)) q = true) : q ∉ l := fun hq => h (standsB_iff.2 ⟨l, by simp, hq⟩)

/-- How many numbers a draft's table may have. -/
theorem entries_lt {tsi : List (List Int × Value)} {l : List Int} {v : Value} {k : Nat} (h : ∀ x ∈ tsi, x.1.length ≤ 24) (hl : l.length ≤ 24 + k) : entries ((tsi ++ [(l, v)]).map (·.1)) ≤ 24 * (tsi.length + 1) + k := by
  rw [entries_snoc]
  have := entries_few tsi h
  show _ + l.length ≤ _
  omega

theorem cellsK {w : World} {b : Nat} {T : TypeId} {u0 u1 u2 u3 u4 u5 u6 u7 u8 u9 u10 : Value} (h : BlkL w b T [u0, u1, u2, u3, u4, u5, u6, u7, u8, u9, u10]) :
    w.cell? ⟨b, 0, none⟩ = some u0 ∧ w.cell? ⟨b, 1, none⟩ = some u1 ∧ w.cell? ⟨b, 2, none⟩ = some u2 ∧ w.cell? ⟨b, 3, none⟩ = some u3 ∧ w.cell? ⟨b, 4, none⟩ = some u4 ∧ w.cell? ⟨b, 5, none⟩ = some u5 ∧ w.cell? ⟨b, 6, none⟩ = some u6 ∧ w.cell? ⟨b, 7, none⟩ = some u7 ∧ w.cell? ⟨b, 8, none⟩ = some u8 ∧ w.cell? ⟨b, 9, none⟩ = some u9 ∧ w.cell? ⟨b, 10, none⟩ = some u10 :=
  ⟨h.cell rfl, h.cell rfl, h.cell rfl, h.cell rfl, h.cell rfl, h.cell rfl, h.cell rfl, h.cell rfl, h.cell rfl, h.cell rfl, h.cell rfl⟩

theorem freesK {w : World} {b : Nat} {T : TypeId} {xs : List Value} (h : BlkL w b T xs) :
    w.frozen? ⟨b, 0, none⟩ = false ∧ w.frozen? ⟨b, 1, none⟩ = false ∧ w.frozen? ⟨b, 2, none⟩ = false ∧ w.frozen? ⟨b, 3, none⟩ = false ∧ w.frozen? ⟨b, 4, none⟩ = false ∧ w.frozen? ⟨b, 5, none⟩ = false ∧ w.frozen? ⟨b, 6, none⟩ = false ∧ w.frozen? ⟨b, 7, none⟩ = false ∧ w.frozen? ⟨b, 8, none⟩ = false ∧ w.frozen? ⟨b, 9, none⟩ = false ∧ w.frozen? ⟨b, 10, none⟩ = false :=
  ⟨h.free 0, h.free 1, h.free 2, h.free 3, h.free 4, h.free 5, h.free 6, h.free 7, h.free 8, h.free 9, h.free 10⟩

theorem drain_of {E m : Nat} {d : Int} (hE : E ≤ 1000) (hd : 0 ≤ d ∧ d ≤ 255) : IntKind.i64.wrap (IntKind.i64.wrap (wrap64 ((E : Int) / ((m : Int) + 1)) + 1) + d % 4 / 3 * 2) = (E : Int) / ((m : Int) + 1) + 1 + d % 4 / 3 * 2 := by
  have h0 : 0 ≤ (E : Int) / ((m : Int) + 1) := Int.ediv_nonneg (by omega) (by omega)
  have h1 : (E : Int) / ((m : Int) + 1) ≤ E := Int.ediv_le_self _ (by omega)
  rw [IntWalk.wrap64_in _ (by omega), IntKind.wrap_i64, IntKind.wrap_i64]
  omega

theorem drain_of2 {E m : Nat} {d : Int} (hE : E ≤ 1000) (hd : 0 ≤ d ∧ d ≤ 255) : IntKind.i64.wrap (IntKind.i64.wrap (wrap64 ((E : Int) / ((m : Int) + 1)) + 1) + IntKind.i64.wrap (IntKind.i64.wrap (IntKind.u8.wrap ((d.tmod 4).tdiv 3)) * 2)) = (E : Int) / ((m : Int) + 1) + 1 + d % 4 / 3 * 2 := by
  rw [Int.tmod_eq_emod_of_nonneg hd.1, Int.tdiv_eq_ediv_of_nonneg (by omega), show IntKind.u8.wrap (d % 4 / 3) = d % 4 / 3 by rw [IntKind.wrap_u8]; omega, show IntKind.i64.wrap (d % 4 / 3) = d % 4 / 3 by rw [IntKind.wrap_i64]; omega, show IntKind.i64.wrap (d % 4 / 3 * 2) = d % 4 / 3 * 2 by rw [IntKind.wrap_i64]; omega]
  exact drain_of hE hd

/-- The drain is as the chapter asks. -/
theorem drain_ok {E m : Nat} {d k : Int} (hE : E ≤ 24 * (m + 1) + 8) (hm : m ≤ 5) (hd : 0 ≤ d ∧ d ≤ 255) (hk : k = (E : Int) / ((m : Int) + 1) + 1 + d % 4 / 3 * 2) : (1 ≤ k ∧ k ≤ 64) ∧ (E : Int) < k * ((m : Int) + 1) := by
  obtain ⟨q, hq⟩ : ∃ q, (E : Int) / ((m : Int) + 1) = q := ⟨_, rfl⟩
  have h1 := Int.mul_ediv_add_emod (E : Int) ((m : Int) + 1)
  have h2 := Int.emod_lt_of_pos (E : Int) (b := (m : Int) + 1) (by omega)
  have h3 := Int.emod_nonneg (E : Int) (b := (m : Int) + 1) (by omega)
  rw [hq] at h1 hk
  rw [hk]
  rcases (show m = 0 ∨ m = 1 ∨ m = 2 ∨ m = 3 ∨ m = 4 ∨ m = 5 by omega) with rfl | rfl | rfl | rfl | rfl | rfl <;> simp at h1 h2 h3 hE ⊢ <;> omega

/-- What Make answers. -/
def madeC (rs : List (Rul × Value)) (ts : List (List Int × Value)) (b0 b1 b2 dr pa of_ : Int) (br : Bool) (lo : Int) : Cfg :=
  ⟨[⟨-100, 300⟩, ⟨0, 250⟩, ⟨-2147483648, 2147483647⟩], rs, ts, b0, b1, b2, dr, pa, of_, br, lo⟩

/-- What Make answers, behind a name that a walk does not open. -/
def MakePost (w : World) (e : Ending) (w' : World) : Prop := ∃ (C : Cfg) (csv crv ctv : Value), e = .returned (C.val csv crv ctv) ∧ CfgR w' C csv crv ctv ∧ Made C ∧ Keeps No w w'

theorem Sl.ofBlkM {w : World} {b : Nat} {T : TypeId} {xs : List Value} {size n : Nat} (h : BlkL w b T xs) (hl : xs.length = n * size) (hm : n ≤ maxLen) : Sl w size (.slice (some ⟨b, 0, none⟩) n n) n xs :=
  ⟨hl, hm, _, n, rfl, Nat.le_refl _, fun h => (by cases h), fun _ => ⟨b, 0, rfl, h.lt, fun j u hu => by rw [Nat.zero_add]; exact h.cell hu⟩⟩

theorem make_cfg {w wR wz wD w' : World} {dl : List Value} {cra : Option Addr} {crc : Nat} {ctv : Value} {rs : List (Rul × Value)} {ts : List (List Int × Value)} (hK : MkS w wR dl (.slice cra rs.length crc) (.slice none 0 0) rs) (hT : TbS w wR wz (.slice cra rs.length crc) ctv rs.length ts)
    (hD : Keeps (fun b => b = w.heap.size + 1 + 1 + 1) wz wD) (hE : Keeps (fun b => b = w.heap.size + 1) wD w') (b0 b1 b2 dr pa of_ : Int) (br : Bool) (lo : Int) :
    CfgR w' (madeC rs ts b0 b1 b2 dr pa of_ br lo) (.slice (some ⟨w.heap.size + 1 + 1, 0, none⟩) 3 3) (.slice cra rs.length crc) ctv ∧ Keeps No w w' := by
  have h4 := hK.size
  have k1 : Keeps (fun b => b = w.heap.size + 1 + 1 + 1) wR wD := hT.old.trans hD
  have k2 : Keeps (fun b => b = w.heap.size + 1 + 1 + 1 ∨ b = w.heap.size + 1) wR w' := (k1.mono (fun _ _ h => Or.inl h)).trans (hE.mono (fun _ _ h => Or.inr h))
  have k3 : Keeps (fun b => b = w.heap.size + 1 + 1 + 1 ∨ b = w.heap.size + 1) wz w' := (hD.mono (fun _ _ h => Or.inl h)).trans (hE.mono (fun _ _ h => Or.inr h))
  have ht := hT.tabR
  refine ⟨⟨?_, ?_, ?_, ?_, ?_⟩, ?_⟩
  · exact Sl.ofBlkM (hK.s.keep k2 (by omega)) rfl (by unfold maxLen; show 3 ≤ _; decide)
  · exact (Sl.ofOwn hK.own).keep k2 (fun b hb e => by have := hK.new b hb; omega)
  · exact ht.row.keep k3 (fun b hb e => by have := hT.new b hb; omega)
  · intro x hx
    exact (hK.stg x hx).keep k2 (fun b hb e => by have := (hK.snew x hx b hb).1; omega)
  · intro x hx
    exact Sl.keep (ht.slot x hx) k3 (fun b hb e => by have := (hT.snew x hx b hb).1; omega)
  · exact (hK.old.trans' k2 (fun _ _ h => h) (fun b hb e => by omega))

theorem make_made {w wR wz : World} {dl : List Value} {cra : Option Addr} {crc : Nat} {ctv : Value} {rs : List (Rul × Value)} {tsi : List (List Int × Value)} {l : List Int} {lv : Value} {m E : Nat} (hK : MkS w wR dl (.slice cra rs.length crc) (.slice none 0 0) rs) (hT : TbS w wR wz (.slice cra rs.length crc) ctv rs.length (tsi ++ [(l, lv)]))
    (h1 : 1 ≤ rs.length) (h8 : rs.length ≤ 8) (hm : tsi.length = m) (hm5 : m ≤ 5) (hs : ∀ p : Nat, p < rs.length → standsB ((tsi ++ [(l, lv)]).map (·.1)) p = true) (hE : entries ((tsi ++ [(l, lv)]).map (·.1)) = E) (hE3 : E ≤ 24 * (m + 1) + 8)
    {ba dr pa of_ lo D : Int} (br : Bool) (hba : U8 ba) (hdr : U8 dr) (hpa : U8 pa) (hof : U8 of_) (hlo : U8 lo) (hD : D = (E : Int) / ((m : Int) + 1) + 1 + dr % 4 / 3 * 2) :
    Made (madeC rs (tsi ++ [(l, lv)]) (1 + ba % 16 % 3) (1 + ba % 16 / 2 % 3) (1 + ba % 16 / 4 % 4) D (1 + pa % 30) (1 + of_ % 30) br (1 + lo % 40)) := by
  obtain ⟨hd1, hd2⟩ := drain_ok hE3 hm5 hdr hD
  obtain ⟨a0, a1⟩ := hba
  obtain ⟨p0, p1⟩ := hpa
  obtain ⟨o0, o1⟩ := hof
  obtain ⟨l0, l1⟩ := hlo
  have hl : (tsi ++ [(l, lv)]).length = m + 1 := by simp [hm]
  refine ⟨rfl, ⟨h1, h8⟩, hK.ok, ?_, hT.ok, ?_, ?_, ?_, ?_, hd1, ?_, ?_, ?_, ?_⟩
  · show 1 ≤ (tsi ++ [(l, lv)]).length ∧ (tsi ++ [(l, lv)]).length ≤ 6
    rw [hl]; omega
  · intro i hi
    obtain ⟨x, hx, hp⟩ := standsB_iff.1 (hs i hi)
    obtain ⟨y, hy, rfl⟩ := List.mem_map.1 hx
    exact ⟨y, hy, hp⟩
  · show 1 ≤ 1 + ba % 16 % 3 ∧ 1 + ba % 16 % 3 ≤ 3
    omega
  · show 1 ≤ 1 + ba % 16 / 2 % 3 ∧ 1 + ba % 16 / 2 % 3 ≤ 3
    omega
  · show 1 ≤ 1 + ba % 16 / 4 % 4 ∧ 1 + ba % 16 / 4 % 4 ≤ 4
    omega
  · show (entries ((tsi ++ [(l, lv)]).map (·.1)) : Int) < D * ((tsi ++ [(l, lv)]).length : Nat)
    rw [hl, hE]
    push_cast
    exact hd2
  · show 1 ≤ 1 + pa % 30 ∧ 1 + pa % 30 ≤ 30
    omega
  · show 1 ≤ 1 + of_ % 30 ∧ 1 + of_ % 30 ≤ 30
    omega
  · show 1 ≤ 1 + lo % 40 ∧ 1 + lo % 40 ≤ 40
    omega

end Go.Proofs.Ytoodlhagecannaa
