/-
  Plain facts on worlds, blocks and slices, over any program: what a call may have written ('Keeps'), what a slice reads ('Sl'), blocks known whole.
-/
import Derived.WalkKit
import Derived.WalkSpells
import Derived.WalkLawsBesides
import Derived.Handy
import Derived.Deep.RegionLaw

namespace Go.Proofs.Ytnmlaobiljmgaaa
open Go.RowKit

/-- Of the blocks that there were, those outside S are as they were; none is gone. -/
structure Keeps (S : Nat → Prop) (w w' : World) : Prop where
  os : w'.os = w.os
  tape : w'.tape = w.tape
  output : w'.output = w.output
  size : w.heap.size ≤ w'.heap.size
  block : ∀ k, k < w.heap.size → ¬ S k → w'.heap[k]? = w.heap[k]?

theorem hid {p : Prop} (h : p) : Hid p := h

def No : Nat → Prop := fun _ => False

theorem Keeps.refl (S : Nat → Prop) (w : World) : Keeps S w w := ⟨rfl, rfl, rfl, Nat.le_refl _, fun _ _ _ => rfl⟩

theorem Keeps.trans {S : Nat → Prop} {a b c : World} (h : Keeps S a b) (k : Keeps S b c) : Keeps S a c :=
  ⟨k.os.trans h.os, k.tape.trans h.tape, k.output.trans h.output, Nat.le_trans h.size k.size,
   fun i hi hs => (k.block i (Nat.lt_of_lt_of_le hi h.size) hs).trans (h.block i hi hs)⟩

theorem Keeps.mono {S T : Nat → Prop} {a b : World} (h : Keeps S a b) (hST : ∀ k, k < a.heap.size → S k → T k) : Keeps T a b :=
  ⟨h.os, h.tape, h.output, h.size, fun k hk ht => h.block k hk (fun hs => ht (hST k hk hs))⟩

/-- What was written second lay in blocks that the first step made, or in T. -/
theorem Keeps.trans' {S S' T : Nat → Prop} {a b c : World} (h : Keeps S a b) (k : Keeps S' b c) (h1 : ∀ i, i < a.heap.size → S i → T i) (h2 : ∀ i, i < a.heap.size → S' i → T i) : Keeps T a c :=
  ⟨k.os.trans h.os, k.tape.trans h.tape, k.output.trans h.output, Nat.le_trans h.size k.size,
   fun i hi hs => (k.block i (Nat.lt_of_lt_of_le hi h.size) (fun h' => hs (h2 i hi h'))).trans (h.block i hi (fun h' => hs (h1 i hi h')))⟩

theorem Keeps.no {S : Nat → Prop} {a b : World} (h : Keeps No a b) : Keeps S a b := h.mono (fun _ _ h => h.elim)

theorem Keeps.drewN {S : Nat → Prop} {a b : World} (h : Keeps S a b) (n : Nat) : Keeps S a (b.drewN n) := ⟨h.os, h.tape, h.output, h.size, h.block⟩
theorem Keeps.drew {S : Nat → Prop} {a b : World} (h : Keeps S a b) : Keeps S a b.drew := ⟨h.os, h.tape, h.output, h.size, h.block⟩

theorem Keeps.alloc {S : Nat → Prop} {a w : World} (h : Keeps S a w) (o : Obj) : Keeps S a (w.alloc o) :=
  h.trans ⟨rfl, rfl, rfl, by simp, fun k hk _ => Below.heap_alloc _ _ _ hk⟩

theorem Keeps.setCell {S : Nat → Prop} {a w : World} (h : Keeps S a w) {p : Addr} (hp : a.heap.size ≤ p.block ∨ S p.block) (u : Value) : Keeps S a (w.setCell p u) :=
  ⟨h.os, h.tape, h.output, by simpa using h.size, fun k hk hs => by
    rw [Below.heap_setCell _ _ _ _ (fun e => ?_)]; exact h.block k hk hs
    subst e; rcases hp with hp | hp
    · omega
    · exact hs hp⟩

theorem Keeps.grown {S : Nat → Prop} {a w w' : World} {row : Option Nat} (h : Keeps S a w) (hg : w.grownBy w' row) (hr : ∀ k, row = some k → a.heap.size ≤ k ∨ S k) : Keeps S a w' :=
  ⟨hg.os.trans h.os, hg.tape.trans h.tape, hg.output.trans h.output, Nat.le_trans h.size hg.size, fun k hk hs =>
    (hg.block k (Nat.lt_of_lt_of_le hk h.size) (fun e => by rcases hr k e.symm with h' | h'; omega; exact hs h')).trans (h.block k hk hs)⟩

theorem Keeps.below {S : Nat → Prop} {B : Nat} {a w w' : World} (h : Below B a w) (k : Keeps S w w') (hB : B ≤ w.heap.size) (hS : ∀ i, S i → B ≤ i) : Below B a w' :=
  h.trans ⟨k.os, k.tape, k.output, k.size, fun i hi => k.block i (by omega) (fun hs => by have := hS i hs; omega)⟩

theorem Keeps.cell {S : Nat → Prop} {w w' : World} (h : Keeps S w w') {p : Addr} (hs : ¬ S p.block) {v : Value} (hv : w.cell? p = some v) : w'.cell? p = some v :=
  (World.cell?_of_block (w := w) (h.block p.block (World.block_lt_of_cell? w p hv) hs)).trans hv

theorem Keeps.heap {S : Nat → Prop} {w w' : World} (h : Keeps S w w') {b : Nat} (hs : ¬ S b) {o : Obj} (hv : w.heap[b]? = some o) : w'.heap[b]? = some o :=
  (h.block b (lt_of_block hv) hs).trans hv

theorem Keeps.own {S : Nat → Prop} {w w' : World} (h : Keeps S w w') {base : Nat} {e : TypeId} {size : Nat} {v : Value} {n : Nat} {xs : List Value}
    (ho : w.ownsRow base e size v n xs) (hs : ∀ k, v.ownBlock = some k → ¬ S k) : w'.ownsRow base e size v n xs := by
  refine ⟨ho.1, ?_⟩
  rcases ho.2 with hn | ⟨g, cap, cur, rfl, hb, hgg, rest⟩
  · exact .inl hn
  · exact .inr ⟨g, cap, cur, rfl, hb, h.heap (hs g rfl) hgg, rest⟩

theorem heap_drewN (w : World) (n : Nat) : (w.drewN n).heap = w.heap := rfl

theorem own_drewN {w : World} {base : Nat} {e : TypeId} {size : Nat} {v : Value} {n : Nat} {xs : List Value} (h : w.ownsRow base e size v n xs) (m : Nat) : (w.drewN m).ownsRow base e size v n xs := h

theorem cells_one (w : World) (u : Value) (t : TypeId) : ∀ j x, [u][j]? = some x → (w.alloc (.cells #[u] t)).cell? ((⟨w.heap.size, 0, none⟩ : Addr).add j) = some x := by
  intro j x hj
  match j, hj with
  | 0, hj => simp at hj; subst hj; simp [Addr.add]

theorem cellS {w : World} {a p : Addr} {u v : Value} (hp : p ≠ a) (h : w.cell? a = some v) : (w.setCell p u).cell? a = some v := by
  rw [World.cell?_setCell_other _ _ _ _ hp]; exact h

theorem cellD {w : World} {a : Addr} {v : Value} (n : Nat) (h : w.cell? a = some v) : (w.drewN n).cell? a = some v := h

theorem cellDr {w : World} {a : Addr} {v : Value} (h : w.cell? a = some v) : w.drew.cell? a = some v := h

theorem cellA {w : World} {a : Addr} {v : Value} (o : Obj) (h : w.cell? a = some v) : (w.alloc o).cell? a = some v :=
  Keeps.cell ((Keeps.refl No w).alloc o) (fun h => h) h

theorem heapA {w : World} {b : Nat} {x : Obj} (o : Obj) (h : w.heap[b]? = some x) : (w.alloc o).heap[b]? = some x := by
  rw [Below.heap_alloc _ _ _ (lt_of_block h)]; exact h

theorem heap_alloc_at {w : World} {k : Nat} (hk : w.heap.size = k) (o : Obj) : (w.alloc o).heap[k]? = some o := hk ▸ heap_alloc_new w o

/-- A row that owns something is no nil. -/
theorem own_some {w : World} {base : Nat} {e : TypeId} {size : Nat} {v : Value} {n : Nat} {xs : List Value} (h : w.ownsRow base e size v n xs) (hn : 0 < n) : ∃ g cap, v = .slice (some ⟨g, 0, none⟩) n cap := by
  rcases h.2 with ⟨_, h0⟩ | ⟨g, cap, cur, rfl, _⟩
  · omega
  · exact ⟨g, cap, rfl⟩

theorem own_any {w : World} {base : Nat} {e : TypeId} {size : Nat} {v : Value} {n : Nat} {xs : List Value} (h : w.ownsRow base e size v n xs) : ∃ ao cap, v = .slice ao n cap := by
  rcases h.2 with ⟨rfl, h0⟩ | ⟨g, cap, cur, rfl, _⟩
  · exact ⟨none, 0, by rw [h0]⟩
  · exact ⟨some ⟨g, 0, none⟩, cap, rfl⟩

theorem heap_setCell_at {w : World} {g i : Nat} {cs : Array Value} {t : TypeId} {fr : Nat × Nat} {v : Value} (hg : w.heap[g]? = some (.cells cs t fr)) :
    (w.setCell ⟨g, i, none⟩ v).heap[g]? = some (.cells (cs.setIfInBounds i v) t fr) := by
  simp [World.setCell, Array.getElem?_modify, hg]

theorem cell_at {w : World} {g i : Nat} {cs : Array Value} {t : TypeId} {fr : Nat × Nat} {v : Value} (hg : w.heap[g]? = some (.cells cs t fr)) (hi : cs[i]? = some v) :
    w.cell? ⟨g, i, none⟩ = some v := by simp [World.cell?, hg, hi]

theorem free_at {w : World} {g i : Nat} {cs : Array Value} {t : TypeId} (hg : w.heap[g]? = some (.cells cs t (0, 0))) : w.frozen? ⟨g, i, none⟩ = false := by
  simp [World.frozen?, hg]

/-- The slice value v, of n elements of 'size' cells each, reads the cells xs. (Of an empty one nothing is known of its address.) -/
def Sl (w : World) (size : Nat) (v : Value) (n : Nat) (xs : List Value) : Prop :=
  xs.length = n * size ∧ n ≤ maxLen ∧ ∃ a cap, v = .slice a n cap ∧ n ≤ cap ∧ (a = none → n = 0 ∧ cap = 0) ∧
    (0 < n → ∃ g off, a = some ⟨g, off, none⟩ ∧ g < w.heap.size ∧ ∀ j u, xs[j]? = some u → w.cell? ⟨g, off + j, none⟩ = some u)

theorem Sl.keep' {S : Nat → Prop} {w w' : World} {size : Nat} {v : Value} {n : Nat} {xs : List Value} (h : Sl w size v n xs) (k : Keeps S w w') (hs : 0 < n → ∀ b, v.ownBlock = some b → b < w.heap.size → ¬ S b) : Sl w' size v n xs := by
  obtain ⟨h1, h2, a, cap, rfl, hc, hn, hx⟩ := h
  refine ⟨h1, h2, a, cap, rfl, hc, hn, fun h0 => ?_⟩
  obtain ⟨g, off, rfl, hg, hx⟩ := hx h0
  exact ⟨g, off, rfl, Nat.lt_of_lt_of_le hg k.size, fun j u hu => k.cell (hs h0 g rfl hg) (hx j u hu)⟩

theorem Sl.keep {S : Nat → Prop} {w w' : World} {size : Nat} {v : Value} {n : Nat} {xs : List Value} (h : Sl w size v n xs) (k : Keeps S w w') (hs : ∀ b, v.ownBlock = some b → ¬ S b) : Sl w' size v n xs :=
  h.keep' k (fun _ b hb _ => hs b hb)

theorem Sl.lt {w : World} {size : Nat} {v : Value} {n : Nat} {xs : List Value} (h : Sl w size v n xs) (h0 : 0 < n) : ∀ b, v.ownBlock = some b → b < w.heap.size := by
  intro b hb
  obtain ⟨h1, h2, a, cap, rfl, hc, hn, hx⟩ := h
  obtain ⟨g, off, rfl, hg, hx⟩ := hx h0
  simp [Value.ownBlock] at hb; subst hb; exact hg

theorem Sl.alloc {w : World} {size : Nat} {v : Value} {n : Nat} {xs : List Value} (h : Sl w size v n xs) (o : Obj) : Sl (w.alloc o) size v n xs :=
  h.keep (S := No) ((Keeps.refl _ _).alloc o) (fun _ _ h => h)

theorem Sl.drewN {w : World} {size : Nat} {v : Value} {n : Nat} {xs : List Value} (h : Sl w size v n xs) (m : Nat) : Sl (w.drewN m) size v n xs := h

/-- Old memory that is read stays readable while only blocks from B on are written. -/
theorem Sl.below {B : Nat} {w w' : World} {size : Nat} {v : Value} {n : Nat} {xs : List Value} (h : Sl w size v n xs) (hb : Below B w w') (hB : w.heap.size ≤ B) : Sl w' size v n xs :=
  h.keep' (S := No) ⟨hb.os, hb.tape, hb.output, hb.size, fun k hk _ => hb.block k (by omega)⟩ (fun _ _ _ _ h => h)

theorem Sl.any {w : World} {size : Nat} {v : Value} {n : Nat} {xs : List Value} (h : Sl w size v n xs) : ∃ ao cap, v = .slice ao n cap := by
  obtain ⟨h1, h2, a, cap, rfl, _⟩ := h
  exact ⟨a, cap, rfl⟩

theorem addr_add (g off j : Nat) : (⟨g, off, none⟩ : Addr).add j = ⟨g, off + j, none⟩ := by unfold Addr.add; split <;> simp_all

theorem Sl.ofOwn {w : World} {base : Nat} {e : TypeId} {size : Nat} {v : Value} {n : Nat} {xs : List Value} (h : w.ownsRow base e size v n xs) : Sl w size v n xs := by
  have hlt := h.lt
  have hc := @World.ownsRow.cells _ _ _ _ _ _ _ h
  rcases h.2 with ⟨rfl, rfl⟩ | ⟨g, cap, cur, rfl, hb, hgg, h1, h2, _⟩
  · exact ⟨h.1, Nat.zero_le _, none, 0, rfl, Nat.le_refl _, fun _ => ⟨rfl, rfl⟩, fun h => absurd h (by omega)⟩
  · refine ⟨h.1, by omega, some ⟨g, 0, none⟩, cap, rfl, h1, fun h => (by cases h), fun _ => ⟨g, 0, rfl, (hlt g rfl).2, fun j u hu => ?_⟩⟩
    have := hc (g := g) rfl j u hu
    rwa [addr_add] at this

/-- The cell of a place. -/
theorem Sl.cellAt {w : World} {size n cap j : Nat} {ao : Option Addr} {xs : List Value} {u : Value} (h : Sl w size (.slice ao n cap) n xs) (hu : xs[j]? = some u) : ∃ g off, ao = some ⟨g, off, none⟩ ∧ g < w.heap.size ∧ w.cell? ⟨g, off + j, none⟩ = some u := by
  obtain ⟨h1, h2, a, cap', hv, hc, hn, hx⟩ := h
  simp only [Value.slice.injEq] at hv
  have hj := (List.getElem?_eq_some_iff.1 hu).1
  obtain ⟨g, off, ha, hg, hx⟩ := hx (by rcases Nat.eq_zero_or_pos n with h | h; (subst h; simp at h1; subst h1; simp at hj); exact h)
  exact ⟨g, off, hv.1.trans ha, hg, hx j u hu⟩

theorem Sl.nil (w : World) (size : Nat) : Sl w size (.slice none 0 0) 0 [] := ⟨by simp, Nat.zero_le _, none, 0, rfl, Nat.le_refl _, fun _ => ⟨rfl, rfl⟩, fun h => absurd h (by omega)⟩

theorem Sl.zero {w : World} {size : Nat} (x : Addr) (cap : Nat) : Sl w size (.slice (some x) 0 cap) 0 [] := ⟨by simp, Nat.zero_le _, _, cap, rfl, Nat.zero_le _, fun h => (by cases h), fun h => absurd h (by omega)⟩

theorem Sl.new (w : World) (cs : Array Value) (t : TypeId) (size n : Nat) (hs : cs.size = n * size) (hm : n ≤ maxLen) : Sl (w.alloc (.cells cs t)) size (.slice (some ⟨w.heap.size, 0, none⟩) n n) n cs.toList := by
  refine ⟨by simpa using hs, hm, _, n, rfl, Nat.le_refl _, fun h => (by cases h), fun _ => ⟨w.heap.size, 0, rfl, by simp, fun j u hu => ?_⟩⟩
  rw [Nat.zero_add, cell_of_row _ _ _ _ _ _ (heap_alloc_new w _)]
  simpa using hu

theorem Sl.newAt {w : World} {k : Nat} (hk : w.heap.size = k) (cs : Array Value) (t : TypeId) (size n : Nat) (hs : cs.size = n * size) (hm : n ≤ maxLen) : Sl (w.alloc (.cells cs t)) size (.slice (some ⟨k, 0, none⟩) n n) n cs.toList := hk ▸ Sl.new w cs t size n hs hm

theorem Sl.one (w : World) (u : Value) (t : TypeId) : Sl (w.alloc (.cells #[u] t)) 1 (.slice (some ⟨w.heap.size, 0, none⟩) 1 1) 1 [u] := Sl.new w #[u] t 1 1 rfl (by decide)

/-- The blocks of a slice's value: at most one. -/
def Bl (v : Value) : Nat → Prop := fun k => v.ownBlock = some k

section
variable {P : Program}

/-- append(v, sv...): v a row of the call's own or nil, sv whatever slice. The row stands where it stood, or in a new block. -/
theorem run_append_any {w : World} (t ty e : TypeId) (i : TypeInfo) (z : Value) (size bytes : Nat) (ht : P.underlying t = some (.slice e)) (hi : P.info? e = some i) (hz : i.zero = some z)
    (hsize : i.size = size) (hby : i.bytes = bytes) (hzs : z.cells.size = size) (hsz : 0 < size) {v sv : Value} {n m : Nat} {xs news : List Value} (hown : w.ownsRow 0 e size v n xs) (hsl : Sl w size sv m news)
    (h1 : ∀ u ∈ news, u.oneCell' = true) (h63 : n + m ≤ maxLen) (hbytes : (n + m) * bytes ≤ 140737488355328) :
    ∃ v' w', (Builtin.append_ #[t, t] ty #[v, sv]).run P w = .ok v' w' ∧ w'.ownsRow 0 e size v' (n + m) (xs ++ news) ∧ Keeps (Bl v) w w' ∧ (∀ k, v'.ownBlock = some k → v.ownBlock = some k ∨ w.heap.size ≤ k) := by
  obtain ⟨hl1, hl2, sa, scap, rfl, hmc, hnone, hcell⟩ := hsl
  rcases sa with _ | sad
  · obtain ⟨rfl, rfl⟩ := hnone rfl
    have hn0 : news = [] := List.length_eq_zero_iff.1 (by simpa using hl1)
    subst hn0
    exact ⟨v, w, run_append_owned_none (P := P) (w := w) 0 t ty e i size ht hi v n xs hown, by simpa using hown, Keeps.refl _ _, fun k hk => Or.inl hk⟩
  · have hnews : ∀ j u, news[j]? = some u → w.cell? (sad.add j) = some u := fun j u hu => by
      have hj := (List.getElem?_eq_some_iff.1 hu).1
      obtain ⟨g, off, ha, _, hx⟩ := hcell (by rcases Nat.eq_zero_or_pos m with h | h; (subst h; simp at hl1; subst hl1; simp at hj); exact h)
      simp only [Option.some.injEq] at ha
      subst ha
      rw [addr_add]; exact hx j u hu
    rcases hown.2 with ⟨rfl, rfl⟩ | ⟨g, cap, cur, rfl, hb0, hgg, hnc, hcm, hcs, htake⟩
    · have hx0 : xs = [] := List.length_eq_zero_iff.1 (by simpa using hown.1)
      subst hx0
      obtain ⟨v', w', hr, ho, hg, _⟩ := run_append_own (P := P) w w.heap.size t ty e i z size bytes ht hi hz hsize hby hzs hsz (.slice none 0 0) 0 [] (World.ownsRow_nil _ _ _ _) sad m scap news hl1 hnews h1 h63 hbytes (Nat.le_refl _)
      refine ⟨v', w', hr, ⟨ho.1, ?_⟩, (Keeps.refl _ _).grown hg (fun k hk => by simp [Value.ownBlock] at hk), fun k hk => Or.inr (ho.lt k hk).1⟩
      rcases ho.2 with h | ⟨g, cap, cur, h, _, r⟩
      · exact .inl h
      · exact .inr ⟨g, cap, cur, h, Nat.zero_le _, r⟩
    · by_cases hroom : n + m ≤ cap
      · obtain ⟨w', hr, ho, hg⟩ := run_append_fits (P := P) w 0 t ty e i size ht hi hsize g n cap xs hown sad m scap news hl1 hnews h1 hroom
        exact ⟨_, w', hr, ho, (Keeps.refl _ _).grown hg (fun k hk => Or.inr (by simpa [Bl, Value.ownBlock] using hk)), fun k hk => Or.inl (by simpa [Value.ownBlock] using hk)⟩
      · have hcur := @World.ownsRow.cells _ _ _ _ _ _ _ hown g rfl
        obtain ⟨v', w', hr, ho, hg⟩ := run_append_arg_grows (P := P) w t ty e i z size bytes ht hi hz hsize hby hzs hsz ⟨g, 0, none⟩ n cap xs hown.1 hcur sad m scap news hl1 hnews (by omega) h63 hbytes
        refine ⟨v', w', hr, ⟨ho.1, ?_⟩, (Keeps.refl _ _).grown hg (fun k hk => by cases hk), fun k hk => Or.inr (ho.lt k hk).1⟩
        rcases ho.2 with h | ⟨g, cap, cur, h, _, r⟩
        · exact .inl h
        · exact .inr ⟨g, cap, cur, h, Nat.zero_le _, r⟩

/-- The same as one step of a region that draws its order. -/
theorem step_append {w : World} {ops : Array Oper} {o : Oper} {a : Act} {K : Act → World → Prop} {Q : Exit → Act → World → Prop} {E : Prop} (hgd : o.guard = none) (s x : Operand) (t : TypeId)
    (ho : o.op = .call { callee := .builtin .append, args := #[s, x], argTypes := #[t, t] })
    (e : TypeId) (i : TypeInfo) (z : Value) (size bytes : Nat) (ht : P.underlying t = some (.slice e)) (hi : P.info? e = some i) (hz : i.zero = some z)
    (hsize : i.size = size) (hby : i.bytes = bytes) (hzs : z.cells.size = size) (hsz : 0 < size)
    (v sv : Value) (n m : Nat) (xs news : List Value) (hs : a.eval s = v) (hx : a.eval x = sv) (hown : w.ownsRow 0 e size v n xs) (hsl : Sl w size sv m news)
    (h1 : ∀ u ∈ news, u.oneCell' = true) (h63 : n + m ≤ maxLen) (hbytes : (n + m) * bytes ≤ 140737488355328)
    (h : ∀ v' w', w'.ownsRow 0 e size v' (n + m) (xs ++ news) → Keeps (Bl v) w w' → (∀ k, v'.ownBlock = some k → v.ownBlock = some k ∨ w.heap.size ≤ k) → K (a.put o.dst v') w') :
    if Region.wanted o (yielded ops a.tmps) = true then Oper.wp P o a w K Q else E := by
  have hw : Region.wanted o (yielded ops a.tmps) = true := by simp [Region.wanted, hgd]
  rw [if_pos hw]
  obtain ⟨v', w', hrun, r1, r2, r3⟩ := run_append_any (P := P) t o.type e i z size bytes ht hi hz hsize hby hzs hsz hown hsl h1 h63 hbytes
  unfold Oper.wp
  simp [execOp, ho, resolve, invoke, builtin, hs, hx, hrun, Result.andThen]
  exact h v' w' r1 r2 r3

theorem wpl_append {w : World} {ops : Array Oper} {rest : List Oper} {o : Oper} {a : Act} {Q : Exit → Act → World → Prop} (hgd : o.guard = none) (s x : Operand) (t : TypeId)
    (ho : o.op = .call { callee := .builtin .append, args := #[s, x], argTypes := #[t, t] })
    (e : TypeId) (i : TypeInfo) (z : Value) (size bytes : Nat) (ht : P.underlying t = some (.slice e)) (hi : P.info? e = some i) (hz : i.zero = some z)
    (hsize : i.size = size) (hby : i.bytes = bytes) (hzs : z.cells.size = size) (hsz : 0 < size)
    (v sv : Value) (n m : Nat) (xs news : List Value) (hs : a.eval s = v) (hx : a.eval x = sv) (hown : w.ownsRow 0 e size v n xs) (hsl : Sl w size sv m news)
    (h1 : ∀ u ∈ news, u.oneCell' = true) (h63 : n + m ≤ maxLen) (hbytes : (n + m) * bytes ≤ 140737488355328)
    (h : ∀ v' w', w'.ownsRow 0 e size v' (n + m) (xs ++ news) → Keeps (Bl v) w w' → (∀ k, v'.ownBlock = some k → v.ownBlock = some k ∨ w.heap.size ≤ k) → wpList P ops Q rest (a.put o.dst v') w') : wpList P ops Q (o :: rest) a w := by
  refine wpList_plain hgd fun K hK => ?_
  obtain ⟨v', w', hrun, r1, r2, r3⟩ := run_append_any (P := P) t o.type e i z size bytes ht hi hz hsize hby hzs hsz hown hsl h1 h63 hbytes
  unfold Oper.wp
  simp [execOp, ho, resolve, invoke, builtin, hs, hx, hrun, Result.andThen]
  exact hK _ _ (h v' w' r1 r2 r3)

end

/-- A thing that stands in the blocks F, and behind a call in F': only these were written, what is new in F' is new memory. -/
structure Upd (F : Nat → Prop) (w w' : World) (F' : Nat → Prop) : Prop where
  keeps : Keeps F w w'
  fresh : ∀ k, F' k → F k ∨ w.heap.size ≤ k

theorem Upd.refl (F : Nat → Prop) (w : World) : Upd F w w F := ⟨Keeps.refl _ _, fun _ h => Or.inl h⟩

theorem Upd.trans {F F1 F2 : Nat → Prop} {w w1 w2 : World} (h : Upd F w w1 F1) (k : Upd F1 w1 w2 F2) : Upd F w w2 F2 :=
  ⟨h.keeps.trans' k.keeps (fun _ _ h => h) (fun i hi hf => by rcases h.fresh i hf with h' | h'; exact h'; omega),
   fun i hi => by
    rcases k.fresh i hi with h' | h'
    · exact h.fresh i h'
    · exact Or.inr (Nat.le_trans h.keeps.size h')⟩

/-- Behind a step that wrote nothing of it. -/
theorem Upd.then {F S : Nat → Prop} {w w1 w2 : World} {F1 : Nat → Prop} (h : Upd F w w1 F1) (k : Keeps S w1 w2) (hS : ∀ i, i < w.heap.size → S i → F i) : Upd F w w2 F1 :=
  ⟨h.keeps.trans' k (fun _ _ h => h) hS, h.fresh⟩

/-- What lay outside F, in blocks that were there, lies outside F'. -/
theorem Upd.out {F F' : Nat → Prop} {w w' : World} (h : Upd F w w' F') {k : Nat} (hk : k < w.heap.size) (hF : ¬ F k) : ¬ F' k := fun h' => by
  rcases h.fresh k h' with h' | h'
  · exact hF h'
  · omega

/-- A thing of the call's own, behind a step that wrote it alone: it is still the call's own, and old memory is as it was. -/
theorem newUpd {F F' : Nat → Prop} {w wr wr' : World} (hF : ∀ i, F i → w.heap.size ≤ i) (hk : Keeps No w wr) (hu : Upd F wr wr' F') : (∀ i, F' i → w.heap.size ≤ i) ∧ Keeps No w wr' :=
  ⟨fun i hi => by
    rcases hu.fresh i hi with h | h
    · exact hF i h
    · exact Nat.le_trans hk.size h,
   hk.trans' hu.keeps (fun _ _ h => h) (fun i hi h => by have := hF i h; omega)⟩

theorem Keeps.toBelow {w w' : World} (h : Keeps No w w') : Below w.heap.size w w' := Keeps.below (Below.refl _ _) h (Nat.le_refl _) (fun _ h => h.elim)

/-- A list that is being filled: k elements stand, the rest is still zero. -/
def filled {α : Type} (f : α → Value) (z : Value) (l : List α) (k : Nat) : List Value := (l.take k).map f ++ List.replicate (l.length - k) z

theorem filled_get {α : Type} (f : α → Value) (z : Value) (l : List α) {k : Nat} (hk : k < l.length) : (filled f z l k)[k]? = some z := by
  unfold filled
  have h1 : ((l.take k).map f).length = k := by simp; omega
  rw [List.getElem?_append_right (by omega), h1, Nat.sub_self, List.getElem?_replicate, if_pos (by omega)]

theorem filled_set {α : Type} (f : α → Value) (z : Value) (l : List α) {k : Nat} (hk : k < l.length) : (filled f z l k).set k (f l[k]) = filled f z l (k + 1) := by
  unfold filled
  have h1 : ((l.take k).map f).length = k := by simp; omega
  rw [List.set_append_right _ _ (by omega), h1, Nat.sub_self, show l.length - k = (l.length - (k + 1)) + 1 by omega, List.replicate_succ, List.set_cons_zero, List.take_succ_eq_append_getElem hk, List.map_append, List.append_assoc]
  rfl

theorem filled_zero {α : Type} (f : α → Value) (z : Value) (l : List α) : filled f z l 0 = List.replicate l.length z := by simp [filled]
theorem filled_all {α : Type} (f : α → Value) (z : Value) (l : List α) : filled f z l l.length = l.map f := by simp [filled]

/-- A list in which the cells from o on are us. -/
def setL (xs : List Value) : Nat → List Value → List Value
  | _, [] => xs
  | o, u :: r => setL (xs.set o u) (o + 1) r

theorem length_setL : ∀ (us xs : List Value) (o : Nat), (setL xs o us).length = xs.length
  | [], _, _ => rfl
  | _ :: r, xs, o => by simp [setL, length_setL r]

theorem setL_append_right : ∀ (us A B : List Value) (o : Nat), setL (A ++ B) (A.length + o) us = A ++ setL B o us
  | [], _, _, _ => rfl
  | u :: r, A, B, o => by
    simp only [setL]
    rw [List.set_append_right _ _ (by omega), show A.length + o - A.length = o by omega, Nat.add_assoc]
    exact setL_append_right r A _ _

theorem setL_front : ∀ (us A B : List Value), us.length = A.length → setL (A ++ B) 0 us = us ++ B
  | [], A, B, h => by
    have : A = [] := List.length_eq_zero_iff.1 (by simpa using h.symm)
    subst this; rfl
  | u :: r, A, B, h => by
    match A, h with
    | a :: A, h =>
      simp at h
      have := setL_append_right r [u] (A ++ B) 0
      simp only [setL, List.cons_append, List.set_cons_zero]
      simp only [List.length_singleton, List.singleton_append] at this
      rw [this, setL_front r A B h]

theorem setL_flatMap {α : Type} {size : Nat} {enc : α → List Value} (he : ∀ x, (enc x).length = size) (y : α) : ∀ (xs : List α) (p : Nat), p < xs.length → setL (xs.flatMap enc) (p * size) (enc y) = (xs.set p y).flatMap enc
  | [], p, h => by simp at h
  | x :: xs, 0, _ => by
    simp only [Nat.zero_mul, List.flatMap_cons, List.set_cons_zero]
    rw [setL_front _ _ _ (by rw [he, he])]
  | x :: xs, p + 1, h => by
    simp at h
    simp only [List.flatMap_cons, List.set_cons_succ]
    have := setL_append_right (enc y) (enc x) (xs.flatMap enc) (p * size)
    rw [he] at this
    rw [show (p + 1) * size = size + p * size by rw [Nat.succ_mul]; omega, this, setL_flatMap he y xs p h]

theorem length_flatMap_enc {α : Type} {size : Nat} {enc : α → List Value} (he : ∀ x, (enc x).length = size) (xs : List α) : (xs.flatMap enc).length = xs.length * size := by
  induction xs with
  | nil => simp
  | cons x xs ih => simp [ih, he, Nat.succ_mul]; omega

theorem getElem?_flatMap_enc {α : Type} {size : Nat} {enc : α → List Value} (he : ∀ x, (enc x).length = size) : ∀ (xs : List α) (p k : Nat), k < size → (hp : p < xs.length) → (xs.flatMap enc)[p * size + k]? = (enc xs[p])[k]?
  | [], p, _, _, h => by simp at h
  | x :: xs, 0, k, hk, _ => by
    simp only [Nat.zero_mul, List.flatMap_cons, Nat.zero_add, List.getElem_cons_zero]
    rw [List.getElem?_append_left (by rw [he]; exact hk)]
  | x :: xs, p + 1, k, hk, h => by
    simp at h
    simp only [List.flatMap_cons, List.getElem_cons_succ]
    rw [List.getElem?_append_right (by rw [he, Nat.succ_mul]; omega), he, show (p + 1) * size + k - size = p * size + k by rw [Nat.succ_mul]; omega]
    exact getElem?_flatMap_enc he xs p k hk h

/-- A new row of zeros, as so many zero elements. -/
theorem made_enc {α : Type} {size : Nat} {enc : α → List Value} (he : ∀ x, (enc x).length = size) (hs : 0 < size) (z : α) (zc : Array Value) (hz : zc.toList = enc z) (n : Nat) :
    (madeCells zc (n * size)).toList = (List.replicate n z).flatMap enc := by
  have hzs : zc.size = size := by rw [← he z, ← hz]; simp
  apply List.ext_getElem?
  intro j
  by_cases hj : j < n * size
  · have hd : j / size < n := Nat.div_lt_of_lt_mul (by rw [Nat.mul_comm]; exact hj)
    have hr := Nat.mod_lt j hs
    have hjj : j / size * size + j % size = j := by rw [Nat.mul_comm]; exact Nat.div_add_mod j size
    have h2 := getElem?_flatMap_enc he (List.replicate n z) (j / size) (j % size) hr (by simpa using hd)
    rw [hjj] at h2
    rw [h2, List.getElem_replicate, ← hz]
    have hlt : j % zc.size < zc.size := by rw [hzs]; exact hr
    simp only [madeCells, Array.getElem?_toList, Array.getElem?_map, Array.getElem?_range, hj, if_true, Option.map_some]
    rw [← hzs, getElem!_pos zc (j % zc.size) hlt]
    simp [hlt]
  · rw [List.getElem?_eq_none (by simp [size_madeCells]; omega), List.getElem?_eq_none (by rw [length_flatMap_enc he]; simp; omega)]

/-- A list that is being filled: k of its elements stand, the rest is still z. -/
def fillL {α : Type} (z : α) (l : List α) (k : Nat) : List α := l.take k ++ List.replicate (l.length - k) z

theorem fillL_len {α : Type} (z : α) (l : List α) {k : Nat} (hk : k ≤ l.length) : (fillL z l k).length = l.length := by simp [fillL]; omega

theorem fillL_set {α : Type} (z : α) (l : List α) {k : Nat} (hk : k < l.length) : (fillL z l k).set k l[k] = fillL z l (k + 1) := by
  unfold fillL
  have h1 : (l.take k).length = k := by simp; omega
  rw [List.set_append_right _ _ (by omega), h1, Nat.sub_self, show l.length - k = (l.length - (k + 1)) + 1 by omega, List.replicate_succ, List.set_cons_zero, List.take_succ_eq_append_getElem hk, List.append_assoc]
  rfl

theorem fillL_zero {α : Type} (z : α) (l : List α) : fillL z l 0 = List.replicate l.length z := by simp [fillL]
theorem fillL_all {α : Type} (z : α) (l : List α) : fillL z l l.length = l := by simp [fillL]

theorem own_setCells {base : Nat} {e : TypeId} {size g cap n : Nat} : ∀ (us xs : List Value) (w : World) (o : Nat), w.ownsRow base e size (.slice (some ⟨g, 0, none⟩) n cap) n xs →
    (w.setCells g o us).ownsRow base e size (.slice (some ⟨g, 0, none⟩) n cap) n (setL xs o us)
  | [], _, _, _, h => h
  | u :: r, _, _, o, h => own_setCells r _ _ (o + 1) (h.stored o u).1

theorem heap_setCells_other {g k : Nat} (hk : k ≠ g) : ∀ (us : List Value) (w : World) (o : Nat), (w.setCells g o us).heap[k]? = w.heap[k]?
  | [], _, _ => rfl
  | u :: r, w, o => by rw [World.setCells, heap_setCells_other hk r, Below.heap_setCell _ _ _ _ hk]

theorem size_setCells {g : Nat} : ∀ (us : List Value) (w : World) (o : Nat), (w.setCells g o us).heap.size = w.heap.size
  | [], _, _ => rfl
  | u :: r, w, o => by rw [World.setCells, size_setCells r]; simp

theorem Keeps.setCells {S : Nat → Prop} {a : World} {g : Nat} (hp : a.heap.size ≤ g ∨ S g) : ∀ (us : List Value) (w : World) (o : Nat), Keeps S a w → Keeps S a (w.setCells g o us)
  | [], _, _, h => h
  | u :: r, _, o, h => Keeps.setCells hp r _ (o + 1) (h.setCell (p := ⟨g, o, none⟩) hp u)

end Go.Proofs.Ytnmlaobiljmgaaa
