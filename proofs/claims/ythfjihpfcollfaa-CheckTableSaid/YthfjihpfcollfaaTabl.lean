/-
  What CheckTable makes: a table of any numbers.
-/
import Derived.Test.YthfjihpfcollfaaChk10
import Derived.Test.YthfjihpfcollfaaArgsE
import Derived.Test.YthfjihpfcollfaaOwn
namespace Go.Proofs.Ythfjihpfcollfaa
open Go.ChangeShapes Go.WideShapes Go.ChangeAt Go.RowKit

def encSlot (y : List Int × Value) : List Value := [y.2]

theorem decSlot {H : Type} {enc : TypeId × Value → H} {W : World} {n : Nat} {cs : List Value} {x} (h : DataW.trod enc Try.prog W 0 (fun _ => true) true n 62 cs = some x) : ∃ y : List Int × Value, cs = encSlot y ∧ SlI W y.2 y.1 := by
  obtain ⟨a, len, cap, rfl, t0⟩ := trodSlice Try.underlying62 h
  obtain ⟨l, rfl, w0, _⟩ := argInts .i64 Try.underlying62 Try.underlying3 (by kernel_rfl) t0
  exact ⟨(l, _), rfl, w0⟩

/-- What CheckTable has laid so far. -/
structure CT (w5 wr : World) (cb : Nat) (sv rv tv : Value) (C : Cfg) (T : List (List Int × Value)) : Prop where
  blk : BlkL wr cb 51 [sv, rv, tv, .int .i64 C.b0, .int .i64 C.b1, .int .i64 C.b2, .int .i64 C.drain, .int .i64 C.pause, .int .i64 C.off, .bool C.brk, .int .i64 C.log]
  keep : Keeps (fun k => k = cb) w5 wr
  own : wr.ownsRow 0 62 1 tv T.length (T.map (·.2))
  slot : ∀ x ∈ T, SlI wr x.2 x.1
  new : ∀ k, tv.ownBlock = some k → w5.heap.size ≤ k
  snew : ∀ x ∈ T, ∀ k, x.2.ownBlock = some k → k < wr.heap.size ∧ tv.ownBlock ≠ some k ∧ w5.heap.size ≤ k

/-- A slot that is being filled. -/
structure CS (w5 wr : World) (cb : Nat) (tv v : Value) (T : List (List Int × Value)) (m : List Int) : Prop where
  own : wr.ownsRow 0 3 1 v m.length (m.map (Value.int .i64))
  new : ∀ k, v.ownBlock = some k → w5.heap.size ≤ k ∧ tv.ownBlock ≠ some k
  sep : ∀ x ∈ T, ∀ k, v.ownBlock = some k → x.2.ownBlock ≠ some k

theorem CT.calmS {S : Nat → Prop} {w5 wr w2 : World} {cb : Nat} {sv rv tv : Value} {C : Cfg} {T : List (List Int × Value)} (h : CT w5 wr cb sv rv tv C T) (hcb : cb < w5.heap.size) (k : Keeps S wr w2) (h1 : ∀ i, S i → w5.heap.size ≤ i) (h2 : ∀ i, tv.ownBlock = some i → ¬ S i) (h3 : ∀ x ∈ T, ∀ i, x.2.ownBlock = some i → ¬ S i) : CT w5 w2 cb sv rv tv C T :=
  ⟨h.blk.keep k (fun hs => by have := h1 cb hs; omega), h.keep.trans' k (fun _ _ h => h) (fun i hi hs => by have := h1 i hs; omega), k.own h.own h2, fun x hx => Sl.keep (h.slot x hx) k (h3 x hx), h.new,
   fun x hx i hi => ⟨Nat.lt_of_lt_of_le (h.snew x hx i hi).1 k.size, (h.snew x hx i hi).2⟩⟩

/-- A number is laid into the slot. -/
theorem CS.app {w5 wr w2 : World} {cb : Nat} {sv rv tv v v' : Value} {C : Cfg} {T : List (List Int × Value)} {m : List Int} {z : Int} {x : Obj} (h : CT w5 wr cb sv rv tv C T) (hcb : cb < w5.heap.size) (hs : CS w5 wr cb tv v T m)
    (ho : w2.ownsRow 0 3 1 v' (m.length + 1) (m.map (Value.int .i64) ++ [.int .i64 z])) (k2 : Keeps (Bl v) (wr.alloc x) w2) (hb : ∀ k, v'.ownBlock = some k → v.ownBlock = some k ∨ (wr.alloc x).heap.size ≤ k) :
    CT w5 w2 cb sv rv tv C T ∧ CS w5 w2 cb tv v' T (m ++ [z]) := by
  have hsz : (wr.alloc x).heap.size = wr.heap.size + 1 := by simp
  have k3 : Keeps (Bl v) wr w2 := ((Keeps.refl No wr).alloc x).trans' k2 (fun _ _ h => h.elim) (fun _ _ h => h)
  have z5 := h.keep.size
  refine ⟨h.calmS hcb k3 (fun i hi => (hs.new i hi).1) (fun i hi hB => (hs.new i hB).2 hi) (fun y hy i hi hB => hs.sep y hy i hB hi), ?_, ?_, ?_⟩
  · rw [List.length_append, List.map_append]; exact ho
  · intro k hk
    rcases hb k hk with h' | h'
    · exact hs.new k h'
    · refine ⟨by omega, fun ht => ?_⟩
      have := own_lt h.own k ht
      omega
  · intro y hy k hk hk'
    rcases hb k hk with h' | h'
    · exact hs.sep y hy k h' hk'
    · have := (h.snew y hy k hk').1
      omega

/-- The slot is laid into the table. -/
theorem CT.put {w5 wr w2 : World} {cb : Nat} {sv rv tv tv' v : Value} {C : Cfg} {T : List (List Int × Value)} {m : List Int} {x : Obj} (h : CT w5 wr cb sv rv tv C T) (hcb : cb < w5.heap.size) (hs : CS w5 wr cb tv v T m)
    (ho : w2.ownsRow 0 62 1 tv' (T.length + 1) (T.map (·.2) ++ [v])) (k2 : Keeps (Bl tv) (wr.alloc x) w2) (hb : ∀ k, tv'.ownBlock = some k → tv.ownBlock = some k ∨ (wr.alloc x).heap.size ≤ k) :
    CT w5 (w2.setCell ⟨cb, 2, none⟩ tv') cb sv rv tv' C (T ++ [(m, v)]) := by
  have hsz : (wr.alloc x).heap.size = wr.heap.size + 1 := by simp
  have k3 : Keeps (Bl tv) wr w2 := ((Keeps.refl No wr).alloc x).trans' k2 (fun _ _ h => h.elim) (fun _ _ h => h)
  have k4 : Keeps (fun k => k = cb) w2 (w2.setCell ⟨cb, 2, none⟩ tv') := (Keeps.refl (fun k => k = cb) w2).setCell (p := ⟨cb, 2, none⟩) (Or.inr rfl) _
  have z5 := h.keep.size
  have z6 := k3.size
  have z7 := k4.size
  have hbk := h.blk.keep k3 (fun hB => by have := h.new cb hB; omega)
  have hvl := own_lt hs.own
  have htn : ∀ k, tv'.ownBlock = some k → w5.heap.size ≤ k := fun k hk => by
    rcases hb k hk with h' | h'
    · exact h.new k h'
    · omega
  refine ⟨hbk.put 2 tv' rfl, (h.keep.trans' k3 (fun _ _ h => h) (fun i hi hB => by have := h.new i hB; omega)).trans k4, ?_, ?_, htn, ?_⟩
  · rw [List.length_append, List.map_append]
    exact k4.own ho (fun k hk e => by have := htn k hk; omega)
  · intro y hy
    rcases List.mem_append.1 hy with hy | hy
    · exact Sl.keep (Sl.keep (h.slot y hy) k3 (fun i hi hB => (h.snew y hy i hi).2.1 hB)) k4 (fun i hi e => by have := (h.snew y hy i hi).2.2; omega)
    · simp at hy; subst hy
      have h0 : SlI wr v m := Sl.ofOwn (by have := hs.own; exact this) |> fun q => by unfold SlI; exact q
      exact Sl.keep (Sl.keep h0 k3 (fun i hi hB => (hs.new i hi).2 hB)) k4 (fun i hi e => by have := (hs.new i hi).1; omega)
  · intro y hy k hk
    rcases List.mem_append.1 hy with hy | hy
    · have a := h.snew y hy k hk
      refine ⟨by omega, fun ht => ?_, a.2.2⟩
      rcases hb k ht with h' | h'
      · exact a.2.1 h'
      · omega
    · simp at hy; subst hy
      have a := hs.new k hk
      have b := hvl k hk
      refine ⟨by omega, fun ht => ?_, a.1⟩
      rcases hb k ht with h' | h'
      · exact a.2 h'
      · omega

/-- A configuration whose table is another one. -/
def withTab (C : Cfg) (T : List (List Int × Value)) : Cfg := ⟨C.sigs, C.ruls, T, C.b0, C.b1, C.b2, C.drain, C.pause, C.off, C.brk, C.log⟩

theorem CT.reads {w4 w5 wr : World} {cb : Nat} {sv rv tv tv0 : Value} {C : Cfg} {T : List (List Int × Value)} (h : CT w5 wr cb sv rv tv C T) (hc : CfgR w4 C sv rv tv0) (k : Keeps No w4 w5) (hcb : w4.heap.size ≤ cb) : CfgR wr (withTab C T) sv rv tv := by
  have kk : Keeps (fun k => k = cb) w4 wr := k.trans' h.keep (fun _ _ h => h.elim) (fun _ _ h => h)
  exact ⟨hc.sig.keep' kk (fun _ b _ hlt e => by omega), hc.rul.keep' kk (fun _ b _ hlt e => by omega), Sl.ofOwn h.own, fun x hx => (hc.stg x hx).keep' kk (fun _ b _ hlt e => by omega), h.slot⟩

theorem tab_few : ∀ {T : List (List Int × Value)} {n : Nat}, (∀ x ∈ T, x.1.length ≤ n) → entries (T.map (·.1)) ≤ T.length * n
  | [], _, _ => by simp [entries]
  | x :: T, n, h => by
    have h1 := h x (by simp)
    have h2 := tab_few (T := T) (n := n) (fun y hy => h y (by simp [hy]))
    unfold entries at h2 ⊢
    simp only [List.map_cons, List.flatten_cons, List.length_append, List.length_cons, Nat.succ_mul] at h2 ⊢
    omega

end Go.Proofs.Ythfjihpfcollfaa
