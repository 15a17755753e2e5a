/-
  What frames are laid and taken with: bytes.Clone, slices.Grow of none, slices.Concat of two; Frame, the program's and the document's.
-/
import Derived.Test.YthfjihpfcollfaaFrPlain
import Derived.Test.YthfjihpfcollfaaSum6
import Derived.Lib.AppendZerosOnto
import Derived.Lib.SliceRun
import Derived.Lib.SmallJoins
namespace Go.Proofs.Ythfjihpfcollfaa
open Go.RowKit

/-- What a value owns is new memory. -/
def Fresh (w : World) (v : Value) : Prop := ∀ k, v.ownBlock = some k → w.heap.size ≤ k

theorem Fresh.behind {w w1 : World} {v : Value} (h : Fresh w1 v) (k : w.heap.size ≤ w1.heap.size) : Fresh w v := fun i hi => Nat.le_trans k (h i hi)

theorem Fresh.app {w w1 : World} {v v' : Value} (h : Fresh w v) (k : w.heap.size ≤ w1.heap.size) (hb : ∀ k, v'.ownBlock = some k → v.ownBlock = some k ∨ w1.heap.size ≤ k) : Fresh w v' := fun i hi => by
  rcases hb i hi with h' | h'
  · exact h i h'
  · exact Nat.le_trans k h'

/-- What a value owns may be written to. -/
def Soft (w : World) (u : Value) : Prop := ∀ k, u.ownBlock = some k → ∃ cs t, w.heap[k]? = some (.cells cs t (0, 0))

theorem Soft.ofOwn {w : World} {e : TypeId} {size n : Nat} {v : Value} {xs : List Value} (h : w.ownsRow 0 e size v n xs) : Soft w v := fun k hk => by
  rcases h.2 with ⟨rfl, _⟩ | ⟨g, cap, cur, rfl, _, hgg, _⟩
  · simp [Value.ownBlock] at hk
  · simp [Value.ownBlock] at hk
    subst hk
    exact ⟨cur, e, hgg⟩

theorem Soft.keep {S : Nat → Prop} {w w' : World} {u : Value} (h : Soft w u) (k : Keeps S w w') (hs : ∀ b, u.ownBlock = some b → ¬ S b) : Soft w' u := fun b hb => by
  obtain ⟨cs, t, e⟩ := h b hb
  exact ⟨cs, t, k.heap (hs b hb) e⟩

/-- A slice that reads, and is full, grows into a new row. -/
theorem wpl_append_full {P : Program} {w : World} {ops : Array Oper} {rest : List Oper} {o : Oper} {a : Act} {Q : Exit → Act → World → Prop} (hgd : o.guard = none) (s x : Operand) (t : TypeId)
    (ho : o.op = .call { callee := .builtin .append, args := #[s, x], argTypes := #[t, t] })
    (e : TypeId) (i : TypeInfo) (z : Value) (size bytes : Nat) (ht : P.underlying t = some (.slice e)) (hi : P.info? e = some i) (hz : i.zero = some z)
    (hsize : i.size = size) (hby : i.bytes = bytes) (hzs : z.cells.size = size) (hsz : 0 < size)
    (b : Addr) (n cap : Nat) (sv : Value) (m : Nat) (xs news : List Value) (hs : a.eval s = .slice (some b) n cap) (hx : a.eval x = sv) (hm : 0 < m) (hown : Sl w size (.slice (some b) n cap) n xs) (hn : 0 < n) (hsl : Sl w size sv m news)
    (hg : cap < n + m) (h63 : n + m ≤ maxLen) (hbytes : (n + m) * bytes ≤ 140737488355328)
    (h : ∀ v' w', w'.ownsRow 0 e size v' (n + m) (xs ++ news) → Keeps No w w' → Fresh w v' → wpList P ops Q rest (a.put o.dst v') w') : wpList P ops Q (o :: rest) a w := by
  refine wpList_plain hgd fun K hK => ?_
  obtain ⟨l1, l2, sa, scap, rfl, mc, mnil, mcell⟩ := hsl
  obtain ⟨g, off, rfl, hg1, hc⟩ := mcell hm
  obtain ⟨l3, l4, sb, cap', hv, nc, nnil, ncell⟩ := hown
  simp only [Value.slice.injEq] at hv
  obtain ⟨rfl, _, rfl⟩ := hv
  obtain ⟨g', off', hb, hg2, hc'⟩ := ncell hn
  simp only [Option.some.injEq] at hb
  subst hb
  obtain ⟨v', w', hrun, r1, r2⟩ := run_append_arg_grows (P := P) w t o.type e i z size bytes ht hi hz hsize hby hzs hsz ⟨g', off', none⟩ n cap xs l3 (fun j u hu => by rw [addr_add]; exact hc' j u hu) ⟨g, off, none⟩ m scap news l1 (fun j u hu => by rw [addr_add]; exact hc j u hu) hg h63 hbytes
  unfold Oper.wp
  simp [execOp, ho, resolve, invoke, builtin, hs, hx, hrun, Result.andThen]
  refine hK _ _ (h v' w' ⟨r1.1, ?_⟩ ((Keeps.refl _ _).grown r2 (fun k hk => by cases hk)) (fun k hk => (r1.lt k hk).1))
  rcases r1.2 with h | ⟨g, cap, cur, h, _, r⟩
  · exact .inl h
  · exact .inr ⟨g, cap, cur, h, Nat.zero_le _, r⟩

theorem own_made (w : World) (cs : Array Value) (e : TypeId) (n : Nat) (hn : cs.size = n) (hm : n ≤ maxLen) : (w.alloc (.cells cs e)).ownsRow 0 e 1 (.slice (some ⟨w.heap.size, 0, none⟩) n n) n cs.toList :=
  ⟨by simp [hn], Or.inr ⟨w.heap.size, n, cs, rfl, Nat.zero_le _, heap_alloc_new w _, Nat.le_refl _, hm, by simp [hn], by subst hn; simp [List.take_of_length_le]⟩⟩

set_option maxHeartbeats 1000000 in
set_option maxRecDepth 100000 in
theorem bclone_any {w : World} {v : Value} {p : List Int} (h : SlB w v p) (hl : p.length ≤ 2000) :
    Calls Try.prog 38 #[v] w fun e w' => ∃ v', e = .returned v' ∧ w'.ownsRow 0 5 1 v' p.length (p.map (Value.int .u8)) ∧ Keeps No w w' ∧ Fresh w v' := by
  obtain ⟨ao, cap, rfl⟩ := h.any
  obtain ⟨i0, hi, hz0, hz1, hz2⟩ := info_parts info_byte
  have q22 : ∀ (w : World) (a : Option Addr) (n c n' c' : Nat), (binOp .eql 26 (.slice a n c) (.slice none n' c')).run Try.prog w = .ok (.bool a.isNone) w := fun w a n c n' c' => Lib.run_eql_slice_nil w _ _ a n c n' c' Try.underlying26
  cases ao with
  | none =>
    obtain ⟨_, _, a, c, hv, _, hn, _⟩ := h
    simp only [Value.slice.injEq] at hv
    obtain ⟨rfl, _, rfl⟩ := hv
    have h0 := (hn rfl).1
    obtain rfl := List.length_eq_zero_iff.1 h0
    clear hn h0 hi
    go_enter Try.func38, Try.ntmps38
    go_wp2_with fail
    go_ret
    exact ⟨_, rfl, World.ownsRow_nil _ _ _ _, Keeps.refl _ _, fun k hk => by simp [Value.ownBlock] at hk⟩
  | some a =>
    have HS := hid h
    have HI := hid hi
    clear h hi
    go_enter Try.func38, Try.ntmps38
    go_wp2_with (at_builtin; refine wpl_append rfl _ _ 26 rfl 5 i0 (.int .u8 0) 1 1 Try.underlying26 HI.out hz0 hz1 hz2 rfl (by decide) _ _ _ _ _ _ rfl rfl (own_empty _ _ _) (HS.out.alloc _) (bytes_one _) ?c3 ?c4 ?_)
    case c3 => unfold maxLen; omega
    case c4 => omega
    intro v1 w1 ho1 k1 hb1
    replace ho1 : w1.ownsRow 0 5 1 v1 p.length (p.map (Value.int .u8)) := by simpa using ho1
    have hk1 : Keeps No w w1 := ((Keeps.refl No w).alloc _).trans' k1 (fun _ _ h => h) (fun i hi h => by simp [Bl, Value.ownBlock] at h; omega)
    have hb1' : Fresh w v1 := fun k hk => by
      rcases hb1 k hk with h | h
      · simp [Value.ownBlock] at h; omega
      · have h1 : w.heap.size + 1 ≤ k := by simpa using h
        omega
    have HO1 := hid ho1
    have K1 := hid hk1
    have B1 := hid hb1'
    clear ho1 k1 hb1 hk1 hb1'
    obtain ⟨a1, c1, rfl⟩ := own_any HO1.out
    go_wp2_with fail
    go_ret
    exact ⟨_, rfl, HO1.out, K1.out, B1.out⟩

set_option maxHeartbeats 1000000 in
set_option maxRecDepth 100000 in
theorem grow_none {w : World} {n : Nat} (hn : n ≤ 2000) :
    Calls Try.prog 45 #[.slice none 0 0, .int .i64 n] w fun e w' => ∃ v', e = .returned v' ∧ w'.ownsRow 0 5 1 v' 0 [] ∧ Keeps No w w' ∧ Fresh w v' := by
  have hd : decide ((n : Int) < 0) = false := by simp
  by_cases h0 : n = 0
  · subst h0
    go_enter Try.func45, Try.ntmps45
    go_wp2_with fail
    go_ret
    exact ⟨_, rfl, World.ownsRow_nil _ _ _ _, Keeps.refl _ _, fun k hk => by simp [Value.ownBlock] at hk⟩
  · obtain ⟨i0, hi, hz0, hz1, hz2⟩ := info_parts info_byte
    have hp : decide ((n : Int) > 0) = true := by simp; omega
    have hp2 : decide (0 < (n : Int)) = true := by simp; omega
    have hrz : ∀ ty, (Builtin.append_ #[26, 3] ty #[.slice none 0 0, .int .i64 (n : Int)]).run Try.prog w =
        .ok (.slice (some ⟨w.heap.size, 0, none⟩) n (grownCap w n 0 5)) (w.drew.alloc (.cells (#[] ++ Builtin.zeroCells (Value.int .u8 0).cells n ++ Builtin.zeroCells (Value.int .u8 0).cells (grownCap w n 0 5 - n)) 5)) := fun ty => by
      have h := Lib.run_append_grow_zeros w 26 3 ty 5 i0 (.int .u8 0) .i64 .i64 Try.underlying26 Try.underlying3 hi hz0 none 0 0 [] (run_firstCells_none w.drew i0.size 0 0 0) n (by omega) (by rw [hz1]; decide) (by omega) (by omega)
        (by rw [hz2]; omega) (by rw [hz2, Nat.zero_add]; exact growslice_fits (by omega) (by omega))
      rw [Nat.zero_add] at h
      exact h
    have hge := grownCap_ge w n 0 5
    have hle := grownCap_le_maxLen w n 0 5 (by unfold maxLen; omega)
    obtain ⟨G, hG⟩ : ∃ G, G = grownCap w n 0 5 := ⟨_, rfl⟩
    rw [← hG] at hrz hge hle
    have hle2 : G ≤ 9223372036854775807 := by unfold maxLen at hle; omega
    have HL := hid hle
    clear hi hz0 hz1 hz2 hG hle
    go_enter Try.func45, Try.ntmps45
    go_wp2_with (at_builtin; refine Lib.wpList_append_run _ rfl _ _ _ _ rfl _ _ rfl rfl _ _ (hrz _) ?_)
    go_ret
    refine ⟨_, rfl, ⟨by simp, Or.inr ⟨w.heap.size, G, _, rfl, Nat.zero_le _, heap_alloc_new w.drew _, Nat.zero_le _, HL.out, ?_, by simp⟩⟩, ((Keeps.refl _ _).drew).alloc _, fun k hk => ?_⟩
    · have e1 : (Value.int .u8 0).cells.size = 1 := rfl
      simp only [Array.size_append, size_zeroCells, e1]
      simp; omega
    · simp [Value.ownBlock] at hk; omega

/-- What Concat has laid behind k of two. -/
def cat2 (p q : List Int) : Nat → List Int
  | 0 => []
  | 1 => p
  | _ => p ++ q

set_option maxHeartbeats 2000000 in
set_option maxRecDepth 100000 in
theorem concat2 {w : World} {vl va vb : Value} {p q : List Int} (hv : Sl w 1 vl 2 [va, vb]) (ha : SlB w va p) (hb : SlB w vb q) (hl : p.length + q.length ≤ 2000) :
    Calls Try.prog 36 #[vl] w fun e w' => ∃ v', e = .returned v' ∧ w'.ownsRow 0 5 1 v' (p.length + q.length) ((p ++ q).map (Value.int .u8)) ∧ Keeps No w w' ∧ Fresh w v' := by
  obtain ⟨al, cl, rfl⟩ := hv.any
  obtain ⟨g, off, rfl, _, c0⟩ := Sl.cellAt (j := 0) hv rfl
  obtain ⟨_, _, he, _, c1⟩ := Sl.cellAt (j := 1) hv rfl
  simp only [Option.some.injEq, Addr.mk.injEq, and_true] at he
  obtain ⟨rfl, rfl⟩ := he
  rw [Nat.add_zero] at c0
  obtain ⟨i0, hi, hz0, hz1, hz2⟩ := info_parts info_byte
  obtain ⟨aa, ca, rfl⟩ := ha.any
  obtain ⟨ab, cb, rfl⟩ := hb.any
  have HA := hid ha
  have HB := hid hb
  have HI := hid hi
  have hg := grow_none (w := w) hl
  have hcast : (p.length : Int) + (q.length : Int) = ((p.length + q.length : Nat) : Int) := by omega
  have hd1 : decide ((p.length : Int) < 0) = false := by simp
  have hd2 : decide ((p.length : Int) + (q.length : Int) < 0) = false := by simp; omega
  have HG := hid hg
  have HC := hid hcast
  clear hv ha hb hi hg hcast
  go_enter Try.func36, Try.ntmps36
  go_wp2_with fail
  go_loop [3, 11] (fun v3 v11 => (v11 = .int .i64 0 ∧ v3 = .int .i64 0) ∨ (v11 = .int .i64 1 ∧ v3 = .int .i64 p.length) ∨ (v11 = .int .i64 2 ∧ v3 = .int .i64 ((p.length : Int) + (q.length : Int)))) (fun _ v11 => 2 - (intOf v11).toNat)
  case atStart => exact Or.inl ⟨rfl, rfl⟩
  case round =>
    rcases hrel with ⟨rfl, rfl⟩ | ⟨rfl, rfl⟩ | ⟨rfl, rfl⟩
    · go_wp2_with fail
      go_round
      case rel => exact Or.inr (Or.inl ⟨rfl, rfl⟩)
      case measure => simp [intOf]
    · go_wp2_with fail
      go_round
      case rel => exact Or.inr (Or.inr ⟨rfl, rfl⟩)
      case measure => simp [intOf]
    · rw [HC.out]
      go_wp2_with fail
      refine HG.out.mono ?_
      rintro e w1 ⟨v1, rfl, ho1, k1, f1⟩
      have HO1 := hid ho1
      have K1 := hid k1
      have F1 := hid f1
      clear ho1 k1 f1 HG
      obtain ⟨a1, n1, rfl⟩ := own_any HO1.out
      go_wp2_with fail
      go_loopw [6, 27] (fun v6 v27 wr => ∃ k : Nat, k ≤ 2 ∧ v27 = .int .i64 k ∧ Hid (wr.ownsRow 0 5 1 v6 (cat2 p q k).length ((cat2 p q k).map (Value.int .u8))) ∧ Hid (Keeps No w wr) ∧ Hid (Fresh w v6)) (fun _ v27 _ => 2 - (intOf v27).toNat)
      case atStart => exact ⟨0, by omega, rfl, HO1, K1, F1⟩
      case round =>
        obtain ⟨k, hk, rfl, HR, KR, FR⟩ := hrel
        rcases (show k = 0 ∨ k = 1 ∨ k = 2 by omega) with rfl | rfl | rfl
        · obtain ⟨a6, n6, rfl⟩ := own_any HR.out
          have c0' := KR.out.cell (fun h => h) c0
          go_wp2_with (at_builtin; refine wpl_append rfl _ _ 26 rfl 5 i0 (.int .u8 0) 1 1 Try.underlying26 HI.out hz0 hz1 hz2 rfl (by decide) _ _ _ _ _ _ rfl rfl HR.out (HA.out.keep KR.out (fun _ _ h => h)) (bytes_one _) ?c3 ?c4 ?_)
          case c3 => show 0 + p.length ≤ maxLen; unfold maxLen; omega
          case c4 => show (0 + p.length) * 1 ≤ _; omega
          intro v2 w2 ho2 k2 hb2
          have hk2 : Keeps No w w2 := KR.out.trans' k2 (fun _ _ h => h) (fun i hi h => by have := FR.out i h; omega)
          have hf2 := FR.out.app KR.out.size hb2
          have HO2 : Hid (w2.ownsRow 0 5 1 v2 (cat2 p q 1).length ((cat2 p q 1).map (Value.int .u8))) := hid (by simpa [cat2] using ho2)
          have K2 := hid hk2
          have F2 := hid hf2
          clear ho2 k2 hb2 hk2 hf2 c0'
          obtain ⟨a2, n2, rfl⟩ := own_any HO2.out
          go_wp2_with fail
          go_roundw
          case rel => exact ⟨1, by omega, rfl, HO2, K2, F2⟩
          case measure => simp [intOf]
        · obtain ⟨a6, n6, rfl⟩ := own_any HR.out
          have c1' := KR.out.cell (fun h => h) c1
          go_wp2_with (at_builtin; refine wpl_append rfl _ _ 26 rfl 5 i0 (.int .u8 0) 1 1 Try.underlying26 HI.out hz0 hz1 hz2 rfl (by decide) _ _ _ _ _ _ rfl rfl HR.out (HB.out.keep KR.out (fun _ _ h => h)) (bytes_one _) ?c3 ?c4 ?_)
          case c3 => show p.length + q.length ≤ maxLen; unfold maxLen; omega
          case c4 => show (p.length + q.length) * 1 ≤ _; omega
          intro v2 w2 ho2 k2 hb2
          have hk2 : Keeps No w w2 := KR.out.trans' k2 (fun _ _ h => h) (fun i hi h => by have := FR.out i h; omega)
          have hf2 := FR.out.app KR.out.size hb2
          have HO2 : Hid (w2.ownsRow 0 5 1 v2 (cat2 p q 2).length ((cat2 p q 2).map (Value.int .u8))) := hid (by simpa [cat2] using ho2)
          have K2 := hid hk2
          have F2 := hid hf2
          clear ho2 k2 hb2 hk2 hf2 c1'
          obtain ⟨a2, n2, rfl⟩ := own_any HO2.out
          go_wp2_with fail
          go_roundw
          case rel => exact ⟨2, by omega, rfl, HO2, K2, F2⟩
          case measure => simp [intOf]
        · obtain ⟨a6, n6, rfl⟩ := own_any HR.out
          go_wp2_with fail
          go_ret
          refine ⟨_, rfl, ?_, KR.out, FR.out⟩
          have := HR.out
          simpa [cat2] using this

end Go.Proofs.Ythfjihpfcollfaa
