/-
  A writer of bytes, and a copy of bytes: what each of their functions does.
-/
import Derived.Test.YtlenhccdkhgfgaaDoorBytes
import Derived.Lib.SliceRun
namespace Go.Proofs.YtlenhccdkhgfgaaDoor
open Go.RowKit

set_option maxHeartbeats 1000000 in
set_option maxRecDepth 100000 in
theorem clone_any {w : World} {v : Value} {p : List Int} (h : SlB w v p) (hl : p.length ≤ 100000) :
    Calls Tryd.prog 47 #[v] w fun e w' => ∃ v', e = .returned v' ∧ w'.ownsRow 0 5 1 v' p.length (p.map (Value.int .u8)) ∧ Keeps No w w' ∧ ∀ k, v'.ownBlock = some k → w.heap.size ≤ k := by
  obtain ⟨i0, hi, hz0, hz1, hz2⟩ := info_parts info_byte
  obtain ⟨ao, cap, rfl⟩ := h.any
  have qT : ∀ (w : World) (a : Option Addr) (n c : Nat), (binOp .eql 23 (.slice a n c) (.slice none 0 0)).run Tryd.prog w = .ok (.bool a.isNone) w := fun w a n c => Lib.run_eql_slice_nil w _ _ a n c 0 0 Tryd.underlying23
  have HI := hid hi
  have H := hid h
  rcases ao with _ | ad
  · obtain ⟨hl0, hc0⟩ : p.length = 0 ∧ cap = 0 := by
      obtain ⟨_, _, a', cap', hv, hc, hn, _⟩ := h
      simp only [Value.slice.injEq] at hv
      obtain ⟨rfl, _, rfl⟩ := hv
      exact hn rfl
    obtain rfl : p = [] := List.length_eq_zero_iff.1 hl0
    subst hc0
    clear h hi hl0
    go_enter Tryd.func47, Tryd.ntmps47
    go_wp2_with fail
    go_ret
    exact ⟨_, rfl, World.ownsRow_nil _ _ _ _, Keeps.refl _ _, fun k hk => by simp [Value.ownBlock] at hk⟩
  · clear h hi
    go_enter Tryd.func47, Tryd.ntmps47
    go_wp2_with (at_builtin; refine wpl_append rfl _ _ 23 rfl 5 i0 (.int .u8 0) 1 1 Tryd.underlying23 HI.out hz0 hz1 hz2 rfl (by decide) _ _ _ _ _ _ rfl rfl (own_empty _ _ _) (H.out.alloc _) (bytes_one _) ?c3 ?c4 ?_)
    case c3 => unfold maxLen; omega
    case c4 => omega
    intro v1 w1 ho1 k1 hb1
    replace ho1 : w1.ownsRow 0 5 1 v1 p.length (p.map (Value.int .u8)) := by simpa using ho1
    have hk1 : Keeps No w w1 := ((Keeps.refl No w).alloc _).trans' k1 (fun _ _ h => h) (fun i hi h => by simp [Bl, Value.ownBlock] at h; omega)
    have hb1' : ∀ k, v1.ownBlock = some k → w.heap.size ≤ k := fun k hk => by
      rcases hb1 k hk with h | h
      · simp [Value.ownBlock] at h; omega
      · have h1 : w.heap.size + 1 ≤ k := by simpa using h
        omega
    have HO1 := hid ho1
    have K1 := hid hk1
    have B1 := hid hb1'
    clear ho1 k1 hb1 hk1 hb1'
    go_wp2_with fail
    go_ret
    exact ⟨_, rfl, HO1.out, K1.out, B1.out⟩

/-- The writer at block wb has laid the bytes l; F are the blocks that it stands in. -/
def Wr (w : World) (wb : Nat) (F : Nat → Prop) (l : List Int) : Prop :=
  ∃ v, w.heap[wb]? = some (.cells #[v] 63 (0, 0)) ∧ w.ownsRow 0 5 1 v l.length (l.map (Value.int .u8)) ∧ v.ownBlock ≠ some wb ∧ ∀ k, F k ↔ k = wb ∨ v.ownBlock = some k

theorem Wr.keep {S : Nat → Prop} {w w' : World} {wb : Nat} {F : Nat → Prop} {l : List Int} (h : Wr w wb F l) (k : Keeps S w w') (hs : ∀ i, F i → ¬ S i) : Wr w' wb F l := by
  obtain ⟨v, h1, h2, h3, h4⟩ := h
  exact ⟨v, k.heap (hs wb ((h4 wb).2 (Or.inl rfl))) h1, k.own h2 (fun i hi => hs i ((h4 i).2 (Or.inr hi))), h3, h4⟩

theorem Wr.lt {w : World} {wb : Nat} {F : Nat → Prop} {l : List Int} (h : Wr w wb F l) : ∀ k, F k → k < w.heap.size := by
  obtain ⟨v, h1, h2, h3, h4⟩ := h
  intro k hk
  rcases (h4 k).1 hk with rfl | h
  · exact lt_of_block h1
  · exact (h2.lt k h).2

/-- A new writer. -/
theorem Wr.new (w : World) : Wr (w.alloc (.cells #[.slice none 0 0] 63)) w.heap.size (fun k => k = w.heap.size) [] :=
  ⟨.slice none 0 0, heap_alloc_new w _, World.ownsRow_nil _ _ _ _, by simp [Value.ownBlock], fun k => by simp [Value.ownBlock]⟩

section
variable {w : World} {wb : Nat} {F : Nat → Prop} {l : List Int}

set_option maxHeartbeats 1000000 in
set_option maxRecDepth 100000 in
theorem lay_any (h : Wr w wb F l) {pv : Value} {q : List Int} (hq : SlB w pv q) (hl : l.length + q.length ≤ 100000) :
    Calls Tryd.prog 81 #[.pointer (some ⟨wb, 0, none⟩), pv] w fun e w' => e = .returned (.pointer (some ⟨wb, 0, none⟩)) ∧ ∃ F', Wr w' wb F' (l ++ q) ∧ Upd F w w' F' := by
  obtain ⟨v, h1, h2, h3, h4⟩ := h
  obtain ⟨i0, hi, hz0, hz1, hz2⟩ := info_parts info_byte
  obtain ⟨aq, cq, rfl⟩ := hq.any
  have c0 := cell_at (i := 0) h1 rfl
  have HI := hid hi
  have H1 := hid h1
  have H2 := hid h2
  have H3 := hid h3
  have H4 := hid h4
  have HQ := hid hq
  obtain ⟨av, cv, rfl⟩ := own_any h2
  clear h1 h2 h3 h4 hi hq
  go_enter Tryd.func81, Tryd.ntmps81
  go_wp2_with (at_builtin; refine wpl_append rfl _ _ 23 rfl 5 i0 (.int .u8 0) 1 1 Tryd.underlying23 HI.out hz0 hz1 hz2 rfl (by decide) _ _ _ _ _ _ rfl rfl H2.out HQ.out (bytes_one _) ?c3 ?c4 ?_)
  case c3 => unfold maxLen; omega
  case c4 => omega
  intro v1 w1 ho1 k1 hb1
  rw [← List.map_append] at ho1
  have hh1 := k1.heap (fun h => H3.out h) H1.out
  have d0 := cell_at (i := 0) hh1 rfl
  have f0 := free_at (i := 0) hh1
  have HH := hid hh1
  have HO1 := hid ho1
  have K1 := hid k1
  have B1 := hid hb1
  obtain ⟨a1, c1, rfl⟩ := own_any ho1
  clear ho1 k1 hb1 hh1 c0
  go_wp2_with fail
  go_ret
  have hne : (Value.slice a1 (l.length + q.length) c1).ownBlock ≠ some wb := fun e => by
    rcases B1.out wb e with h | h
    · exact H3.out h
    · have := lt_of_block H1.out; omega
  refine ⟨rfl, fun k => k = wb ∨ (Value.slice a1 (l.length + q.length) c1).ownBlock = some k, ⟨.slice a1 (l.length + q.length) c1, ?_, ?_, hne, fun k => Iff.rfl⟩, ⟨?_, ?_⟩⟩
  · have := heap_setCell_at (i := 0) (v := .slice a1 (l.length + q.length) c1) HH.out
    simpa using this
  · have := ownsRow_setCell_other (a := ⟨wb, 0, none⟩) HO1.out hne (.slice a1 (l.length + q.length) c1)
    rw [List.length_append]; exact this
  · exact (K1.out.mono (fun k _ hk => (H4.out k).2 (Or.inr hk))).setCell (p := ⟨wb, 0, none⟩) (Or.inr ((H4.out wb).2 (Or.inl rfl))) _
  · intro k hk
    rcases hk with rfl | hk
    · exact Or.inl ((H4.out k).2 (Or.inl rfl))
    · rcases B1.out k hk with h | h
      · exact Or.inl ((H4.out k).2 (Or.inr h))
      · exact Or.inr h

/-- A step behind an allocation that the call itself makes. -/
theorem wr_pre (h : Wr w wb F l) (o : Obj) : Wr (w.alloc o) wb F l := h.keep (S := No) ((Keeps.refl _ _).alloc o) (fun _ _ h => h)

set_option maxHeartbeats 1000000 in
set_option maxRecDepth 100000 in
theorem wbyte_any (h : Wr w wb F l) (b : Int) (hl : l.length + 1 ≤ 100000) :
    Calls Tryd.prog 60 #[.pointer (some ⟨wb, 0, none⟩), .int .u8 b] w fun e w' => e = .returned (.pointer (some ⟨wb, 0, none⟩)) ∧ ∃ F', Wr w' wb F' (l ++ [b]) ∧ Upd F w w' F' := by
  have hh := lay_any (wr_pre h (.cells #[.int .u8 b] 5)) (q := [b]) (Sl.new _ _ _ 1 1 rfl (by decide)) (by simpa using hl)
  have HH := hid hh
  clear h hh
  go_enter Tryd.func60, Tryd.ntmps60
  go_wp2_with fail
  refine HH.out.mono ?_
  rintro e w' ⟨rfl, F', h', u'⟩
  have H' := hid h'
  have U' := hid u'
  clear h' u'
  go_wp2_with fail
  go_ret
  exact ⟨rfl, F', H'.out, Upd.behind ((Keeps.refl _ _).alloc _) U'.out⟩

/-- A truth's byte. -/
def flagB (b : Bool) : Int := if b then 1 else 0

set_option maxHeartbeats 1000000 in
set_option maxRecDepth 100000 in
theorem wflag_any (h : Wr w wb F l) (b : Bool) (hl : l.length + 1 ≤ 100000) :
    Calls Tryd.prog 66 #[.pointer (some ⟨wb, 0, none⟩), .bool b] w fun e w' => e = .returned (.pointer (some ⟨wb, 0, none⟩)) ∧ ∃ F', Wr w' wb F' (l ++ [flagB b]) ∧ Upd F w w' F' := by
  have hh := lay_any (wr_pre h (.cells #[.int .u8 (flagB b)] 5)) (q := [flagB b]) (Sl.new _ _ _ 1 1 rfl (by decide)) (by simpa using hl)
  have HH := hid hh
  clear h hh
  cases b
  all_goals
    go_enter Tryd.func66, Tryd.ntmps66
    go_wp2_with fail
    refine HH.out.mono ?_
    rintro e w' ⟨rfl, F', h', u'⟩
    have H' := hid h'
    have U' := hid u'
    clear h' u'
    go_wp2_with fail
    go_ret
    exact ⟨rfl, F', H'.out, Upd.behind ((Keeps.refl _ _).alloc _) U'.out⟩

/-- The four bytes of a number. -/
def int4 (n : Int) : List Int := [n / 16777216 % 256, n / 65536 % 256, n / 256 % 256, n % 256]

set_option maxHeartbeats 1000000 in
set_option maxRecDepth 100000 in
theorem wint_any (h : Wr w wb F l) (n : Int) (hl : l.length + 4 ≤ 100000) :
    Calls Tryd.prog 62 #[.pointer (some ⟨wb, 0, none⟩), .int .i64 n] w fun e w' => e = .returned (.pointer (some ⟨wb, 0, none⟩)) ∧ ∃ F', Wr w' wb F' (l ++ int4 n) ∧ Upd F w w' F' := by
  have hh := lay_any (wr_pre h (.cells #[.int .u8 (n / 16777216 % 256), .int .u8 (n / 65536 % 256), .int .u8 (n / 256 % 256), .int .u8 (n % 256)] 5)) (q := int4 n) (Sl.new _ _ _ 1 4 rfl (by decide)) (by simpa [int4] using hl)
  have HH := hid hh
  have e0 : IntKind.u8.wrap (n / 16777216) = n / 16777216 % 256 := by rw [IntKind.wrap_u8]
  have e1 : IntKind.u8.wrap (n / 65536) = n / 65536 % 256 := by rw [IntKind.wrap_u8]
  have e2 : IntKind.u8.wrap (n / 256) = n / 256 % 256 := by rw [IntKind.wrap_u8]
  have e3 : IntKind.u8.wrap n = n % 256 := by rw [IntKind.wrap_u8]
  clear h hh
  go_enter Tryd.func62, Tryd.ntmps62
  go_wp2_with fail
  refine HH.out.mono ?_
  rintro e w' ⟨rfl, F', h', u'⟩
  have H' := hid h'
  have U' := hid u'
  clear h' u'
  go_wp2_with fail
  go_ret
  exact ⟨rfl, F', H'.out, Upd.behind ((Keeps.refl _ _).alloc _) U'.out⟩

set_option maxHeartbeats 1000000 in
set_option maxRecDepth 100000 in
theorem wbytes_any (h : Wr w wb F l) (hl : l.length ≤ 100000) :
    Calls Tryd.prog 24 #[.pointer (some ⟨wb, 0, none⟩)] w fun e w' => ∃ v', e = .returned v' ∧ w'.ownsRow 0 5 1 v' l.length (l.map (Value.int .u8)) ∧ Keeps No w w' ∧ ∀ k, v'.ownBlock = some k → w.heap.size ≤ k := by
  obtain ⟨v, h1, h2, h3, h4⟩ := h
  have c0 := cell_at (i := 0) h1 rfl
  have HC := hid (clone_any (Sl.ofOwn h2) hl)
  clear h1 h2 h3 h4
  go_enter Tryd.func24, Tryd.ntmps24
  go_wp2_with fail
  refine HC.out.mono ?_
  rintro e w' ⟨v', rfl, ho, hk, hb⟩
  have HO := hid ho
  have HK := hid hk
  have HB := hid hb
  clear ho hk hb HC
  go_wp2_with fail
  go_ret
  exact ⟨_, rfl, HO.out, HK.out, HB.out⟩

end

end Go.Proofs.YtlenhccdkhgfgaaDoor
