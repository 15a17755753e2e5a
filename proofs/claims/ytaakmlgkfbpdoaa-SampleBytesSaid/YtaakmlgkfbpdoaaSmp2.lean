/-
  The tracker: its functions, said of a list of (last, fresh, lost).
-/
import Derived.Test.YtaakmlgkfbpdoaaCfg
import Derived.Deep.RegionHeld3
import Derived.Deep.CutBlock
import Derived.Deep.DeepCutAuto
import Derived.Deep.QuietTactic
import Derived.BigQuiet
namespace Go.Proofs.Ytaakmlgkfbpdoaa
open Go.RowKit

def encTr (t : Int × Int × Int) : List Value := [.int .u8 t.1, .int .i64 t.2.1, .int .i64 t.2.2]

/-- The tracker at block tb: its row lies in block g. -/
structure Tk (w : World) (tb g : Nat) (L : List (Int × Int × Int)) : Prop where
  blk : BlkL w tb 97 [.slice (some ⟨g, 0, none⟩) L.length L.length]
  row : BlkL w g 101 (L.flatMap encTr)
  ne : tb ≠ g
  few : L.length ≤ 8

theorem Tk.keep {S : Nat → Prop} {w w' : World} {tb g : Nat} {L : List (Int × Int × Int)} (h : Tk w tb g L) (k : Keeps S w w') (h1 : ¬ S tb) (h2 : ¬ S g) : Tk w' tb g L :=
  ⟨h.blk.keep k h1, h.row.keep k h2, h.ne, h.few⟩

theorem Tk.cell {w : World} {tb g : Nat} {L : List (Int × Int × Int)} (h : Tk w tb g L) {k : Nat} (hk : k < L.length) {j : Nat} {u : Value} (hu : (encTr L[k])[j]? = some u) (hj : j < 3) : w.cell? ⟨g, k * 3 + j, none⟩ = some u :=
  h.row.cell (by rw [getElem?_flatMap_enc (size := 3) (fun _ => rfl) L k j hj hk]; exact hu)

/-- What Next answers, and what it leaves of the signal. -/
def nextT (t : Int × Int × Int) (sq : Int) : (Int × Bool) × (Int × Int × Int) :=
  if 0 < t.2.1 then (if sq = t.1 then ((0, false), t) else (((sq - t.1 - 1) % 256, true), (sq, t.2.1 + 1, t.2.2 + (sq - t.1 - 1) % 256))) else ((0, true), (sq, t.2.1 + 1, t.2.2))

section
variable {w : World} {tb g : Nat} {L : List (Int × Int × Int)}

set_option maxHeartbeats 1000000 in
set_option maxRecDepth 100000 in
theorem tof_in (h : Tk w tb g L) {k : Nat} (hk : k < L.length) :
    Calls Try.prog 44 #[.pointer (some ⟨tb, 0, none⟩), .int .i64 k] w fun e w' => e = .returned (.pointer (some ⟨g, k * 3, none⟩)) ∧ w = w' := by
  have c0 := h.blk.cell (o := 0) rfl
  obtain ⟨n, hn⟩ : ∃ n, L.length = n := ⟨_, rfl⟩
  have hf := h.few
  rw [hn] at c0 hk hf
  have d1 : decide ((k : Int) < 0) = false := decide_eq_false (by omega)
  have d2 : decide ((k : Int) ≥ n) = false := decide_eq_false (by omega)
  clear h hn
  go_enter Try.func44, Try.ntmps44
  go_wp2_with fail
  go_ret
  exact ⟨rfl, rfl⟩

set_option maxHeartbeats 1000000 in
set_option maxRecDepth 100000 in
theorem tof_out (h : Tk w tb g L) {z : Int} (hz : z < 0 ∨ (L.length : Int) ≤ z) :
    Calls Try.prog 44 #[.pointer (some ⟨tb, 0, none⟩), .int .i64 z] w fun e w' => e = .returned (.pointer none) ∧ w = w' := by
  have c0 := h.blk.cell (o := 0) rfl
  obtain ⟨n, hn⟩ : ∃ n, L.length = n := ⟨_, rfl⟩
  rw [hn] at c0 hz
  clear h hn
  by_cases h0 : z < 0
  · have d1 : decide (z < 0) = true := decide_eq_true h0
    clear hz
    go_enter Try.func44, Try.ntmps44
    go_wp2_with fail
    go_ret
    exact ⟨rfl, rfl⟩
  · have d1 : decide (z < 0) = false := decide_eq_false h0
    have d2 : decide (z ≥ n) = true := decide_eq_true (by omega)
    clear hz
    go_enter Try.func44, Try.ntmps44
    go_wp2_with fail
    go_ret
    exact ⟨rfl, rfl⟩

theorem Tk.put (h : Tk w tb g L) {k : Nat} (hk : k < L.length) (t : Int × Int × Int) {w' : World} (hw : w' = ((w.setCell ⟨g, k * 3, none⟩ (.int .u8 t.1)).setCell ⟨g, k * 3 + 1, none⟩ (.int .i64 t.2.1)).setCell ⟨g, k * 3 + 2, none⟩ (.int .i64 t.2.2)) :
    Tk w' tb g (L.set k t) ∧ Keeps (fun i => i = g) w w' := by
  have kk : Keeps (fun i => i = g) w w' := by rw [hw]; exact (Keeps.refl _ _).at.at.at
  refine ⟨⟨?_, ?_, h.ne, by simpa using h.few⟩, kk⟩
  · simpa using h.blk.keep kk (fun e => h.ne e)
  · have h1 := ((h.row.set (k * 3) (.int .u8 t.1)).set (k * 3 + 1) (.int .i64 t.2.1)).set (k * 3 + 2) (.int .i64 t.2.2)
    rw [← hw] at h1
    have h2 := setL_flatMap (size := 3) (enc := encTr) (fun _ => rfl) t L k hk
    rw [← h2]
    exact h1

set_option maxHeartbeats 2000000 in
set_option maxRecDepth 100000 in
theorem tnext_in (h : Tk w tb g L) {k : Nat} (hk : k < L.length) (htw : tb < w.heap.size) (hgw : g < w.heap.size) (hb : ∀ t ∈ L, 0 ≤ t.2.1 ∧ t.2.1 ≤ 100000 ∧ 0 ≤ t.2.2 ∧ t.2.2 ≤ 100000000) (sq v : Int) (b : Bool) (hq : 0 ≤ sq ∧ sq ≤ 255) (ht : 0 ≤ L[k].1 ∧ L[k].1 ≤ 255) :
    Calls Try.prog 22 #[.pointer (some ⟨tb, 0, none⟩), .agg #[.int .i64 k, .int .u8 sq, .int .i64 v, .bool b]] w fun e w' => e = .returned (.tuple #[.int .i64 (nextT L[k] sq).1.1, .bool (nextT L[k] sq).1.2]) ∧ Tk w' tb g (L.set k (nextT L[k] sq).2) ∧ Keeps (fun i => i = g) w w' := by
  obtain ⟨hb0, hb1, hb2, hb3⟩ := hb _ (List.getElem_mem hk)
  obtain ⟨W1, hW1⟩ : ∃ W1, w.alloc (.cells #[.int .i64 k, .int .u8 sq, .int .i64 v, .bool b] 47) = W1 := ⟨_, rfl⟩
  have k1 : Keeps No w W1 := by rw [← hW1]; exact (Keeps.refl _ _).alloc _
  have hbx : BlkL W1 w.heap.size 47 [.int .i64 k, .int .u8 sq, .int .i64 v, .bool b] := by rw [← hW1]; exact heap_alloc_new w _
  have h1 := h.keep k1 (fun h => h) (fun h => h)
  have hof := tof_in h1 hk
  obtain ⟨t, hte⟩ : ∃ t, L[k] = t := ⟨_, rfl⟩
  have c0 := h1.cell hk (j := 0) rfl (by omega)
  have c1 := h1.cell hk (j := 1) rfl (by omega)
  have c2 := h1.cell hk (j := 2) rfl (by omega)
  rw [hte] at c0 c1 c2 hb0 hb1 hb2 hb3 ht ⊢
  obtain ⟨a, f, l⟩ := t
  simp only at c0 c1 c2 hb0 hb1 hb2 hb3 ht
  simp only [Nat.add_zero] at c0
  have f0 := h1.row.free (k * 3)
  have f1 := h1.row.free (k * 3 + 1)
  have f2 := h1.row.free (k * 3 + 2)
  have x0 := hbx.cell (o := 0) rfl
  have x1 := hbx.cell (o := 1) rfl
  have HPUT := hid (fun (t : Int × Int × Int) (w' : World) (hw : w' = _) => h1.put hk t hw)
  have HPUT2 := hid (fun (w2 : World) (kk : Keeps No W1 w2) (t : Int × Int × Int) (w' : World) (hw : w' = _) => (h1.keep kk (fun h => h) (fun h => h)).put hk t hw)
  have HSAME : Hid (L.set k (a, f, l) = L) := hid (by rw [← hte]; exact List.set_getElem_self hk)
  have HWE := hid hW1
  have K1 := hid k1
  have H1 := hid h1
  have HOF := hid hof
  obtain ⟨q0, q1⟩ := hq
  obtain ⟨a0, a1⟩ := ht
  clear h hb h1 hof hW1 k1 hbx hte
  by_cases h0 : 0 < f
  · have d1 : decide (f > 0) = true := decide_eq_true h0
    by_cases he : sq = a
    · subst he
      have hn : nextT (sq, f, l) sq = ((0, false), (sq, f, l)) := by simp [nextT, h0]
      rw [hn]
      simp only
      rw [HSAME.out]
      clear hn
      go_enter Try.func22, Try.ntmps22
      go_upto_region 1 with fail
      rw [HWE.out]
      go_wp2_with fail
      with_reducible refine HOF.out.mono ?_
      rintro e w' ⟨rfl, rfl⟩
      go_wp2_with fail
      go_quiet (fail)
      go_wp2_with fail
      go_ret2
      exact ⟨rfl, H1.out.keep (S := No) ((Keeps.refl _ _).drewN _) (fun h => h) (fun h => h), (K1.out.drewN _).no⟩
    · have de : (sq == a) = false := by simpa using he
      have hn : nextT (a, f, l) sq = (((sq - a - 1) % 256, true), (sq, f + 1, l + (sq - a - 1) % 256)) := by simp [nextT, h0, he]
      rw [hn]
      simp only
      clear hn he
      go_enter Try.func22, Try.ntmps22
      go_upto_region 1 with fail
      rw [HWE.out]
      go_wp2_with fail
      with_reducible refine HOF.out.mono ?_
      rintro e w' ⟨rfl, rfl⟩
      go_wp2_with fail
      go_quiet (fail)
      go_wp2_with fail
      go_quiet (fail)
      go_wp2_with fail
      go_ret2
      rename_i n1
      have hp := HPUT2.out (W1.drewN (n1 + nq)) ((Keeps.refl _ _).drewN _) (sq, f + 1, l + (sq - a - 1) % 256) _ rfl
      exact ⟨by simp, hp.1, ((K1.out.drewN _).no).trans' hp.2 (fun _ _ h => h) (fun _ _ h => h)⟩
  · have d1 : decide (f > 0) = false := decide_eq_false h0
    have hn : nextT (a, f, l) sq = ((0, true), (sq, f + 1, l)) := by simp [nextT, h0]
    rw [hn]
    simp only
    clear hn
    go_enter Try.func22, Try.ntmps22
    go_upto_region 1 with fail
    rw [HWE.out]
    go_wp2_with fail
    with_reducible refine HOF.out.mono ?_
    rintro e w' ⟨rfl, rfl⟩
    go_wp2_with fail
    go_ret2
    have hp := HPUT.out (sq, f + 1, l) _ rfl
    exact ⟨by simp, hp.1, K1.out.no.trans' hp.2 (fun _ _ h => h) (fun _ _ h => h)⟩

set_option maxHeartbeats 1000000 in
set_option maxRecDepth 100000 in
theorem tnext_out (h : Tk w tb g L) {z : Int} (hz : z < 0 ∨ (L.length : Int) ≤ z) (sq v : Int) (b : Bool) :
    Calls Try.prog 22 #[.pointer (some ⟨tb, 0, none⟩), .agg #[.int .i64 z, .int .u8 sq, .int .i64 v, .bool b]] w fun e w' => e = .returned (.tuple #[.int .i64 0, .bool false]) ∧ Keeps No w w' := by
  obtain ⟨W1, hW1⟩ : ∃ W1, w.alloc (.cells #[.int .i64 z, .int .u8 sq, .int .i64 v, .bool b] 47) = W1 := ⟨_, rfl⟩
  have k1 : Keeps No w W1 := by rw [← hW1]; exact (Keeps.refl _ _).alloc _
  have hbx : BlkL W1 w.heap.size 47 [.int .i64 z, .int .u8 sq, .int .i64 v, .bool b] := by rw [← hW1]; exact heap_alloc_new w _
  have h1 := h.keep k1 (fun h => h) (fun h => h)
  have hof := tof_out h1 hz
  have x0 := hbx.cell (o := 0) rfl
  have HWE := hid hW1
  have K1 := hid k1
  have HOF := hid hof
  clear h hz h1 hof hW1 k1 hbx
  go_enter Try.func22, Try.ntmps22
  go_upto_region 1 with fail
  rw [HWE.out]
  go_wp2_with fail
  with_reducible refine HOF.out.mono ?_
  rintro e w' ⟨rfl, rfl⟩
  go_wp2_with fail
  go_ret2
  exact ⟨rfl, K1.out⟩

set_option maxHeartbeats 1000000 in
set_option maxRecDepth 100000 in
theorem tof_nil (z : Int) : Calls Try.prog 44 #[.pointer none, .int .i64 z] w fun e w' => e = .returned (.pointer none) ∧ w = w' := by
  go_enter Try.func44, Try.ntmps44
  go_wp2_with fail
  go_ret
  exact ⟨rfl, rfl⟩

set_option maxHeartbeats 1000000 in
set_option maxRecDepth 100000 in
theorem tnext_nil (z sq v : Int) (b : Bool) :
    Calls Try.prog 22 #[.pointer none, .agg #[.int .i64 z, .int .u8 sq, .int .i64 v, .bool b]] w fun e w' => e = .returned (.tuple #[.int .i64 0, .bool false]) ∧ Keeps No w w' := by
  go_enter Try.func22, Try.ntmps22
  go_wp2_with fail
  with_reducible refine (tof_nil _).mono ?_
  rintro e w' ⟨rfl, rfl⟩
  go_wp2_with fail
  go_ret2
  exact ⟨rfl, (Keeps.refl _ _).alloc _⟩

set_option maxHeartbeats 1000000 in
set_option maxRecDepth 100000 in
theorem tcount_in (h : Tk w tb g L) {k : Nat} (hk : k < L.length) :
    Calls Try.prog 24 #[.pointer (some ⟨tb, 0, none⟩), .int .i64 k] w fun e w' => e = .returned (.tuple #[.int .i64 L[k].2.1, .int .i64 L[k].2.2]) ∧ Keeps No w w' := by
  have hof := tof_in h hk
  have c1 := h.cell hk (j := 1) rfl (by omega)
  have c2 := h.cell hk (j := 2) rfl (by omega)
  have HOF := hid hof
  obtain ⟨t, hte⟩ : ∃ t, L[k] = t := ⟨_, rfl⟩
  rw [hte] at c1 c2 ⊢
  clear h hof hte
  go_enter Try.func24, Try.ntmps24
  go_wp2_with fail
  with_reducible refine HOF.out.mono ?_
  rintro e w' ⟨rfl, rfl⟩
  go_wp2_with fail
  go_quiet (fail)
  go_wp2_with fail
  go_ret2
  exact ⟨rfl, (Keeps.refl _ _).drewN _⟩

set_option maxHeartbeats 1000000 in
set_option maxRecDepth 100000 in
theorem tcount_out (h : Tk w tb g L) {z : Int} (hz : z < 0 ∨ (L.length : Int) ≤ z) :
    Calls Try.prog 24 #[.pointer (some ⟨tb, 0, none⟩), .int .i64 z] w fun e w' => e = .returned (.tuple #[.int .i64 0, .int .i64 0]) ∧ Keeps No w w' := by
  have hof := tof_out h hz
  have HOF := hid hof
  clear h hz hof
  go_enter Try.func24, Try.ntmps24
  go_wp2_with fail
  with_reducible refine HOF.out.mono ?_
  rintro e w' ⟨rfl, rfl⟩
  go_wp2_with fail
  go_ret2
  exact ⟨rfl, Keeps.refl _ _⟩

end

theorem run_make_tr {P : Program} {t e : TypeId} {z : Value} {size bytes : Nat} (ht : P.underlying t = some (.slice e)) (hi : (P.info? e).map (fun i => (i.zero, i.size, i.bytes)) = some (some z, size, bytes)) (n : Nat) (hb : bytes * n ≤ 281474976710656) (hn : n ≤ 1000000) (w : World) :
    (Instr.makeSlice t (.int .i64 (n : Int)) (.int .i64 (n : Int))).run P w = .ok (.slice (some ⟨w.heap.size, 0, none⟩) n n) (w.alloc (.cells (madeCells z.cells (n * size)) e)) := by
  obtain ⟨i, hi, hz, hs, hb'⟩ : ∃ i, P.info? e = some i ∧ i.zero = some z ∧ i.size = size ∧ i.bytes = bytes := by
    cases h : P.info? e with
    | none => simp [h] at hi
    | some i => simp [h] at hi; exact ⟨i, rfl, hi.1, hi.2.1, hi.2.2⟩
  have := run_make (P := P) (w := w) t e i z ht hi hz .i64 .i64 (n : Int) (n : Int) (by omega) (Int.le_refl _) (by rw [hb', ← Int.natCast_mul]; omega) (by omega)
  rw [this, hs]
  simp

theorem info_tr : (Try.prog.info? 101).map (fun i => (i.zero, i.size, i.bytes)) = some (some (.agg #[.int .u8 0, .int .i64 0, .int .i64 0]), 3, 24) := by kernel_rfl

/-- As many as it is told, from 0 to 8. -/
def capN (n : Int) : Nat := if n < 0 then 0 else if 8 < n then 8 else n.toNat

set_option maxHeartbeats 2000000 in
set_option maxRecDepth 100000 in
theorem tnew_any (w : World) (n : Int) :
    Calls Try.prog 21 #[.int .i64 n] w fun e w' => ∃ tb g, e = .returned (.pointer (some ⟨tb, 0, none⟩)) ∧ Tk w' tb g (List.replicate (capN n) (0, 0, 0)) ∧ Keeps No w w' ∧ w.heap.size ≤ tb ∧ w.heap.size ≤ g := by
  obtain ⟨m, hm⟩ : ∃ m, capN n = m := ⟨_, rfl⟩
  have hm8 : m ≤ 8 := by rw [← hm]; unfold capN; split; omega; split <;> omega
  have hmk := fun W => run_make_tr (P := Try.prog) Try.underlying95 info_tr m (by omega) (by omega) W
  have hz : ∀ W : World, BlkL (W.alloc (.cells (madeCells (Value.agg #[.int .u8 0, .int .i64 0, .int .i64 0]).cells (m * 3)) 101)) W.heap.size 101 ((List.replicate m ((0 : Int), (0 : Int), (0 : Int))).flatMap encTr) := fun W => by
    have := made_enc (size := 3) (enc := encTr) (fun _ => rfl) (by decide) ((0 : Int), (0 : Int), (0 : Int)) (Value.agg #[.int .u8 0, .int .i64 0, .int .i64 0]).cells rfl m
    have h2 := heap_alloc_new W (.cells (madeCells (Value.agg #[.int .u8 0, .int .i64 0, .int .i64 0]).cells (m * 3)) 101)
    unfold BlkL
    rw [← this]
    simpa using h2
  have HZ := hid hz
  have hcs : (n < 0 ∧ m = 0) ∨ (0 ≤ n ∧ 8 < n ∧ m = 8) ∨ (0 ≤ n ∧ n ≤ 8 ∧ n = m) := by
    unfold capN at hm
    split at hm
    · exact Or.inl ⟨by assumption, hm.symm⟩
    · split at hm
      · exact Or.inr (Or.inl ⟨by omega, by assumption, hm.symm⟩)
      · exact Or.inr (Or.inr ⟨by omega, by omega, by omega⟩)
  rw [hm]
  clear hm hz
  have fin : ∀ (zc : Array Value), zc = madeCells (Value.agg #[.int .u8 0, .int .i64 0, .int .i64 0]).cells (m * 3) → let W1 := w.alloc (.cells zc 101); let W2 := W1.alloc (.cells #[.slice (some ⟨w.heap.size, 0, none⟩) m m] 97)
      Tk W2 (w.heap.size + 1) w.heap.size (List.replicate m (0, 0, 0)) ∧ Keeps No w W2 := fun zc hzc => by
    subst hzc
    refine ⟨⟨?_, ?_, by omega, by simpa using hm8⟩, ((Keeps.refl _ _).alloc _).alloc _⟩
    · have h2 := heap_alloc_new (w.alloc (.cells (madeCells (Value.agg #[.int .u8 0, .int .i64 0, .int .i64 0]).cells (m * 3)) 101)) (.cells #[.slice (some ⟨w.heap.size, 0, none⟩) m m] 97)
      simpa [BlkL] using h2
    · exact (HZ.out w).keep (S := No) ((Keeps.refl _ _).alloc _) (fun h => h)
  have HFIN := hid fin
  clear fin
  rcases hcs with ⟨h0, hm⟩ | ⟨h0, h1, hm⟩ | ⟨h0, h1, hm⟩
  · subst hm
    have hmk0 : ∀ W : World, (Instr.makeSlice 95 (.int .i64 0) (.int .i64 0)).run Try.prog W = .ok (.slice (some ⟨W.heap.size, 0, none⟩) 0 0) (W.alloc (.cells (madeCells (Value.agg #[.int .u8 0, .int .i64 0, .int .i64 0]).cells (0 * 3)) 101)) := fun W => hmk W
    clear hmk
    go_enter Try.func21, Try.ntmps21
    go_wp2_with fail
    go_ret
    exact ⟨_, rfl, _, (HFIN.out _ rfl).1, (HFIN.out _ rfl).2, by simp, Nat.le_refl _⟩
  · subst hm
    have hmk0 : ∀ W : World, (Instr.makeSlice 95 (.int .i64 8) (.int .i64 8)).run Try.prog W = .ok (.slice (some ⟨W.heap.size, 0, none⟩) 8 8) (W.alloc (.cells (madeCells (Value.agg #[.int .u8 0, .int .i64 0, .int .i64 0]).cells (8 * 3)) 101)) := fun W => hmk W
    clear hmk
    go_enter Try.func21, Try.ntmps21
    go_wp2_with fail
    go_ret
    exact ⟨_, rfl, _, (HFIN.out _ rfl).1, (HFIN.out _ rfl).2, by simp, Nat.le_refl _⟩
  · subst hm
    go_enter Try.func21, Try.ntmps21
    go_wp2_with fail
    go_ret
    exact ⟨_, rfl, _, (HFIN.out _ rfl).1, (HFIN.out _ rfl).2, by simp, Nat.le_refl _⟩

end Go.Proofs.Ytaakmlgkfbpdoaa
