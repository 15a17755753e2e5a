/-
  A scanner: Feed, Lost, Held.
-/
import Derived.Test.YthfjihpfcollfaaFr6
namespace Go.Proofs.Ythfjihpfcollfaa
open Go.RowKit

theorem info_bytes : (Try.prog.info? 26).map (fun i => (i.zero, i.size, i.bytes)) = some (some (.slice none 0 0), 1, 24) := by kernel_rfl

/-- Slices that read these lists. -/
def RdAll (w : World) : List Value → List (List Int) → Prop
  | [], [] => True
  | u :: vs, m :: L => SlB w u m ∧ RdAll w vs L
  | _, _ => False

theorem RdAll.len {w : World} : ∀ {vs : List Value} {L : List (List Int)}, RdAll w vs L → vs.length = L.length
  | [], [], _ => rfl
  | [], _ :: _, h => h.elim
  | _ :: _, [], h => h.elim
  | _ :: vs, _ :: L, h => by simp [RdAll.len h.2]

theorem RdAll.snoc {w : World} {u : Value} {m : List Int} (hu : SlB w u m) : ∀ {vs : List Value} {L : List (List Int)}, RdAll w vs L → RdAll w (vs ++ [u]) (L ++ [m])
  | [], [], _ => ⟨hu, trivial⟩
  | [], _ :: _, h => h.elim
  | _ :: _, [], h => h.elim
  | _ :: vs, _ :: L, h => ⟨h.1, RdAll.snoc hu h.2⟩

theorem RdAll.app {w : World} : ∀ {vs : List Value} {L : List (List Int)} {us : List Value} {M : List (List Int)}, RdAll w vs L → RdAll w us M → RdAll w (vs ++ us) (L ++ M)
  | [], [], _, _, _, h => h
  | [], _ :: _, _, _, h, _ => h.elim
  | _ :: _, [], _, _, h, _ => h.elim
  | _ :: vs, _ :: L, _, _, h, k => ⟨h.1, RdAll.app h.2 k⟩

theorem RdAll.keep {S : Nat → Prop} {w w' : World} (k : Keeps S w w') : ∀ {vs : List Value} {L : List (List Int)}, RdAll w vs L → (∀ u ∈ vs, ∀ b, u.ownBlock = some b → ¬ S b) → RdAll w' vs L
  | [], [], _, _ => trivial
  | [], _ :: _, h, _ => h.elim
  | _ :: _, [], h, _ => h.elim
  | u :: vs, _ :: L, h, hs => ⟨h.1.keep k (hs u (by simp)), RdAll.keep k h.2 (fun x hx => hs x (by simp [hx]))⟩

theorem RdAll.at {w : World} : ∀ {vs : List Value} {L : List (List Int)}, RdAll w vs L → ∀ (i : Nat) (h : i < L.length), ∃ u, vs[i]? = some u ∧ SlB w u L[i]
  | [], [], _, i, h => by simp at h
  | [], _ :: _, h, _, _ => h.elim
  | _ :: _, [], h, _, _ => h.elim
  | u :: vs, m :: L, h, 0, _ => ⟨u, rfl, h.1⟩
  | u :: vs, m :: L, h, i + 1, hi => by
    obtain ⟨x, h1, h2⟩ := RdAll.at h.2 i (by simpa using hi)
    exact ⟨x, by simpa using h1, by simpa using h2⟩

/-- What a value owns was made since, and is there. -/
def New (w wr : World) (u : Value) : Prop := ∀ k, u.ownBlock = some k → w.heap.size ≤ k ∧ k < wr.heap.size

theorem New.later {w wr wr' : World} {u : Value} (h : New w wr u) (k : wr.heap.size ≤ wr'.heap.size) : New w wr' u := fun i hi => ⟨(h i hi).1, Nat.lt_of_lt_of_le (h i hi).2 k⟩

theorem own_lt {w : World} {e : TypeId} {size n : Nat} {v : Value} {xs : List Value} (h : w.ownsRow 0 e size v n xs) : ∀ k, v.ownBlock = some k → k < w.heap.size := fun k hk => (h.lt k hk).2

/-- A scanner at block sb: what waits, how many were lost; it stands in blocks of F. -/
structure ScP (w : World) (sb : Nat) (F : Nat → Prop) (q : List Int) (l : Nat) (lv : Value) : Prop where
  blk : w.heap[sb]? = some (.cells #[lv, .int .i64 (l : Int)] 70 (0, 0))
  sl : SlB w lv q
  sb : F sb
  own : ∀ k, lv.ownBlock = some k → F k
  byt : Bytes q

def ScS (w : World) (sb : Nat) (F : Nat → Prop) (q : List Int) (l : Nat) : Prop := ∃ lv, ScP w sb F q l lv

theorem ScS.keep {S : Nat → Prop} {w w' : World} {sb : Nat} {F : Nat → Prop} {q : List Int} {l : Nat} (h : ScS w sb F q l) (k : Keeps S w w') (hs : ∀ i, F i → ¬ S i) : ScS w' sb F q l := by
  obtain ⟨lv, h⟩ := h
  exact ⟨lv, k.heap (hs sb h.sb) h.blk, h.sl.keep k (fun i hi => hs i (h.own i hi)), h.sb, h.own, h.byt⟩

theorem ScS.bytes {w : World} {sb : Nat} {F : Nat → Prop} {q : List Int} {l : Nat} (h : ScS w sb F q l) : Bytes q := h.choose_spec.byt

theorem ScS.has {w : World} {sb : Nat} {F : Nat → Prop} {q : List Int} {l : Nat} (h : ScS w sb F q l) : F sb := h.choose_spec.sb

section
variable {w : World} {sb l : Nat} {F : Nat → Prop} {q : List Int}

set_option maxHeartbeats 1000000 in
set_option maxRecDepth 100000 in
theorem new_any : Calls Try.prog 20 #[] w fun e w' => ∃ F, e = .returned (.pointer (some ⟨w.heap.size, 0, none⟩)) ∧ ScS w' w.heap.size F [] 0 ∧ Keeps No w w' ∧ (∀ k, F k → k = w.heap.size) := by
  go_enter Try.func20, Try.ntmps20
  go_wp2_with fail
  go_ret
  exact ⟨fun k => k = w.heap.size, rfl, ⟨.slice none 0 0, heap_alloc_new w _, Sl.nil _ _, rfl, fun k hk => by simp [Value.ownBlock] at hk, fun x hx => by simp at hx⟩, (Keeps.refl _ _).alloc _, fun k hk => hk⟩

set_option maxHeartbeats 1000000 in
set_option maxRecDepth 100000 in
theorem lost_any (h : ScS w sb F q l) : Calls Try.prog 23 #[.pointer (some ⟨sb, 0, none⟩)] w fun e w' => e = .returned (.int .i64 (l : Int)) ∧ w = w' := by
  obtain ⟨lv, h⟩ := h
  have c1 := cell_at (i := 1) h.blk rfl
  clear h
  go_enter Try.func23, Try.ntmps23
  go_wp2_with fail
  go_ret
  exact ⟨rfl, rfl⟩

set_option maxHeartbeats 1000000 in
set_option maxRecDepth 100000 in
theorem held_any (h : ScS w sb F q l) : Calls Try.prog 24 #[.pointer (some ⟨sb, 0, none⟩)] w fun e w' => e = .returned (.int .i64 (q.length : Int)) ∧ w = w' := by
  obtain ⟨lv, h⟩ := h
  obtain ⟨a, c, rfl⟩ := h.sl.any
  have c0 := cell_at (i := 0) h.blk rfl
  clear h
  go_enter Try.func24, Try.ntmps24
  go_wp2_with fail
  go_ret
  exact ⟨rfl, rfl⟩

set_option maxHeartbeats 1000000 in
set_option maxRecDepth 100000 in
theorem lost_nil : Calls Try.prog 23 #[.pointer none] w fun e w' => e = .returned (.int .i64 0) ∧ w = w' := by
  go_enter Try.func23, Try.ntmps23
  go_wp2_with fail
  go_ret
  exact ⟨rfl, rfl⟩

set_option maxHeartbeats 1000000 in
set_option maxRecDepth 100000 in
theorem held_nil : Calls Try.prog 24 #[.pointer none] w fun e w' => e = .returned (.int .i64 0) ∧ w = w' := by
  go_enter Try.func24, Try.ntmps24
  go_wp2_with fail
  go_ret
  exact ⟨rfl, rfl⟩

set_option maxHeartbeats 1000000 in
set_option maxRecDepth 100000 in
theorem feed_nil (v : Value) : Calls Try.prog 22 #[.pointer none, v] w fun e w' => e = .returned (.slice none 0 0) ∧ w = w' := by
  go_enter Try.func22, Try.ntmps22
  go_wp2_with fail
  go_ret
  exact ⟨rfl, rfl⟩

end

/-- What Feed's loop has: of P these frames are told, so many bytes are lost, r is left. -/
structure FdL (w wr : World) (sb l : Nat) (lv : Value) (P : List Int) (T : List (List Int)) (lost : Nat) (r : List Int) (vs : List Value) (v5 v6 : Value) : Prop where
  sc : scan P = ⟨T ++ (scan r).out, lost + (scan r).lost, (scan r).rest⟩
  left : SlB wr v6 r
  lnew : New w wr v6
  byt : Bytes r
  told : wr.ownsRow 0 26 1 v5 vs.length vs
  tnew : New w wr v5
  rd : RdAll wr vs T
  vnew : ∀ u ∈ vs, New w wr u
  vsoft : ∀ u ∈ vs, Soft wr u
  sep6 : ∀ k, v5.ownBlock = some k → v6.ownBlock ≠ some k
  sepv : ∀ u ∈ vs, ∀ k, v5.ownBlock = some k → u.ownBlock ≠ some k
  blk : wr.heap[sb]? = some (.cells #[lv, .int .i64 ((l + lost : Nat) : Int)] 70 (0, 0))
  keep : Keeps (fun k => k = sb) w wr
  num : T.length + lost + r.length ≤ P.length

def lenOf : Value → Nat
  | .slice _ n _ => n
  | _ => 0

/-- What Feed answers. -/
structure FeedP (w w' : World) (sb : Nat) (F : Nat → Prop) (s : Sc) (l : Nat) (tv : Value) : Prop where
  ex : ∃ (vs : List Value) (F' : Nat → Prop), w'.ownsRow 0 26 1 tv vs.length vs ∧ RdAll w' vs s.out ∧ ScS w' sb F' s.rest (l + s.lost) ∧ Upd F w w' F' ∧ New w w' tv ∧ (∀ u ∈ vs, New w w' u) ∧
    (∀ k, tv.ownBlock = some k → ¬ F' k) ∧ (∀ u ∈ vs, ∀ k, u.ownBlock = some k → ¬ F' k) ∧ (∀ u ∈ vs, ∀ k, tv.ownBlock = some k → u.ownBlock ≠ some k) ∧ (∀ k, F' k → k < w'.heap.size) ∧ (∀ u ∈ vs, Soft w' u)


section
variable {w wr : World} {sb l : Nat} {lv : Value} {P : List Int} {T : List (List Int)} {lost : Nat} {r : List Int} {vs : List Value} {v5 v6 : Value}

theorem New.ne {u : Value} (h : New w wr u) (hsb : sb < w.heap.size) : ∀ k, u.ownBlock = some k → ¬ k = sb := fun k hk e => by
  have := (h k hk).1
  omega

/-- A byte is lost. -/
theorem FdL.lose (h : FdL w wr sb l lv P T lost r vs v5 v6) (hsb : sb < w.heap.size) (hst : look r = .spoilt) {w2 : World} (k2 : Keeps No wr w2) {v7 : Value} (hs7 : SlB wr v7 (r.drop 1)) (hb7 : ∀ k, v7.ownBlock = some k → v6.ownBlock = some k)
    {z : Int} (hz : z = ((l + (lost + 1) : Nat) : Int)) : FdL w (w2.setCell ⟨sb, 1, none⟩ (.int .i64 z)) sb l lv P T (lost + 1) (r.drop 1) vs v5 v7 := by
  have hr := look_spoilt_ne hst
  have k3 : Keeps (fun k => k = sb) wr (w2.setCell ⟨sb, 1, none⟩ (.int .i64 z)) := (k2.no (S := fun k => k = sb)).setCell (p := ⟨sb, 1, none⟩) (Or.inr rfl) _
  have n7 : New w wr v7 := fun k hk => h.lnew k (hb7 k hk)
  refine ⟨?_, hs7.keep k3 (n7.ne hsb), n7.later k3.size, fun x hx => h.byt x (List.mem_of_mem_drop hx), k3.own h.told (h.tnew.ne hsb), h.tnew.later k3.size, RdAll.keep k3 h.rd (fun u hu => (h.vnew u hu).ne hsb), fun u hu => (h.vnew u hu).later k3.size, fun u hu => (h.vsoft u hu).keep k3 ((h.vnew u hu).ne hsb),
    fun k hk h' => h.sep6 k hk (hb7 k h'), h.sepv, ?_, h.keep.trans k3, ?_⟩
  · rw [h.sc, scan_spoilt hst]
    simp only [Sc.mk.injEq, true_and, and_true]
    omega
  · have := heap_setCell_at (i := 1) (v := .int .i64 z) (k2.heap (fun h => h) h.blk)
    rw [hz] at this ⊢
    simpa using this
  · have := h.num
    rw [List.length_drop]
    omega

/-- A frame is told. -/
theorem FdL.tell (h : FdL w wr sb l lv P T lost r vs v5 v6) (hsb : sb < w.heap.size) {m : List Int} (hst : look r = .whole m) {w2 w3 : World} {u : Value} (k2 : Keeps No wr w2) (hu : SlB w2 u m) (hf : Fresh wr u) (hso : Soft w2 u)
    {v7 : Value} (hs7 : SlB wr v7 (r.drop (5 + m.length))) (hb7 : ∀ k, v7.ownBlock = some k → v6.ownBlock = some k) {x : Obj} {v8 : Value} (ho : w3.ownsRow 0 26 1 v8 (vs.length + 1) (vs ++ [u])) (k3 : Keeps (Bl v5) (w2.alloc x) w3)
    (hb8 : ∀ k, v8.ownBlock = some k → v5.ownBlock = some k ∨ (w2.alloc x).heap.size ≤ k) : FdL w w3 sb l lv P (T ++ [m]) lost (r.drop (5 + m.length)) (vs ++ [u]) v8 v7 := by
  obtain ⟨_, _, _, _, m1, _, _⟩ := look_whole hst
  have hr := look_whole_len hst
  have kx : Keeps No wr (w2.alloc x) := k2.alloc x
  have hsz : (w2.alloc x).heap.size = w2.heap.size + 1 := by simp
  have hul : ∀ k, u.ownBlock = some k → k < w2.heap.size := hu.lt (by omega)
  have k4 : Keeps (Bl v5) wr w3 := kx.trans' k3 (fun _ _ h => h.elim) (fun _ _ h => h)
  have n7 : New w wr v7 := fun k hk => h.lnew k (hb7 k hk)
  have hu5 : ∀ k, u.ownBlock = some k → ¬ Bl v5 k := fun k hk h5 => by
    have h1 := hf k hk
    have h2 := (h.tnew k h5).2
    omega
  have nu : New w w3 u := fun k hk => ⟨Nat.le_trans h.keep.size (hf k hk), by
    have h1 := hul k hk
    have h2 := k3.size
    omega⟩
  have n8 : New w w3 v8 := fun k hk => ⟨by
    rcases hb8 k hk with h' | h'
    · exact (h.tnew k h').1
    · have h1 := h.keep.size
      have h2 := kx.size
      omega, own_lt ho k hk⟩
  have old8 : ∀ k, v8.ownBlock = some k → ∀ u' : Value, (∀ i, u'.ownBlock = some i → i < w2.heap.size) → (∀ i, v5.ownBlock = some i → u'.ownBlock ≠ some i) → u'.ownBlock ≠ some k := fun k hk u' h1 h2 h3 => by
    rcases hb8 k hk with h' | h'
    · exact h2 k h' h3
    · have := h1 k h3
      omega
  refine ⟨?_, hs7.keep k4 (fun k hk h5 => h.sep6 k h5 (hb7 k hk)), n7.later k4.size, fun x hx => h.byt x (List.mem_of_mem_drop hx), by rw [List.length_append]; exact ho, n8,
    RdAll.snoc (Sl.keep (Sl.alloc hu x) k3 hu5) (RdAll.keep k4 h.rd (fun u' hu' k hk h5 => h.sepv u' hu' k h5 hk)), ?_, ?_, ?_, ?_, k4.heap (fun h5 => ?_) h.blk, ?_, ?_⟩
  · rw [h.sc, scan_whole hst]
    simp only [Sc.mk.injEq, true_and, and_true, List.append_assoc, List.singleton_append]
  · intro u' hu'
    rcases List.mem_append.1 hu' with h' | h'
    · exact (h.vnew u' h').later k4.size
    · simp at h'; subst h'; exact nu
  · intro u' hu'
    rcases List.mem_append.1 hu' with h' | h'
    · exact (h.vsoft u' h').keep k4 (fun k hk h5 => h.sepv u' h' k h5 hk)
    · simp at h'; subst h'; exact (hso.keep ((Keeps.refl No w2).alloc x) (fun _ _ h => h)).keep k3 hu5
  · intro k hk h7
    exact old8 k hk v7 (fun i hi => Nat.lt_of_lt_of_le (n7 i hi).2 k2.size) (fun i hi h' => h.sep6 i hi (hb7 i h')) h7
  · intro u' hu' k hk
    rcases List.mem_append.1 hu' with h' | h'
    · exact old8 k hk u' (fun i hi => Nat.lt_of_lt_of_le (h.vnew u' h' i hi).2 k2.size) (h.sepv u' h')
    · simp at h'; subst h'
      exact old8 k hk u' hul (fun i hi h' => hu5 i h' hi)
  · have := (h.tnew _ h5).1
    omega
  · exact h.keep.trans' k4 (fun _ _ h => h) (fun i hi h5 => by
      have := (h.tnew i h5).1
      omega)
  · have := h.num
    rw [List.length_drop, List.length_append, List.length_singleton]
    omega

/-- What is left waits. -/
theorem FdL.done {F : Nat → Prop} (h : FdL w wr sb l lv P T lost r vs v5 v6) (hsb : sb < w.heap.size) (hF : F sb) (hst : look r = .begun) {w2 w3 : World} {v8 : Value} (k2 : Keeps No wr w2) (ho : w3.ownsRow 0 5 1 v8 r.length (r.map (Value.int .u8))) (k3 : Keeps No w2 w3) (f8 : Fresh w2 v8) :
    FeedP w (w3.setCell ⟨sb, 0, none⟩ v8) sb F (scan P) l v5 := by
  have k4 : Keeps No wr w3 := k2.trans k3
  have k5 : Keeps (fun k => k = sb) wr (w3.setCell ⟨sb, 0, none⟩ v8) := (k4.no (S := fun k => k = sb)).setCell (p := ⟨sb, 0, none⟩) (Or.inr rfl) _
  have k6 : Keeps (fun k => k = sb) w3 (w3.setCell ⟨sb, 0, none⟩ v8) := (Keeps.refl (fun k => k = sb) w3).setCell (p := ⟨sb, 0, none⟩) (Or.inr rfl) _
  have hw := h.keep.size
  have hnew : ∀ k, v8.ownBlock = some k → wr.heap.size ≤ k := fun k hk => Nat.le_trans k2.size (f8 k hk)
  have hs := scan_begun hst
  have hsc := h.sc
  rw [hs] at hsc
  simp only [List.append_nil, Nat.add_zero] at hsc
  rw [hsc]
  refine ⟨vs, fun k => k = sb ∨ v8.ownBlock = some k, k5.own h.told (h.tnew.ne hsb), RdAll.keep k5 h.rd (fun u hu => (h.vnew u hu).ne hsb), ⟨v8, ?_, ?_, Or.inl rfl, fun k hk => Or.inr hk, h.byt⟩, ⟨?_, ?_⟩, h.tnew.later k5.size, fun u hu => (h.vnew u hu).later k5.size, ?_, ?_, h.sepv, ?_, fun u hu => (h.vsoft u hu).keep k5 ((h.vnew u hu).ne hsb)⟩
  · have := heap_setCell_at (i := 0) (v := v8) (k4.heap (fun h => h) h.blk)
    simpa using this
  · exact (Sl.ofOwn ho).keep k6 (fun k hk e => by have := hnew k hk; omega)
  · exact (h.keep.trans k5).mono (fun i hi e => by subst e; exact hF)
  · intro k hk
    rcases hk with rfl | hk
    · exact Or.inl hF
    · exact Or.inr (Nat.le_trans hw (hnew k hk))
  · intro k hk hF'
    rcases hF' with rfl | h8
    · exact h.tnew.ne hsb _ hk rfl
    · have h1 := hnew k h8
      have h2 := (h.tnew k hk).2
      omega
  · intro u hu k hk hF'
    rcases hF' with rfl | h8
    · exact (h.vnew u hu).ne hsb _ hk rfl
    · have h1 := hnew k h8
      have h2 := (h.vnew u hu k hk).2
      omega
  · intro k hk
    have hsz : (w3.setCell ⟨sb, 0, none⟩ v8).heap.size = w3.heap.size := by simp
    rw [hsz]
    rcases hk with rfl | h8
    · exact Nat.lt_of_lt_of_le hsb (Nat.le_trans hw k4.size)
    · exact own_lt ho k h8

end

section
variable {w : World} {sb l : Nat} {F : Nat → Prop} {q : List Int}

set_option maxHeartbeats 4000000 in
set_option maxRecDepth 100000 in
theorem feed_any {v : Value} {p : List Int} (h : ScS w sb F q l) (hp : SlB w v p) (hb : Bytes p) (hl : q.length + p.length ≤ 2000) (hll : l ≤ 1000000) :
    Calls Try.prog 22 #[.pointer (some ⟨sb, 0, none⟩), v] w fun e w' => ∃ tv, e = .returned tv ∧ FeedP w w' sb F (scan (q ++ p)) l tv := by
  obtain ⟨lv, h⟩ := h
  obtain ⟨a, c, rfl⟩ := hp.any
  obtain ⟨al, cl, rfl⟩ := h.sl.any
  have hsb := lt_of_block h.blk
  have c0 := cell_at (i := 0) h.blk rfl
  obtain ⟨i0, hi, hz0, hz1, hz2⟩ := info_parts info_bytes
  have HI := hid hi
  have H := hid h
  have HP := hid hp
  have HB := hid hb
  have hbq : Bytes (q ++ p) := fun x hx => by
    rcases List.mem_append.1 hx with hx | hx
    · exact h.byt x hx
    · exact hb x hx
  have HBQ := hid hbq
  clear h hp hb hbq hi
  go_enter Try.func22, Try.ntmps22
  go_wp2_with fail
  refine (concat2 (p := q) (q := p) (va := .slice al q.length cl) (vb := .slice a p.length c) (Sl.new _ _ _ _ _ rfl (by decide)) (H.out.sl.alloc _) (HP.out.alloc _) hl).mono ?_
  rintro e w1 ⟨v1, rfl, ho1, k1, f1⟩
  have hk1 : Keeps No w w1 := ((Keeps.refl No w).alloc _).trans k1
  have hn1 : New w w1 v1 := fun k hk => ⟨by have h1 : w.heap.size + 1 ≤ k := by simpa using f1 k hk
                                            omega, own_lt ho1 k hk⟩
  have hs1 : SlB w1 v1 (q ++ p) := by
    have := Sl.ofOwn ho1
    unfold SlB
    rw [List.length_append]
    exact this
  obtain ⟨a1, n1, rfl⟩ := hs1.any
  have HL : Hid (FdL w w1 sb l (.slice al q.length cl) (q ++ p) [] 0 (q ++ p) [] (.slice none 0 0) (.slice a1 (q ++ p).length n1)) := hid
    ⟨by simp, hs1, hn1, HBQ.out, World.ownsRow_nil _ _ _ _, fun k hk => by simp [Value.ownBlock] at hk, trivial, fun u hu => by simp at hu, fun u hu => by simp at hu, fun k hk => by simp [Value.ownBlock] at hk, fun u hu => by simp at hu,
     hk1.heap (fun h => h) H.out.blk, hk1.no, by simp⟩
  clear ho1 k1 f1 hk1 hn1 hs1
  obtain ⟨PP, hPP⟩ : ∃ PP, q ++ p = PP := ⟨_, rfl⟩
  have hlen : q.length + p.length = PP.length := by rw [← hPP]; simp
  rw [hPP] at HL HBQ ⊢
  rw [hlen] at hl
  have HPP := hid hPP
  clear hPP hlen HP
  go_wp2_with fail
  go_loopw [5, 6] (fun v5 v6 wr => ∃ T lost r vs, Hid (FdL w wr sb l (.slice al q.length cl) PP T lost r vs v5 v6)) (fun _ v6 _ => lenOf v6)
  case atStart => exact ⟨[], 0, PP, [], HL⟩
  case round =>
    clear HL
    obtain ⟨T, lost, r, vs, HL⟩ := hrel
    obtain ⟨a5, n5, rfl⟩ := own_any HL.out.told
    obtain ⟨a6, n6, rfl⟩ := HL.out.left.any
    have hnum := HL.out.num
    have hlk := look_any HL.out.left HL.out.byt
    go_wp2_with fail
    refine hlk.mono ?_
    rintro e w2 hL
    clear hlk
    cases hst : look r with
    | spoilt =>
      rw [hst] at hL
      obtain ⟨rfl, k2⟩ := hL
      have hr0 := look_spoilt_ne hst
      have c1 := cell_at (i := 1) (k2.heap (fun h => h) HL.out.blk) rfl
      have f1 := free_at (i := 1) (k2.heap (fun h => h) HL.out.blk)
      obtain ⟨a7, n7, hs7, hr7, hb7⟩ := piece_from HL.out.left 1 (by omega)
      have e7 : (r.drop 1).length = r.length - 1 := List.length_drop ..
      have hs7 : SlB wr (.slice a7 (r.length - 1) n7) (r.drop 1) := by rw [← e7]; exact hs7
      rw [e7] at hr7 hb7
      clear e7
      have hr8 : ∀ (w : World), (Instr.slice 26 (.slice a6 r.length n6) (some (.int .i64 1)) none none).run Try.prog w = .ok (.slice a7 (r.length - 1) n7) w := fun w => hr7 w 1 rfl
      have HST := hid hst
      have K2 := hid k2
      have HS7 := hid hs7
      have HB7 := hid hb7
      clear hst k2 hs7 hr7 hb7
      go_wp2_with fail
      go_roundw
      case rel => exact ⟨T, lost + 1, r.drop 1, vs, hid (HL.out.lose hsb HST.out K2.out HS7.out HB7.out (by omega))⟩
      case measure => show r.length - 1 < r.length; omega
    | begun =>
      rw [hst] at hL
      obtain ⟨rfl, k2⟩ := hL
      have HST := hid hst
      have K2 := hid k2
      have hrl := look_begun_len hst
      clear hst k2
      go_wp2_with fail
      refine (bclone_any (HL.out.left.keep K2.out (fun _ _ h => h)) (by omega)).mono ?_
      rintro e w3 ⟨v8, rfl, ho3, k3, f3⟩
      obtain ⟨a8, n8, rfl⟩ := own_any ho3
      have f0 := free_at (i := 0) (k3.heap (fun h => h) (K2.out.heap (fun h => h) HL.out.blk))
      have c8 := cell_at (i := 0) (k3.heap (fun h => h) (K2.out.heap (fun h => h) HL.out.blk)) rfl
      have HO3 := hid ho3
      have K3 := hid k3
      have F3 := hid f3
      clear ho3 k3 f3
      go_wp2_with fail
      go_ret
      exact ⟨_, rfl, by rw [HPP.out]; exact HL.out.done hsb H.out.sb HST.out K2.out HO3.out K3.out F3.out⟩
    | whole m =>
      rw [hst] at hL
      obtain ⟨u, rfl, hu, k2, f2, so2⟩ := hL
      obtain ⟨au, cu, rfl⟩ := hu.any
      have hr0 := look_whole_len hst
      have hn5 := HL.out.rd.len
      have hn6 : vs.length ≤ 2000 := by omega
      clear hn5
      obtain ⟨a7, n7, hs7, hr7, hb7⟩ := piece_from HL.out.left (5 + m.length) hr0
      have e7 : (r.drop (5 + m.length)).length = r.length - (5 + m.length) := List.length_drop ..
      have hs7 : SlB wr (.slice a7 (r.length - (5 + m.length)) n7) (r.drop (5 + m.length)) := by rw [← e7]; exact hs7
      rw [e7] at hr7 hb7
      clear e7
      have hr8 : ∀ (w : World), (Instr.slice 26 (.slice a6 r.length n6) (some (.int .i64 (5 + (m.length : Int)))) none none).run Try.prog w = .ok (.slice a7 (r.length - (5 + m.length)) n7) w := fun w => hr7 w _ (by omega)
      have ht5 : w2.ownsRow 0 26 1 (.slice a5 vs.length n5) vs.length vs := k2.own HL.out.told (fun _ _ h => h)
      have HT5 := hid ht5
      have HST := hid hst
      have K2 := hid k2
      have F2 := hid f2
      have SO2 := hid so2
      have HU := hid hu
      have HS7 := hid hs7
      have HB7 := hid hb7
      clear hst k2 f2 so2 hu hs7 hr7 hb7 ht5
      go_wp2_with (at_builtin; refine wpl_append rfl _ _ 25 rfl 26 i0 (.slice none 0 0) 1 24 Try.underlying25 HI.out hz0 hz1 hz2 rfl (by decide) _ _ _ _ _ _ rfl rfl (HT5.out.alloc _) (Sl.one _ _ _) ?c2 ?c3 ?c4 ?_)
      case c2 => intro x hx; simp at hx; subst hx; rfl
      case c3 => unfold maxLen; omega
      case c4 => omega
      intro v8 w3 ho8 k8 hb8
      obtain ⟨a8, n8, rfl⟩ := own_any ho8
      have HO8 := hid ho8
      have K8 := hid k8
      have HB8 := hid hb8
      clear ho8 k8 hb8
      go_wp2_with fail
      go_roundw
      case rel => exact ⟨T ++ [m], lost, r.drop (5 + m.length), vs ++ [.slice au m.length cu], hid (HL.out.tell hsb HST.out K2.out HU.out F2.out SO2.out HS7.out HB7.out HO8.out K8.out (by simpa using HB8.out))⟩
      case measure => show r.length - (5 + m.length) < r.length; omega

end
end Go.Proofs.Ythfjihpfcollfaa
