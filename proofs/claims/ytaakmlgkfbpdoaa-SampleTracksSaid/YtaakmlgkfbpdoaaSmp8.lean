/-
  A tracker and all samples that came, side by side.
-/
import Derived.Test.YtaakmlgkfbpdoaaSmp4
import Derived.Test.YtaakmlgkfbpdoaaArgs
namespace Go.Proofs.Ytaakmlgkfbpdoaa
open Go.RowKit

/-- The Seq that came last of a signal. -/
def lastR : List S4 → Int → Option Int
  | [], _ => none
  | c :: r, k => if c.sg = k then some c.sq else lastR r k

theorem none_of_count : ∀ (l : List S4) (s : S4), (countR l s.sg).1 ≤ 0 → nextR l s = (0, true)
  | [], _, _ => rfl
  | c :: r, s, h => by
    have hb := countR_bounds r s.sg
    by_cases e : c.sg = s.sg
    · simp only [countR, if_pos e] at h
      omega
    · simp only [countR, if_neg e] at h
      simp only [nextR, if_neg e]
      exact none_of_count r s h

theorem next_of_last : ∀ (l : List S4) (s : S4) (q : Int), lastR l s.sg = some q → nextR l s = if q = s.sq then (0, false) else ((s.sq - q - 1) % 256, true)
  | [], _, _, h => by simp [lastR] at h
  | c :: r, s, q, h => by
    by_cases e : c.sg = s.sg
    · simp only [lastR, if_pos e] at h
      injection h with h
      simp only [nextR, if_pos e, h]
    · simp only [lastR, if_neg e] at h
      simp only [nextR, if_neg e]
      exact next_of_last r s q h

theorem count_out : ∀ (l : List S4) (k : Int), (∀ x ∈ l, x.sg ≠ k) → countR l k = (0, 0)
  | [], _, _ => rfl
  | c :: r, k, h => by
    simp only [countR, if_neg (h c (List.mem_cons_self ..))]
    exact count_out r k (fun x hx => h x (List.mem_cons_of_mem _ hx))

/-- What the tracker knows is what came. -/
structure TrOk (N : Nat) (L : List (Int × Int × Int)) (rc : List S4) : Prop where
  len : L.length = N
  cnt : ∀ (k : Nat) (h : k < L.length), (L[k].2.1, L[k].2.2) = countR rc k
  last : ∀ (k : Nat) (h : k < L.length), 0 < L[k].2.1 → lastR rc k = some L[k].1
  byt : ∀ (k : Nat) (h : k < L.length), 0 ≤ L[k].1 ∧ L[k].1 ≤ 255
  ins : ∀ x ∈ rc, 0 ≤ x.sg ∧ x.sg < N
  ok : ∀ x ∈ rc, OkS x

theorem TrOk.start (N : Nat) : TrOk N (List.replicate N (0, 0, 0)) [] :=
  ⟨by simp, fun k h => by simp [countR], fun k h => by simp, fun k h => by simp, fun x hx => by simp at hx, fun x hx => by simp at hx⟩

theorem TrOk.bounds {N : Nat} {L : List (Int × Int × Int)} {rc : List S4} (h : TrOk N L rc) (hl : rc.length ≤ 100) : ∀ t ∈ L, 0 ≤ t.2.1 ∧ t.2.1 ≤ 100000 ∧ 0 ≤ t.2.2 ∧ t.2.2 ≤ 100000000 := by
  intro t ht
  obtain ⟨k, hk, rfl⟩ := List.mem_iff_getElem.1 ht
  have hc := h.cnt k hk
  have hb := countR_bounds rc k
  rw [← hc] at hb
  simp only at hb
  omega

theorem TrOk.step {N : Nat} {L : List (Int × Int × Int)} {rc : List S4} (h : TrOk N L rc) {s : S4} {k : Nat} (hs : s.sg = k) (hk : k < L.length) (hok : OkS s) :
    (nextT L[k] s.sq).1 = nextR rc s ∧ ((nextR rc s).2 = true → TrOk N (L.set k (nextT L[k] s.sq).2) (s :: rc)) ∧ ((nextR rc s).2 = false → L.set k (nextT L[k] s.sq).2 = L) := by
  have hc := h.cnt k hk
  have hb := countR_bounds rc k
  have hbt := h.byt k hk
  have hkey : (nextT L[k] s.sq).1 = nextR rc s ∧ ((nextR rc s).2 = true → (nextT L[k] s.sq).2 = (s.sq, L[k].2.1 + 1, L[k].2.2 + (nextR rc s).1)) ∧ ((nextR rc s).2 = false → (nextT L[k] s.sq).2 = L[k]) := by
    by_cases hf : 0 < L[k].2.1
    · have hl := h.last k hk hf
      have hn := next_of_last rc s L[k].1 (by rw [hs]; exact hl)
      rw [hn]
      unfold nextT
      rw [if_pos hf]
      by_cases he : s.sq = L[k].1
      · rw [if_pos he, if_pos he.symm]
        exact ⟨rfl, (fun h => by cases h), fun _ => rfl⟩
      · rw [if_neg he, if_neg (fun e => he e.symm)]
        exact ⟨rfl, fun _ => rfl, (fun h => by cases h)⟩
    · have hn := none_of_count rc s (by rw [hs, ← hc]; simp only; omega)
      rw [hn]
      unfold nextT
      rw [if_neg hf]
      exact ⟨rfl, (fun _ => by simp), (fun h => by cases h)⟩
  obtain ⟨h1, h2, h3⟩ := hkey
  refine ⟨h1, fun hw => ?_, fun hw => by rw [h3 hw]; exact List.set_getElem_self hk⟩
  rw [h2 hw]
  have hn0 : 0 ≤ L[k].2.1 := by rw [← hc] at hb; simp only at hb; omega
  refine ⟨by simpa using h.len, fun j hj => ?_, fun j hj hf => ?_, fun j hj => ?_, fun x hx => ?_, fun x hx => ?_⟩
  · have hj' : j < L.length := by simpa using hj
    by_cases e : k = j
    · subst e
      simp only [List.getElem_set_self, countR, if_pos hs]
      rw [← hc]
    · have hne : ¬ s.sg = (j : Int) := by omega
      simp only [List.getElem_set_ne e, countR, if_neg hne]
      exact h.cnt j hj'
  · have hj' : j < L.length := by simpa using hj
    by_cases e : k = j
    · subst e
      simp only [List.getElem_set_self, lastR, if_pos hs]
    · have hne : ¬ s.sg = (j : Int) := by omega
      simp only [List.getElem_set_ne e] at hf ⊢
      simp only [lastR, if_neg hne]
      exact h.last j hj' hf
  · have hj' : j < L.length := by simpa using hj
    by_cases e : k = j
    · subst e
      simp only [List.getElem_set_self]
      exact hok
    · simp only [List.getElem_set_ne e]
      exact h.byt j hj'
  · rcases List.mem_cons.1 hx with rfl | hx
    · have := h.len; omega
    · exact h.ins x hx
  · rcases List.mem_cons.1 hx with rfl | hx
    · exact hok
    · exact h.ok x hx

theorem okWide_len {α : Type} {l : List α} : l.length = l.length := rfl

set_option maxRecDepth 100000 in
theorem decS {H : Type} {enc : TypeId × Value → H} {W : World} {n : Nat} {cs : List Value} {x} (h : DataW.trod enc Try.prog W 0 (fun _ => true) true n 47 cs = some x) : ∃ y : S4, cs = encS y ∧ OkS y := by
  obtain ⟨xs, m, _, _, hl, hlen, hf⟩ := DataW.trod_struct Try.underlying47 h
  rw [show Try.prog.cellsOf 47 = 4 by kernel_rfl] at hl
  match cs, hl, xs, hlen with
  | [c0, c1, c2, c3], _, [y0, y1, y2, y3], _ =>
    have h0 : DataW.trod enc Try.prog W 0 (fun _ => true) true m 3 (([c0, c1, c2, c3].drop 0).take (Try.prog.cellsOf 3)) = some y0 := hf 0 _ rfl
    have h1 : DataW.trod enc Try.prog W 0 (fun _ => true) true m 5 (([c0, c1, c2, c3].drop 1).take (Try.prog.cellsOf 5)) = some y1 := hf 1 _ rfl
    have h2 : DataW.trod enc Try.prog W 0 (fun _ => true) true m 3 (([c0, c1, c2, c3].drop 2).take (Try.prog.cellsOf 3)) = some y2 := hf 2 _ rfl
    have h3 : DataW.trod enc Try.prog W 0 (fun _ => true) true m 4 (([c0, c1, c2, c3].drop 3).take (Try.prog.cellsOf 4)) = some y3 := hf 3 _ rfl
    rw [show Try.prog.cellsOf 5 = 1 by kernel_rfl] at h1
    rw [show Try.prog.cellsOf 3 = 1 by kernel_rfl] at h0 h2
    rw [show Try.prog.cellsOf 4 = 1 by kernel_rfl] at h3
    obtain ⟨a0, e0, _, w0⟩ := DataW.trod_int Try.underlying3 h0
    obtain ⟨a1, e1, _, w1⟩ := DataW.trod_int Try.underlying5 h1
    obtain ⟨a2, e2, _, w2⟩ := DataW.trod_int Try.underlying3 h2
    obtain ⟨b3, e3, _⟩ := DataW.trod_bool Try.underlying4 h3
    simp at e0 e1 e2 e3
    exact ⟨⟨a0, a1, a2, b3⟩, by simp [e0, e1, e2, e3, encS], bounds_u8 w1⟩

/-- The tracker, and the row of what came beside it. -/
structure TS (w wr : World) (tb g : Nat) (L : List (Int × Int × Int)) (cv : Value) (came : List S4) : Prop where
  tk : Tk wr tb g L
  own : wr.ownsRow 0 47 4 cv came.length (came.flatMap encS)
  sep : ∀ k, cv.ownBlock = some k → k ≠ tb ∧ k ≠ g
  newT : w.heap.size ≤ tb ∧ w.heap.size ≤ g
  newC : ∀ k, cv.ownBlock = some k → w.heap.size ≤ k
  old : Keeps No w wr

section
variable {w wr w2 : World} {tb g : Nat} {L L2 : List (Int × Int × Int)} {cv v2 : Value} {came came2 : List S4}

theorem TS.calm (h : TS w wr tb g L cv came) (k : Keeps No wr w2) : TS w w2 tb g L cv came :=
  ⟨h.tk.keep k (fun h => h) (fun h => h), k.own h.own (fun _ _ h => h), h.sep, h.newT, h.newC, h.old.trans k⟩

theorem TS.next (h : TS w wr tb g L cv came) (ht : Tk w2 tb g L2) (k : Keeps (fun i => i = g) wr w2) : TS w w2 tb g L2 cv came :=
  ⟨ht, k.own h.own (fun i hi e => (h.sep i hi).2 e), h.sep, h.newT, h.newC, h.old.trans' k (fun _ _ h => h) (fun i hi e => by have := h.newT.2; omega)⟩

theorem TS.app (h : TS w wr tb g L cv came) (ho : w2.ownsRow 0 47 4 v2 came2.length (came2.flatMap encS)) (k : Keeps (Bl cv) wr w2) (hb : ∀ k, v2.ownBlock = some k → cv.ownBlock = some k ∨ wr.heap.size ≤ k) : TS w w2 tb g L v2 came2 := by
  have h1 := h.tk.blk.lt
  have h2 := h.tk.row.lt
  refine ⟨h.tk.keep k (fun hB => (h.sep tb hB).1 rfl) (fun hB => (h.sep g hB).2 rfl), ho, fun i hi => ?_, h.newT, fun i hi => ?_, h.old.trans' k (fun _ _ h => h) (fun i hi hv => by have := h.newC i hv; omega)⟩
  · rcases hb i hi with h' | h'
    · exact h.sep i h'
    · constructor <;> omega
  · rcases hb i hi with h' | h'
    · exact h.newC i h'
    · exact Nat.le_trans h.old.size h'

/-- What Next must answer: of a signal that there isn't, nothing. -/
def resR (N : Nat) (rc : List S4) (s : S4) : Int × Bool := if 0 ≤ s.sg ∧ s.sg < N then nextR rc s else (0, false)

theorem tnext_rc {N : Nat} {rc : List S4} (h : TS w wr tb g L cv came) (ht : TrOk N L rc) (hl : rc.length ≤ 100) (sg sq v : Int) (b : Bool) (hok : OkS ⟨sg, sq, v, b⟩) :
    Calls Try.prog 22 #[.pointer (some ⟨tb, 0, none⟩), .agg #[.int .i64 sg, .int .u8 sq, .int .i64 v, .bool b]] wr fun e w' => e = .returned (.tuple #[.int .i64 (resR N rc ⟨sg, sq, v, b⟩).1, .bool (resR N rc ⟨sg, sq, v, b⟩).2]) ∧
      (∃ L', TS w w' tb g L' cv came ∧ TrOk N L' (if (resR N rc ⟨sg, sq, v, b⟩).2 = true then ⟨sg, sq, v, b⟩ :: rc else rc)) ∧ Keeps (fun i => i = g) wr w' := by
  by_cases hr : 0 ≤ sg ∧ sg < N
  · have hres : resR N rc ⟨sg, sq, v, b⟩ = nextR rc ⟨sg, sq, v, b⟩ := by unfold resR; rw [if_pos hr]
    rw [hres]
    obtain ⟨k, hk⟩ : ∃ k : Nat, sg = k := ⟨sg.toNat, by omega⟩
    have hkl : k < L.length := by rw [ht.len]; omega
    obtain ⟨h1, h2, h3⟩ := ht.step (s := ⟨sg, sq, v, b⟩) (k := k) hk hkl hok
    refine (tnext_z h.tk hk hkl (ht.bounds hl) sq v b hok (ht.byt k hkl) (r := (nextR rc ⟨sg, sq, v, b⟩, (nextT L[k] sq).2)) (by rw [← h1])).mono ?_
    rintro e w' ⟨he, htk, hkp⟩
    refine ⟨he, ⟨_, h.next htk hkp, ?_⟩, hkp⟩
    cases hw : (nextR rc ⟨sg, sq, v, b⟩).2
    · rw [if_neg (by simp)]
      have := h3 hw
      simp only at this ⊢
      rw [this]
      exact ht
    · rw [if_pos rfl]
      exact h2 hw
  · have hres : resR N rc ⟨sg, sq, v, b⟩ = (0, false) := by unfold resR; rw [if_neg hr]
    rw [hres]
    refine (tnext_out h.tk (z := sg) (by rw [ht.len]; omega) sq v b).mono ?_
    rintro e w' ⟨he, hkp⟩
    refine ⟨he, ⟨L, h.calm hkp, ?_⟩, hkp.no⟩
    rw [if_neg (by simp)]
    exact ht

theorem tcount_rc {N : Nat} {rc : List S4} (h : Tk wr tb g L) (ht : TrOk N L rc) (z : Int) :
    Calls Try.prog 24 #[.pointer (some ⟨tb, 0, none⟩), .int .i64 z] wr fun e w' => e = .returned (.tuple #[.int .i64 (countR rc z).1, .int .i64 (countR rc z).2]) ∧ Keeps No wr w' := by
  by_cases hr : 0 ≤ z ∧ z < N
  · obtain ⟨k, hk⟩ : ∃ k : Nat, z = k := ⟨z.toNat, by omega⟩
    have hkl : k < L.length := by rw [ht.len]; omega
    have hc := ht.cnt k hkl
    rw [hk, ← hc]
    exact tcount_in h hkl
  · have hc : countR rc z = (0, 0) := count_out rc z (fun x hx e => by have := ht.ins x hx; omega)
    rw [hc]
    exact tcount_out h (by rw [ht.len]; omega)

end

end Go.Proofs.Ytaakmlgkfbpdoaa
