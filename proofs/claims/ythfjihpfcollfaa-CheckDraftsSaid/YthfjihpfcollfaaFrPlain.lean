/-
  Plain facts on frames in a stream: what stands at a place, what is told of a stream, in whichever pieces it comes.
-/
import Derived.Test.YthfjihpfcollfaaSumPlain
namespace Go.Proofs.Ythfjihpfcollfaa
open Go.RowKit

/-- What stands at a place: no frame; what may still become one; one, of these bytes. -/
inductive Stand where
  | spoilt : Stand
  | begun : Stand
  | whole (m : List Int) : Stand

def look : List Int → Stand
  | [] => .begun
  | [a] => if a = 85 then .begun else .spoilt
  | [a, b] => if a = 85 ∧ b = 170 then .begun else .spoilt
  | a :: b :: c :: t =>
    if a = 85 ∧ b = 170 ∧ 1 ≤ c ∧ c ≤ 32 then
      if t.length < c.toNat + 2 then .begun
      else if mof (c :: t.take c.toNat) = word (t.getD c.toNat 0) (t.getD (c.toNat + 1) 0) then .whole (t.take c.toNat) else .spoilt
    else .spoilt

/-- What a stream tells: its frames, how many bytes are lost, what waits. -/
structure Sc where
  out : List (List Int)
  lost : Nat
  rest : List Int

def scanF : Nat → List Int → Sc
  | 0, p => ⟨[], 0, p⟩
  | n + 1, p => match look p with
    | .begun => ⟨[], 0, p⟩
    | .spoilt => ⟨(scanF n (p.drop 1)).out, (scanF n (p.drop 1)).lost + 1, (scanF n (p.drop 1)).rest⟩
    | .whole m => ⟨m :: (scanF n (p.drop (5 + m.length))).out, (scanF n (p.drop (5 + m.length))).lost, (scanF n (p.drop (5 + m.length))).rest⟩

def scan (p : List Int) : Sc := scanF (p.length + 1) p

theorem look_spoilt_ne {p : List Int} (h : look p = .spoilt) : 0 < p.length := by
  cases p
  · simp [look] at h
  · simp

/-- The shape of a whole frame. -/
theorem look_whole {p m : List Int} (h : look p = .whole m) : ∃ a b t, p = 85 :: 170 :: (m.length : Int) :: (m ++ a :: b :: t) ∧ 1 ≤ m.length ∧ m.length ≤ 32 ∧ mof ((m.length : Int) :: m) = word a b := by
  match p, h with
  | [], h => simp [look] at h
  | [a], h => simp only [look] at h; split at h <;> cases h
  | [a, b], h => simp only [look] at h; split at h <;> cases h
  | a :: b :: c :: t, h =>
    simp only [look] at h
    split at h
    · rename_i h1
      obtain ⟨rfl, rfl, c1, c2⟩ := h1
      split at h
      · cases h
      · rename_i h2
        split at h
        · rename_i h3
          obtain ⟨n, rfl⟩ := Int.eq_ofNat_of_zero_le (show 0 ≤ c by omega)
          simp only [Int.toNat_natCast] at h2 h3 h
          injection h with h
          subst h
          have hn : (t.take n).length = n := by rw [List.length_take]; omega
          refine ⟨t.getD n 0, t.getD (n + 1) 0, t.drop (n + 2), ?_, by omega, by omega, by rw [hn]; exact h3⟩
          rw [hn]
          congr 3
          have e1 : t.drop n = t.getD n 0 :: t.getD (n + 1) 0 :: t.drop (n + 2) := by
            rw [List.drop_eq_getElem_cons (show n < t.length by omega), List.drop_eq_getElem_cons (show n + 1 < t.length by omega)]
            simp [List.getD, List.getElem?_eq_getElem (show n < t.length by omega), List.getElem?_eq_getElem (show n + 1 < t.length by omega)]
          rw [← e1, List.take_append_drop]
        · cases h
    · cases h

theorem look_of_whole {m : List Int} {a b : Int} (t : List Int) (h1 : 1 ≤ m.length) (h2 : m.length ≤ 32) (hs : mof ((m.length : Int) :: m) = word a b) :
    look (85 :: 170 :: (m.length : Int) :: (m ++ a :: b :: t)) = .whole m := by
  simp only [look]
  rw [if_pos (by first | exact ⟨rfl, rfl, by omega, by omega⟩ | (simp; omega)), Int.toNat_natCast, if_neg (by simp)]
  have e1 : (m ++ a :: b :: t).take m.length = m := by simp
  have e2 : (m ++ a :: b :: t).getD m.length 0 = a := by simp [List.getD]
  have e3 : (m ++ a :: b :: t).getD (m.length + 1) 0 = b := by
    simp only [List.getD]
    rw [List.getElem?_append_right (by omega), show m.length + 1 - m.length = 1 by omega]; rfl
  rw [e1, e2, e3, if_pos hs]

theorem look_whole_len {p m : List Int} (h : look p = .whole m) : 5 + m.length ≤ p.length := by
  obtain ⟨a, b, t, rfl, _⟩ := look_whole h
  simp; omega

theorem look_begun_len {p : List Int} (h : look p = .begun) : p.length < 37 := by
  match p, h with
  | [], h => simp
  | [a], h => simp
  | [a, b], h => simp
  | a :: b :: c :: t, h =>
    simp only [look] at h
    split at h
    · rename_i h1
      obtain ⟨_, _, c1, c2⟩ := h1
      split at h
      · simp; omega
      · split at h <;> cases h
    · cases h

/-- What can't become a frame can't, whatever comes behind. -/
theorem look_spoilt_app {p : List Int} (q : List Int) (h : look p = .spoilt) : look (p ++ q) = .spoilt := by
  match p, h with
  | [], h => simp [look] at h
  | [a], h =>
    simp only [look] at h
    split at h
    · cases h
    · rename_i h1
      match q with
      | [] => simp [look, h1]
      | [x] => simp [look, h1]
      | x :: y :: z => simp [look, h1]
  | [a, b], h =>
    simp only [look] at h
    split at h
    · cases h
    · rename_i h1
      match q with
      | [] => simpa [look] using h1
      | x :: z =>
        show look (a :: b :: x :: z) = .spoilt
        simp only [look]
        rw [if_neg (fun h => h1 ⟨h.1, h.2.1⟩)]
  | a :: b :: c :: t, h =>
    simp only [look] at h
    show look (a :: b :: c :: (t ++ q)) = .spoilt
    simp only [look]
    split at h
    · rename_i h1
      rw [if_pos h1]
      split at h
      · cases h
      · rename_i h2
        rw [if_neg (by rw [List.length_append]; omega)]
        split at h
        · cases h
        · rename_i h3
          rw [List.take_append_of_le_length (by omega)]
          have e1 : (t ++ q).getD c.toNat 0 = t.getD c.toNat 0 := by simp only [List.getD]; rw [List.getElem?_append_left (by omega)]
          have e2 : (t ++ q).getD (c.toNat + 1) 0 = t.getD (c.toNat + 1) 0 := by simp only [List.getD]; rw [List.getElem?_append_left (by omega)]
          rw [e1, e2, if_neg h3]
    · rename_i h1
      rw [if_neg h1]

theorem look_whole_app {p m : List Int} (q : List Int) (h : look p = .whole m) : look (p ++ q) = .whole m := by
  obtain ⟨a, b, t, rfl, h1, h2, h3⟩ := look_whole h
  have := look_of_whole (t ++ q) h1 h2 h3
  simpa using this

theorem scanF_eq : ∀ (n n' : Nat) (p : List Int), p.length < n → p.length < n' → scanF n p = scanF n' p
  | 0, _, _, h, _ => absurd h (by omega)
  | _ + 1, 0, _, _, h => absurd h (by omega)
  | n + 1, n' + 1, p, h, h' => by
    cases e : look p with
    | begun => simp only [scanF, e]
    | spoilt =>
      have := look_spoilt_ne e
      simp only [scanF, e]
      rw [scanF_eq n n' (p.drop 1) (by rw [List.length_drop]; omega) (by rw [List.length_drop]; omega)]
    | whole m =>
      have := look_whole_len e
      simp only [scanF, e]
      rw [scanF_eq n n' (p.drop (5 + m.length)) (by rw [List.length_drop]; omega) (by rw [List.length_drop]; omega)]

theorem scan_begun {p : List Int} (h : look p = .begun) : scan p = ⟨[], 0, p⟩ := by
  unfold scan; simp only [scanF, h]

theorem scan_spoilt {p : List Int} (h : look p = .spoilt) : scan p = ⟨(scan (p.drop 1)).out, (scan (p.drop 1)).lost + 1, (scan (p.drop 1)).rest⟩ := by
  have := look_spoilt_ne h
  have e := scanF_eq p.length ((p.drop 1).length + 1) (p.drop 1) (by rw [List.length_drop]; omega) (by omega)
  conv => lhs; unfold scan; simp only [scanF, h]
  rw [e]; rfl

theorem scan_whole {p m : List Int} (h : look p = .whole m) : scan p = ⟨m :: (scan (p.drop (5 + m.length))).out, (scan (p.drop (5 + m.length))).lost, (scan (p.drop (5 + m.length))).rest⟩ := by
  have := look_whole_len h
  have e := scanF_eq p.length ((p.drop (5 + m.length)).length + 1) (p.drop (5 + m.length)) (by rw [List.length_drop]; omega) (by omega)
  conv => lhs; unfold scan; simp only [scanF, h]
  rw [e]; rfl

theorem scan_ind {M : List Int → Prop} (b : ∀ p, look p = .begun → M p) (s : ∀ p, look p = .spoilt → M (p.drop 1) → M p)
    (k : ∀ p m, look p = .whole m → M (p.drop (5 + m.length)) → M p) : ∀ (n : Nat) (p : List Int), p.length ≤ n → M p
  | 0, p, h => b p (by rw [List.length_eq_zero_iff.1 (Nat.le_zero.1 h)]; rfl)
  | n + 1, p, h => by
    cases e : look p with
    | begun => exact b p e
    | spoilt =>
      have := look_spoilt_ne e
      exact s p e (scan_ind b s k n _ (by rw [List.length_drop]; omega))
    | whole m => exact k p m e (scan_ind b s k n _ (by rw [List.length_drop]; omega))

theorem scan_rest (p : List Int) : look (scan p).rest = .begun ∧ ∃ k, (scan p).rest = p.drop k := by
  refine scan_ind (M := fun p => look (scan p).rest = .begun ∧ ∃ k, (scan p).rest = p.drop k) ?_ ?_ ?_ p.length p (Nat.le_refl _)
  · intro p h
    rw [scan_begun h]
    exact ⟨h, 0, rfl⟩
  · intro p h ⟨h1, k, h2⟩
    rw [scan_spoilt h]
    exact ⟨h1, 1 + k, by rw [h2, List.drop_drop]⟩
  · intro p m h ⟨h1, k, h2⟩
    rw [scan_whole h]
    exact ⟨h1, 5 + m.length + k, by rw [h2, List.drop_drop]⟩

theorem scan_rest_len (p : List Int) : (scan p).rest.length < 37 := look_begun_len (scan_rest p).1

theorem scan_rest_bytes {p : List Int} (h : Bytes p) : Bytes (scan p).rest := by
  obtain ⟨k, e⟩ := (scan_rest p).2
  rw [e]
  intro x hx
  exact h x (List.mem_of_mem_drop hx)

/-- How many bytes frames have. -/
def sizes : List (List Int) → Nat
  | [] => 0
  | m :: l => m.length + 5 + sizes l

theorem scan_counts (p : List Int) : (scan p).lost + (scan p).rest.length + sizes (scan p).out = p.length := by
  refine scan_ind (M := fun p => (scan p).lost + (scan p).rest.length + sizes (scan p).out = p.length) ?_ ?_ ?_ p.length p (Nat.le_refl _)
  · intro p h
    rw [scan_begun h]
    simp [sizes]
  · intro p h h1
    have := look_spoilt_ne h
    rw [List.length_drop] at h1
    rw [scan_spoilt h]
    show (scan (p.drop 1)).lost + 1 + (scan (p.drop 1)).rest.length + sizes (scan (p.drop 1)).out = p.length
    omega
  · intro p m h h1
    have := look_whole_len h
    rw [List.length_drop] at h1
    rw [scan_whole h]
    show (scan (p.drop (5 + m.length))).lost + (scan (p.drop (5 + m.length))).rest.length + (m.length + 5 + sizes (scan (p.drop (5 + m.length))).out) = p.length
    omega

theorem scan_out {p : List Int} (hb : Bytes p) : ∀ m ∈ (scan p).out, 1 ≤ m.length ∧ m.length ≤ 32 ∧ Bytes m := by
  refine scan_ind (M := fun p => Bytes p → ∀ m ∈ (scan p).out, 1 ≤ m.length ∧ m.length ≤ 32 ∧ Bytes m) ?_ ?_ ?_ p.length p (Nat.le_refl _) hb
  · intro p h _ m hm
    rw [scan_begun h] at hm
    simp at hm
  · intro p h h1 hb m hm
    rw [scan_spoilt h] at hm
    exact h1 (fun x hx => hb x (List.mem_of_mem_drop hx)) m hm
  · intro p q h h1 hb m hm
    rw [scan_whole h] at hm
    rcases List.mem_cons.1 hm with rfl | hm
    · obtain ⟨a, b, t, rfl, e1, e2, _⟩ := look_whole h
      exact ⟨e1, e2, fun x hx => hb x (by simp [hx])⟩
    · exact h1 (fun x hx => hb x (List.mem_of_mem_drop hx)) m hm

theorem drop_app {p : List Int} (q : List Int) {k : Nat} (h : k ≤ p.length) : (p ++ q).drop k = p.drop k ++ q := by
  rw [List.drop_append_of_le_length h]

/-- In whichever pieces. -/
theorem scan_append (p q : List Int) : scan (p ++ q) = ⟨(scan p).out ++ (scan ((scan p).rest ++ q)).out, (scan p).lost + (scan ((scan p).rest ++ q)).lost, (scan ((scan p).rest ++ q)).rest⟩ := by
  refine scan_ind (M := fun p => scan (p ++ q) = ⟨(scan p).out ++ (scan ((scan p).rest ++ q)).out, (scan p).lost + (scan ((scan p).rest ++ q)).lost, (scan ((scan p).rest ++ q)).rest⟩) ?_ ?_ ?_ p.length p (Nat.le_refl _)
  · intro p h
    rw [scan_begun h]
    simp
  · intro p h h1
    have := look_spoilt_ne h
    rw [scan_spoilt (look_spoilt_app q h), drop_app q (by omega), h1, scan_spoilt h]
    simp only [Sc.mk.injEq, true_and, and_true]
    omega
  · intro p m h h1
    have := look_whole_len h
    rw [scan_whole (look_whole_app q h), drop_app q (by omega), h1, scan_whole h]
    simp only [List.cons_append]

/-- A frame's bytes. -/
def frm (m : List Int) : List Int := [85, 170] ++ (((m.length : Int) :: m) ++ [((mof ((m.length : Int) :: m)).toNat : Int) / 256, ((mof ((m.length : Int) :: m)).toNat : Int) % 256])

theorem frm_len (m : List Int) : (frm m).length = 5 + m.length := by simp [frm]; omega

theorem frm_bytes {m : List Int} (hb : Bytes m) (hl : m.length ≤ 255) : Bytes (frm m) := by
  have := (mof ((m.length : Int) :: m)).isLt
  intro x hx
  simp only [frm, List.mem_append, List.mem_cons, List.not_mem_nil, or_false] at hx
  rcases hx with (rfl | rfl) | ((rfl | hx) | (rfl | rfl))
  · omega
  · omega
  · omega
  · exact hb x hx
  · omega
  · omega

theorem look_frm {m : List Int} (t : List Int) (h1 : 1 ≤ m.length) (h2 : m.length ≤ 32) : look (frm m ++ t) = .whole m := by
  have := look_of_whole t h1 h2 (word_parts (mof ((m.length : Int) :: m))).symm
  simpa [frm] using this

theorem scan_frm {m : List Int} (t : List Int) (h1 : 1 ≤ m.length) (h2 : m.length ≤ 32) : scan (frm m ++ t) = ⟨m :: (scan t).out, (scan t).lost, (scan t).rest⟩ := by
  rw [scan_whole (look_frm t h1 h2)]
  have : (frm m ++ t).drop (5 + m.length) = t := by rw [← frm_len, List.drop_left]
  rw [this]

theorem scan_nil : scan [] = ⟨[], 0, []⟩ := scan_begun rfl

/-- Frames, one behind the other. -/
theorem scan_frms : ∀ (l : List (List Int)), (∀ m ∈ l, 1 ≤ m.length ∧ m.length ≤ 32) → scan (l.flatMap frm) = ⟨l, 0, []⟩
  | [], _ => scan_nil
  | m :: l, h => by
    obtain ⟨h1, h2⟩ := h m (by simp)
    rw [List.flatMap_cons, scan_frm _ h1 h2, scan_frms l (fun x hx => h x (by simp [hx]))]

theorem look_zero (t : List Int) : look (0 :: t) = .spoilt := by
  match t with
  | [] => rfl
  | [x] => rfl
  | x :: y :: z => rfl

theorem scan_zeros (q : List Int) (h1 : 1 ≤ q.length) (h2 : q.length ≤ 32) : ∀ n, (scan (List.replicate n 0 ++ frm q)).out = [q] ∧ (scan (List.replicate n 0 ++ frm q)).rest = []
  | 0 => by
    have := scan_frm [] h1 h2
    rw [List.append_nil] at this
    rw [List.replicate_zero, List.nil_append, this, scan_nil]
    exact ⟨rfl, rfl⟩
  | n + 1 => by
    have := scan_zeros q h1 h2 n
    rw [List.replicate_succ, List.cons_append, scan_spoilt (look_zero _), List.drop_one, List.tail_cons]
    exact this

/-- Behind so many bytes of 0 the scanner has found again into frames. -/
theorem scan_again (q : List Int) (h1 : 1 ≤ q.length) (h2 : q.length ≤ 32) : ∀ (k : Nat) (u : List Int) (n : Nat), u.length ≤ k → 36 ≤ n →
    (∃ l, (scan (u ++ (List.replicate n 0 ++ frm q))).out = l ++ [q]) ∧ (scan (u ++ (List.replicate n 0 ++ frm q))).rest = []
  | 0, u, n, h, _ => by
    obtain rfl := List.length_eq_zero_iff.1 (Nat.le_zero.1 h)
    have := scan_zeros q h1 h2 n
    rw [List.nil_append]
    exact ⟨⟨[], by rw [this.1]; rfl⟩, this.2⟩
  | k + 1, u, n, h, hn => by
    by_cases h0 : u.length = 0
    · exact scan_again q h1 h2 k u n (by omega) hn
    · cases e : look (u ++ (List.replicate n 0 ++ frm q)) with
      | begun =>
        have := look_begun_len e
        rw [List.length_append, List.length_append, List.length_replicate] at this
        omega
      | spoilt =>
        have ih := scan_again q h1 h2 k (u.drop 1) n (by rw [List.length_drop]; omega) hn
        rw [scan_spoilt e, drop_app _ (by omega)]
        exact ih
      | whole m =>
        obtain ⟨a, b, t, _, m1, m2, _⟩ := look_whole e
        rw [scan_whole e]
        by_cases hm : 5 + m.length ≤ u.length
        · have ih := scan_again q h1 h2 k (u.drop (5 + m.length)) n (by rw [List.length_drop]; omega) hn
          rw [drop_app _ hm]
          obtain ⟨⟨l, i1⟩, i2⟩ := ih
          exact ⟨⟨m :: l, by rw [i1]; rfl⟩, i2⟩
        · have e2 : (u ++ (List.replicate n 0 ++ frm q)).drop (5 + m.length) = List.replicate (n - (5 + m.length - u.length)) 0 ++ frm q := by
            rw [List.drop_append, List.drop_of_length_le (by omega), List.nil_append, List.drop_append_of_le_length (by rw [List.length_replicate]; omega), List.drop_replicate]
          rw [e2]
          have := scan_zeros q h1 h2 (n - (5 + m.length - u.length))
          exact ⟨⟨[m], by rw [this.1]; rfl⟩, this.2⟩

end Go.Proofs.Ythfjihpfcollfaa
