/-
  What FrameThere's loop holds: the payloads as slices, the frames' bytes one behind the other.
-/
import Derived.Test.YthfjihpfcollfaaFr12
namespace Go.Proofs.Ythfjihpfcollfaa
open Go.RowKit

structure ThL (w wr : World) (L : List (List Int)) (ws : List Value) (v3 v4 : Value) : Prop where
  want : wr.ownsRow 0 26 1 v3 ws.length ws
  wrd : RdAll wr ws L
  str : wr.ownsRow 0 5 1 v4 (L.flatMap frm).length ((L.flatMap frm).map (Value.int .u8))
  len : (L.flatMap frm).length ≤ 37 * L.length
  byt : Bytes (L.flatMap frm)
  good : ∀ m ∈ L, 1 ≤ m.length ∧ m.length ≤ 32
  keep : Keeps No w wr
  wnew : ∀ k, v3.ownBlock = some k → w.heap.size ≤ k
  wsep : ∀ u ∈ ws, ∀ k, v3.ownBlock = some k → u.ownBlock ≠ some k
  wl : ∀ u ∈ ws, ∀ k, u.ownBlock = some k → k < wr.heap.size
  s34 : ∀ k, v3.ownBlock = some k → v4.ownBlock ≠ some k

theorem ThL.start (w wr : World) (k : Keeps No w wr) : ThL w wr [] [] (.slice none 0 0) (.slice none 0 0) :=
  ⟨World.ownsRow_nil _ _ _ _, trivial, World.ownsRow_nil _ _ _ _, by simp, fun x hx => by simp at hx, fun m hm => by simp at hm, k, fun k hk => by simp [Value.ownBlock] at hk, fun u hu => by simp at hu, fun u hu => by simp at hu, fun k hk => by simp [Value.ownBlock] at hk⟩

theorem ThL.calm {w wr w2 : World} {L : List (List Int)} {ws : List Value} {v3 v4 : Value} (h : ThL w wr L ws v3 v4) (k : Keeps No wr w2) : ThL w w2 L ws v3 v4 :=
  ⟨k.own h.want (fun _ _ h => h), RdAll.keep k h.wrd (fun _ _ _ _ h => h), k.own h.str (fun _ _ h => h), h.len, h.byt, h.good, h.keep.trans k, h.wnew, h.wsep, fun u hu i hi => Nat.lt_of_lt_of_le (h.wl u hu i hi) k.size, h.s34⟩

/-- A payload is wanted, too. -/
theorem ThL.put {w wr w3 : World} {L : List (List Int)} {ws : List Value} {v3 v4 v3' u : Value} {m : List Int} {x : Obj} (h : ThL w wr L ws v3 v4) (hu : SlB wr u m) (m1 : 1 ≤ m.length) (hsep : ∀ k, v3.ownBlock = some k → u.ownBlock ≠ some k)
    (ho : w3.ownsRow 0 26 1 v3' (ws.length + 1) (ws ++ [u])) (k3 : Keeps (Bl v3) (wr.alloc x) w3) (hb : ∀ k, v3'.ownBlock = some k → v3.ownBlock = some k ∨ (wr.alloc x).heap.size ≤ k) :
    w3.ownsRow 0 26 1 v3' (ws ++ [u]).length (ws ++ [u]) ∧ RdAll w3 (ws ++ [u]) (L ++ [m]) ∧ w3.ownsRow 0 5 1 v4 (L.flatMap frm).length ((L.flatMap frm).map (Value.int .u8)) ∧ Keeps No w w3 ∧
    (∀ k, v3'.ownBlock = some k → w.heap.size ≤ k) ∧ (∀ u' ∈ ws ++ [u], ∀ k, v3'.ownBlock = some k → u'.ownBlock ≠ some k) ∧ (∀ u' ∈ ws ++ [u], ∀ k, u'.ownBlock = some k → k < w3.heap.size) := by
  have kx : Keeps No wr (wr.alloc x) := (Keeps.refl No wr).alloc x
  have hsz : (wr.alloc x).heap.size = wr.heap.size + 1 := by simp
  have k4 : Keeps (Bl v3) wr w3 := kx.trans' k3 (fun _ _ h => h.elim) (fun _ _ h => h)
  have hul : ∀ k, u.ownBlock = some k → k < wr.heap.size := hu.lt (by omega)
  have z := h.keep.size
  have z4 := k4.size
  refine ⟨by rw [List.length_append]; exact ho, RdAll.snoc (hu.keep k4 (fun k hk hB => hsep k hB hk)) (RdAll.keep k4 h.wrd (fun u' hu' k hk hB => h.wsep u' hu' k hB hk)), k4.own h.str (fun k hk hB => h.s34 k hB hk),
    h.keep.trans' k4 (fun _ _ h => h) (fun k hk hB => by have := h.wnew k hB; omega), ?_, ?_, ?_⟩
  · intro k hk
    rcases hb k hk with h' | h'
    · exact h.wnew k h'
    · omega
  · intro u' hu' k hk hk'
    rcases List.mem_append.1 hu' with h'' | h''
    · rcases hb k hk with h' | h'
      · exact h.wsep u' h'' k h' hk'
      · have := h.wl u' h'' k hk'
        omega
    · simp at h''; subst h''
      rcases hb k hk with h' | h'
      · exact hsep k h' hk'
      · have := hul k hk'
        omega
  · intro u' hu' k hk
    rcases List.mem_append.1 hu' with h'' | h''
    · have := h.wl u' h'' k hk
      omega
    · simp at h''; subst h''
      have := hul k hk
      omega

/-- Its frame is laid, too. -/
theorem ThL.join {w w3 w4 : World} {L : List (List Int)} {ws : List Value} {v3 v4 v4' : Value} {m : List Int} (hgood : ∀ x ∈ L, 1 ≤ x.length ∧ x.length ≤ 32) (hlen : (L.flatMap frm).length ≤ 37 * L.length) (hbyt : Bytes (L.flatMap frm)) (m1 : 1 ≤ m.length) (m2 : m.length ≤ 32) (mb : Bytes m)
    (hp : w3.ownsRow 0 26 1 v3 ws.length ws ∧ RdAll w3 ws (L ++ [m]) ∧ w3.ownsRow 0 5 1 v4 (L.flatMap frm).length ((L.flatMap frm).map (Value.int .u8)) ∧ Keeps No w w3 ∧
      (∀ k, v3.ownBlock = some k → w.heap.size ≤ k) ∧ (∀ u' ∈ ws, ∀ k, v3.ownBlock = some k → u'.ownBlock ≠ some k) ∧ (∀ u' ∈ ws, ∀ k, u'.ownBlock = some k → k < w3.heap.size))
    (ho : w4.ownsRow 0 5 1 v4' ((L.flatMap frm).length + (frm m).length) (((L.flatMap frm) ++ frm m).map (Value.int .u8))) (k : Keeps No w3 w4) (f : Fresh w3 v4') : ThL w w4 (L ++ [m]) ws v3 v4' := by
  obtain ⟨h1, h2, _, h4, h5, h6, h7⟩ := hp
  have e : (L ++ [m]).flatMap frm = L.flatMap frm ++ frm m := by simp
  refine ⟨k.own h1 (fun _ _ h => h), RdAll.keep k h2 (fun _ _ _ _ h => h), by rw [e, List.length_append]; exact ho, ?_, ?_, ?_, h4.trans k, h5, h6, fun u hu i hi => Nat.lt_of_lt_of_le (h7 u hu i hi) k.size, ?_⟩
  · rw [e, List.length_append, frm_len, List.length_append, List.length_singleton]
    omega
  · rw [e]
    exact hbyt.append (frm_bytes mb (by omega))
  · intro x hx
    rcases List.mem_append.1 hx with hx | hx
    · exact hgood x hx
    · simp at hx; subst hx; exact ⟨m1, m2⟩
  · intro i hi h'
    have a1 := own_lt h1 i hi
    have a2 := f i h'
    omega

end Go.Proofs.Ythfjihpfcollfaa
