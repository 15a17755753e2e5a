/-
  What FramePieces holds: a stream, a scanner that was fed all of it, and what it told; another scanner, fed piece by piece, and what it told so far.
-/
import Derived.Test.YthfjihpfcollfaaFr11
namespace Go.Proofs.Ythfjihpfcollfaa
open Go.RowKit

/-- The blocks that the second scanner doesn't touch. -/
def PcO (pv : Value) (Fa : Nat → Prop) (wv : Value) (ws : List Value) : Nat → Prop := fun k => pv.ownBlock = some k ∨ Fa k ∨ wv.ownBlock = some k ∨ ∃ u ∈ ws, u.ownBlock = some k

/-- What stays. -/
structure PcF (w0 : World) (sa : Nat) (X : List Int) (pv : Value) (Fa : Nat → Prop) (sA : Sc) (wv : Value) (ws : List Value) : Prop where
  xr : w0.ownsRow 0 5 1 pv X.length (X.map (Value.int .u8))
  a : ScS w0 sa Fa sA.rest sA.lost
  want : w0.ownsRow 0 26 1 wv ws.length ws
  wrd : RdAll w0 ws sA.out
  low : ∀ k, PcO pv Fa wv ws k → k < w0.heap.size

theorem PcF.keep {w0 w1 : World} {sa : Nat} {X : List Int} {pv : Value} {Fa : Nat → Prop} {sA : Sc} {wv : Value} {ws : List Value} (h : PcF w0 sa X pv Fa sA wv ws) (k : Keeps (fun k => ¬ PcO pv Fa wv ws k) w0 w1) : PcF w1 sa X pv Fa sA wv ws :=
  ⟨k.own h.xr (fun i hi hn => hn (Or.inl hi)), h.a.keep k (fun i hi hn => hn (Or.inr (Or.inl hi))), k.own h.want (fun i hi hn => hn (Or.inr (Or.inr (Or.inl hi)))),
   RdAll.keep k h.wrd (fun u hu i hi hn => hn (Or.inr (Or.inr (Or.inr ⟨u, hu, hi⟩)))), fun i hi => Nat.lt_of_lt_of_le (h.low i hi) k.size⟩

/-- What moves. -/
structure PcL (w w0 wr : World) (sb : Nat) (X : List Int) (O : Nat → Prop) (Fb : Nat → Prop) (i : Nat) (gv : Value) (gs : List Value) : Prop where
  b : OwnS w wr sb Fb (scan (X.take i)).rest (scan (X.take i)).lost
  top : i ≤ X.length
  got : wr.ownsRow 0 26 1 gv gs.length gs
  grd : RdAll wr gs (scan (X.take i)).out
  keep : Keeps (fun k => ¬ O k) w0 wr
  bo : ∀ k, Fb k → ¬ O k
  go : ∀ k, gv.ownBlock = some k → ¬ O k
  gb : ∀ k, gv.ownBlock = some k → ¬ Fb k
  gnew : ∀ k, gv.ownBlock = some k → w.heap.size ≤ k
  gsb : ∀ u ∈ gs, ∀ k, u.ownBlock = some k → ¬ Fb k
  gsg : ∀ u ∈ gs, ∀ k, gv.ownBlock = some k → u.ownBlock ≠ some k
  gsl : ∀ u ∈ gs, ∀ k, u.ownBlock = some k → k < wr.heap.size

theorem PcL.step {w w0 wr w2 w3 : World} {sb : Nat} {X : List Int} {O Fb F' : Nat → Prop} {i n : Nat} {gv gv' : Value} {gs us : List Value} (h : PcL w w0 wr sb X O Fb i gv gs) (low : ∀ k, O k → k < w0.heap.size) (h1 : i ≤ n) (h2 : n ≤ X.length)
    {s : Sc} (hs : scan ((scan (X.take i)).rest ++ (X.drop i).take (n - i)) = s) (hsc : OwnS w w2 sb F' s.rest ((scan (X.take i)).lost + s.lost)) (hu : Upd Fb wr w2 F') (hr : RdAll w2 us s.out) (m5 : ∀ u ∈ us, New wr w2 u)
    (y5 : ∀ u ∈ us, ∀ k, u.ownBlock = some k → ¬ F' k) (t5 : ∀ k, F' k → k < w2.heap.size) (ho : w3.ownsRow 0 26 1 gv' (gs.length + us.length) (gs ++ us)) (k3 : Keeps (Bl gv) w2 w3)
    (hb : ∀ k, gv'.ownBlock = some k → gv.ownBlock = some k ∨ w2.heap.size ≤ k) : PcL w w0 w3 sb X O F' n gv' (gs ++ us) := by
  have hg := own_lt h.got
  have hgF : ∀ k, gv.ownBlock = some k → ¬ F' k := fun k hk => hu.out (hg k hk) (h.gb k hk)
  have e : X.take n = X.take i ++ (X.drop i).take (n - i) := by
    have := List.take_add (l := X) (i := i) (j := n - i)
    rwa [show i + (n - i) = n by omega] at this
  have hsn := scan_append (X.take i) ((X.drop i).take (n - i))
  rw [← e, hs] at hsn
  have z0 := h.keep.size
  have z1 := hu.keeps.size
  have z2 := k3.size
  refine ⟨⟨?_, hsc.new, hsc.keep.trans' k3 (fun _ _ h => h) (fun k hk hB => ?_)⟩, h2, by rw [List.length_append]; exact ho, ?_, ?_, ?_, ?_, ?_, ?_, ?_, ?_, ?_⟩
  · rw [hsn]
    exact hsc.sc.keep k3 (fun k hk hB => hgF k hB hk)
  · have := h.gnew k hB
    omega
  · rw [hsn]
    refine RdAll.app (RdAll.keep k3 (RdAll.keep hu.keeps h.grd h.gsb) (fun u hu' k hk hB => h.gsg u hu' k hB hk)) (RdAll.keep k3 hr (fun u hu' k hk hB => ?_))
    have a1 := (m5 u hu' k hk).1
    have a2 := hg k hB
    omega
  · exact (h.keep.trans' hu.keeps (T := fun k => ¬ O k) (fun _ _ h => h) (fun k _ hk => h.bo k hk)).trans' k3 (fun _ _ h => h) (fun k _ hk => h.go k hk)
  · intro k hk hO
    have a1 := low k hO
    rcases hu.fresh k hk with h' | h'
    · exact h.bo k h' hO
    · omega
  · intro k hk hO
    have a1 := low k hO
    rcases hb k hk with h' | h'
    · exact h.go k h' hO
    · omega
  · intro k hk hF
    rcases hb k hk with h' | h'
    · exact hgF k h' hF
    · have := t5 k hF
      omega
  · intro k hk
    rcases hb k hk with h' | h'
    · exact h.gnew k h'
    · have := hsc.keep.size
      omega
  · intro u hu' k hk
    rcases List.mem_append.1 hu' with h' | h'
    · exact hu.out (h.gsl u h' k hk) (h.gsb u h' k hk)
    · exact y5 u h' k hk
  · intro u hu' k hk hku
    rcases hb k hk with h' | h'
    · rcases List.mem_append.1 hu' with h'' | h''
      · exact h.gsg u h'' k h' hku
      · have a1 := (m5 u h'' k hku).1
        have a2 := hg k h'
        omega
    · rcases List.mem_append.1 hu' with h'' | h''
      · have := h.gsl u h'' k hku
        omega
      · have := (m5 u h'' k hku).2
        omega
  · intro u hu' k hk
    rcases List.mem_append.1 hu' with h' | h'
    · have := h.gsl u h' k hk
      omega
    · have := (m5 u h' k hk).2
      omega

theorem RdAll.one {w : World} : ∀ {vs : List Value} {L : List (List Int)}, RdAll w vs L → ∀ u ∈ vs, u.oneCell' = true
  | [], [], _, u, hu => by simp at hu
  | [], _ :: _, h, _, _ => h.elim
  | _ :: _, [], h, _, _ => h.elim
  | x :: vs, _ :: L, h, u, hu => by
    rcases List.mem_cons.1 hu with rfl | hu
    · obtain ⟨a, c, rfl⟩ := h.1.any
      rfl
    · exact RdAll.one h.2 u hu

end Go.Proofs.Ythfjihpfcollfaa
