/-
  A reader of bytes: what each of its functions does, said of what is left, of the place, and of the fault.
-/
import Derived.Test.YtlenhccdkhgfgaaDoorWord
import Derived.Laws.BitsAllLaws
namespace Go.Proofs.YtlenhccdkhgfgaaDoor
open Go.RowKit

/-- What a reader is at: the bytes that are left, the place, the fault. -/
structure RS where
  l : List Int
  k : Nat
  f : Int

/-- A number of four bytes. -/
def int32Of (a b c d : Int) : Int := (if 127 < a then a - 256 else a) * 16777216 + b * 65536 + c * 256 + d

def RS.byte (s : RS) : Int × RS := if s.f = 0 then (match s.l with | [] => (0, ⟨[], s.k, 4⟩) | b :: t => (b, ⟨t, s.k + 1, 0⟩)) else (0, s)
def RS.flag (s : RS) : Bool × RS := if s.f = 0 then (match s.l with | [] => (false, ⟨[], s.k, 4⟩) | b :: t => if 1 < b then (false, ⟨[], s.k, 2⟩) else (b == 1, ⟨t, s.k + 1, 0⟩)) else (false, s)
def RS.int (s : RS) : Int × RS := if s.f = 0 then (match s.l with | a :: b :: c :: d :: t => (int32Of a b c d, ⟨t, s.k + 4, 0⟩) | _ => (0, ⟨[], s.k, 4⟩)) else (0, s)
def RS.fault (s : RS) : Int × Int := if s.f = 0 then (0, 0) else ((s.k : Int), s.f)
def RS.fin (s : RS) : Int × Int := if 0 < s.l.length then ((s.k : Int), 2) else s.fault

/-- The reader at block rb is at s; it stands in blocks of F. -/
structure RdP (w : World) (rb : Nat) (F : Nat → Prop) (s : RS) (lv : Value) : Prop where
  blk : w.heap[rb]? = some (.cells #[lv, .int .i64 s.k, .int .i64 s.f] 133 (0, 0))
  sl : SlB w lv s.l
  ne : lv.ownBlock ≠ some rb
  rb : F rb
  own : ∀ k, lv.ownBlock = some k → F k
  len : s.k + s.l.length ≤ 100000
  byt : Bytes s.l
  bad : s.f ≠ 0 → s.l = []

def Rd (w : World) (rb : Nat) (F : Nat → Prop) (s : RS) : Prop := ∃ lv, RdP w rb F s lv

theorem Rd.keep {S : Nat → Prop} {w w' : World} {rb : Nat} {F : Nat → Prop} {s : RS} (h : Rd w rb F s) (k : Keeps S w w') (hs : ∀ i, F i → ¬ S i) : Rd w' rb F s := by
  obtain ⟨lv, h⟩ := h
  exact ⟨lv, k.heap (hs rb h.rb) h.blk, h.sl.keep k (fun i hi => hs i (h.own i hi)), h.ne, h.rb, h.own, h.len, h.byt, h.bad⟩

theorem SlB.front' {w : World} {p : List Int} {a : Option Addr} {cap n : Nat} (h : SlB w (.slice a p.length cap) p) (hn : n ≤ p.length) : SlB w (.slice a n cap) (p.take n) := by
  have := Sl.front h hn
  rw [Nat.mul_one, ← List.map_take] at this
  unfold SlB
  rw [List.length_take, Nat.min_eq_left hn]
  exact this

theorem SlB.from {w : World} {cap lo : Nat} {a : Option Addr} {l : List Int} (h : SlB w (.slice a l.length cap) l) (h1 : lo ≤ l.length) :
    SlB w (.slice (if cap = lo then a else a.map (·.add lo)) (l.length - lo) (cap - lo)) (l.drop lo) := by
  have := Sl.sub h h1 (Nat.le_refl _)
  simp only [Nat.mul_one] at this
  rw [← List.map_drop, List.take_of_length_le (by simp)] at this
  unfold SlB
  rw [List.length_drop]
  exact this

section
variable {w : World} {rb : Nat} {F : Nat → Prop} {s : RS}

set_option maxHeartbeats 1000000 in
set_option maxRecDepth 100000 in
theorem rfail_any {lv : Value} (h : RdP w rb F s lv) (e : Int) (he : e ≠ 0) :
    Calls Tryd.prog 84 #[.pointer (some ⟨rb, 0, none⟩), .int .i64 e] w fun r w' => r = .returned (.tuple #[]) ∧ Rd w' rb F ⟨[], s.k, e⟩ ∧ Keeps (fun k => k = rb) w w' := by
  have c0 := cell_at (i := 0) h.blk rfl
  have c2 := cell_at (i := 2) h.blk rfl
  have f0 := free_at (i := 0) h.blk
  have f2 := free_at (i := 2) h.blk
  have H := hid h
  have HE := hid he
  clear h he
  go_enter Tryd.func84, Tryd.ntmps84
  go_wp2_with fail
  go_end0
  refine ⟨rfl, ⟨.slice none 0 0, ?_, Sl.nil _ _, by simp [Value.ownBlock], H.out.rb, fun k hk => by simp [Value.ownBlock] at hk, ?_, ?_, fun _ => rfl⟩, ?_⟩
  · have h1 := heap_setCell_at (i := 2) (v := .int .i64 e) H.out.blk
    have h2 := heap_setCell_at (i := 0) (v := .slice none 0 0) h1
    simpa using h2
  · have := H.out.len; simp; omega
  · intro x hx; simp at hx
  · exact (Keeps.refl _ _).at.at

set_option maxHeartbeats 1000000 in
set_option maxRecDepth 100000 in
theorem rhas_bad (h : Rd w rb F s) (hf : s.f ≠ 0) (n : Int) :
    Calls Tryd.prog 82 #[.pointer (some ⟨rb, 0, none⟩), .int .i64 n] w fun r w' => r = .returned (.bool false) ∧ w = w' := by
  obtain ⟨lv, h⟩ := h
  have c2 := cell_at (i := 2) h.blk rfl
  have hf' : (s.f != 0) = true := by simpa using hf
  generalize s.f = f at *
  clear h hf
  go_enter Tryd.func82, Tryd.ntmps82
  go_wp2_with fail
  go_ret
  exact ⟨rfl, rfl⟩

set_option maxHeartbeats 1000000 in
set_option maxRecDepth 100000 in
theorem rhas_short (h : Rd w rb F s) (hf : s.f = 0) {n : Nat} {z : Int} (hz : z = n) (hn : s.l.length < n) :
    Calls Tryd.prog 82 #[.pointer (some ⟨rb, 0, none⟩), .int .i64 z] w fun r w' => r = .returned (.bool false) ∧ Rd w' rb F ⟨[], s.k, 4⟩ ∧ Keeps (fun k => k = rb) w w' := by
  subst hz
  obtain ⟨lv, h⟩ := h
  have hh := rfail_any h 4 (by decide)
  obtain ⟨a, cap, rfl⟩ := h.sl.any
  have c0 := cell_at (i := 0) h.blk rfl
  have c2 := cell_at (i := 2) h.blk rfl
  simp at c0 c2
  rw [hf] at c2
  have hd : decide ((s.l.length : Int) < n) = true := by simp; omega
  have HH := hid hh
  clear h hh hf
  go_enter Tryd.func82, Tryd.ntmps82
  go_wp2_with fail
  refine HH.out.mono ?_
  rintro r w' ⟨rfl, hr, hk⟩
  have HR := hid hr
  have HK := hid hk
  clear hr hk HH
  go_wp2_with fail
  go_ret
  exact ⟨rfl, HR.out, HK.out⟩

set_option maxHeartbeats 1000000 in
set_option maxRecDepth 100000 in
theorem rhas_ok (h : Rd w rb F s) (hf : s.f = 0) {n : Nat} {z : Int} (hz : z = n) (hn : n ≤ s.l.length) :
    Calls Tryd.prog 82 #[.pointer (some ⟨rb, 0, none⟩), .int .i64 z] w fun r w' => r = .returned (.bool true) ∧ w = w' := by
  subst hz
  obtain ⟨lv, h⟩ := h
  obtain ⟨a, cap, rfl⟩ := h.sl.any
  have c0 := cell_at (i := 0) h.blk rfl
  have c2 := cell_at (i := 2) h.blk rfl
  simp at c0 c2
  rw [hf] at c2
  have hd : decide ((s.l.length : Int) < n) = false := by simp; omega
  clear h hf
  go_enter Tryd.func82, Tryd.ntmps82
  go_wp2_with fail
  go_ret
  exact ⟨rfl, rfl⟩

set_option maxHeartbeats 1000000 in
set_option maxRecDepth 100000 in
theorem rtake_ok (h : Rd w rb F s) (hf : s.f = 0) {n : Nat} {z : Int} (hz : z = n) (hn : n ≤ s.l.length) :
    Calls Tryd.prog 83 #[.pointer (some ⟨rb, 0, none⟩), .int .i64 z] w fun r w' => ∃ v, r = .returned v ∧ SlB w' v (s.l.take n) ∧ Rd w' rb F ⟨s.l.drop n, s.k + n, 0⟩ ∧ Keeps (fun k => k = rb) w w' := by
  subst hz
  obtain ⟨lv, h⟩ := h
  obtain ⟨a, cap, rfl⟩ := h.sl.any
  have hcap := Sl.cap h.sl
  have hncap : n ≤ cap := by omega
  have hlen := h.len
  have c0 := cell_at (i := 0) h.blk rfl
  have c1 := cell_at (i := 1) h.blk rfl
  have f0 := free_at (i := 0) h.blk
  have f1 := free_at (i := 1) h.blk
  simp at c0 c1
  obtain ⟨a', hsv⟩ : ∃ a', (if cap = n then a else a.map (·.add n)) = a' := ⟨_, rfl⟩
  have hsl : ∀ w : World, (Instr.slice 23 (.slice a s.l.length cap) (some (.int .i64 n)) none none).run Tryd.prog w = .ok (.slice a' (s.l.length - n) (cap - n)) w := fun w => by
    rw [← hsv]
    exact run_slice1From Tryd.underlying23 (by kernel_rfl) rfl hn w
  have H := hid h
  have HSV := hid hsv
  have HF := hid hf
  clear h hf hsv
  go_enter Tryd.func83, Tryd.ntmps83
  go_wp2_with fail
  go_ret
  have hk : Keeps (fun k => k = rb) w ((w.setCell ⟨rb, 0, none⟩ (.slice a' (s.l.length - n) (cap - n))).setCell ⟨rb, 1, none⟩ (.int .i64 ((s.k : Int) + n))) := (Keeps.refl _ _).at.at
  have hne := H.out.ne
  have hne' : ∀ b, (Value.slice a s.l.length cap).ownBlock = some b → ¬ b = rb := fun b hb e => hne (e ▸ hb)
  refine ⟨_, rfl, (SlB.front' H.out.sl hn).keep hk (fun b hb => hne' b (by rw [own_any_len a _ _ n cap]; exact hb)), ⟨.slice a' (s.l.length - n) (cap - n), ?_, ?_, ?_, H.out.rb, ?_, ?_, ?_, ?_⟩, hk⟩
  · have h1 := heap_setCell_at (i := 0) (v := .slice a' (s.l.length - n) (cap - n)) H.out.blk
    have h2 := heap_setCell_at (i := 1) (v := .int .i64 ((s.k : Int) + n)) h1
    rw [HF.out] at h2
    simpa using h2
  · have := SlB.from H.out.sl hn
    rw [HSV.out] at this
    have h2 := Sl.keep this hk (fun b hb => hne' b (own_from (by rw [← HSV.out] at hb; exact hb)))
    unfold SlB
    simpa using h2
  · intro e
    rw [← HSV.out] at e
    exact hne (own_from e)
  · intro k hk'
    rw [← HSV.out] at hk'
    exact H.out.own k (own_from hk')
  · simp; omega
  · intro x hx; exact H.out.byt x (List.mem_of_mem_drop hx)
  · intro h; exact absurd rfl h

end

end Go.Proofs.YtlenhccdkhgfgaaDoor
