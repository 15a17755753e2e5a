/-
  What a pass that reads does with one number, a signal, a stage.
-/
import Derived.Test.YtlenhccdkhgfgaaDoorImg5
import Derived.Test.YtlenhccdkhgfgaaDoorRead3
import Derived.StillTailTactics
namespace Go.Proofs.YtlenhccdkhgfgaaDoor
open Go.RowKit

/-- The pass at block pb reads, by the reader at rb. -/
def Rdl (w : World) (pb rb : Nat) : Prop := w.heap[pb]? = some (.cells #[.pointer none, .pointer (some ⟨rb, 0, none⟩)] 66 (0, 0))

theorem Rd.frb {w : World} {rb : Nat} {F : Nat → Prop} {s : RS} (h : Rd w rb F s) : F rb := by
  obtain ⟨lv, h⟩ := h
  exact h.rb

theorem Rd.rlt {w : World} {rb : Nat} {F : Nat → Prop} {s : RS} (h : Rd w rb F s) : rb < w.heap.size := by
  obtain ⟨lv, h⟩ := h
  exact lt_of_block h.blk

theorem Rd.bytes {w : World} {rb : Nat} {F : Nat → Prop} {s : RS} (h : Rd w rb F s) : Bytes s.l := by
  obtain ⟨lv, h⟩ := h
  exact h.byt

theorem RS.byte_le {s : RS} (h : Bytes s.l) : 0 ≤ s.byte.1 ∧ s.byte.1 ≤ 255 := by
  unfold RS.byte
  split
  · split
    · simp
    · rename_i b t e
      exact h b (by rw [e]; simp)
  · simp

/-- Two blocks are written. -/
def Two (a b : Nat) : Nat → Prop := fun k => k = a ∨ k = b

section
variable {w : World} {pb rb : Nat} {F : Nat → Prop} {s : RS} {b o : Nat} {T : TypeId} {xs : List Value}

set_option maxHeartbeats 2000000 in
set_option maxRecDepth 100000 in
theorem rsmallB_any (hp : Rdl w pb rb) (h : Rd w rb F s) (hb : BlkL w b T xs) (ho : o < xs.length) (nb : ¬ F b) :
    Calls Tryd.prog 33 #[.pointer (some ⟨pb, 0, none⟩), .pointer (some ⟨b, o, none⟩)] w fun e w' => e = .returned (.tuple #[]) ∧ BlkL w' b T (xs.set o (.int .u8 s.byte.1)) ∧ Rd w' rb F s.byte.2 ∧ Keeps (Two rb b) w w' := by
  have c0 := cell_at (i := 0) hp rfl
  have c1 := cell_at (i := 1) hp rfl
  simp at c0 c1
  have hrb := h.frb
  have hbr : ¬ b = rb := fun e => nb (e ▸ hrb)
  have HW := hid (rbyte_any h)
  have HB := hid hb
  have HO := hid (List.getElem?_eq_getElem ho)
  clear hp h hb hrb
  go_enter Tryd.func33, Tryd.ntmps33
  go_wp2_with fail
  refine HW.out.mono ?_
  rintro e w1 ⟨rfl, h1, k1⟩
  have hb1 := HB.out.keep k1 hbr
  have x0 := hb1.cell HO.out
  have x1 := hb1.free o
  have HB1 := hid hb1
  have H1 := hid h1
  have K1 := hid k1
  clear h1 k1 hb1
  go_wp2_with fail
  go_end0
  exact ⟨rfl, HB1.out.set o _, H1.out.keep (S := fun k => k = b) ((Keeps.refl _ _).at) (fun i hi e => nb (e ▸ hi)), Keeps.setCell (S := Two rb b) (p := ⟨b, o, none⟩) (K1.out.mono (fun _ _ h => Or.inl h)) (Or.inr (Or.inr rfl)) _⟩

set_option maxHeartbeats 2000000 in
set_option maxRecDepth 100000 in
theorem rsmallI_any (hp : Rdl w pb rb) (h : Rd w rb F s) (hb : BlkL w b T xs) (ho : o < xs.length) (nb : ¬ F b) :
    Calls Tryd.prog 43 #[.pointer (some ⟨pb, 0, none⟩), .pointer (some ⟨b, o, none⟩)] w fun e w' => e = .returned (.tuple #[]) ∧ BlkL w' b T (xs.set o (.int .i64 s.byte.1)) ∧ Rd w' rb F s.byte.2 ∧ Keeps (Two rb b) w w' := by
  have c0 := cell_at (i := 0) hp rfl
  have c1 := cell_at (i := 1) hp rfl
  simp at c0 c1
  have hrb := h.frb
  have hbr : ¬ b = rb := fun e => nb (e ▸ hrb)
  have HW := hid (rbyte_any h)
  have HB := hid hb
  have HO := hid (List.getElem?_eq_getElem ho)
  have hby := RS.byte_le h.bytes
  obtain ⟨hy0, hy1⟩ := hby
  clear hp h hb hrb
  go_enter Tryd.func43, Tryd.ntmps43
  go_wp2_with fail
  refine HW.out.mono ?_
  rintro e w1 ⟨rfl, h1, k1⟩
  have hb1 := HB.out.keep k1 hbr
  have x0 := hb1.cell HO.out
  have x1 := hb1.free o
  have HB1 := hid hb1
  have H1 := hid h1
  have K1 := hid k1
  clear h1 k1 hb1
  go_wp2_with fail
  go_end0
  exact ⟨rfl, HB1.out.set o _, H1.out.keep (S := fun k => k = b) ((Keeps.refl _ _).at) (fun i hi e => nb (e ▸ hi)), Keeps.setCell (S := Two rb b) (p := ⟨b, o, none⟩) (K1.out.mono (fun _ _ h => Or.inl h)) (Or.inr (Or.inr rfl)) _⟩

set_option maxHeartbeats 2000000 in
set_option maxRecDepth 100000 in
theorem rwholeI_any (hp : Rdl w pb rb) (h : Rd w rb F s) (hb : BlkL w b T xs) (ho : o < xs.length) (nb : ¬ F b) :
    Calls Tryd.prog 36 #[.pointer (some ⟨pb, 0, none⟩), .pointer (some ⟨b, o, none⟩)] w fun e w' => e = .returned (.tuple #[]) ∧ BlkL w' b T (xs.set o (.int .i64 s.int.1)) ∧ Rd w' rb F s.int.2 ∧ Keeps (Two rb b) w w' := by
  have c0 := cell_at (i := 0) hp rfl
  have c1 := cell_at (i := 1) hp rfl
  simp at c0 c1
  have hrb := h.frb
  have hbr : ¬ b = rb := fun e => nb (e ▸ hrb)
  have HW := hid (rint_any h)
  have HB := hid hb
  have HO := hid (List.getElem?_eq_getElem ho)
  clear hp h hb hrb
  go_enter Tryd.func36, Tryd.ntmps36
  go_wp2_with fail
  refine HW.out.mono ?_
  rintro e w1 ⟨rfl, h1, k1⟩
  have hb1 := HB.out.keep k1 hbr
  have x0 := hb1.cell HO.out
  have x1 := hb1.free o
  have HB1 := hid hb1
  have H1 := hid h1
  have K1 := hid k1
  clear h1 k1 hb1
  go_wp2_with fail
  go_end0
  exact ⟨rfl, HB1.out.set o _, H1.out.keep (S := fun k => k = b) ((Keeps.refl _ _).at) (fun i hi e => nb (e ▸ hi)), Keeps.setCell (S := Two rb b) (p := ⟨b, o, none⟩) (K1.out.mono (fun _ _ h => Or.inl h)) (Or.inr (Or.inr rfl)) _⟩

set_option maxHeartbeats 2000000 in
set_option maxRecDepth 100000 in
theorem rwholeL_any (hp : Rdl w pb rb) (h : Rd w rb F s) (hb : BlkL w b T xs) (ho : o < xs.length) (nb : ¬ F b) :
    Calls Tryd.prog 44 #[.pointer (some ⟨pb, 0, none⟩), .pointer (some ⟨b, o, none⟩)] w fun e w' => e = .returned (.tuple #[]) ∧ BlkL w' b T (xs.set o (.int .i64 s.int.1)) ∧ Rd w' rb F s.int.2 ∧ Keeps (Two rb b) w w' := by
  have c0 := cell_at (i := 0) hp rfl
  have c1 := cell_at (i := 1) hp rfl
  simp at c0 c1
  have hrb := h.frb
  have hbr : ¬ b = rb := fun e => nb (e ▸ hrb)
  have HW := hid (rint_any h)
  have HB := hid hb
  have HO := hid (List.getElem?_eq_getElem ho)
  clear hp h hb hrb
  go_enter Tryd.func44, Tryd.ntmps44
  go_wp2_with fail
  refine HW.out.mono ?_
  rintro e w1 ⟨rfl, h1, k1⟩
  have hb1 := HB.out.keep k1 hbr
  have x0 := hb1.cell HO.out
  have x1 := hb1.free o
  have HB1 := hid hb1
  have H1 := hid h1
  have K1 := hid k1
  clear h1 k1 hb1
  go_wp2_with fail
  go_end0
  exact ⟨rfl, HB1.out.set o _, H1.out.keep (S := fun k => k = b) ((Keeps.refl _ _).at) (fun i hi e => nb (e ▸ hi)), Keeps.setCell (S := Two rb b) (p := ⟨b, o, none⟩) (K1.out.mono (fun _ _ h => Or.inl h)) (Or.inr (Or.inr rfl)) _⟩

set_option maxHeartbeats 2000000 in
set_option maxRecDepth 100000 in
theorem rflagP_any (hp : Rdl w pb rb) (h : Rd w rb F s) (hb : BlkL w b T xs) (ho : o < xs.length) (nb : ¬ F b) :
    Calls Tryd.prog 45 #[.pointer (some ⟨pb, 0, none⟩), .pointer (some ⟨b, o, none⟩)] w fun e w' => e = .returned (.tuple #[]) ∧ BlkL w' b T (xs.set o (.bool s.flag.1)) ∧ Rd w' rb F s.flag.2 ∧ Keeps (Two rb b) w w' := by
  have c0 := cell_at (i := 0) hp rfl
  have c1 := cell_at (i := 1) hp rfl
  simp at c0 c1
  have hrb := h.frb
  have hbr : ¬ b = rb := fun e => nb (e ▸ hrb)
  have HW := hid (rflag_any h)
  have HB := hid hb
  have HO := hid (List.getElem?_eq_getElem ho)
  clear hp h hb hrb
  go_enter Tryd.func45, Tryd.ntmps45
  go_wp2_with fail
  refine HW.out.mono ?_
  rintro e w1 ⟨rfl, h1, k1⟩
  have hb1 := HB.out.keep k1 hbr
  have x0 := hb1.cell HO.out
  have x1 := hb1.free o
  have HB1 := hid hb1
  have H1 := hid h1
  have K1 := hid k1
  clear h1 k1 hb1
  go_wp2_with fail
  go_end0
  exact ⟨rfl, HB1.out.set o _, H1.out.keep (S := fun k => k = b) ((Keeps.refl _ _).at) (fun i hi e => nb (e ▸ hi)), Keeps.setCell (S := Two rb b) (p := ⟨b, o, none⟩) (K1.out.mono (fun _ _ h => Or.inl h)) (Or.inr (Or.inr rfl)) _⟩

end
end Go.Proofs.YtlenhccdkhgfgaaDoor
