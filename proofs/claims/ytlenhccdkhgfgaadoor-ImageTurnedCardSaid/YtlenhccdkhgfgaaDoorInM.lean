/-
  Together: In, In2.
-/
import Derived.Test.YtlenhccdkhgfgaaDoorRead3
/-
  The document's reader of bytes: it is at the same as the program's.
-/
namespace Go.Proofs.YtlenhccdkhgfgaaDoor
open Go.RowKit

/-- The document's reader at block mb reads p and is at s. -/
structure InP (w : World) (mb : Nat) (F : Nat → Prop) (p : List Int) (s : RS) (pv : Value) : Prop where
  blk : w.heap[mb]? = some (.cells #[pv, .int .i64 s.k, .int .i64 s.f] 119 (0, 0))
  sl : SlB w pv p
  ne : 0 < p.length → pv.ownBlock ≠ some mb
  mb : F mb
  own : 0 < p.length → ∀ k, pv.ownBlock = some k → F k
  len : p.length ≤ 100000
  byt : Bytes p
  at_ : s.k ≤ p.length
  left : s.l = if s.f = 0 then p.drop s.k else []

def In (w : World) (mb : Nat) (F : Nat → Prop) (p : List Int) (s : RS) : Prop := ∃ pv, InP w mb F p s pv

theorem In.keep {S : Nat → Prop} {w w' : World} {mb : Nat} {F : Nat → Prop} {p : List Int} {s : RS} (h : In w mb F p s) (k : Keeps S w w') (hs : ∀ i, F i → ¬ S i) : In w' mb F p s := by
  obtain ⟨lv, h⟩ := h
  exact ⟨lv, k.heap (hs mb h.mb) h.blk, h.sl.keep' k (fun h0 i hi _ => hs i (h.own h0 i hi)), h.ne, h.mb, h.own, h.len, h.byt, h.at_, h.left⟩

section
variable {w : World} {mb : Nat} {F : Nat → Prop} {p : List Int} {s : RS}

theorem InP.to {w' : World} {pv : Value} {s' : RS} (h : InP w mb F p s pv) (k : Keeps (fun k => k = mb) w w') (hb : w'.heap[mb]? = some (.cells #[pv, .int .i64 s'.k, .int .i64 s'.f] 119 (0, 0)))
    (ha : s'.k ≤ p.length) (hl : s'.l = if s'.f = 0 then p.drop s'.k else []) : In w' mb F p s' :=
  ⟨pv, hb, h.sl.keep' k (fun h0 _ hi _ e => h.ne h0 (e ▸ hi)), h.ne, h.mb, h.own, h.len, h.byt, ha, hl⟩

set_option maxHeartbeats 1000000 in
set_option maxRecDepth 100000 in
theorem iready_bad (h : In w mb F p s) (hf : s.f ≠ 0) (n : Int) :
    Calls Tryd.prog 78 #[.pointer (some ⟨mb, 0, none⟩), .int .i64 n] w fun r w' => r = .returned (.bool false) ∧ Keeps No w w' := by
  obtain ⟨pv, h⟩ := h
  have c2 := cell_at (i := 2) h.blk rfl
  simp at c2
  have hf' : (s.f == 0) = false := by simpa using hf
  generalize s.f = f at *
  clear h hf
  go_enter Tryd.func78, Tryd.ntmps78
  go_wp2_with fail
  go_quiet (fail)
  go_wp2_with fail
  go_ret
  exact ⟨rfl, (Keeps.refl _ _).drewN _⟩

set_option maxHeartbeats 1000000 in
set_option maxRecDepth 100000 in
theorem iready_short (h : In w mb F p s) (hf : s.f = 0) {n : Nat} {z : Int} (hz : z = n) (hn : s.l.length < n) :
    Calls Tryd.prog 78 #[.pointer (some ⟨mb, 0, none⟩), .int .i64 z] w fun r w' => r = .returned (.bool false) ∧ In w' mb F p ⟨[], s.k, 4⟩ ∧ Keeps (fun k => k = mb) w w' := by
  subst hz
  obtain ⟨pv, h⟩ := h
  obtain ⟨a, cap, rfl⟩ := h.sl.any
  have hlen := h.len
  have hat := h.at_
  have hleft := h.left
  rw [if_pos hf] at hleft
  have c0 := cell_at (i := 0) h.blk rfl
  have c1 := cell_at (i := 1) h.blk rfl
  have c2 := cell_at (i := 2) h.blk rfl
  have f2 := free_at (i := 2) h.blk
  simp at c0 c1 c2
  rw [hf] at c2
  have hd : decide ((p.length : Int) - s.k < n) = true := decide_eq_true (by rw [hleft, List.length_drop] at hn; omega)
  have hw : IntKind.i64.wrap ((p.length : Int) - s.k) = (p.length : Int) - s.k := by rw [IntKind.wrap_i64]; omega
  have H := hid h
  have HF := hid hf
  clear h hf hleft hn
  go_enter Tryd.func78, Tryd.ntmps78
  go_wp2_with fail
  go_quiet (fail)
  go_wp2_with fail
  go_ret
  have hk : Keeps (fun k => k = mb) w ((w.drewN nq).setCell ⟨mb, 2, none⟩ (.int .i64 4)) := ((Keeps.refl _ _).drewN _).at
  refine ⟨rfl, H.out.to hk ?_ H.out.at_ (by simp), hk⟩
  have h1 := heap_setCell_at (i := 2) (v := .int .i64 4) (w := w.drewN nq) H.out.blk
  simpa using h1

set_option maxHeartbeats 1000000 in
set_option maxRecDepth 100000 in
theorem iready_ok (h : In w mb F p s) (hf : s.f = 0) {n : Nat} {z : Int} (hz : z = n) (hn : n ≤ s.l.length) :
    Calls Tryd.prog 78 #[.pointer (some ⟨mb, 0, none⟩), .int .i64 z] w fun r w' => r = .returned (.bool true) ∧ Keeps No w w' := by
  subst hz
  obtain ⟨pv, h⟩ := h
  obtain ⟨a, cap, rfl⟩ := h.sl.any
  have hlen := h.len
  have hat := h.at_
  have hleft := h.left
  rw [if_pos hf] at hleft
  have c0 := cell_at (i := 0) h.blk rfl
  have c1 := cell_at (i := 1) h.blk rfl
  have c2 := cell_at (i := 2) h.blk rfl
  simp at c0 c1 c2
  rw [hf] at c2
  have hd : decide ((p.length : Int) - s.k < n) = false := decide_eq_false (by rw [hleft, List.length_drop] at hn; omega)
  have hw : IntKind.i64.wrap ((p.length : Int) - s.k) = (p.length : Int) - s.k := by rw [IntKind.wrap_i64]; omega
  clear h hf hleft hn
  go_enter Tryd.func78, Tryd.ntmps78
  go_wp2_with fail
  go_quiet (fail)
  go_wp2_with fail
  go_ret
  exact ⟨rfl, (Keeps.refl _ _).drewN _⟩

set_option maxHeartbeats 1000000 in
set_option maxRecDepth 100000 in
theorem ibyte_any (h : In w mb F p s) :
    Calls Tryd.prog 56 #[.pointer (some ⟨mb, 0, none⟩)] w fun r w' => r = .returned (.int .u8 s.byte.1) ∧ In w' mb F p s.byte.2 ∧ Keeps (fun k => k = mb) w w' := by
  obtain ⟨l, k, f⟩ := s
  by_cases hf : f = 0
  · subst hf
    rcases l with _ | ⟨b, t⟩
    · have hh := iready_short h rfl (n := 1) (z := 1) rfl (by simp)
      have HH := hid hh
      clear h hh
      simp only [RS.byte, if_true]
      go_enter Tryd.func56, Tryd.ntmps56
      go_wp2_with fail
      refine HH.out.mono ?_
      rintro r w' ⟨rfl, hr, hk⟩
      have HR := hid hr
      have HK := hid hk
      clear hr hk HH
      go_wp2_with fail
      go_ret
      exact ⟨rfl, HR.out, HK.out⟩
    · have hh := iready_ok h rfl (n := 1) (z := 1) rfl (by simp)
      have HH := hid hh
      have H := hid h
      clear h hh
      simp only [RS.byte, if_true]
      go_enter Tryd.func56, Tryd.ntmps56
      go_wp2_with fail
      refine HH.out.mono ?_
      rintro r w' ⟨rfl, hk⟩
      have HK := hid hk
      obtain ⟨pv, h⟩ := H.out.keep hk (fun _ _ h => h)
      obtain ⟨a, cap, rfl⟩ := h.sl.any
      have hlen := h.len
      have hat := h.at_
      have hleft := h.left
      simp only [if_true] at hleft
      simp only at hat
      obtain ⟨hkl, hg0, ht⟩ := drop_parts hleft
      have c1 := cell_at (i := 1) h.blk rfl
      have c0 := cell_at (i := 0) h.blk rfl
      have f1 := free_at (i := 1) h.blk
      simp at c0 c1
      obtain ⟨g, off, rfl, _, x0⟩ := SlB.cellAt h.sl hkl
      rw [hg0] at x0
      have hgm : ¬ g = mb := fun e => h.ne (by omega) (by simp [Value.ownBlock, e])
      have hmg : ¬ mb = g := fun e => hgm e.symm
      have hw : IntKind.i64.wrap ((k : Int) + 1 - 1) = (k : Int) := by rw [IntKind.wrap_i64]; omega
      have H' := hid h
      have HT := hid ht
      clear hk H h hleft hg0 ht HH
      go_wp2_with fail
      go_quiet (fail)
      go_wp2_with fail
      go_ret
      have hk : Keeps (fun k => k = mb) w' ((w'.setCell ⟨mb, 1, none⟩ (.int .i64 ((k : Int) + 1))).drewN nq) := (Keeps.refl _ _).at.drewN _
      refine ⟨rfl, H'.out.to hk ?_ hkl (by simp [HT.out]), HK.out.no.trans hk⟩
      have h1 := heap_setCell_at (i := 1) (v := .int .i64 ((k : Int) + 1)) H'.out.blk
      simpa using h1
  · have hh := iready_bad h hf 1
    have HH := hid hh
    have HR := hid h
    simp only [RS.byte, if_neg hf]
    clear h hh hf
    go_enter Tryd.func56, Tryd.ntmps56
    go_wp2_with fail
    refine HH.out.mono ?_
    rintro r w' ⟨rfl, hk⟩
    have HK := hid hk
    clear hk HH
    go_wp2_with fail
    go_ret
    exact ⟨rfl, HR.out.keep HK.out (fun _ _ h => h), HK.out.no⟩

set_option maxHeartbeats 1000000 in
set_option maxRecDepth 100000 in
theorem iflag_any (h : In w mb F p s) :
    Calls Tryd.prog 58 #[.pointer (some ⟨mb, 0, none⟩)] w fun r w' => r = .returned (.bool s.flag.1) ∧ In w' mb F p s.flag.2 ∧ Keeps (fun k => k = mb) w w' := by
  obtain ⟨l, k, f⟩ := s
  by_cases hf : f = 0
  · subst hf
    rcases l with _ | ⟨b, t⟩
    · have hh := iready_short h rfl (n := 1) (z := 1) rfl (by simp)
      have HH := hid hh
      clear h hh
      simp only [RS.flag, if_true]
      go_enter Tryd.func58, Tryd.ntmps58
      go_wp2_with fail
      refine HH.out.mono ?_
      rintro r w' ⟨rfl, hr, hk⟩
      have HR := hid hr
      have HK := hid hk
      clear hr hk HH
      go_wp2_with fail
      go_ret
      exact ⟨rfl, HR.out, HK.out⟩
    · have hh := iready_ok h rfl (n := 1) (z := 1) rfl (by simp)
      have HH := hid hh
      have H := hid h
      clear h hh
      simp only [RS.flag, if_true]
      by_cases hb : 1 < b
      all_goals
        have hd := hb
        first | replace hd : decide (b > 1) = true := decide_eq_true hb | replace hd : decide (b > 1) = false := decide_eq_false hb
        first | simp only [if_pos hb] | simp only [if_neg hb]
        go_enter Tryd.func58, Tryd.ntmps58
        go_wp2_with fail
        refine HH.out.mono ?_
        rintro r w' ⟨rfl, hk⟩
        have HK := hid hk
        obtain ⟨pv, h⟩ := H.out.keep hk (fun _ _ h => h)
        obtain ⟨a, cap, rfl⟩ := h.sl.any
        have hlen := h.len
        have hat := h.at_
        have hleft := h.left
        simp only [if_true] at hleft
        simp only at hat
        obtain ⟨hkl, hg0, ht⟩ := drop_parts hleft
        have c1 := cell_at (i := 1) h.blk rfl
        have c0 := cell_at (i := 0) h.blk rfl
        have c2 := cell_at (i := 2) h.blk rfl
        have f1 := free_at (i := 1) h.blk
        have f2 := free_at (i := 2) h.blk
        simp at c0 c1 c2
        obtain ⟨g, off, rfl, _, x0⟩ := SlB.cellAt h.sl hkl
        rw [hg0] at x0
        have hgm : ¬ g = mb := fun e => h.ne (by omega) (by simp [Value.ownBlock, e])
        have hmg : ¬ mb = g := fun e => hgm e.symm
        have hw : IntKind.i64.wrap ((k : Int) + 1 - 1) = (k : Int) := by rw [IntKind.wrap_i64]; omega
        have H' := hid h
        have HT := hid ht
        clear hk H h hleft hg0 ht HH hb
        go_wp2_with fail
        go_quiet (fail)
        go_wp2_with fail
        first
          | (go_ret
             have hk : Keeps (fun k => k = mb) w' ((w'.drewN nq).setCell ⟨mb, 2, none⟩ (.int .i64 2)) := ((Keeps.refl _ _).drewN _).at
             refine ⟨rfl, H'.out.to hk ?_ (Nat.le_of_lt hkl) (by simp), HK.out.no.trans hk⟩
             have h1 := heap_setCell_at (i := 2) (v := .int .i64 2) (w := w'.drewN nq) H'.out.blk
             simpa using h1)
          | (go_quiet (fail)
             go_wp2_with fail
             go_ret
             refine ⟨rfl, InP.to H'.out ?k1 ?_ hkl (by simp [HT.out]), HK.out.no.trans ?k2⟩
             case k1 => exact ((Keeps.refl _ _).drewN _).at.drewN _
             case k2 => exact ((Keeps.refl _ _).drewN _).at.drewN _
             exact heap_setCell_at (w := w'.drewN _) (i := 1) H'.out.blk)
  · have hh := iready_bad h hf 1
    have HH := hid hh
    have HR := hid h
    simp only [RS.flag, if_neg hf]
    clear h hh hf
    go_enter Tryd.func58, Tryd.ntmps58
    go_wp2_with fail
    refine HH.out.mono ?_
    rintro r w' ⟨rfl, hk⟩
    have HK := hid hk
    clear hk HH
    go_wp2_with fail
    go_ret
    exact ⟨rfl, HR.out.keep HK.out (fun _ _ h => h), HK.out.no⟩

set_option maxHeartbeats 1000000 in
set_option maxRecDepth 100000 in
theorem ileft_any (h : In w mb F p s) :
    Calls Tryd.prog 79 #[.pointer (some ⟨mb, 0, none⟩)] w fun r w' => r = .returned (.int .i64 s.l.length) ∧ Keeps No w w' := by
  obtain ⟨pv, h⟩ := h
  obtain ⟨a, cap, rfl⟩ := h.sl.any
  have c0 := cell_at (i := 0) h.blk rfl
  have c1 := cell_at (i := 1) h.blk rfl
  have c2 := cell_at (i := 2) h.blk rfl
  simp at c0 c1 c2
  have hleft := h.left
  have hat := h.at_
  have hlen := h.len
  obtain ⟨l, k, f⟩ := s
  simp only at *
  clear h
  by_cases hf : f = 0
  · subst hf
    rw [if_pos rfl] at hleft
    have hl : (l.length : Int) = (p.length : Int) - k := by rw [hleft, List.length_drop]; omega
    rw [hl]
    clear hl hleft
    go_enter Tryd.func79, Tryd.ntmps79
    go_wp2_with fail
    go_quiet (fail)
    go_wp2_with fail
    go_ret
    refine ⟨?_, (Keeps.refl _ _).drewN _⟩
    first | rfl | exact ret_val (by rw [IntKind.wrap_i64]; omega)
  · rw [if_neg hf] at hleft
    subst hleft
    have hd : (f != 0) = true := by simpa using hf
    clear hf
    go_enter Tryd.func79, Tryd.ntmps79
    go_wp2_with fail
    go_ret
    exact ⟨rfl, Keeps.refl _ _⟩

set_option maxHeartbeats 1000000 in
set_option maxRecDepth 100000 in
theorem ifault_any (h : In w mb F p s) :
    Calls Tryd.prog 80 #[.pointer (some ⟨mb, 0, none⟩)] w fun r w' => r = .returned (.tuple #[.int .i64 s.fault.1, .int .i64 s.fault.2]) ∧ Keeps No w w' := by
  obtain ⟨l, k, f⟩ := s
  obtain ⟨lv, h⟩ := h
  have c1 := cell_at (i := 1) h.blk rfl
  have c2 := cell_at (i := 2) h.blk rfl
  simp at c1 c2
  clear h
  by_cases hf : f = 0
  · subst hf
    simp only [RS.fault, if_true]
    go_enter Tryd.func80, Tryd.ntmps80
    go_wp2_with fail
    go_ret2
    exact ⟨rfl, Keeps.refl _ _⟩
  · have hd : (f == 0) = false := by simpa using hf
    simp only [RS.fault, if_neg hf]
    clear hf
    go_enter Tryd.func80, Tryd.ntmps80
    go_wp2_with fail
    go_quiet (fail)
    go_wp2_with fail
    go_ret2
    exact ⟨rfl, (Keeps.refl _ _).drewN _⟩

set_option maxHeartbeats 1000000 in
set_option maxRecDepth 100000 in
theorem iend_any (h : In w mb F p s) :
    Calls Tryd.prog 59 #[.pointer (some ⟨mb, 0, none⟩)] w fun r w' => r = .returned (.tuple #[.int .i64 s.fin.1, .int .i64 s.fin.2]) ∧ Keeps No w w' := by
  have hl := ileft_any h
  have hft := fun w' (k : Keeps No w w') => ifault_any (h.keep k (fun _ _ h => h))
  obtain ⟨lv, h⟩ := h
  have HB := hid h.blk
  have HL := hid hl
  have HF := hid hft
  clear h hl hft
  by_cases h0 : 0 < s.l.length
  all_goals
    have hd := h0
    first | replace hd : decide ((s.l.length : Int) > 0) = true := decide_eq_true (by omega) | replace hd : decide ((s.l.length : Int) > 0) = false := decide_eq_false (by omega)
    first | simp only [RS.fin, if_pos h0] | simp only [RS.fin, if_neg h0]
    go_enter Tryd.func59, Tryd.ntmps59
    go_wp2_with fail
    refine HL.out.mono ?_
    rintro r w' ⟨rfl, hk⟩
    have HK := hid hk
    have c1 := cell_at (i := 1) (hk.heap (fun h => h) HB.out) rfl
    simp at c1
    clear hk HL
    go_wp2_with fail
    first
      | (go_ret2
         exact ⟨rfl, HK.out⟩)
      | (refine (HF.out _ HK.out).mono ?_
         rintro r w2 ⟨rfl, hk⟩
         have HK2 := hid hk
         clear hk HF
         go_wp2_with fail
         go_ret2
         exact ⟨rfl, HK.out.trans HK2.out⟩)

end

end Go.Proofs.YtlenhccdkhgfgaaDoor

/-
  The document's reader of bytes, more: Int; and how it lays numbers and truths.
-/
namespace Go.Proofs.YtlenhccdkhgfgaaDoor
open Go.RowKit

/-- A number of four bytes with a sign, so far. -/
def accS (n b c d : Int) : Nat → Int
  | 0 => n
  | 1 => n
  | 2 => n * 256 + b
  | 3 => (n * 256 + b) * 256 + c
  | _ => ((n * 256 + b) * 256 + c) * 256 + d

theorem accS_four (n b c d : Int) : accS n b c d 4 = ((n * 256 + b) * 256 + c) * 256 + d := rfl

theorem intV {a b : Int} (h : a = b) : Value.int .i64 a = .int .i64 b := by rw [h]

section
variable {w : World} {mb : Nat} {F : Nat → Prop} {p : List Int} {s : RS}

set_option maxHeartbeats 2000000 in
set_option maxRecDepth 100000 in
theorem iint_four {a b c d : Int} {t : List Int} {k : Nat} (h : In w mb F p ⟨a :: b :: c :: d :: t, k, 0⟩) :
    Calls Tryd.prog 57 #[.pointer (some ⟨mb, 0, none⟩)] w fun r w' => r = .returned (.int .i64 (int32Of a b c d)) ∧ In w' mb F p ⟨t, k + 4, 0⟩ ∧ Keeps (fun k => k = mb) w w' := by
  have hh := iready_ok h rfl (n := 4) (z := 4) rfl (by simp)
  have HH := hid hh
  have H := hid h
  have hn : int32Of a b c d = accS (if 127 < a then a - 256 else a) b c d 4 := by rw [accS_four]; unfold int32Of; split <;> omega
  rw [hn]
  clear h hh hn
  by_cases h127 : 127 < a
  all_goals
    have hd := h127
    first | replace hd : decide (a > 127) = true := decide_eq_true h127 | replace hd : decide (a > 127) = false := decide_eq_false h127
    first | rw [if_pos h127] | rw [if_neg h127]
    clear h127
    go_enter Tryd.func57, Tryd.ntmps57
    go_wp2_with fail
    refine HH.out.mono ?_
    rintro r w' ⟨rfl, hk⟩
    have HK := hid hk
    obtain ⟨pv, h⟩ := H.out.keep hk (fun _ _ h => h)
    obtain ⟨al, cap, rfl⟩ := h.sl.any
    have hlen := h.len
    have hleft := h.left
    simp only [if_true] at hleft
    obtain ⟨hk0, hg0, ht0⟩ := drop_parts hleft
    obtain ⟨hk1, hg1, ht1⟩ := drop_parts ht0
    obtain ⟨hk2, hg2, ht2⟩ := drop_parts ht1
    obtain ⟨hk3, hg3, ht3⟩ := drop_parts ht2
    have hba := h.byt _ (List.getElem_mem hk0)
    have hbb := h.byt _ (List.getElem_mem hk1)
    have hbc := h.byt _ (List.getElem_mem hk2)
    have hbd := h.byt _ (List.getElem_mem hk3)
    obtain ⟨g, off, rfl, _, x0⟩ := SlB.cellAt h.sl hk0
    obtain ⟨g1, off1, h1, _, x1⟩ := SlB.cellAt h.sl hk1
    obtain ⟨g2, off2, h2, _, x2⟩ := SlB.cellAt h.sl hk2
    obtain ⟨g3, off3, h3, _, x3⟩ := SlB.cellAt h.sl hk3
    simp only [Option.some.injEq, Addr.mk.injEq, and_true] at h1 h2 h3
    obtain ⟨rfl, rfl⟩ := h1
    obtain ⟨rfl, rfl⟩ := h2
    obtain ⟨rfl, rfl⟩ := h3
    rw [hg0] at x0 hba
    rw [hg1] at x1 hbb
    rw [hg2] at x2 hbc
    rw [hg3] at x3 hbd
    obtain ⟨ba0, ba1⟩ := hba
    obtain ⟨bb0, bb1⟩ := hbb
    obtain ⟨bc0, bc1⟩ := hbc
    obtain ⟨bd0, bd1⟩ := hbd
    have c1 := cell_at (i := 1) h.blk rfl
    have c0 := cell_at (i := 0) h.blk rfl
    have f1 := free_at (i := 1) h.blk
    simp at c0 c1
    have H' := hid h
    have HT := hid ht3
    clear hk h hleft hg0 hg1 hg2 hg3 ht0 ht1 ht2 ht3 HH H
    go_wp2_with fail
    go_quiet (fail)
    go_wp2_with fail
    go_loopw [3, 4] (fun v3 v4 wr => ∃ j : Nat, 1 ≤ j ∧ j ≤ 4 ∧ v4 = .int .i64 j ∧ (∃ z, v3 = .int .i64 z ∧ Hid (z = accS (if decide (a > 127) then a - 256 else a) b c d j)) ∧ Hid (∃ n, wr = w'.drewN n)) (fun _ v4 _ => 4 - (intOf v4).toNat)
    case atStart => exact ⟨1, by omega, by omega, rfl, ⟨_, rfl, hid (by rw [hd]; rfl)⟩, hid ⟨_, rfl⟩⟩
    case round =>
      obtain ⟨j, hj1, hj, rfl, ⟨z, rfl, HZ⟩, HN⟩ := hrel
      obtain ⟨n0, rfl⟩ := HN.out
      rcases (show j = 1 ∨ j = 2 ∨ j = 3 ∨ j = 4 by omega) with rfl | rfl | rfl | rfl
      · have hz := HZ.out
        simp only [accS] at hz
        have hzb : -256 ≤ z ∧ z ≤ 255 := by rw [hz]; split <;> omega
        have w1 : IntKind.i64.wrap (z * 256) = z * 256 := by rw [IntKind.wrap_i64]; omega
        have w2 : IntKind.i64.wrap (z * 256 + b) = z * 256 + b := by rw [IntKind.wrap_i64]; omega
        have w3 : IntKind.i64.wrap ((k : Int) + 1) = ((k + 1 : Nat) : Int) := by rw [IntKind.wrap_i64]; omega
        obtain ⟨m, hm⟩ : ∃ m, k + 1 = m := ⟨_, rfl⟩
        rw [hm] at w3 hk1
        have x1' : w'.cell? ⟨g, off + m, none⟩ = some (.int .u8 b) := by rw [← hm]; exact x1
        clear hz hm
        go_wp2_with fail
        go_quiet (fail)
        go_wp2_with fail
        go_roundw
        case rel => exact ⟨2, by omega, by omega, rfl, ⟨_, rfl, hid (by rw [HZ.out]; rfl)⟩, hid ⟨_, rfl⟩⟩
        case measure => simp [intOf]
      · have hz := HZ.out
        simp only [accS] at hz
        have hzb : -65536 ≤ z ∧ z ≤ 65535 := by rw [hz]; split <;> omega
        have w1 : IntKind.i64.wrap (z * 256) = z * 256 := by rw [IntKind.wrap_i64]; omega
        have w2 : IntKind.i64.wrap (z * 256 + c) = z * 256 + c := by rw [IntKind.wrap_i64]; omega
        have w3 : IntKind.i64.wrap ((k : Int) + 2) = ((k + 1 + 1 : Nat) : Int) := by rw [IntKind.wrap_i64]; omega
        obtain ⟨m, hm⟩ : ∃ m, k + 1 + 1 = m := ⟨_, rfl⟩
        rw [hm] at w3 hk2
        have x1' : w'.cell? ⟨g, off + m, none⟩ = some (.int .u8 c) := by rw [← hm]; exact x2
        clear hz hm
        go_wp2_with fail
        go_quiet (fail)
        go_wp2_with fail
        go_roundw
        case rel => exact ⟨3, by omega, by omega, rfl, ⟨_, rfl, hid (by rw [HZ.out]; rfl)⟩, hid ⟨_, rfl⟩⟩
        case measure => simp [intOf]
      · have hz := HZ.out
        simp only [accS] at hz
        have hzb : -16777216 ≤ z ∧ z ≤ 16777215 := by rw [hz]; split <;> omega
        have w1 : IntKind.i64.wrap (z * 256) = z * 256 := by rw [IntKind.wrap_i64]; omega
        have w2 : IntKind.i64.wrap (z * 256 + d) = z * 256 + d := by rw [IntKind.wrap_i64]; omega
        have w3 : IntKind.i64.wrap ((k : Int) + 3) = ((k + 1 + 1 + 1 : Nat) : Int) := by rw [IntKind.wrap_i64]; omega
        obtain ⟨m, hm⟩ : ∃ m, k + 1 + 1 + 1 = m := ⟨_, rfl⟩
        rw [hm] at w3 hk3
        have x1' : w'.cell? ⟨g, off + m, none⟩ = some (.int .u8 d) := by rw [← hm]; exact x3
        clear hz hm
        go_wp2_with fail
        go_quiet (fail)
        go_wp2_with fail
        go_roundw
        case rel => exact ⟨4, by omega, by omega, rfl, ⟨_, rfl, hid (by rw [HZ.out]; rfl)⟩, hid ⟨_, rfl⟩⟩
        case measure => simp [intOf]
      · have hz := HZ.out
        rw [hd] at hz
        have HZ2 := hid hz
        clear hz
        go_wp2_with fail
        go_ret
        refine ⟨ret_val HZ2.out, InP.to H'.out ?k1 ?_ (by simp; omega) (by simp [HT.out]), HK.out.no.trans ?k2⟩
        case k1 => exact ((Keeps.refl _ _).drewN _).at
        case k2 => exact ((Keeps.refl _ _).drewN _).at
        exact heap_setCell_at (w := w'.drewN _) (i := 1) H'.out.blk

set_option maxHeartbeats 1000000 in
set_option maxRecDepth 100000 in
theorem iint_any (h : In w mb F p s) :
    Calls Tryd.prog 57 #[.pointer (some ⟨mb, 0, none⟩)] w fun r w' => r = .returned (.int .i64 s.int.1) ∧ In w' mb F p s.int.2 ∧ Keeps (fun k => k = mb) w w' := by
  obtain ⟨l, k, f⟩ := s
  by_cases hf : f = 0
  · subst hf
    by_cases h4 : l.length < 4
    · have hh := iready_short h rfl (n := 4) (z := 4) rfl h4
      have HH := hid hh
      have hi : (⟨l, k, 0⟩ : RS).int = (0, ⟨[], k, 4⟩) := by
        unfold RS.int
        rcases l with _ | ⟨a, _ | ⟨b, _ | ⟨c, _ | ⟨d, t⟩⟩⟩⟩
        all_goals first | rfl | (simp at h4; omega)
      rw [hi]
      clear h hh hi
      go_enter Tryd.func57, Tryd.ntmps57
      go_wp2_with fail
      refine HH.out.mono ?_
      rintro r w' ⟨rfl, hr, hk⟩
      have HR := hid hr
      have HK := hid hk
      clear hr hk HH
      go_wp2_with fail
      go_ret
      exact ⟨rfl, HR.out, HK.out⟩
    · rcases l with _ | ⟨a, _ | ⟨b, _ | ⟨c, _ | ⟨d, t⟩⟩⟩⟩
      all_goals first | (simp at h4; done) | exact iint_four h
  · have hh := iready_bad h hf 4
    have HH := hid hh
    have HR := hid h
    simp only [RS.int, if_neg hf]
    clear h hh hf
    go_enter Tryd.func57, Tryd.ntmps57
    go_wp2_with fail
    refine HH.out.mono ?_
    rintro r w' ⟨rfl, hk⟩
    have HK := hid hk
    clear hk HH
    go_wp2_with fail
    go_ret
    exact ⟨rfl, HR.out.keep HK.out (fun _ _ h => h), HK.out.no⟩

end

set_option maxHeartbeats 400000 in
theorem mflag_any (b : Bool) (w : World) :
    Calls Tryd.prog 29 #[.bool b] w fun r w' => r = .returned (.int .u8 (flagB b)) ∧ w = w' := by
  cases b
  all_goals
    go_enter Tryd.func29, Tryd.ntmps29
    go_wp2_with fail
    go_ret
    exact ⟨rfl, rfl⟩

set_option maxHeartbeats 1000000 in
set_option maxRecDepth 100000 in
theorem mint_any (n : Int) (w : World) :
    Calls Tryd.prog 28 #[.int .i64 n] w fun r w' => ∃ v', r = .returned v' ∧ SlB w' v' (int4 n) ∧ Keeps No w w' := by
  have ht : (IntKind.u64.wrap n).tmod 4294967296 = n % 4294967296 := by
    rw [IntKind.wrap_u64, Int.tmod_eq_emod_of_nonneg (by omega)]; omega
  obtain ⟨t, hte⟩ : ∃ t, (IntKind.u64.wrap n).tmod 4294967296 = t := ⟨_, rfl⟩
  rw [hte] at ht
  have HE : Hid (int4 n = [t % 4294967296 / 16777216, t % 4294967296 / 65536 % 256, t % 4294967296 / 256 % 256, t % 256]) := hid (by
    unfold int4
    rw [show n / 16777216 % 256 = t % 4294967296 / 16777216 by omega, show n / 65536 % 256 = t % 4294967296 / 65536 % 256 by omega, show n / 256 % 256 = t % 4294967296 / 256 % 256 by omega, show n % 256 = t % 256 by omega])
  clear ht
  go_enter Tryd.func28, Tryd.ntmps28
  go_wp2_with fail
  go_ret
  refine ⟨_, rfl, ?_, (Keeps.refl _ _).alloc _⟩
  rw [HE.out]
  exact Sl.new w #[.int .u8 (t % 4294967296 / 16777216), .int .u8 (t % 4294967296 / 65536 % 256), .int .u8 (t % 4294967296 / 256 % 256), .int .u8 (t % 256)] 5 1 4 rfl (by decide)

end Go.Proofs.YtlenhccdkhgfgaaDoor
