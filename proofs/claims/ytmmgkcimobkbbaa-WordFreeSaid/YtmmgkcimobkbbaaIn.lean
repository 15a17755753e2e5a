/-
  The document's reader of bytes: it is at the same as the program's.
-/
import Derived.Test.YtmmgkcimobkbbaaRead3
namespace Go.Proofs.Ytmmgkcimobkbbaa
open Go.RowKit

/-- The document's reader at block mb reads p and is at s. -/
structure InP (w : World) (mb : Nat) (F : Nat → Prop) (p : List Int) (s : RS) (pv : Value) : Prop where
  blk : w.heap[mb]? = some (.cells #[pv, .int .i64 s.k, .int .i64 s.f] 41 (0, 0))
  sl : SlB w pv p
  ne : 0 < p.length → pv.ownBlock ≠ some mb
  mb : F mb
  own : 0 < p.length → ∀ k, pv.ownBlock = some k → F k
  len : p.length ≤ 100000
  byt : Bytes p
  at_ : s.k ≤ p.length
  left : s.l = if s.f = 0 then p.drop s.k else []

def In (w : World) (mb : Nat) (F : Nat → Prop) (p : List Int) (s : RS) : Prop := ∃ pv, InP w mb F p s pv

theorem In.keep {S : Nat → Prop} {w w' : World} {mb : Nat} {F : Nat → Prop} {p : List Int} {s : RS} (h : In w mb F p s) (k : Keeps S w w') (hs : ∀ i, F i → ¬ S i) : In w' mb F p s := by
  obtain ⟨lv, h⟩ := h
  exact ⟨lv, k.heap (hs mb h.mb) h.blk, h.sl.keep' k (fun h0 i hi _ => hs i (h.own h0 i hi)), h.ne, h.mb, h.own, h.len, h.byt, h.at_, h.left⟩

section
variable {w : World} {mb : Nat} {F : Nat → Prop} {p : List Int} {s : RS}

theorem InP.to {w' : World} {pv : Value} {s' : RS} (h : InP w mb F p s pv) (k : Keeps (fun k => k = mb) w w') (hb : w'.heap[mb]? = some (.cells #[pv, .int .i64 s'.k, .int .i64 s'.f] 41 (0, 0)))
    (ha : s'.k ≤ p.length) (hl : s'.l = if s'.f = 0 then p.drop s'.k else []) : In w' mb F p s' :=
  ⟨pv, hb, h.sl.keep' k (fun h0 _ hi _ e => h.ne h0 (e ▸ hi)), h.ne, h.mb, h.own, h.len, h.byt, ha, hl⟩

set_option maxHeartbeats 1000000 in
set_option maxRecDepth 100000 in
theorem iready_bad (h : In w mb F p s) (hf : s.f ≠ 0) (n : Int) :
    Calls Try.prog 35 #[.pointer (some ⟨mb, 0, none⟩), .int .i64 n] w fun r w' => r = .returned (.bool false) ∧ Keeps No w w' := by
  obtain ⟨pv, h⟩ := h
  have c2 := cell_at (i := 2) h.blk rfl
  simp at c2
  have hf' : (s.f == 0) = false := by simpa using hf
  generalize s.f = f at *
  clear h hf
  go_enter Try.func35, Try.ntmps35
  go_wp2_with fail
  go_quiet (fail)
  go_wp2_with fail
  go_ret
  exact ⟨rfl, (Keeps.refl _ _).drewN _⟩

set_option maxHeartbeats 1000000 in
set_option maxRecDepth 100000 in
theorem iready_short (h : In w mb F p s) (hf : s.f = 0) {n : Nat} {z : Int} (hz : z = n) (hn : s.l.length < n) :
    Calls Try.prog 35 #[.pointer (some ⟨mb, 0, none⟩), .int .i64 z] w fun r w' => r = .returned (.bool false) ∧ In w' mb F p ⟨[], s.k, 4⟩ ∧ Keeps (fun k => k = mb) w w' := by
  subst hz
  obtain ⟨pv, h⟩ := h
  obtain ⟨a, cap, rfl⟩ := h.sl.any
  have hlen := h.len
  have hat := h.at_
  have hleft := h.left
  rw [if_pos hf] at hleft
  have c0 := cell_at (i := 0) h.blk rfl
  have c1 := cell_at (i := 1) h.blk rfl
  have c2 := cell_at (i := 2) h.blk rfl
  have f2 := free_at (i := 2) h.blk
  simp at c0 c1 c2
  rw [hf] at c2
  have hd : decide ((p.length : Int) - s.k < n) = true := decide_eq_true (by rw [hleft, List.length_drop] at hn; omega)
  have hw : IntKind.i64.wrap ((p.length : Int) - s.k) = (p.length : Int) - s.k := by rw [IntKind.wrap_i64]; omega
  have H := hid h
  have HF := hid hf
  clear h hf hleft hn
  go_enter Try.func35, Try.ntmps35
  go_wp2_with fail
  go_quiet (fail)
  go_wp2_with fail
  go_ret
  have hk : Keeps (fun k => k = mb) w ((w.drewN nq).setCell ⟨mb, 2, none⟩ (.int .i64 4)) := ((Keeps.refl _ _).drewN _).at
  refine ⟨rfl, H.out.to hk ?_ H.out.at_ (by simp), hk⟩
  have h1 := heap_setCell_at (i := 2) (v := .int .i64 4) (w := w.drewN nq) H.out.blk
  simpa using h1

set_option maxHeartbeats 1000000 in
set_option maxRecDepth 100000 in
theorem iready_ok (h : In w mb F p s) (hf : s.f = 0) {n : Nat} {z : Int} (hz : z = n) (hn : n ≤ s.l.length) :
    Calls Try.prog 35 #[.pointer (some ⟨mb, 0, none⟩), .int .i64 z] w fun r w' => r = .returned (.bool true) ∧ Keeps No w w' := by
  subst hz
  obtain ⟨pv, h⟩ := h
  obtain ⟨a, cap, rfl⟩ := h.sl.any
  have hlen := h.len
  have hat := h.at_
  have hleft := h.left
  rw [if_pos hf] at hleft
  have c0 := cell_at (i := 0) h.blk rfl
  have c1 := cell_at (i := 1) h.blk rfl
  have c2 := cell_at (i := 2) h.blk rfl
  simp at c0 c1 c2
  rw [hf] at c2
  have hd : decide ((p.length : Int) - s.k < n) = false := decide_eq_false (by rw [hleft, List.length_drop] at hn; omega)
  have hw : IntKind.i64.wrap ((p.length : Int) - s.k) = (p.length : Int) - s.k := by rw [IntKind.wrap_i64]; omega
  clear h hf hleft hn
  go_enter Try.func35, Try.ntmps35
  go_wp2_with fail
  go_quiet (fail)
  go_wp2_with fail
  go_ret
  exact ⟨rfl, (Keeps.refl _ _).drewN _⟩

set_option maxHeartbeats 1000000 in
set_option maxRecDepth 100000 in
theorem ibyte_any (h : In w mb F p s) :
    Calls Try.prog 18 #[.pointer (some ⟨mb, 0, none⟩)] w fun r w' => r = .returned (.int .u8 s.byte.1) ∧ In w' mb F p s.byte.2 ∧ Keeps (fun k => k = mb) w w' := by
  obtain ⟨l, k, f⟩ := s
  by_cases hf : f = 0
  · subst hf
    rcases l with _ | ⟨b, t⟩
    · have hh := iready_short h rfl (n := 1) (z := 1) rfl (by simp)
      have HH := hid hh
      clear h hh
      simp only [RS.byte, if_true]
      go_enter Try.func18, Try.ntmps18
      go_wp2_with fail
      refine HH.out.mono ?_
      rintro r w' ⟨rfl, hr, hk⟩
      have HR := hid hr
      have HK := hid hk
      clear hr hk HH
      go_wp2_with fail
      go_ret
      exact ⟨rfl, HR.out, HK.out⟩
    · have hh := iready_ok h rfl (n := 1) (z := 1) rfl (by simp)
      have HH := hid hh
      have H := hid h
      clear h hh
      simp only [RS.byte, if_true]
      go_enter Try.func18, Try.ntmps18
      go_wp2_with fail
      refine HH.out.mono ?_
      rintro r w' ⟨rfl, hk⟩
      have HK := hid hk
      obtain ⟨pv, h⟩ := H.out.keep hk (fun _ _ h => h)
      obtain ⟨a, cap, rfl⟩ := h.sl.any
      have hlen := h.len
      have hat := h.at_
      have hleft := h.left
      simp only [if_true] at hleft
      simp only at hat
      obtain ⟨hkl, hg0, ht⟩ := drop_parts hleft
      have c1 := cell_at (i := 1) h.blk rfl
      have c0 := cell_at (i := 0) h.blk rfl
      have f1 := free_at (i := 1) h.blk
      simp at c0 c1
      obtain ⟨g, off, rfl, _, x0⟩ := SlB.cellAt h.sl hkl
      rw [hg0] at x0
      have hgm : ¬ g = mb := fun e => h.ne (by omega) (by simp [Value.ownBlock, e])
      have hmg : ¬ mb = g := fun e => hgm e.symm
      have hw : IntKind.i64.wrap ((k : Int) + 1 - 1) = (k : Int) := by rw [IntKind.wrap_i64]; omega
      have H' := hid h
      have HT := hid ht
      clear hk H h hleft hg0 ht HH
      go_wp2_with fail
      go_quiet (fail)
      go_wp2_with fail
      go_ret
      have hk : Keeps (fun k => k = mb) w' ((w'.setCell ⟨mb, 1, none⟩ (.int .i64 ((k : Int) + 1))).drewN nq) := (Keeps.refl _ _).at.drewN _
      refine ⟨rfl, H'.out.to hk ?_ hkl (by simp [HT.out]), HK.out.no.trans hk⟩
      have h1 := heap_setCell_at (i := 1) (v := .int .i64 ((k : Int) + 1)) H'.out.blk
      simpa using h1
  · have hh := iready_bad h hf 1
    have HH := hid hh
    have HR := hid h
    simp only [RS.byte, if_neg hf]
    clear h hh hf
    go_enter Try.func18, Try.ntmps18
    go_wp2_with fail
    refine HH.out.mono ?_
    rintro r w' ⟨rfl, hk⟩
    have HK := hid hk
    clear hk HH
    go_wp2_with fail
    go_ret
    exact ⟨rfl, HR.out.keep HK.out (fun _ _ h => h), HK.out.no⟩

set_option maxHeartbeats 1000000 in
set_option maxRecDepth 100000 in
theorem iflag_any (h : In w mb F p s) :
    Calls Try.prog 19 #[.pointer (some ⟨mb, 0, none⟩)] w fun r w' => r = .returned (.bool s.flag.1) ∧ In w' mb F p s.flag.2 ∧ Keeps (fun k => k = mb) w w' := by
  obtain ⟨l, k, f⟩ := s
  by_cases hf : f = 0
  · subst hf
    rcases l with _ | ⟨b, t⟩
    · have hh := iready_short h rfl (n := 1) (z := 1) rfl (by simp)
      have HH := hid hh
      clear h hh
      simp only [RS.flag, if_true]
      go_enter Try.func19, Try.ntmps19
      go_wp2_with fail
      refine HH.out.mono ?_
      rintro r w' ⟨rfl, hr, hk⟩
      have HR := hid hr
      have HK := hid hk
      clear hr hk HH
      go_wp2_with fail
      go_ret
      exact ⟨rfl, HR.out, HK.out⟩
    · have hh := iready_ok h rfl (n := 1) (z := 1) rfl (by simp)
      have HH := hid hh
      have H := hid h
      clear h hh
      simp only [RS.flag, if_true]
      by_cases hb : 1 < b
      all_goals
        have hd := hb
        first | replace hd : decide (b > 1) = true := decide_eq_true hb | replace hd : decide (b > 1) = false := decide_eq_false hb
        first | simp only [if_pos hb] | simp only [if_neg hb]
        go_enter Try.func19, Try.ntmps19
        go_wp2_with fail
        refine HH.out.mono ?_
        rintro r w' ⟨rfl, hk⟩
        have HK := hid hk
        obtain ⟨pv, h⟩ := H.out.keep hk (fun _ _ h => h)
        obtain ⟨a, cap, rfl⟩ := h.sl.any
        have hlen := h.len
        have hat := h.at_
        have hleft := h.left
        simp only [if_true] at hleft
        simp only at hat
        obtain ⟨hkl, hg0, ht⟩ := drop_parts hleft
        have c1 := cell_at (i := 1) h.blk rfl
        have c0 := cell_at (i := 0) h.blk rfl
        have c2 := cell_at (i := 2) h.blk rfl
        have f1 := free_at (i := 1) h.blk
        have f2 := free_at (i := 2) h.blk
        simp at c0 c1 c2
        obtain ⟨g, off, rfl, _, x0⟩ := SlB.cellAt h.sl hkl
        rw [hg0] at x0
        have hgm : ¬ g = mb := fun e => h.ne (by omega) (by simp [Value.ownBlock, e])
        have hmg : ¬ mb = g := fun e => hgm e.symm
        have hw : IntKind.i64.wrap ((k : Int) + 1 - 1) = (k : Int) := by rw [IntKind.wrap_i64]; omega
        have H' := hid h
        have HT := hid ht
        clear hk H h hleft hg0 ht HH hb
        go_wp2_with fail
        go_quiet (fail)
        go_wp2_with fail
        first
          | (go_ret
             have hk : Keeps (fun k => k = mb) w' ((w'.drewN nq).setCell ⟨mb, 2, none⟩ (.int .i64 2)) := ((Keeps.refl _ _).drewN _).at
             refine ⟨rfl, H'.out.to hk ?_ (Nat.le_of_lt hkl) (by simp), HK.out.no.trans hk⟩
             have h1 := heap_setCell_at (i := 2) (v := .int .i64 2) (w := w'.drewN nq) H'.out.blk
             simpa using h1)
          | (go_quiet (fail)
             go_wp2_with fail
             go_ret
             refine ⟨rfl, InP.to H'.out ?k1 ?_ hkl (by simp [HT.out]), HK.out.no.trans ?k2⟩
             case k1 => exact ((Keeps.refl _ _).drewN _).at.drewN _
             case k2 => exact ((Keeps.refl _ _).drewN _).at.drewN _
             exact heap_setCell_at (w := w'.drewN _) (i := 1) H'.out.blk)
  · have hh := iready_bad h hf 1
    have HH := hid hh
    have HR := hid h
    simp only [RS.flag, if_neg hf]
    clear h hh hf
    go_enter Try.func19, Try.ntmps19
    go_wp2_with fail
    refine HH.out.mono ?_
    rintro r w' ⟨rfl, hk⟩
    have HK := hid hk
    clear hk HH
    go_wp2_with fail
    go_ret
    exact ⟨rfl, HR.out.keep HK.out (fun _ _ h => h), HK.out.no⟩

set_option maxHeartbeats 1000000 in
set_option maxRecDepth 100000 in
theorem ileft_any (h : In w mb F p s) :
    Calls Try.prog 24 #[.pointer (some ⟨mb, 0, none⟩)] w fun r w' => r = .returned (.int .i64 s.l.length) ∧ Keeps No w w' := by
  obtain ⟨pv, h⟩ := h
  obtain ⟨a, cap, rfl⟩ := h.sl.any
  have c0 := cell_at (i := 0) h.blk rfl
  have c1 := cell_at (i := 1) h.blk rfl
  have c2 := cell_at (i := 2) h.blk rfl
  simp at c0 c1 c2
  have hleft := h.left
  have hat := h.at_
  have hlen := h.len
  obtain ⟨l, k, f⟩ := s
  simp only at *
  clear h
  by_cases hf : f = 0
  · subst hf
    rw [if_pos rfl] at hleft
    have hl : (l.length : Int) = (p.length : Int) - k := by rw [hleft, List.length_drop]; omega
    rw [hl]
    clear hl hleft
    go_enter Try.func24, Try.ntmps24
    go_wp2_with fail
    go_quiet (fail)
    go_wp2_with fail
    go_ret
    refine ⟨?_, (Keeps.refl _ _).drewN _⟩
    first | rfl | exact ret_val (by rw [IntKind.wrap_i64]; omega)
  · rw [if_neg hf] at hleft
    subst hleft
    have hd : (f != 0) = true := by simpa using hf
    clear hf
    go_enter Try.func24, Try.ntmps24
    go_wp2_with fail
    go_ret
    exact ⟨rfl, Keeps.refl _ _⟩

set_option maxHeartbeats 1000000 in
set_option maxRecDepth 100000 in
theorem ifault_any (h : In w mb F p s) :
    Calls Try.prog 22 #[.pointer (some ⟨mb, 0, none⟩)] w fun r w' => r = .returned (.tuple #[.int .i64 s.fault.1, .int .i64 s.fault.2]) ∧ Keeps No w w' := by
  obtain ⟨l, k, f⟩ := s
  obtain ⟨lv, h⟩ := h
  have c1 := cell_at (i := 1) h.blk rfl
  have c2 := cell_at (i := 2) h.blk rfl
  simp at c1 c2
  clear h
  by_cases hf : f = 0
  · subst hf
    simp only [RS.fault, if_true]
    go_enter Try.func22, Try.ntmps22
    go_wp2_with fail
    go_ret2
    exact ⟨rfl, Keeps.refl _ _⟩
  · have hd : (f == 0) = false := by simpa using hf
    simp only [RS.fault, if_neg hf]
    clear hf
    go_enter Try.func22, Try.ntmps22
    go_wp2_with fail
    go_quiet (fail)
    go_wp2_with fail
    go_ret2
    exact ⟨rfl, (Keeps.refl _ _).drewN _⟩

set_option maxHeartbeats 1000000 in
set_option maxRecDepth 100000 in
theorem iend_any (h : In w mb F p s) :
    Calls Try.prog 23 #[.pointer (some ⟨mb, 0, none⟩)] w fun r w' => r = .returned (.tuple #[.int .i64 s.fin.1, .int .i64 s.fin.2]) ∧ Keeps No w w' := by
  have hl := ileft_any h
  have hft := fun w' (k : Keeps No w w') => ifault_any (h.keep k (fun _ _ h => h))
  obtain ⟨lv, h⟩ := h
  have HB := hid h.blk
  have HL := hid hl
  have HF := hid hft
  clear h hl hft
  by_cases h0 : 0 < s.l.length
  all_goals
    have hd := h0
    first | replace hd : decide ((s.l.length : Int) > 0) = true := decide_eq_true (by omega) | replace hd : decide ((s.l.length : Int) > 0) = false := decide_eq_false (by omega)
    first | simp only [RS.fin, if_pos h0] | simp only [RS.fin, if_neg h0]
    go_enter Try.func23, Try.ntmps23
    go_wp2_with fail
    refine HL.out.mono ?_
    rintro r w' ⟨rfl, hk⟩
    have HK := hid hk
    have c1 := cell_at (i := 1) (hk.heap (fun h => h) HB.out) rfl
    simp at c1
    clear hk HL
    go_wp2_with fail
    first
      | (go_ret2
         exact ⟨rfl, HK.out⟩)
      | (refine (HF.out _ HK.out).mono ?_
         rintro r w2 ⟨rfl, hk⟩
         have HK2 := hid hk
         clear hk HF
         go_wp2_with fail
         go_ret2
         exact ⟨rfl, HK.out.trans HK2.out⟩)

end

end Go.Proofs.Ytmmgkcimobkbbaa
