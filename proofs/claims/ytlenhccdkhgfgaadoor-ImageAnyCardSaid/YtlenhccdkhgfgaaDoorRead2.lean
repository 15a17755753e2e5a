/-
  A reader of bytes, more: New, Byte, Flag, Left, Fault, End.
-/
import Derived.Test.YtlenhccdkhgfgaaDoorRead
namespace Go.Proofs.YtlenhccdkhgfgaaDoor
open Go.RowKit

set_option maxHeartbeats 1000000 in
set_option maxRecDepth 100000 in
theorem rnew_any {w : World} {v : Value} {p : List Int} (h : SlB w v p) (hb : Bytes p) (hl : p.length ≤ 100000) :
    Calls Tryd.prog 51 #[v] w fun r w' => ∃ rb F, r = .returned (.pointer (some ⟨rb, 0, none⟩)) ∧ Rd w' rb F ⟨p, 0, 0⟩ ∧ Keeps No w w' ∧ ∀ k, F k → w.heap.size ≤ k ∧ k < w'.heap.size := by
  have HC := hid (clone_any h hl)
  have HB := hid hb
  obtain ⟨a, cap, rfl⟩ := h.any
  clear h hb
  go_enter Tryd.func51, Tryd.ntmps51
  go_wp2_with fail
  refine HC.out.mono ?_
  rintro r w1 ⟨v1, rfl, ho, hk, hn⟩
  obtain ⟨a1, c1, rfl⟩ := own_any ho
  have HO := hid ho
  have HK := hid hk
  have HN := hid hn
  clear ho hk hn HC
  go_wp2_with fail
  go_ret
  have hlt := HO.out.lt
  refine ⟨w1.heap.size, fun k => k = w1.heap.size ∨ (Value.slice a1 p.length c1).ownBlock = some k, rfl, ⟨.slice a1 p.length c1, heap_alloc_new w1 _, Sl.alloc (Sl.ofOwn HO.out) _, ?_, Or.inl rfl, fun k hk => Or.inr hk, by simpa using hl, HB.out, fun h => absurd rfl h⟩, HK.out.alloc _, ?_⟩
  · intro e; have := (hlt _ e).2; omega
  · rintro k (rfl | hk)
    · exact ⟨HK.out.size, by simp⟩
    · exact ⟨HN.out k hk, by have := (hlt k hk).2; simp; omega⟩

section
variable {w : World} {rb : Nat} {F : Nat → Prop} {s : RS}

set_option maxHeartbeats 1000000 in
set_option maxRecDepth 100000 in
theorem rbyte_any (h : Rd w rb F s) :
    Calls Tryd.prog 61 #[.pointer (some ⟨rb, 0, none⟩)] w fun r w' => r = .returned (.int .u8 s.byte.1) ∧ Rd w' rb F s.byte.2 ∧ Keeps (fun k => k = rb) w w' := by
  obtain ⟨l, k, f⟩ := s
  by_cases hf : f = 0
  · subst hf
    rcases l with _ | ⟨b, t⟩
    · have hh := rhas_short h rfl (n := 1) (z := 1) rfl (by simp)
      have HH := hid hh
      clear h hh
      simp only [RS.byte, if_true]
      go_enter Tryd.func61, Tryd.ntmps61
      go_wp2_with fail
      refine HH.out.mono ?_
      rintro r w' ⟨rfl, hr, hk⟩
      have HR := hid hr
      have HK := hid hk
      clear hr hk HH
      go_wp2_with fail
      go_ret
      exact ⟨rfl, HR.out, HK.out⟩
    · have hh := rhas_ok h rfl (n := 1) (z := 1) rfl (by simp)
      have ht := rtake_ok h rfl (n := 1) (z := 1) rfl (by simp)
      have HH := hid hh
      have HT := hid ht
      clear h hh ht
      simp only [RS.byte, if_true]
      go_enter Tryd.func61, Tryd.ntmps61
      go_wp2_with fail
      refine HH.out.mono ?_
      rintro r w' ⟨rfl, rfl⟩
      go_wp2_with fail
      refine HT.out.mono ?_
      rintro r w' ⟨v, rfl, hs, hr, hk⟩
      simp only [List.take_succ_cons, List.take_zero, List.drop_succ_cons, List.drop_zero] at hs hr
      obtain ⟨a, cap, rfl⟩ := hs.any
      obtain ⟨g, off, rfl, _, c0⟩ := SlB.cellAt hs (k := 0) (by simp)
      simp at c0
      have HR := hid hr
      have HK := hid hk
      clear hr hk HH HT hs
      go_wp2_with fail
      go_ret
      exact ⟨rfl, HR.out, HK.out⟩
  · have hh := rhas_bad h hf 1
    have HH := hid hh
    have HR := hid h
    simp only [RS.byte, if_neg hf]
    clear h hh hf
    go_enter Tryd.func61, Tryd.ntmps61
    go_wp2_with fail
    refine HH.out.mono ?_
    rintro r w' ⟨rfl, rfl⟩
    go_wp2_with fail
    go_ret
    exact ⟨rfl, HR.out, Keeps.refl _ _⟩

set_option maxHeartbeats 1000000 in
set_option maxRecDepth 100000 in
theorem rflag_any (h : Rd w rb F s) :
    Calls Tryd.prog 67 #[.pointer (some ⟨rb, 0, none⟩)] w fun r w' => r = .returned (.bool s.flag.1) ∧ Rd w' rb F s.flag.2 ∧ Keeps (fun k => k = rb) w w' := by
  obtain ⟨l, k, f⟩ := s
  by_cases hf : f = 0
  · subst hf
    rcases l with _ | ⟨b, t⟩
    · have hh := rhas_short h rfl (n := 1) (z := 1) rfl (by simp)
      have HH := hid hh
      clear h hh
      simp only [RS.flag, if_true]
      go_enter Tryd.func67, Tryd.ntmps67
      go_wp2_with fail
      refine HH.out.mono ?_
      rintro r w' ⟨rfl, hr, hk⟩
      have HR := hid hr
      have HK := hid hk
      clear hr hk HH
      go_wp2_with fail
      go_ret
      exact ⟨rfl, HR.out, HK.out⟩
    · have hh := rhas_ok h rfl (n := 1) (z := 1) rfl (by simp)
      have ht := rtake_ok h rfl (n := 1) (z := 1) rfl (by simp)
      obtain ⟨lv, h'⟩ := h
      have hfl := rfail_any h' 2 (by decide)
      obtain ⟨a0, cap0, rfl⟩ := h'.sl.any
      have x0 := cell_at (i := 0) h'.blk rfl
      simp at x0
      obtain ⟨g0, off0, rfl, _, d0⟩ := SlB.cellAt h'.sl (k := 0) (by simp)
      simp at d0
      have HH := hid hh
      have HT := hid ht
      have HFL := hid hfl
      clear hh ht hfl h'
      simp only [RS.flag, if_true]
      by_cases hb : 1 < b
      · have hd : decide (b > 1) = true := by simpa using hb
        simp only [if_pos hb]
        go_enter Tryd.func67, Tryd.ntmps67
        go_wp2_with fail
        refine HH.out.mono ?_
        rintro r w' ⟨rfl, rfl⟩
        go_wp2_with fail
        refine HFL.out.mono ?_
        rintro r w' ⟨rfl, hr, hk⟩
        have HR := hid hr
        have HK := hid hk
        clear hr hk HH HT HFL
        go_wp2_with fail
        go_ret
        exact ⟨rfl, HR.out, HK.out⟩
      · have hd : decide (b > 1) = false := by simpa using hb
        simp only [if_neg hb]
        go_enter Tryd.func67, Tryd.ntmps67
        go_wp2_with fail
        refine HH.out.mono ?_
        rintro r w' ⟨rfl, rfl⟩
        go_wp2_with fail
        refine HT.out.mono ?_
        rintro r w' ⟨v, rfl, hs, hr, hk⟩
        simp only [List.take_succ_cons, List.take_zero, List.drop_succ_cons, List.drop_zero] at hs hr
        obtain ⟨a, cap, rfl⟩ := hs.any
        obtain ⟨g, off, rfl, _, c0⟩ := SlB.cellAt hs (k := 0) (by simp)
        simp at c0
        have HR := hid hr
        have HK := hid hk
        clear hr hk HH HT HFL hs x0 d0
        go_wp2_with fail
        go_ret
        exact ⟨rfl, HR.out, HK.out⟩
  · have hh := rhas_bad h hf 1
    have HH := hid hh
    have HR := hid h
    simp only [RS.flag, if_neg hf]
    clear h hh hf
    go_enter Tryd.func67, Tryd.ntmps67
    go_wp2_with fail
    refine HH.out.mono ?_
    rintro r w' ⟨rfl, rfl⟩
    go_wp2_with fail
    go_ret
    exact ⟨rfl, HR.out, Keeps.refl _ _⟩

set_option maxHeartbeats 1000000 in
set_option maxRecDepth 100000 in
theorem rleft_any (h : Rd w rb F s) :
    Calls Tryd.prog 70 #[.pointer (some ⟨rb, 0, none⟩)] w fun r w' => r = .returned (.int .i64 s.l.length) ∧ w = w' := by
  obtain ⟨lv, h⟩ := h
  obtain ⟨a, cap, rfl⟩ := h.sl.any
  have c0 := cell_at (i := 0) h.blk rfl
  simp at c0
  clear h
  go_enter Tryd.func70, Tryd.ntmps70
  go_wp2_with fail
  go_ret
  exact ⟨rfl, rfl⟩

set_option maxHeartbeats 1000000 in
set_option maxRecDepth 100000 in
theorem rfault_any (h : Rd w rb F s) :
    Calls Tryd.prog 71 #[.pointer (some ⟨rb, 0, none⟩)] w fun r w' => r = .returned (.tuple #[.int .i64 s.fault.1, .int .i64 s.fault.2]) ∧ Keeps No w w' := by
  obtain ⟨l, k, f⟩ := s
  obtain ⟨lv, h⟩ := h
  have c1 := cell_at (i := 1) h.blk rfl
  have c2 := cell_at (i := 2) h.blk rfl
  simp at c1 c2
  clear h
  by_cases hf : f = 0
  · subst hf
    simp only [RS.fault, if_true]
    go_enter Tryd.func71, Tryd.ntmps71
    go_wp2_with fail
    go_ret2
    exact ⟨rfl, Keeps.refl _ _⟩
  · have hd : (f == 0) = false := by simpa using hf
    simp only [RS.fault, if_neg hf]
    clear hf
    go_enter Tryd.func71, Tryd.ntmps71
    go_wp2_with fail
    go_quiet (fail)
    go_wp2_with fail
    go_ret2
    exact ⟨rfl, (Keeps.refl _ _).drewN _⟩

set_option maxHeartbeats 1000000 in
set_option maxRecDepth 100000 in
theorem rend_any (h : Rd w rb F s) :
    Calls Tryd.prog 52 #[.pointer (some ⟨rb, 0, none⟩)] w fun r w' => r = .returned (.tuple #[.int .i64 s.fin.1, .int .i64 s.fin.2]) ∧ Keeps No w w' := by
  have hl := rleft_any h
  have hft := rfault_any h
  obtain ⟨lv, h⟩ := h
  have c1 := cell_at (i := 1) h.blk rfl
  simp at c1
  have HL := hid hl
  have HF := hid hft
  clear h hl hft
  by_cases h0 : 0 < s.l.length
  · have hd : decide ((s.l.length : Int) > 0) = true := by simp; omega
    simp only [RS.fin, if_pos h0]
    go_enter Tryd.func52, Tryd.ntmps52
    go_wp2_with fail
    refine HL.out.mono ?_
    rintro r w' ⟨rfl, rfl⟩
    go_wp2_with fail
    go_ret2
    exact ⟨rfl, Keeps.refl _ _⟩
  · have hd : decide ((s.l.length : Int) > 0) = false := decide_eq_false (by omega)
    simp only [RS.fin, if_neg h0]
    go_enter Tryd.func52, Tryd.ntmps52
    go_wp2_with fail
    refine HL.out.mono ?_
    rintro r w' ⟨rfl, rfl⟩
    go_wp2_with fail
    refine HF.out.mono ?_
    rintro r w' ⟨rfl, hk⟩
    have HK := hid hk
    clear hk HF
    go_wp2_with fail
    go_ret2
    exact ⟨rfl, HK.out⟩

end

end Go.Proofs.YtlenhccdkhgfgaaDoor
