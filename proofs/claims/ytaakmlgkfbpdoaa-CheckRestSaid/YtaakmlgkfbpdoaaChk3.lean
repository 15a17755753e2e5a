/-
  The program's rules of check: more of them.
-/
import Derived.Test.YtaakmlgkfbpdoaaChk2
namespace Go.Proofs.Ytaakmlgkfbpdoaa
open Go.RowKit

section
variable {w : World} {b : Nat} {C : Cfg} {sa ra ta : Option Addr} {sc rc tc : Nat}

set_option maxHeartbeats 2000000 in
set_option maxRecDepth 100000 in
theorem kp13_any (h : CfgB w b C sa ra ta sc rc tc) {a : Nat} (ha : a < 3) : Calls Try.prog 70 #[.pointer (some ⟨b, 0, none⟩), .int .i64 a] w fun e w' => e = .returned (.bool (keepB rulP C 13 a)) ∧ Keeps No w w' := by
  have c3 := h.blk.cell (o := 3) rfl
  have c4 := h.blk.cell (o := 4) rfl
  have c5 := h.blk.cell (o := 5) rfl
  have H := fun n w' => hid (within_int n 1 32 w')
  clear h
  rcases (show a = 0 ∨ a = 1 ∨ a = 2 by omega) with rfl | rfl | rfl
  · go_enter Try.func70, Try.ntmps70
    go_wp2_with fail
    refine (H _ _).out.mono ?_
    rintro e w' ⟨rfl, rfl⟩
    go_wp2_with fail
    go_ret
    exact ⟨rfl, Keeps.refl _ _⟩
  · go_enter Try.func70, Try.ntmps70
    go_wp2_with fail
    refine (H _ _).out.mono ?_
    rintro e w' ⟨rfl, rfl⟩
    go_wp2_with fail
    go_ret
    exact ⟨rfl, Keeps.refl _ _⟩
  · go_enter Try.func70, Try.ntmps70
    go_wp2_with fail
    refine (H _ _).out.mono ?_
    rintro e w' ⟨rfl, rfl⟩
    go_wp2_with fail
    go_ret
    exact ⟨rfl, Keeps.refl _ _⟩

set_option maxHeartbeats 2000000 in
set_option maxRecDepth 100000 in
theorem kp15_any (h : CfgB w b C sa ra ta sc rc tc) (a : Nat) : Calls Try.prog 72 #[.pointer (some ⟨b, 0, none⟩), .int .i64 a] w fun e w' => e = .returned (.bool (keepB rulP C 15 a)) ∧ Keeps No w w' := by
  have c5 := h.blk.cell (o := 7) rfl
  have c6 := h.blk.cell (o := 8) rfl
  have hk : keepB rulP C 15 a = (inB C.pause 1 100000 && inB C.off 1 100000) := rfl
  have HK := hid hk
  clear h hk
  cases hp : inB C.pause 1 100000
  · have H1 := fun w' => hid (within_int64 C.pause 1 100000 w')
    simp only [hp] at H1 HK
    have H2 := fun w' => hid (within_int64 C.off 1 100000 w')
    clear hp
    go_enter Try.func72, Try.ntmps72
    go_wp2_with ((with_reducible refine (H1 _).out.mono ?_); rintro e w' ⟨rfl, rfl⟩)
    go_ret
    exact ⟨by rw [HK.out]; simp, Keeps.refl _ _⟩
  · have H1 := fun w' => hid (within_int64 C.pause 1 100000 w')
    simp only [hp] at H1 HK
    have H2 := fun w' => hid (within_int64 C.off 1 100000 w')
    clear hp
    go_enter Try.func72, Try.ntmps72
    go_wp2_with ((with_reducible refine (H1 _).out.mono ?_); rintro e w' ⟨rfl, rfl⟩)
    go_wp2_with ((with_reducible refine (H2 _).out.mono ?_); rintro e w' ⟨rfl, rfl⟩)
    go_ret
    exact ⟨by rw [HK.out]; simp, Keeps.refl _ _⟩

set_option maxHeartbeats 2000000 in
set_option maxRecDepth 100000 in
theorem kp4_any (h : CfgB w b C sa ra ta sc rc tc) {a : Nat} (ha : a < C.ruls.length) : Calls Try.prog 61 #[.pointer (some ⟨b, 0, none⟩), .int .i64 a] w fun e w' => e = .returned (.bool (keepB rulP C 4 a)) ∧ Keeps No w w' := by
  obtain ⟨x, hx⟩ : ∃ x, C.ruls[a] = x := ⟨_, rfl⟩
  have hk : keepB rulP C 4 a = rulP C.sigs.length x.1 4 := by
    show (C.ruls[a]?).all _ = _
    rw [List.getElem?_eq_getElem ha, hx]; rfl
  obtain ⟨g, off, rfl, hg, hc⟩ := Sl.structAt encRul_len h.cfg.rul ha (by decide)
  rw [hx] at hc
  have HK := hid hk
  have c1 := h.blk.cell (o := 1) rfl
  have c0 := h.blk.cell (o := 0) rfl
  have r := hc 1 _ rfl
  have hl := h.cfg.sig.2.1
  unfold maxLen at hl
  have hw : IntKind.i64.wrap ((C.sigs.length : Int) - 1) = (C.sigs.length : Int) - 1 := by rw [IntKind.wrap_i64]; omega
  clear h hk hx hc
  go_enter Try.func61, Try.ntmps61
  go_wp2_with fail
  go_quiet ((go_at_call 74; exact quiet_eq (within_int _ _ _ _)))
  go_wp2_with fail
  go_ret
  exact ⟨by rw [HK.out]; rfl, drawsNo _ _⟩

set_option maxHeartbeats 2000000 in
set_option maxRecDepth 100000 in
theorem kp1_any (h : CfgB w b C sa ra ta sc rc tc) {a : Nat} (ha : a < C.sigs.length) : Calls Try.prog 58 #[.pointer (some ⟨b, 0, none⟩), .int .i64 a] w fun e w' => e = .returned (.bool (keepB rulP C 1 a)) ∧ Keeps No w w' := by
  obtain ⟨x, hx⟩ : ∃ x, C.sigs[a] = x := ⟨_, rfl⟩
  have hk : keepB rulP C 1 a = sigP x := by
    show (C.sigs[a]?).all _ = _
    rw [List.getElem?_eq_getElem ha, hx]; rfl
  obtain ⟨g, off, rfl, hg, hc⟩ := Sl.structAt encSig_len h.cfg.sig ha (by decide)
  rw [hx] at hc
  have c0 := h.blk.cell (o := 0) rfl
  have r0 := hc 0 _ rfl
  have r1 := hc 1 _ rfl
  unfold sigP at hk
  have HK := hid hk
  have hgx : ¬ g = w.heap.size := by omega
  clear h hk hx hc
  simp only [Nat.add_zero] at r0
  cases h1 : i32B x.mn
  · have H1 := fun w' => hid (isInt_any x.mn w')
    simp only [h1] at H1 HK
    clear h1
    go_enter Try.func58, Try.ntmps58
    go_wp2_with (go_at_call 75; (with_reducible refine (H1 _).out.mono ?_); rintro e w' ⟨rfl, rfl⟩)
    go_ret
    exact ⟨by rw [HK.out]; simp, (Keeps.refl _ _).alloc _⟩
  · have H1 := fun w' => hid (isInt_any x.mn w')
    have H2 := fun w' => hid (isInt_any x.mx w')
    simp only [h1] at H1 HK
    clear h1
    cases h2 : i32B x.mx
    · simp only [h2] at H2 HK
      clear h2
      go_enter Try.func58, Try.ntmps58
      go_wp2_with (first | (go_at_call 75; (with_reducible refine (H1 _).out.mono ?_); rintro e w' ⟨rfl, rfl⟩) | (go_at_call 75; (with_reducible refine (H2 _).out.mono ?_); rintro e w' ⟨rfl, rfl⟩))
      go_ret
      exact ⟨by rw [HK.out]; simp, (Keeps.refl _ _).alloc _⟩
    · simp only [h2] at H2 HK
      clear h2
      go_enter Try.func58, Try.ntmps58
      go_wp2_with (first | (go_at_call 75; (with_reducible refine (H1 _).out.mono ?_); rintro e w' ⟨rfl, rfl⟩) | (go_at_call 75; (with_reducible refine (H2 _).out.mono ?_); rintro e w' ⟨rfl, rfl⟩))
      go_ret
      exact ⟨by rw [HK.out]; simp, (Keeps.refl _ _).alloc _⟩

set_option maxHeartbeats 2000000 in
set_option maxRecDepth 100000 in
theorem kp6_any (h : CfgB w b C sa ra ta sc rc tc) {a : Nat} (ha : a < C.ruls.length) : Calls Try.prog 63 #[.pointer (some ⟨b, 0, none⟩), .int .i64 a] w fun e w' => e = .returned (.bool (keepB rulP C 6 a)) ∧ Keeps No w w' := by
  obtain ⟨x, hx⟩ : ∃ x, C.ruls[a] = x := ⟨_, rfl⟩
  have hk : keepB rulP C 6 a = rulP C.sigs.length x.1 6 := by
    show (C.ruls[a]?).all _ = _
    rw [List.getElem?_eq_getElem ha, hx]; rfl
  obtain ⟨g, off, rfl, hg, hc⟩ := Sl.structAt encRul_len h.cfg.rul ha (by decide)
  rw [hx] at hc
  have HK := hid hk
  have c1 := h.blk.cell (o := 1) rfl
  obtain ⟨xr, xv⟩ := x
  obtain ⟨va, vn, vc, rfl⟩ : ∃ va vn vc, xv = .slice va vn vc := by
    obtain ⟨va, vc, e⟩ := (h.cfg.stg (xr, xv) (by rw [← hx]; exact List.getElem_mem ha)).any
    exact ⟨va, _, vc, e⟩
  have hgx : ¬ g = w.heap.size := by omega
  have r0 := hc 0 _ rfl
  have r1 := hc 1 _ rfl
  have r2 := hc 2 _ rfl
  have r3 := hc 3 _ rfl
  have r4 := hc 4 _ rfl
  have r5 := hc 5 _ rfl
  have r6 := hc 6 _ rfl
  have r7 := hc 7 _ rfl
  have r8 := hc 8 _ rfl
  simp only [Nat.add_zero] at r0
  have H := fun w' => hid (within_int64 xr.span 1 10000 w')
  clear h hk hx hc
  have hk : keepB rulP C 6 a = (if xr.kind = 3 ∨ xr.kind = 4 ∨ xr.kind = 5 then inB xr.span 1 10000 else decide (xr.span = 0)) := HK.out
  clear HK
  obtain ⟨kk, hkk⟩ : ∃ k, xr.kind = k := ⟨_, rfl⟩
  rw [hkk] at hk r0
  clear hkk
  have HK := hid hk
  clear hk
  by_cases hc : kk = 3 ∨ kk = 4 ∨ kk = 5
  · rcases hc with rfl | rfl | rfl
    all_goals
      go_enter Try.func63, Try.ntmps63
      go_wp2_with ((with_reducible refine (H _).out.mono ?_); rintro e w' ⟨rfl, rfl⟩)
      go_ret
      exact ⟨by rw [HK.out]; rfl, (Keeps.refl _ _).alloc _⟩
  · have e3 : (kk == 3) = false := by simp; omega
    have e4 : (kk == 4) = false := by simp; omega
    have e5 : (kk == 5) = false := by simp; omega
    have HN := hid hc
    clear hc
    go_enter Try.func63, Try.ntmps63
    go_wp2_with fail
    go_ret
    exact ⟨by rw [HK.out, if_neg HN.out]; rfl, (Keeps.refl _ _).alloc _⟩

set_option maxHeartbeats 2000000 in
set_option maxRecDepth 100000 in
theorem kp5_any (h : CfgB w b C sa ra ta sc rc tc) {a : Nat} (ha : a < C.ruls.length) : Calls Try.prog 62 #[.pointer (some ⟨b, 0, none⟩), .int .i64 a] w fun e w' => e = .returned (.bool (keepB rulP C 5 a)) ∧ Keeps No w w' := by
  obtain ⟨x, hx⟩ : ∃ x, C.ruls[a] = x := ⟨_, rfl⟩
  have hk : keepB rulP C 5 a = rulP C.sigs.length x.1 5 := by
    show (C.ruls[a]?).all _ = _
    rw [List.getElem?_eq_getElem ha, hx]; rfl
  obtain ⟨g, off, rfl, hg, hc⟩ := Sl.structAt encRul_len h.cfg.rul ha (by decide)
  rw [hx] at hc
  have HK := hid hk
  have c1 := h.blk.cell (o := 1) rfl
  obtain ⟨xr, xv⟩ := x
  obtain ⟨va, vn, vc, rfl⟩ : ∃ va vn vc, xv = .slice va vn vc := by
    obtain ⟨va, vc, e⟩ := (h.cfg.stg (xr, xv) (by rw [← hx]; exact List.getElem_mem ha)).any
    exact ⟨va, _, vc, e⟩
  have hgx : ¬ g = w.heap.size := by omega
  have r0 := hc 0 _ rfl
  have r1 := hc 1 _ rfl
  have r2 := hc 2 _ rfl
  have r3 := hc 3 _ rfl
  have r4 := hc 4 _ rfl
  have r5 := hc 5 _ rfl
  have r6 := hc 6 _ rfl
  have r7 := hc 7 _ rfl
  have r8 := hc 8 _ rfl
  simp only [Nat.add_zero] at r0
  have H1 := fun w' => hid (isInt_any xr.limit w')
  have H2 := fun w' => hid (isInt_any xr.back w')
  have H3 := fun w' => hid (within_int xr.back 0 xr.limit w')
  clear h hk hx hc
  have hk : keepB rulP C 5 a = (i32B xr.limit && i32B xr.back && (if xr.kind = 1 then decide (xr.back ≤ xr.limit) else if xr.kind = 2 then decide (xr.limit ≤ xr.back) else if xr.kind = 3 ∨ xr.kind = 4 then decide (1 ≤ xr.limit) && inB xr.back 0 xr.limit else decide (xr.limit = 0) && decide (xr.back = 0))) := HK.out
  clear HK
  obtain ⟨kk, hkk⟩ : ∃ k, xr.kind = k := ⟨_, rfl⟩
  obtain ⟨li, hli⟩ : ∃ k, xr.limit = k := ⟨_, rfl⟩
  obtain ⟨ba, hba⟩ : ∃ k, xr.back = k := ⟨_, rfl⟩
  rw [hkk, hli, hba] at hk
  rw [hkk] at r0
  rw [hli] at r2
  rw [hba] at r3
  simp only [hli, hba] at H1 H2 H3
  clear hkk hli hba
  have HK := hid hk
  clear hk
  cases h1 : i32B li
  · simp only [h1] at H1 HK
    clear h1
    go_enter Try.func62, Try.ntmps62
    go_wp2_with (go_at_call 75; (with_reducible refine (H1 _).out.mono ?_); rintro e w' ⟨rfl, rfl⟩)
    go_ret
    exact ⟨by rw [HK.out]; simp, (Keeps.refl _ _).alloc _⟩
  · simp only [h1] at H1 HK
    clear h1
    cases h2 : i32B ba
    · simp only [h2] at H2 HK
      clear h2
      go_enter Try.func62, Try.ntmps62
      go_wp2_with (first | (go_at_call 75; (with_reducible refine (H1 _).out.mono ?_); rintro e w' ⟨rfl, rfl⟩) | (go_at_call 75; (with_reducible refine (H2 _).out.mono ?_); rintro e w' ⟨rfl, rfl⟩))
      go_ret
      exact ⟨by rw [HK.out]; simp, (Keeps.refl _ _).alloc _⟩
    · simp only [h2] at H2 HK
      clear h2
      rcases (show kk = 1 ∨ kk = 2 ∨ (kk = 3 ∨ kk = 4) ∨ (kk ≠ 1 ∧ kk ≠ 2 ∧ kk ≠ 3 ∧ kk ≠ 4) by omega) with rfl | rfl | hc | hc
      · go_enter Try.func62, Try.ntmps62
        go_wp2_with (first | (go_at_call 75; (with_reducible refine (H1 _).out.mono ?_); rintro e w' ⟨rfl, rfl⟩) | (go_at_call 75; (with_reducible refine (H2 _).out.mono ?_); rintro e w' ⟨rfl, rfl⟩))
        go_ret
        exact ⟨by rw [HK.out]; simp, (Keeps.refl _ _).alloc _⟩
      · go_enter Try.func62, Try.ntmps62
        go_wp2_with (first | (go_at_call 75; (with_reducible refine (H1 _).out.mono ?_); rintro e w' ⟨rfl, rfl⟩) | (go_at_call 75; (with_reducible refine (H2 _).out.mono ?_); rintro e w' ⟨rfl, rfl⟩))
        go_ret
        exact ⟨by rw [HK.out]; simp, (Keeps.refl _ _).alloc _⟩
      · by_cases hl : 1 ≤ li
        · have d : decide (1 ≤ li) = true := decide_eq_true hl
          have HL := hid hl
          clear hl
          rcases hc with rfl | rfl
          all_goals
            go_enter Try.func62, Try.ntmps62
            go_wp2_with (first | (go_at_call 75; (with_reducible refine (H1 _).out.mono ?_); rintro e w' ⟨rfl, rfl⟩) | (go_at_call 75; (with_reducible refine (H2 _).out.mono ?_); rintro e w' ⟨rfl, rfl⟩) | (go_at_call 74; (with_reducible refine (H3 _).out.mono ?_); rintro e w' ⟨rfl, rfl⟩))
            go_ret
            exact ⟨by rw [HK.out]; simp [HL.out], (Keeps.refl _ _).alloc _⟩
        · have d : decide (1 ≤ li) = false := decide_eq_false hl
          have HL := hid hl
          clear hl
          rcases hc with rfl | rfl
          all_goals
            go_enter Try.func62, Try.ntmps62
            go_wp2_with (first | (go_at_call 75; (with_reducible refine (H1 _).out.mono ?_); rintro e w' ⟨rfl, rfl⟩) | (go_at_call 75; (with_reducible refine (H2 _).out.mono ?_); rintro e w' ⟨rfl, rfl⟩))
            go_ret
            exact ⟨by rw [HK.out]; simp only [d, Bool.false_and]; simp, (Keeps.refl _ _).alloc _⟩
      · obtain ⟨n1, n2, n3, n4⟩ := hc
        have e1 : (kk == 1) = false := by simpa using n1
        have e2 : (kk == 2) = false := by simpa using n2
        have e3 : (kk == 3) = false := by simpa using n3
        have e4 : (kk == 4) = false := by simpa using n4
        have HN : Hid (kk ≠ 1 ∧ kk ≠ 2 ∧ kk ≠ 3 ∧ kk ≠ 4) := hid ⟨n1, n2, n3, n4⟩
        clear n1 n2 n3 n4
        by_cases hl : li = 0
        · subst hl
          go_enter Try.func62, Try.ntmps62
          go_wp2_with (first | (go_at_call 75; (with_reducible refine (H1 _).out.mono ?_); rintro e w' ⟨rfl, rfl⟩) | (go_at_call 75; (with_reducible refine (H2 _).out.mono ?_); rintro e w' ⟨rfl, rfl⟩))
          go_ret
          obtain ⟨n1, n2, n3, n4⟩ := HN.out
          exact ⟨by rw [HK.out, if_neg n1, if_neg n2, if_neg (by omega)]; simp; rfl, (Keeps.refl _ _).alloc _⟩
        · have d : (li == 0) = false := by simpa using hl
          have HL := hid hl
          clear hl
          go_enter Try.func62, Try.ntmps62
          go_wp2_with (first | (go_at_call 75; (with_reducible refine (H1 _).out.mono ?_); rintro e w' ⟨rfl, rfl⟩) | (go_at_call 75; (with_reducible refine (H2 _).out.mono ?_); rintro e w' ⟨rfl, rfl⟩))
          go_ret
          obtain ⟨n1, n2, n3, n4⟩ := HN.out
          exact ⟨by rw [HK.out, if_neg n1, if_neg n2, if_neg (by omega)]; simp [HL.out], (Keeps.refl _ _).alloc _⟩

end
end Go.Proofs.Ytaakmlgkfbpdoaa
