/-
  The library's sort by a wheel's order: which place is to be the middle.
-/
import Derived.Test.YtnedmmjkhemgjaaSrtA
import Derived.Test.YtnedmmjkhemgjaaSrtP
import Derived.BigQuiet
import Derived.Deep.DeepCutAuto
import Derived.Deep.CutBlock
import Derived.Test.YtnedmmjkhemgjaaBlk
namespace Go.Proofs.Ytnedmmjkhemgjaa
open Go.RowKit
set_option linter.unusedVariables false

/-- A row beside a count of swaps. -/
structure SwS (w0 w : World) (g cap n : Nat) (ks : List Int) (D : Array Int) (sb : Nat) : Prop where
  sr : SR w0 w g cap n ks D
  bk : ∃ s, Bk w sb 3 [.int .i64 s]
  ne : sb ≠ g
  new : w0.heap.size ≤ sb

theorem SwS.kept {w0 w w' : World} {g cap n : Nat} {ks : List Int} {D : Array Int} {sb : Nat} (h : SwS w0 w g cap n ks D sb) (k : Keeps No w w') : SwS w0 w' g cap n ks D sb := by
  obtain ⟨s, hs⟩ := h.bk
  exact ⟨h.sr.kept k, ⟨s, hs.kept k⟩, h.ne, h.new⟩

theorem SwS.stored {w0 w : World} {g cap n : Nat} {ks : List Int} {D : Array Int} {sb : Nat} (h : SwS w0 w g cap n ks D sb) (s : Int) : SwS w0 (w.setCell ⟨sb, 0, none⟩ (.int .i64 s)) g cap n ks D sb := by
  obtain ⟨s0, hs⟩ := h.bk
  refine ⟨h.sr.keep (S := fun k => k = sb) ((Keeps.refl (fun k => k = sb) _).setCell (p := ⟨sb, 0, none⟩) (Or.inr rfl) _) (fun e => h.ne e.symm) (fun i hi e => by have := h.new; omega), ⟨s, hs.put 0 _ rfl⟩, h.ne, h.new⟩

set_option maxHeartbeats 4000000 in
set_option maxRecDepth 100000 in
theorem ord2_any {w0 w : World} {g cap n b sb x y : Nat} {ks : List Int} {D : Array Int} {T : Int → Int} (hc : Orders w0 g b T ks) (hn : n ≤ 1000) (sw : SwS w0 w g cap n ks D sb) (hx : x < n) (hy : y < n) :
    Calls Try.prog 41 #[.slice (some ⟨g, 0, none⟩) n cap, .int .i64 x, .int .i64 y, .pointer (some ⟨sb, 0, none⟩), ordV b] w fun e w' => ∃ x' y' : Nat, e = .returned (.tuple #[.int .i64 x', .int .i64 y']) ∧ ((x' = x ∧ y' = y) ∨ (x' = y ∧ y' = x)) ∧ SwS w0 w' g cap n ks D sb := by
  have H := hid sw.sr
  have SW := hid sw
  have HC := hid hc
  clear sw hc
  go_enter Try.func41, Try.ntmps41
  cases hlt : ltT T D[y]! D[x]!
  · -- not less
    have cx1 := H.out.cell (i := y) (by omega)
    have cy1 := H.out.cell (i := x) (by omega)
    have HQ1 := hid (H.out.ord HC.out (i := y) (j := x) (by omega) (by omega))
    have hg1 := lt_pos hlt
    obtain ⟨c1, hcc1⟩ : ∃ c, cfT T D[y]! D[x]! = c := ⟨_, rfl⟩
    obtain ⟨x1, hx1⟩ : ∃ v, D[y]! = v := ⟨_, rfl⟩
    rw [hcc1] at HQ1 hg1
    rw [hx1] at HQ1 cx1
    obtain ⟨y1, hy1⟩ : ∃ v, D[x]! = v := ⟨_, rfl⟩
    first | rw [hy1] at HQ1 cy1 | skip
    have hd1 : decide (c1 < 0) = false := by simpa using hg1
    clear hcc1 hx1 hy1 hg1
    go_wp2_with fail
    go_quiet ((go_at_call 19; exact Calls.quiet_of (HQ1.out _)))
    have SW1 := hid (SW.out.kept ((Keeps.refl No w).drewN nq))
    obtain ⟨W1, hW1⟩ : ∃ W, w.drewN nq = W := ⟨_, rfl⟩
    rw [hW1] at SW1
    rw [hW1]
    clear hW1 SW H HC cx1 cy1 HQ1
    go_wp2_with fail
    go_ret2
    exact ⟨x, y, rfl, Or.inl ⟨rfl, rfl⟩, SW1.out⟩
  · -- less
    have cx1 := H.out.cell (i := y) (by omega)
    have cy1 := H.out.cell (i := x) (by omega)
    have HQ1 := hid (H.out.ord HC.out (i := y) (j := x) (by omega) (by omega))
    have hg1 := lt_neg hlt
    obtain ⟨c1, hcc1⟩ : ∃ c, cfT T D[y]! D[x]! = c := ⟨_, rfl⟩
    obtain ⟨x1, hx1⟩ : ∃ v, D[y]! = v := ⟨_, rfl⟩
    rw [hcc1] at HQ1 hg1
    rw [hx1] at HQ1 cx1
    obtain ⟨y1, hy1⟩ : ∃ v, D[x]! = v := ⟨_, rfl⟩
    first | rw [hy1] at HQ1 cy1 | skip
    have hd1 : decide (c1 < 0) = true := by simpa using hg1
    clear hcc1 hx1 hy1 hg1
    go_wp2_with fail
    go_quiet ((go_at_call 19; exact Calls.quiet_of (HQ1.out _)))
    have SW1 := hid (SW.out.kept ((Keeps.refl No w).drewN nq))
    obtain ⟨W1, hW1⟩ : ∃ W, w.drewN nq = W := ⟨_, rfl⟩
    rw [hW1] at SW1
    rw [hW1]
    clear hW1 SW H HC cx1 cy1 HQ1
    obtain ⟨s, hs⟩ := SW1.out.bk
    have c0 := hs.cell 0 rfl
    have f0 := hs.free 0
    clear hs
    have ST := hid (SW1.out.stored)
    clear SW1
    go_wp2_with fail
    first | go_region | skip
    all_goals
      try go_wp2_with fail
      go_ret2
      exact ⟨y, x, rfl, Or.inr ⟨rfl, rfl⟩, ST.out _⟩

set_option maxHeartbeats 4000000 in
set_option maxRecDepth 100000 in
theorem med_any {w0 w : World} {g cap n b sb : Nat} {ks : List Int} {D : Array Int} {T : Int → Int} (hc : Orders w0 g b T ks) (hn : n ≤ 1000) (sw : SwS w0 w g cap n ks D sb) {xi yi zi : Int} {x y z : Nat} (ex : xi = x) (ey : yi = y) (ez : zi = z) (hx : x < n) (hy : y < n) (hz : z < n) :
    Calls Try.prog 40 #[.slice (some ⟨g, 0, none⟩) n cap, .int .i64 xi, .int .i64 yi, .int .i64 zi, .pointer (some ⟨sb, 0, none⟩), ordV b] w fun e w' => ∃ m : Nat, e = .returned (.int .i64 m) ∧ (m = x ∨ m = y ∨ m = z) ∧ SwS w0 w' g cap n ks D sb := by
  subst ex ey ez
  have SW := hid sw
  have HC := hid hc
  clear sw hc
  go_enter Try.func40, Try.ntmps40
  go_wp2_with fail
  with_reducible refine (ord2_any HC.out hn SW.out hx hy).mono ?_
  rintro e w1 ⟨x1, y1, rfl, h1, sw1⟩
  have SW1 := hid sw1
  clear sw1 SW
  go_wp2_with fail
  with_reducible refine (ord2_any HC.out hn SW1.out (by omega) hz).mono ?_
  rintro e w2 ⟨y2, z2, rfl, h2, sw2⟩
  have SW2 := hid sw2
  clear sw2 SW1
  go_wp2_with fail
  with_reducible refine (ord2_any HC.out hn SW2.out (by omega) (by omega)).mono ?_
  rintro e w3 ⟨x3, y3, rfl, h3, sw3⟩
  have SW3 := hid sw3
  clear sw3 SW2
  go_wp2_with fail
  go_ret
  exact ⟨y3, rfl, by omega, SW3.out⟩

set_option maxHeartbeats 4000000 in
set_option maxRecDepth 100000 in
theorem medA_any {w0 w : World} {g cap n b sb : Nat} {ks : List Int} {D : Array Int} {T : Int → Int} (hc : Orders w0 g b T ks) (hn : n ≤ 1000) (sw : SwS w0 w g cap n ks D sb) {xi : Int} {x : Nat} (ex : xi = x) (h1 : 1 ≤ x) (hx : x + 1 < n) :
    Calls Try.prog 39 #[.slice (some ⟨g, 0, none⟩) n cap, .int .i64 xi, .pointer (some ⟨sb, 0, none⟩), ordV b] w fun e w' => ∃ m : Nat, e = .returned (.int .i64 m) ∧ (x ≤ m + 1 ∧ m ≤ x + 1) ∧ SwS w0 w' g cap n ks D sb := by
  subst ex
  have SW := hid sw
  have HC := hid hc
  clear sw hc
  go_enter Try.func39, Try.ntmps39
  go_wp2_with fail
  with_reducible refine (med_any HC.out hn SW.out (x := x - 1) (y := x) (z := x + 1) (by omega) rfl (by omega) (by omega) (by omega) (by omega)).mono ?_
  rintro e w1 ⟨m, rfl, hm, sw1⟩
  have SW1 := hid sw1
  clear sw1 SW
  go_wp2_with fail
  go_ret
  exact ⟨m, rfl, by omega, SW1.out⟩

set_option maxHeartbeats 4000000 in
set_option maxRecDepth 100000 in
theorem pivot_any {w0 w : World} {g cap n b a L : Nat} {ks : List Int} {D : Array Int} {T : Int → Int} {bi : Int} (hc : Orders w0 g b T ks) (hn : n ≤ 1000) (h : SR w0 w g cap n ks D) (eb : bi = (a : Int) + (L : Int)) (hL : 12 < L) (hb : a + L ≤ n) :
    Calls Try.prog 27 #[.slice (some ⟨g, 0, none⟩) n cap, .int .i64 a, .int .i64 bi, ordV b] w fun e w' => ∃ (p : Nat) (t : Int), e = .returned (.tuple #[.int .i64 p, .int .i64 t]) ∧ (a ≤ p ∧ p < a + L) ∧ SR w0 w' g cap n ks D := by
  subst eb
  have HC := hid hc
  have SW0 : Hid (SwS w0 (w.alloc (.cells #[.int .i64 0] 3)) g cap n ks D w.heap.size) :=
    hid ⟨h.kept ((Keeps.refl _ _).alloc _), ⟨0, Bk.new rfl [.int .i64 0] _⟩, by have := h.lt; omega, h.keeps.size⟩
  clear h hc
  have hl : ((a : Int) + (L : Int) - (a : Int)) = (L : Int) := by omega
  have h8 : decide ((8 : Int) ≤ (L : Int)) = true := by simp; omega
  by_cases h50 : 50 ≤ L
  · have hd50 : decide ((50 : Int) ≤ (L : Int)) = true := by simp; omega
    go_enter Try.func27, Try.ntmps27
    go_wp2_with fail
    with_reducible refine (medA_any HC.out hn SW0.out (x := a + L / 4) (by omega) (by omega) (by omega)).mono ?_
    rintro e w1 ⟨i, rfl, hi, sw1⟩
    have SW1 := hid sw1
    clear sw1 SW0
    go_wp2_with fail
    with_reducible refine (medA_any HC.out hn SW1.out (x := a + L / 4 * 2) (by omega) (by omega) (by omega)).mono ?_
    rintro e w2 ⟨j, rfl, hj, sw1⟩
    have SW2 := hid sw1
    clear sw1 SW1
    go_wp2_with fail
    with_reducible refine (medA_any HC.out hn SW2.out (x := a + L / 4 * 3) (by omega) (by omega) (by omega)).mono ?_
    rintro e w3 ⟨k, rfl, hk, sw1⟩
    have SW3 := hid sw1
    clear sw1 SW2
    go_wp2_with fail
    with_reducible refine (med_any HC.out hn SW3.out (x := i) (y := j) (z := k) rfl rfl rfl (by omega) (by omega) (by omega)).mono ?_
    rintro e w5 ⟨p, rfl, hp, sw5⟩
    obtain ⟨s, hs⟩ := sw5.bk
    have c0 := hs.cell 0 rfl
    have SW5 := hid sw5.sr
    have PB : Hid (a ≤ p ∧ p < a + L) := hid (by omega)
    clear sw5 hs hp
    by_cases s0 : s = 0
    · subst s0
      go_wp2_with fail
      go_ret2
      exact ⟨p, 1, rfl, PB.out, SW5.out⟩
    · have e0 : (s == 0) = false := by simpa using s0
      have d0 : decide (s = 0) = false := by simpa using s0
      by_cases s1 : s = 12
      · subst s1
        go_wp2_with fail
        go_ret2
        exact ⟨p, 2, rfl, PB.out, SW5.out⟩
      · have e1 : (s == 12) = false := by simpa using s1
        have d1 : decide (s = 12) = false := by simpa using s1
        clear s0 s1
        go_wp2_with fail
        go_ret2
        exact ⟨p, 0, rfl, PB.out, SW5.out⟩
  · have hd50 : decide ((50 : Int) ≤ (L : Int)) = false := by simp; omega
    go_enter Try.func27, Try.ntmps27
    go_wp2_with fail
    with_reducible refine (med_any HC.out hn SW0.out (x := a + L / 4) (y := a + L / 4 * 2) (z := a + L / 4 * 3) (by omega) (by omega) (by omega) (by omega) (by omega) (by omega)).mono ?_
    rintro e w5 ⟨p, rfl, hp, sw5⟩
    obtain ⟨s, hs⟩ := sw5.bk
    have c0 := hs.cell 0 rfl
    have SW5 := hid sw5.sr
    have PB : Hid (a ≤ p ∧ p < a + L) := hid (by omega)
    clear sw5 hs hp
    by_cases s0 : s = 0
    · subst s0
      go_wp2_with fail
      go_ret2
      exact ⟨p, 1, rfl, PB.out, SW5.out⟩
    · have e0 : (s == 0) = false := by simpa using s0
      have d0 : decide (s = 0) = false := by simpa using s0
      by_cases s1 : s = 12
      · subst s1
        go_wp2_with fail
        go_ret2
        exact ⟨p, 2, rfl, PB.out, SW5.out⟩
      · have e1 : (s == 12) = false := by simpa using s1
        have d1 : decide (s = 12) = false := by simpa using s1
        clear s0 s1
        go_wp2_with fail
        go_ret2
        exact ⟨p, 0, rfl, PB.out, SW5.out⟩

end Go.Proofs.Ytnedmmjkhemgjaa
