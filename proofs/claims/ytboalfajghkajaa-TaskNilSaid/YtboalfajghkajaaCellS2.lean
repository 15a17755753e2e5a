/-
  The store, walked: Value, Oldest.
-/
import Derived.Test.YtboalfajghkajaaCellS1
import Derived.StillTailTactics
import Derived.Deep.RegionHeld3
namespace Go.Proofs.Ytboalfajghkajaa
open Go.RowKit
set_option linter.unusedVariables false

section
variable {w : World} {sb : Nat} {F : Nat → Prop} {n : Nat} {l : List SeenD}

set_option maxHeartbeats 4000000 in
set_option maxRecDepth 100000 in
theorem cvalue_ok (h : Sto0 w sb F n l) (k : Nat) (hk : k < n) :
    Calls Try.prog 36 #[.pointer (some ⟨sb, 0, none⟩), .int .i64 k] w fun e w' => e = .returned (ValueA (valueD l k)) ∧ Keeps No w w' := by
  obtain ⟨cb, h8, hb, hs⟩ := h.sig
  obtain ⟨b, R, c0, c1, c2, hr⟩ := hs k hk
  obtain ⟨m, hm⟩ : ∃ m, (vals l k).length = m := ⟨_, rfl⟩
  have hm16 : m ≤ 16 := by rw [← hm]; exact vals_len l k
  have r2 := RingV.len_cell hr
  rw [hm] at r2
  obtain ⟨vi, va, vo, hA, hat⟩ : ∃ (vi va : Int) (vo : Bool), ValueA (valueD l k) = .tuple #[.int .i64 vi, .int .i64 va, .bool vo] ∧ (∀ w', Keeps No w w' → Calls Try.prog 48 #[.pointer (some ⟨b, 0, none⟩), .int .i64 (IntKind.i64.wrap ((m : Int) - 1))] w' fun e w2 => e = .returned (.tuple #[.agg #[.int .i64 vi, .int .i64 va], .bool vo]) ∧ Keeps No w w2 ∧ Keeps No w' w2) := by
    have hg : (goodD l k).length = m := by rw [← hm]; simp [vals]
    by_cases h0 : m = 0
    · subst h0
      have hnil : goodD l k = [] := List.length_eq_zero_iff.1 hg
      refine ⟨0, 0, false, by unfold valueD; rw [hnil]; rfl, fun w' kw => ?_⟩
      rw [show IntKind.i64.wrap (((0 : Nat) : Int) - 1) = -1 from rfl]
      exact (vat_none (hr.keep kw (fun _ _ h => h)) _ (by omega)).mono (fun e w2 h => ⟨h.1, kw.trans h.2, h.2⟩)
    · have hlt : m - 1 < (goodD l k).length := by omega
      refine ⟨((goodD l k)[m - 1]).val, ((goodD l k)[m - 1]).at_, true, ?_, fun w' kw => ?_⟩
      · unfold valueD
        rw [List.getLast?_eq_getElem?, hg, List.getElem?_eq_getElem hlt]
        rfl
      · have := vat_ok (hr.keep kw (fun _ _ h => h)) (i := m - 1) (by omega)
        rw [show IntKind.i64.wrap ((m : Int) - 1) = ((m - 1 : Nat) : Int) by simp only [IntKind.wrap_i64]; omega]
        refine this.mono (fun e w2 h => ⟨?_, kw.trans h.2, h.2⟩)
        simpa [vals, vtOf, Vt.val] using h.1
  have hcn : ∀ o o', (⟨w.heap.size, o', none⟩ : Addr) ≠ ⟨cb, o, none⟩ := fun o o' e => by have h1 := World.block_lt_of_cell? w _ c0; have h2 : w.heap.size = cb := congrArg Addr.block e; exact absurd h1 (by simp [h2])
  have hbn : ∀ o o', (⟨w.heap.size, o', none⟩ : Addr) ≠ ⟨b, o, none⟩ := fun o o' e => by have h1 := World.block_lt_of_cell? w _ r2; have h2 : w.heap.size = b := congrArg Addr.block e; exact absurd h1 (by simp [h2])
  rw [hA]
  have HAT := hid hat
  clear hs h hr hA hat hm
  go_enter Try.func36, Try.ntmps36
  go_wp2_with (first | (go_at_call 20; refine (cof_ok hb h8 k hk).mono ?_; rintro e w' ⟨rfl, rfl⟩))
  go_region_held3 (fun w' => w'.cell? ⟨cb, k * 3, none⟩ = some (.pointer (some ⟨b, 0, none⟩)) ∧ w'.cell? ⟨b, 2, none⟩ = some (.int .i64 m)) (first | with_reducible exact ⟨c0, r2⟩ | with_reducible exact ⟨cellA _ c0, cellA _ r2⟩ | with_reducible exact ⟨cellS (hcn _ _) (cellS (hcn _ _) c0), cellS (hbn _ _) (cellS (hbn _ _) r2)⟩ | (go_keep; done)) (first | (go_at_call 45; (with_reducible refine (vlen_any b m _ ?hc).mono ?_); (case hc => first | exact r2 | exact cellDr r2 | exact cellA _ r2 | exact cellDr (cellA _ r2)); rintro e w' ⟨rfl, rfl⟩) | (go_at_call 48; (with_reducible refine (HAT.out _ ?hk).mono ?_); (case hk => repeat' (first | with_reducible exact Keeps.refl _ _ | with_reducible assumption | with_reducible refine Keeps.drewN ?_ _ | with_reducible refine Keeps.drew ?_ | with_reducible refine Keeps.alloc ?_ _ | with_reducible refine Keeps.setCell ?_ ?_ _ | exact Or.inl (by simp) | exact Or.inl (by simp; omega) | exact Or.inl (by omega))); rintro e w2 ⟨rfl, k1, k2⟩; have K2 := hid k1; have c0 := k1.cell (fun h => h) c0; have r2 := k1.cell (fun h => h) r2; (first | (have hz := k2.heap (fun h => h) (heap_alloc_at (w := w) rfl (.cells #[.int .i64 0, .int .i64 0] 64)); have z0 := cell_at (i := 0) (v := .int .i64 0) hz rfl; have z1 := cell_at (i := 1) (v := .int .i64 0) hz rfl; have g0 := free_at (i := 0) hz; have g1 := free_at (i := 1) hz; clear hz) | skip); clear k1 k2))
  all_goals
    go_wp2_with fail
    go_quiet (fail)
    go_wp2_with fail
    refine bodyPost_ret (v := .tuple #[.int .i64 vi, .int .i64 va, .bool vo]) (by simp [results, Try.results36, go_sem]) rfl ?_
    refine ⟨rfl, ?_⟩
    have k2 := K2.out
    repeat' (first | with_reducible exact k2 | with_reducible refine Keeps.drewN ?_ _ | with_reducible refine Keeps.drew ?_ | with_reducible refine Keeps.alloc ?_ _ | with_reducible refine Keeps.setCell ?_ ?_ _ | exact Or.inl (Nat.le_refl _))

set_option maxHeartbeats 4000000 in
set_option maxRecDepth 100000 in
theorem coldest_ok (h : Sto0 w sb F n l) (k : Nat) (hk : k < n) (from_ : Int) :
    Calls Try.prog 49 #[.pointer (some ⟨sb, 0, none⟩), .int .i64 k, .int .i64 from_] w fun e w' => e = .returned (OldestA (oldestD l k from_)) ∧ Keeps No w w' := by
  obtain ⟨cb, h8, hb, hs⟩ := h.sig
  obtain ⟨b, R, c0, c1, c2, hr⟩ := hs k hk
  obtain ⟨G, hG⟩ : ∃ G, goodD l k = G := ⟨_, rfl⟩
  obtain ⟨m, hm⟩ : ∃ m, G.length = m := ⟨_, rfl⟩
  have hv : vals l k = G.map vtOf := by unfold vals; rw [hG]
  have hvl : (vals l k).length = m := by rw [hv, List.length_map, hm]
  have hm16 : m ≤ 16 := by rw [← hvl]; exact vals_len l k
  have r2 := RingV.len_cell hr
  rw [hvl] at r2
  have HVA : Hid (oldestD l k from_ = G.find? (fun x => decide (x.at_ ≥ from_))) := hid (by unfold oldestD; rw [hG])
  have HAT : Hid (∀ (i : Nat) (hi : i < G.length) (w' : World), Keeps No w w' → Calls Try.prog 48 #[.pointer (some ⟨b, 0, none⟩), .int .i64 i] w' fun e w2 => e = .returned (.tuple #[.agg #[.int .i64 G[i].val, .int .i64 G[i].at_], .bool true]) ∧ Keeps No w w2) := hid (fun i hi w' kw => by
    refine (vat_ok (hr.keep kw (fun _ _ h => h)) (i := i) (by rw [hvl]; omega)).mono (fun e w2 h => ⟨?_, kw.trans h.2⟩)
    simpa [hv, vtOf, Vt.val] using h.1)
  have HM := hid hm
  clear hs h hr hv hvl hG hm
  go_enter Try.func49, Try.ntmps49
  go_wp2_with (first | (go_at_call 20; refine (cof_ok hb h8 k hk).mono ?_; rintro e w' ⟨rfl, rfl⟩) | (go_at_call 45; refine (vlen_any _ _ _ r2).mono ?_; rintro e w' ⟨rfl, rfl⟩))
  go_loopw [22] (fun v22 wr => ∃ i : Nat, i ≤ m ∧ v22 = .int .i64 i ∧ Hid (Keeps No w wr) ∧ Hid ((G.take i).find? (fun x => decide (x.at_ ≥ from_)) = none)) (fun v22 _ => m - (intOf v22).toNat)
  case atStart => exact ⟨0, Nat.zero_le _, rfl, hid (Keeps.refl _ _), hid (by simp)⟩
  case round =>
    obtain ⟨i, hi, rfl, HK, HF⟩ := hrel
    by_cases hlt : i < m
    · have hil : i < G.length := by rw [HM.out]; exact hlt
      obtain ⟨⟨at_, sg, sq, vl, bd⟩, hx⟩ : ∃ x, G[i] = x := ⟨_, rfl⟩
      have hat := HAT.out i hil wr HK.out
      rw [hx] at hat
      dsimp only at hat
      have HA := hid hat
      have d0 := HK.out.cell (fun h => h) c0
      have hst := find_step G (fun x => decide (x.at_ ≥ from_)) hil HF.out
      rw [hx] at hst
      have HST := hid hst
      clear hst hx hat c0
      by_cases hge : at_ ≥ from_
      · have hd : decide (at_ ≥ from_) = true := decide_eq_true hge
        have HR : Hid (oldestD l k from_ = some ⟨at_, sg, sq, vl, bd⟩) := hid (by rw [HVA.out]; exact find_more G _ (by rw [HST.out]; simp [hge]))
        clear hge
        go_wp2_with fail
        refine HA.out.mono ?_
        rintro e w2 ⟨rfl, k2⟩
        have K2 := hid k2
        clear k2
        go_wp2_with fail
        go_ret2
        rw [HR.out]
        exact ⟨rfl, K2.out.alloc _⟩
      · have hd : decide (at_ ≥ from_) = false := decide_eq_false hge
        have HR : Hid ((G.take (i + 1)).find? (fun x => decide (x.at_ ≥ from_)) = none) := hid (by rw [HST.out]; simp [hge])
        clear hge
        go_wp2_with fail
        refine HA.out.mono ?_
        rintro e w2 ⟨rfl, k2⟩
        have K2 := hid k2
        clear k2
        go_wp2_with fail
        go_roundw
        case rel => exact ⟨i + 1, by omega, by go_num, hid (K2.out.alloc _), HR⟩
        case measure => simp [intOf]; omega
    · obtain rfl : i = m := by omega
      have hf := HF.out
      rw [← HM.out, List.take_length] at hf
      have HR : Hid (oldestD l k from_ = none) := hid (by rw [HVA.out]; exact hf)
      clear hf
      go_wp2_with fail
      go_ret2
      rw [HR.out]
      exact ⟨rfl, HK.out⟩

end

end Go.Proofs.Ytboalfajghkajaa
