/-
  A wheel: what it answers, by the list that it is read as.
-/
import Derived.Test.YtnedmmjkhemgjaaWhl
namespace Go.Proofs.Ytnedmmjkhemgjaa
open Go.RowKit Go.Maps
set_option linter.unusedVariables false

def idsT (L : List Tmr) : List Int := L.map (·.1)

/-- A wheel at b, in blocks F, that at most n were set in, read as L. -/
def Whl (w : World) (b : Nat) (F : Nat → Prop) (n : Nat) (L : List Tmr) : Prop :=
  (W0 w b ∧ L = [] ∧ ∀ i, F i ↔ i = b) ∨ (∃ m D, b ≠ m ∧ WM w b m n D ∧ Rep D L ∧ ∀ i, F i ↔ (i = b ∨ i = m))

theorem Whl.keep {w w' : World} {b n : Nat} {F S : Nat → Prop} {L : List Tmr} (h : Whl w b F n L) (k : Keeps S w w') (hs : ∀ i, F i → ¬ S i) : Whl w' b F n L := by
  rcases h with ⟨h0, h1, h2⟩ | ⟨m, D, hb, hw, hr, hF⟩
  · exact Or.inl ⟨k.heap (hs b ((h2 b).2 rfl)) h0, h1, h2⟩
  · exact Or.inr ⟨m, D, hb, hw.kept k (hs b ((hF b).2 (Or.inl rfl))) (hs m ((hF m).2 (Or.inr rfl))), hr, hF⟩

theorem Whl.kept {w w' : World} {b n : Nat} {F : Nat → Prop} {L : List Tmr} (h : Whl w b F n L) (k : Keeps No w w') : Whl w' b F n L := h.keep k (fun _ _ h => h)

theorem Whl.rng {w : World} {b n : Nat} {F : Nat → Prop} {L : List Tmr} (h : Whl w b F n L) : (idsT L).Nodup ∧ ∀ p ∈ L, I64 p.1 ∧ I64 p.2 := by
  rcases h with ⟨h0, rfl, h2⟩ | ⟨m, D, hb, hw, hr, hF⟩
  · exact ⟨List.nodup_nil, by simp⟩
  · exact ⟨hr.nd, hr.rng⟩

theorem Whl.len {w : World} {b n : Nat} {F : Nat → Prop} {L : List Tmr} (h : Whl w b F n L) : L.length ≤ n := by
  rcases h with ⟨h0, rfl, h2⟩ | ⟨m, D, hb, hw, hr, hF⟩
  · simp
  · rw [← hr.size]; exact hw.own.size_le

theorem Whl.more {w : World} {b n : Nat} {F : Nat → Prop} {L : List Tmr} (h : Whl w b F n L) : Whl w b F (n + 1) L := by
  rcases h with h | ⟨m, D, hb, hw, hr, hF⟩
  · exact Or.inl h
  · obtain ⟨es, clock, hb', Fi, hs, hD⟩ := hw.own
    exact Or.inr ⟨m, D, hb, ⟨hw.cell, es, clock, hb', Fi, by omega, hD⟩, hr, hF⟩

theorem Whl.lt {w : World} {b n : Nat} {F : Nat → Prop} {L : List Tmr} (h : Whl w b F n L) : ∀ i, F i → i < w.heap.size := by
  rcases h with ⟨h0, rfl, h2⟩ | ⟨m, D, hb, hw, hr, hF⟩
  · intro i hi; rw [h2] at hi; subst hi; exact lt_of_block h0
  · intro i hi
    rcases (hF i).1 hi with rfl | rfl
    · exact World.block_lt_of_cell? w _ hw.cell
    · exact hw.own.lt

theorem wnew_any (w : World) : Calls Try.prog 6 #[] w fun e w' => ∃ b F, e = .returned (.pointer (some ⟨b, 0, none⟩)) ∧ Whl w' b F 0 [] ∧ Keeps No w w' ∧ (∀ i, F i → w.heap.size ≤ i) :=
  (new_any w).mono fun e w' ⟨he, h0, k⟩ => ⟨_, fun i => i = w.heap.size, he, Or.inl ⟨h0, rfl, fun i => Iff.rfl⟩, k, fun i hi => Nat.le_of_eq hi.symm⟩

theorem wset_any {w : World} {b n : Nat} {F : Nat → Prop} {L : List Tmr} (h : Whl w b F n L) (hn : n < 1000) {x t : Int} (hx : I64 x) (ht : I64 t) :
    Calls Try.prog 7 #[.pointer (some ⟨b, 0, none⟩), .int .i64 x, .int .i64 t] w fun e w' => e = .returned (.tuple #[]) ∧ ∃ F', Whl w' b F' (n + 1) (stopT L x ++ [(x, t)]) ∧ Upd F w w' F' := by
  rcases h with ⟨h0, rfl, h2⟩ | ⟨m, D, hb, hw, hr, hF⟩
  · refine (set_first h0 hx ht).mono ?_
    rintro e w' ⟨he, m, hm, hwm, kk⟩
    have hbl := lt_of_block h0
    refine ⟨he, fun i => i = b ∨ i = m, Or.inr ⟨m, _, by omega, ?_, Rep.nil.put hx ht, fun i => Iff.rfl⟩, ?_⟩
    · obtain ⟨es, clock, hb', Fi, hs, hD⟩ := hwm.own
      exact ⟨hwm.cell, es, clock, hb', Fi, by omega, hD⟩
    · exact ⟨kk.mono (fun k _ e => (h2 k).2 e), fun i hi => by rcases hi with rfl | rfl; exact Or.inl ((h2 _).2 rfl); exact Or.inr hm⟩
  · refine (set_more hw hn hb hx ht).mono ?_
    rintro e w' ⟨he, hwm, kk⟩
    exact ⟨he, F, Or.inr ⟨m, _, hb, hwm, hr.put hx ht, hF⟩, ⟨kk.mono (fun k _ e => (hF k).2 (Or.inr e)), fun i hi => Or.inl hi⟩⟩

theorem has_dec {D : DataW Unit} {L : List Tmr} (h : Rep D L) (x : Int) : has D (kAt x) = decide (x ∈ idsT L) := by
  have := h.has x
  cases hh : has D (kAt x) with
  | true => rw [hh] at this; exact (decide_eq_true (this.1 rfl)).symm
  | false =>
    rw [hh] at this
    exact (decide_eq_false (fun e => absurd (this.2 e) (by simp))).symm

theorem tmOf_none {L : List Tmr} {x : Int} (h : x ∉ idsT L) : tmOf L x = 0 := by
  unfold tmOf
  rw [List.find?_eq_none.2 (fun p hp e => h (List.mem_map.2 ⟨p, hp, of_decide_eq_true e⟩))]
  rfl

theorem rep_at {D : DataW Unit} {L : List Tmr} (h : Rep D L) (x : Int) {c : Int} (hc : D.atKey (kAt x) (.lit (.int .i64 0)) = .lit (.int .i64 c)) : c = tmOf L x := by
  by_cases hx : x ∈ idsT L
  · have := (h.times x hx).2 (.lit (.int .i64 0))
    rw [show (Lit.int .i64 x) = kAt x from rfl, hc] at this
    simpa using this
  · have hn : has D (kAt x) = false := by rw [has_dec h]; simpa using hx
    rw [atKey_of_not_has hn] at hc
    rw [tmOf_none hx]
    simpa using hc.symm

set_option maxHeartbeats 4000000 in
set_option maxRecDepth 100000 in
theorem wat_any {w : World} {b n : Nat} {F : Nat → Prop} {L : List Tmr} (h : Whl w b F n L) {x : Int} (hx : I64 x) :
    Calls Try.prog 14 #[.pointer (some ⟨b, 0, none⟩), .int .i64 x] w fun e w' => e = .returned (.tuple #[.int .i64 (tmOf L x), .bool (decide (x ∈ idsT L))]) ∧ Keeps No w w' := by
  rcases h with ⟨h0, rfl, h2⟩ | ⟨m, D, hb, hw, hr, hF⟩
  · have c0 := cell_at (i := 0) h0 rfl
    clear h0 h2
    have hl : ∀ w, (Instr.lookup 47 (.map none) (.int .i64 x) true).run Try.prog w = .ok (.tuple #[.int .i64 0, .bool false]) w := fun w => by kernel_rfl
    go_enter Try.func14, Try.ntmps14
    go_wp2_with fail
    go_ret2
    exact ⟨rfl, Keeps.refl _ _⟩
  · have c0 := hw.cell
    have hown := hw.own
    have hkey := keyOf_int_mk Try.underlying3 (WalkArith.wf_i64 hx)
    have HD := hid (has_dec hr x)
    have HA := hid (fun c => rep_at hr x (c := c))
    clear hr hw
    go_enter Try.func14, Try.ntmps14
    go_wp2_with (at_lookup; refine wpList_lookup_own_ok_int _ rfl _ _ 47 rfl 3 2 .i64 klaw Try.underlying47 Try.underlying2 (zero64 _) m n _ rfl hown _ _ rfl hkey ?_)
    intro c hc hwf
    have hc2 : c = tmOf L x := HA.out c hc
    subst hc2
    clear hc hwf
    have HD2 : has D (.int .i64 x) = decide (x ∈ idsT L) := HD.out
    rw [HD2]
    go_wp2_with fail
    go_ret2
    exact ⟨rfl, Keeps.refl _ _⟩

set_option maxHeartbeats 4000000 in
set_option maxRecDepth 100000 in
theorem wlen_any {w : World} {b n : Nat} {F : Nat → Prop} {L : List Tmr} (h : Whl w b F n L) :
    Calls Try.prog 16 #[.pointer (some ⟨b, 0, none⟩)] w fun e w' => e = .returned (.int .i64 L.length) ∧ Keeps No w w' := by
  rcases h with ⟨h0, rfl, h2⟩ | ⟨m, D, hb, hw, hr, hF⟩
  · have c0 := cell_at (i := 0) h0 rfl
    clear h0 h2
    have hl := fun w => Maps.len_nil (w := w) Try.underlying47
    go_enter Try.func16, Try.ntmps16
    go_wp2_with fail
    go_ret
    exact ⟨rfl, Keeps.refl _ _⟩
  · have c0 := hw.cell
    have hown := hw.own
    have hsz := hr.size
    clear hr hw
    go_enter Try.func16, Try.ntmps16
    go_wp2_with (at_len; refine wpList_len_own _ rfl _ 47 rfl 3 2 Try.underlying47 _ m n _ rfl hown ?_; rw [hsz])

    go_wp2_with fail
    go_ret
    exact ⟨rfl, Keeps.refl _ _⟩

theorem stopT_same {L : List Tmr} {x : Int} (h : x ∉ idsT L) : stopT L x = L :=
  List.filter_eq_self.2 fun p hp => decide_eq_true fun e => h (List.mem_map.2 ⟨p, hp, e⟩)

set_option maxHeartbeats 4000000 in
set_option maxRecDepth 100000 in
theorem wstop_any {w : World} {b n : Nat} {F : Nat → Prop} {L : List Tmr} (h : Whl w b F n L) {x : Int} (hx : I64 x) :
    Calls Try.prog 10 #[.pointer (some ⟨b, 0, none⟩), .int .i64 x] w fun e w' => e = .returned (.bool (decide (x ∈ idsT L))) ∧ Whl w' b F n (stopT L x) ∧ Keeps F w w' := by
  have HA := hid (wat_any h hx)
  have HH := hid h
  obtain ⟨t, ht⟩ : ∃ t, tmOf L x = t := ⟨_, rfl⟩
  rw [ht] at HA
  by_cases hc : decide (x ∈ idsT L) = true
  · rw [hc] at HA ⊢
    rcases h with ⟨h0, rfl, h2⟩ | ⟨m, D, hb, hw, hr, hF⟩
    · simp [idsT] at hc
    · have HW := hid hw
      have HR := hid hr
      have HF := hid hF
      have hkey := keyOf_int_mk Try.underlying3 (WalkArith.wf_i64 hx)
      clear hc ht hw hr hF HH
      go_enter Try.func10, Try.ntmps10
      go_wp2_with fail
      with_reducible refine HA.out.mono ?_
      rintro e w1 ⟨rfl, k1⟩
      have HW1 := hid (HW.out.kept k1 (fun h => h) (fun h => h))
      have K1 := hid k1
      have c0 := HW1.out.cell
      have hown := HW1.out.own
      clear k1 HA HW
      go_wp2_with (at_delete; refine wpList_delete_own _ rfl _ _ 47 3 rfl 2 klaw Try.underlying47 _ m n _ rfl hown _ _ rfl hkey ?_; intro w2 hown2 hturn)
      have HO := hid hown2
      have HT := hid hturn
      clear hown2 hturn hown c0
      go_wp2_with fail
      go_ret
      have k2 : Keeps (fun k => k = m) w1 w2 := (Keeps.refl _ _).grown HT.out.grown (fun k hk => by cases hk; exact Or.inr rfl)
      exact ⟨rfl, Or.inr ⟨m, _, hb, ⟨k2.cell hb HW1.out.cell, HO.out⟩, HR.out.del x, HF.out⟩, K1.out.no.trans (k2.mono (fun k _ e => (HF.out k).2 (Or.inr e)))⟩
  · have hc2 : decide (x ∈ idsT L) = false := by simpa using hc
    have hx2 : x ∉ idsT L := by simpa using hc
    rw [hc2] at HA ⊢
    rw [stopT_same hx2]
    clear hc hc2 hx2 ht h
    go_enter Try.func10, Try.ntmps10
    go_wp2_with fail
    with_reducible refine HA.out.mono ?_
    rintro e w1 ⟨rfl, k1⟩
    go_wp2_with fail
    go_ret
    exact ⟨rfl, HH.out.kept k1, k1.no⟩

end Go.Proofs.Ytnedmmjkhemgjaa
