/-
  The store, walked: Put.
-/
import Derived.Test.YtboalfajghkajaaCellS3
namespace Go.Proofs.Ytboalfajghkajaa
open Go.RowKit
set_option linter.unusedVariables false

/-- The ring of a signal, any one behind Force. -/
theorem vforce_vals {w : World} {b : Nat} {F : Nat → Prop} {l : List SeenD} {x : SeenD} {k : Int} (h : RingV w b F 16 (vals l k)) (hx : ofSig k x = true) :
    Calls Try.prog 21 #[.pointer (some ⟨b, 0, none⟩), .agg #[.int .i64 x.val, .int .i64 x.at_]] w fun e w' => (∃ v, e = .returned v) ∧ ∃ F', RingV w' b F' 16 (vals (l ++ [x]) k) ∧ Upd F w w' F' := by
  have hl := vals_len l k
  by_cases h0 : (vals l k).length < 16
  · rw [vals_room hx h0]
    exact (vforce_room h h0 (vtOf x)).mono (fun e w' h => ⟨⟨_, h.1⟩, h.2⟩)
  · obtain ⟨y, t, h1, h2, h3⟩ := vals_full hx (show (vals l k).length = 16 by omega)
    rw [h3]
    rw [h1] at h
    exact (vforce_full h h2 (vtOf x)).mono (fun e w' h => ⟨⟨_, h.1⟩, h.2⟩)

section
variable {w : World} {sb : Nat} {F : Nat → Prop} {n : Nat} {l : List SeenD}

/-- A store behind a sample of the signal s: its cells, its ring. -/
theorem Sto0.put {cb : Nat} {rb : Nat → Nat} {R : Nat → Nat → Prop} {w' : World} {x : SeenD} {s : Nat} {R' : Nat → Prop} (h8 : n ≤ 8) (hs : x.sig = s) (hsn : s < n)
    (hb : w.heap[sb]? = some (.cells #[.slice (some ⟨cb, 0, none⟩) n n] 60 (0, 0))) (hcw : cb < w.heap.size) (hne : sb ≠ cb)
    (hr : ∀ k : Nat, k < n → RingV w (rb k) (R k) 16 (vals l k)) (hd : ∀ k, k < n → ¬ R k sb ∧ ¬ R k cb)
    (hj : ∀ j k, j < n → k < n → j ≠ k → ∀ i, R j i → ¬ R k i) (hF : ∀ i, F i ↔ i = sb ∨ i = cb ∨ ∃ k, k < n ∧ R k i)
    (ho : w'.ownsRow 0 66 3 (.slice (some ⟨cb, 0, none⟩) n n) n ((cellsOf rb n (l ++ [x])).flatMap encC))
    (hk : Keeps (fun i => i = cb ∨ R s i) w w') (hr' : RingV w' (rb s) R' 16 (vals (l ++ [x]) s)) (hf : ∀ i, R' i → R s i ∨ w.heap.size ≤ i) :
    ∃ F', Sto0 w' sb F' n (l ++ [x]) ∧ Upd F w w' F' := by
  have hnew : ∀ k, k < n → k ≠ s → ∀ i, R k i → ¬ R' i := fun k hk' hks i hi h' => by
    rcases hf i h' with h | h
    · exact hj k s hk' hsn hks i hi h
    · have := RingG.lt (hr k hk') i hi; omega
  have hsw := lt_of_block hb
  refine ⟨fun i => i = sb ∨ i = cb ∨ ∃ k, k < n ∧ (if k = s then R' else R k) i, ⟨cb, rb, fun k => if k = s then R' else R k, h8, ?_, ho, hne, ?_, ?_, ?_, fun i => Iff.rfl⟩, ?_, ?_⟩
  · exact hk.heap (fun e => by rcases e with e | e; exact hne e; exact (hd s hsn).1 e) hb
  · intro k hk'
    try dsimp only
    by_cases e : k = s
    · subst e; rw [if_pos rfl]; exact hr'
    · rw [if_neg e]
      have hsk : ¬ (s : Int) = (k : Int) := by omega
      have hv : vals (l ++ [x]) k = vals l k := vals_not (by unfold ofSig; rw [hs]; simp [hsk])
      rw [hv]
      exact RingG.keep (hr k hk') hk (fun i hi e2 => by
        rcases e2 with e2 | e2
        · subst e2; exact (hd k hk').2 hi
        · exact hj k s hk' hsn e i hi e2)
  · intro k hk'
    try dsimp only
    by_cases e : k = s
    · rw [if_pos e]
      exact ⟨fun h => by rcases hf _ h with h | h; exact (hd s hsn).1 h; omega, fun h => by rcases hf _ h with h | h; exact (hd s hsn).2 h; omega⟩
    · rw [if_neg e]; exact hd k hk'
  · intro j k hj' hk' hjk i h1 h2
    try dsimp only at h1 h2
    by_cases e : j = s
    · rw [if_pos e] at h1
      rw [if_neg (by omega)] at h2
      exact hnew k hk' (by omega) i h2 h1
    · rw [if_neg e] at h1
      by_cases e2 : k = s
      · rw [if_pos e2] at h2
        exact hnew j hj' e i h1 h2
      · rw [if_neg e2] at h2
        exact hj j k hj' hk' hjk i h1 h2
  · exact hk.mono (fun i _ h => (hF i).2 (by rcases h with h | h; exact Or.inr (Or.inl h); exact Or.inr (Or.inr ⟨s, hsn, h⟩)))
  · rintro i (h | h | ⟨k, hk', h⟩)
    · exact Or.inl ((hF i).2 (Or.inl h))
    · exact Or.inl ((hF i).2 (Or.inr (Or.inl h)))
    · by_cases e : k = s
      · rw [if_pos e] at h
        rcases hf i h with h | h
        · exact Or.inl ((hF i).2 (Or.inr (Or.inr ⟨s, hsn, h⟩)))
        · exact Or.inr h
      · rw [if_neg e] at h
        exact Or.inl ((hF i).2 (Or.inr (Or.inr ⟨k, hk', h⟩)))

set_option maxHeartbeats 4000000 in
set_option maxRecDepth 100000 in
theorem cput_ok (h : Sto0 w sb F n l) (at_ sq vl : Int) (bd : Bool) (s : Nat) (hsn : s < n) (x : SeenD) (hx : x = ⟨at_, s, sq, vl, bd⟩) :
    Calls Try.prog 12 #[.pointer (some ⟨sb, 0, none⟩), .int .i64 at_, .agg #[.int .i64 s, .int .u8 sq, .int .i64 vl, .bool bd]] w fun e w' => e = .returned (.bool true) ∧ ∃ F', Sto0 w' sb F' n (l ++ [x]) ∧ Upd F w w' F' := by
  have hs : x.sig = s := by rw [hx]
  have ha : x.at_ = at_ := by rw [hx]
  have hv : x.val = vl := by rw [hx]
  have hd0 : x.bad = bd := by rw [hx]
  obtain ⟨cb, rb, R, h8, hb, ho, hne, hr, hd, hj, hF⟩ := h
  obtain ⟨W, hW⟩ : ∃ W, w.alloc (.cells #[.int .i64 s, .int .u8 sq, .int .i64 vl, .bool bd] 39) = W := ⟨_, rfl⟩
  have hcw := (ho.lt cb rfl).2
  have kW : Keeps No w W := by rw [← hW]; exact (Keeps.refl _ _).alloc _
  have hbx : W.heap[w.heap.size]? = some (.cells #[.int .i64 s, .int .u8 sq, .int .i64 vl, .bool bd] 39 (0, 0)) := by rw [← hW]; exact heap_alloc_at rfl _
  have hoW := kW.own ho (fun _ _ h => h)
  have hbW := kW.heap (fun h => h) hb
  have hgs : (cellsOf rb n l)[s]'(by rw [cellsOf_len]; exact hsn) = cellOf rb l s := by simp [cellsOf]
  obtain ⟨y0, y1, y2⟩ := own_cellC hoW (cellsOf_len _ _ _).symm (p := s) (by rw [cellsOf_len]; exact hsn)
  rw [hgs] at y0 y1 y2
  have g1 := hoW.frozenAt (s * 3 + 1)
  have g2 := hoW.frozenAt (s * 3 + 2)
  have x0 := cell_at (i := 0) (v := .int .i64 s) hbx rfl
  have x2 := cell_at (i := 2) (v := .int .i64 vl) hbx rfl
  have x3 := cell_at (i := 3) (v := .bool bd) hbx rfl
  have hob := cell_at (i := 0) hbW rfl
  have hcx : ¬ cb = w.heap.size := by omega
  have hcx' : ¬ w.heap.size = cb := by omega
  -- what is written
  have hcells : Hid (∀ w' : World, w'.ownsRow 0 66 3 (.slice (some ⟨cb, 0, none⟩) n n) n ((cellsOf rb n l).flatMap encC) → ((w'.setCell ⟨cb, s * 3 + 1, none⟩ (.int .i64 at_)).setCell ⟨cb, s * 3 + 2, none⟩ (.bool bd)).ownsRow 0 66 3 (.slice (some ⟨cb, 0, none⟩) n n) n ((cellsOf rb n (l ++ [x])).flatMap encC) ∧ ((w'.setCell ⟨cb, s * 3 + 2, none⟩ (.bool bd)).setCell ⟨cb, s * 3 + 1, none⟩ (.int .i64 at_)).ownsRow 0 66 3 (.slice (some ⟨cb, 0, none⟩) n n) n ((cellsOf rb n (l ++ [x])).flatMap encC)) := hid (fun w' ho' => by
    have hl1 : s < (cellsOf rb n l).length := by rw [cellsOf_len]; exact hsn
    rw [cellsOf_on rb n l x s hs, ha, hd0]
    constructor
    · have a := own_set (j := 1) encC_len ho' hl1 (by decide) (.int .i64 at_) ⟨some ⟨rb s, 0, none⟩, at_, badD l s⟩ (by rw [hgs]; rfl)
      have b := own_set (j := 2) encC_len a (p := s) (by rw [List.length_set]; exact hl1) (by decide) (.bool bd) ⟨some ⟨rb s, 0, none⟩, at_, bd⟩ (by rw [List.getElem_set_self]; rfl)
      rwa [List.set_set] at b
    · have a := own_set (j := 2) encC_len ho' hl1 (by decide) (.bool bd) ⟨some ⟨rb s, 0, none⟩, cameD l s, bd⟩ (by rw [hgs]; rfl)
      have b := own_set (j := 1) encC_len a (p := s) (by rw [List.length_set]; exact hl1) (by decide) (.int .i64 at_) ⟨some ⟨rb s, 0, none⟩, at_, bd⟩ (by rw [List.getElem_set_self]; rfl)
      rwa [List.set_set] at b)
  have hput : Hid (∀ (w' : World) (R' : Nat → Prop), w'.ownsRow 0 66 3 (.slice (some ⟨cb, 0, none⟩) n n) n ((cellsOf rb n (l ++ [x])).flatMap encC) → Keeps (fun i => i = cb ∨ R s i) w w' → RingV w' (rb s) R' 16 (vals (l ++ [x]) s) → (∀ i, R' i → R s i ∨ w.heap.size ≤ i) → ∃ F', Sto0 w' sb F' n (l ++ [x]) ∧ Upd F w w' F') :=
    hid (fun w' R' a b c d => Sto0.put h8 hs hsn hb hcw hne hr hd hj hF a b c d)
  have HRS := hid (hr s hsn)
  have HNS := hid (show ¬ R s cb from (hd s hsn).2)
  have HOW := hid hoW
  have HKW := hid kW
  have HW := hid hW
  have HX := hid hbx
  have HFV := hid (fun (w' : World) (R : Nat → Prop) (hb : bd = false) (h : RingV w' (rb s) R 16 (vals l s)) => by
    have h1 := vforce_vals (x := x) (k := s) h (by unfold ofSig; rw [hs, hd0, hb]; simp)
    rwa [hv, ha] at h1)
  have HVN := hid (fun (hb : bd = true) => (vals_not (l := l) (x := x) (k := (s : Int)) (by unfold ofSig; rw [hd0, hb]; simp)))
  clear hr hd hj hF ho hoW hbW hb hgs hbx kW hne hs ha hv hd0 hx
  go_enter Try.func12, Try.ntmps12
  go_upto_region 1 with fail
  try rw [HW.out]
  go_upto_region 4 with (go_at_call 20; refine (cof_ok hob h8 s hsn).mono ?_; rintro e w' ⟨rfl, rfl⟩)
  go_cut [] from 14 to 22 (fun wx => Hid (wx.ownsRow 0 66 3 (.slice (some ⟨cb, 0, none⟩) n n) n ((cellsOf rb n (l ++ [x])).flatMap encC)) ∧ Hid (Keeps (fun i => i = cb) W wx))
  case first =>
    go_region
    all_goals
      go_wp2_with fail
      go_meet
      first
        | exact ⟨hid (hcells.out _ HOW.out).1, hid ((Keeps.refl _ _).at.at)⟩
        | exact ⟨hid (hcells.out _ HOW.out).2, hid ((Keeps.refl _ _).at.at)⟩
        | exact ⟨hid (hcells.out _ HOW.out).1, hid ((Keeps.refl _ _).at.at.drew)⟩
        | exact ⟨hid (hcells.out _ HOW.out).2, hid ((Keeps.refl _ _).at.at.drew)⟩
  case rest =>
  obtain ⟨HO, HK⟩ := hcut
  obtain ⟨w2, rfl⟩ : ∃ y, y = wc := ⟨_, rfl⟩
  have hbx := HK.out.heap hcx' HX.out
  have z2 := cell_at (i := 2) (v := .int .i64 vl) hbx rfl
  have z3 := cell_at (i := 3) (v := .bool bd) hbx rfl
  obtain ⟨hg, hlt⟩ : w2.cell? ⟨cb, s * 3, none⟩ = some (.pointer (some ⟨rb s, 0, none⟩)) ∧ w.heap.size < w2.heap.size := by
    have h3 := own_cellC HO.out (cellsOf_len _ _ _).symm (p := s) (by rw [cellsOf_len]; exact hsn)
    have hgs : (cellsOf rb n (l ++ [x]))[s]'(by rw [cellsOf_len]; exact hsn) = cellOf rb (l ++ [x]) s := by simp [cellsOf]
    rw [hgs] at h3
    exact ⟨h3.1, lt_of_block hbx⟩
  have HK2 : Hid (Keeps (fun i => i = cb) w w2) := hid (HKW.out.no.trans HK.out)
  clear hbx x0 x2 x3 y0 y1 y2 g1 g2 hob HOW HK HX
  by_cases hbad : bd = true
  · have HF := hid (hput.out w2 (R s) HO.out (HK2.out.mono (fun i _ h => Or.inl h)) (by
      rw [HVN.out hbad]
      exact RingG.keep HRS.out HK2.out (fun i hi e => by subst e; exact HNS.out hi)) (fun i hi => Or.inl hi))
    subst hbad
    go_wp2_with fail
    go_ret
    exact ⟨rfl, HF.out⟩
  · have hbf : bd = false := by simpa using hbad
    have HRV := hid (RingG.keep HRS.out HK2.out (fun i hi e => by subst e; exact HNS.out hi))
    have HFC := hid (fun w' R h => HFV.out w' R hbf h)
    subst hbf
    clear hbad
    go_wp2_with fail
    go_still_tail 8, (by kernel_rfl)
    change wpList _ _ _ _ _ w2.drew
    go_wp2_with fail
    refine (HFC.out w2.drew _ (RingG.keep HRV.out (Keeps.refl No w2).drew (fun _ _ h => h))).mono ?_
    rintro e w3 ⟨⟨v, rfl⟩, R', hr3, u3⟩
    have hcr : ∀ b, (Value.slice (some ⟨cb, 0, none⟩) n n).ownBlock = some b → ¬ R s b := fun b hb h => by
      have e : cb = b := by simpa [Value.ownBlock] using hb
      subst e
      exact HNS.out h
    have HF := hid (hput.out w3 R' (Keeps.own u3.keeps HO.out hcr) (by
        have h1 : Keeps (fun i => i = cb ∨ R s i) w w2 := HK2.out.mono (fun i _ h => Or.inl h)
        have h2 : Keeps (R s) w2 w3 := Keeps.trans (Keeps.refl _ w2).drew u3.keeps
        exact h1.trans (h2.mono (fun i _ h => Or.inr h))) hr3 (fun i hi => (u3.fresh i hi).imp id (fun h => Nat.le_trans HK2.out.size h)))
    clear hr3 u3
    go_wp2_with fail
    go_ret
    exact ⟨rfl, HF.out⟩

end

end Go.Proofs.Ytboalfajghkajaa
