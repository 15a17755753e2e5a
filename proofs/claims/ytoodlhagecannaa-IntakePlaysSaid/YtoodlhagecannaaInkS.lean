/-
  Events on their way: the program's intake: Offer.
-/
import Derived.Test.YtoodlhagecannaaInkS0
namespace Go.Proofs.Ytoodlhagecannaa
open Go.RowKit
set_option linter.unusedVariables false
set_option linter.unusedSimpArgs false

set_option maxHeartbeats 4000000 in
set_option maxRecDepth 100000 in
theorem prefuse_any {w : World} {b : Nat} {u0 u1 u2 u3 : Value} {refs last now : Int} (hb : Bk w b 82 [u0, u1, u2, u3, .int .i64 refs, .int .i64 last]) (hl : last ≤ now) (h0 : 0 ≤ refs) (h1 : refs ≤ 1000000000) :
    Calls Try.prog 31 #[.pointer (some ⟨b, 0, none⟩), .int .i64 now] w fun e w' => e = .returned (.tuple #[]) ∧ Bk w' b 82 [u0, u1, u2, u3, .int .i64 (refs + 1), .int .i64 now] ∧ Keeps (fun i => i = b) w w' := by
  have HB := hid hb
  clear hb
  by_cases hr : refs = 0
  · subst hr
    clear hl
    have x4 := HB.out.cell 4 rfl
    have x5 := HB.out.cell 5 rfl
    have f4 := HB.out.free 4
    have f5 := HB.out.free 5
    go_enter Try.func31, Try.ntmps31
    go_wp2_with fail
    first | go_end0 | (refine bodyPost_ret (results_none rfl _ _ _) rfl ?_)
    refine ⟨rfl, ?_, ?_⟩
    · have h1 := (HB.out.put 5 (.int .i64 now) rfl).put 4 (.int .i64 1) rfl
      exact h1
    · exact ((Keeps.refl (fun i => i = b) w).at).at
  · have d0 : decide (refs = 0) = false := decide_eq_false hr
    have q0 : (refs == 0) = false := by simpa using hr
    by_cases hn : last < now
    · have d1 : decide (now > last) = true := decide_eq_true hn
      clear hl
      have x4 := HB.out.cell 4 rfl
      have x5 := HB.out.cell 5 rfl
      have f4 := HB.out.free 4
      have f5 := HB.out.free 5
      go_enter Try.func31, Try.ntmps31
      go_wp2_with fail
      first | go_end0 | (refine bodyPost_ret (results_none rfl _ _ _) rfl ?_)
      refine ⟨rfl, ?_, ?_⟩
      · have h1 := (HB.out.put 5 (.int .i64 now) rfl).put 4 (.int .i64 (refs + 1)) rfl
        exact h1
      · exact ((Keeps.refl (fun i => i = b) w).at).at
    · have d1 : decide (now > last) = false := decide_eq_false hn
      have hn' : last = now := by omega
      subst hn'
      clear hl
      have x4 := HB.out.cell 4 rfl
      have x5 := HB.out.cell 5 rfl
      have f4 := HB.out.free 4
      have f5 := HB.out.free 5
      go_enter Try.func31, Try.ntmps31
      go_wp2_with fail
      first | go_end0 | (refine bodyPost_ret (results_none rfl _ _ _) rfl ?_)
      refine ⟨rfl, ?_, ?_⟩
      · have h1 := HB.out.put 4 (.int .i64 (refs + 1)) rfl
        exact h1
      · exact (Keeps.refl (fun i => i = b) w).at

set_option maxHeartbeats 8000000 in
set_option maxRecDepth 100000 in
theorem pioffer_any {w : World} {b : Nat} {F : Nat → Prop} {C : Cfg} {s : InkD} (h : PI w b F C s) (hC : InkC C) (hok : InkOk C s) (now r : Int) (on : Bool) (hrefs : s.refs ≤ 1000000000 ∧ (idleD s r on = true ∨ s.last ≤ now)) :
    Calls Try.prog 18 #[.pointer (some ⟨b, 0, none⟩), .int .i64 now, .int .i64 r, .bool on] w fun e w' => e = .returned (.bool (offerD C s now r on).2) ∧ ∃ F', PI w' b F' C (offerD C s now r on).1 ∧ Upd F w w' F' := by
  obtain ⟨l0, told, la, rfn⟩ := s
  obtain ⟨rf, hrf⟩ : ∃ q : Int, (rfn : Int) = q := ⟨_, rfl⟩
  obtain ⟨n, hn0⟩ : ∃ n, told.length = n := ⟨_, rfl⟩
  have hnC := hok.told
  have hfew := hC.few
  simp only at hnC hrefs
  rw [hn0] at hnC
  obtain ⟨qb, ru, F0, Lq, ⟨hb, hq, hrow, hne, hout⟩, hF⟩ := h
  simp only at hb hq hrow
  rw [hrf] at hb
  rw [hn0] at hrow
  obtain ⟨ga, gc, rfl⟩ := own_any hrow
  have HB := hid hb
  have HQ := hid hq
  have HOUT := hid hout
  have HF := hid hF
  have HNE := hid hne
  have htl : told.length = (prisC C).length := by rw [prisC_len, hn0, hnC]
  by_cases hidle : idleD ⟨l0, told, la, rfn⟩ r on = true
  · have e : offerD C ⟨l0, told, la, rfn⟩ now r on = (⟨l0, told, la, rfn⟩, true) := by unfold offerD; rw [if_pos hidle]
    rw [e]
    have HM : Hid (∀ w', Keeps No w w' → ∃ F', PI w' b F' C ⟨l0, told, la, rfn⟩ ∧ Upd F w w' F') := hid (fun w' k => ⟨F, PI.calm ⟨qb, _, F0, Lq, ⟨by simp only; rw [hrf]; exact HB.out, HQ.out, by simp only; rw [hn0]; exact hrow, HNE.out, HOUT.out⟩, HF.out⟩ k, (Upd.refl F w).then k (fun _ _ h => h.elim)⟩)
    clear e
    have x1 := HB.out.cell 1 rfl
    by_cases h0 : r < 0
    · have d0 : decide (r < 0) = true := decide_eq_true h0
      clear hidle hb hq hrow hout hF hn0 hne htl hrefs
      go_enter Try.func18, Try.ntmps18
      go_wp2_with fail
      go_ret
      exact ⟨rfl, HM.out _ (Keeps.refl _ _)⟩
    · have d0 : decide (r < 0) = false := decide_eq_false h0
      by_cases h1 : (n : Int) ≤ r
      · have d1 : decide (r ≥ (n : Int)) = true := decide_eq_true h1
        clear hidle hb hq hrow hout hF hn0 hne htl hrefs
        go_enter Try.func18, Try.ntmps18
        go_wp2_with fail
        go_ret
        exact ⟨rfl, HM.out _ (Keeps.refl _ _)⟩
      · have d1 : decide (r ≥ (n : Int)) = false := decide_eq_false h1
        obtain ⟨k, rfl⟩ : ∃ k : Nat, r = k := ⟨r.toNat, by omega⟩
        have hk : k < told.length := by omega
        have ht2 : told[k] = on := by
          unfold idleD at hidle
          simp only [Int.toNat_natCast] at hidle
          rw [decide_eq_false (show ¬ ((k : Int) < 0 ∨ (told.length : Int) ≤ k) by rw [hn0]; omega), Bool.false_or] at hidle
          rw [List.getD_eq_getElem?_getD, List.getElem?_eq_getElem hk] at hidle
          simpa using hidle
        obtain ⟨g, gc', hgg⟩ := own_some hrow (by omega)
        injection hgg with hg1 _ hg2
        subst hg1 hg2
        have y1 := World.ownsRow.cells hrow (g := g) rfl (k * 2 + 1) _ (rulC_told (prisC C) told k hk htl)
        rw [addr_add, Nat.zero_add] at y1
        rw [ht2] at y1
        have q : (on == on) = true := by simp
        have hkn : k < n := by omega
        have d3 : decide (n ≤ k) = false := decide_eq_false (by omega)
        clear hidle hb hq hrow hout hF hn0 ht2 hk hne htl hrefs
        go_enter Try.func18, Try.ntmps18
        go_wp2_with fail
        go_ret
        exact ⟨rfl, HM.out _ (Keeps.refl _ _)⟩
  · have hidle' : idleD ⟨l0, told, la, rfn⟩ r on = false := by simpa using hidle
    have HLN : Hid (la ≤ now) := hid (hrefs.2.resolve_left hidle)
    replace hrefs := hrefs.1
    clear hidle
    have hid2 : ¬ (r < 0 ∨ (n : Int) ≤ r) := fun e => by
      unfold idleD at hidle'
      rw [decide_eq_true (by simp only; rw [hn0]; exact e)] at hidle'
      simp at hidle'
    obtain ⟨k, rfl⟩ : ∃ k : Nat, r = k := ⟨r.toNat, by omega⟩
    have hkn : k < n := by omega
    have hk : k < told.length := by omega
    obtain ⟨g, gc', hgg⟩ := own_some hrow (by omega)
    injection hgg with hg1 _ hg2
    subst hg1 hg2
    have ht2 : (told[k] == on) = false := by
      unfold idleD at hidle'
      simp only [Int.toNat_natCast] at hidle'
      rw [List.getD_eq_getElem?_getD, List.getElem?_eq_getElem hk] at hidle'
      simp only [Option.getD_some, Bool.or_eq_false_iff] at hidle'
      exact hidle'.2
    have y1 := World.ownsRow.cells hrow (g := g) rfl (k * 2 + 1) _ (rulC_told (prisC C) told k hk htl)
    rw [addr_add, Nat.zero_add] at y1
    obtain ⟨tk, htk⟩ : ∃ q, told[k] = q := ⟨_, rfl⟩
    rw [htk] at y1 ht2
    have HY1 := hid y1
    have hkC : k < C.ruls.length := by omega
    obtain ⟨p, hp⟩ : ∃ q, prioD C (k : Int) = q := ⟨_, rfl⟩
    have hp3 : 1 ≤ p ∧ p ≤ 3 := by rw [← hp]; exact hC.prio (by omega) (by omega)
    have hpri := rulC_pri (prisC C) told k (by rw [prisC_len]; exact hkC) htl
    rw [prisC_at hkC, hp] at hpri
    have y0 := World.ownsRow.cells hrow (g := g) rfl (k * 2) _ hpri
    rw [addr_add, Nat.zero_add] at y0
    have HY0 := hid y0
    have HROW := hid hrow
    have HTL := hid htl
    clear y0 y1
    obtain ⟨l', ok, hpf⟩ : ∃ l' ok, putF C.b0 C.b1 C.b2 p ⟨(k : Int), on, now⟩ l0 = (l', ok) := ⟨_, _, rfl⟩
    have d0 : decide ((k : Int) < 0) = false := decide_eq_false (by omega)
    have d1 : decide ((k : Int) ≥ (n : Int)) = false := decide_eq_false (by omega)
    have d3 : decide (n ≤ k) = false := decide_eq_false (by omega)
    have HPD := hid hp
    have hpd := hp
    have HPF := hid hpf
    have HID := hid hidle'
    have HN0 := hid hn0
    clear hne htl
    cases ok
    · skip
      have e : offerD C ⟨l0, told, la, rfn⟩ now (k : Int) on = (⟨l0, told, now, rfn + 1⟩, false) := by unfold offerD; rw [if_neg (by rw [HID.out]; decide)]; simp only; rw [HPD.out, HPF.out]; rfl
      rw [e]
      have HP := hid (fun (w' : World) (kw : Keeps No w w') => qput_all (HQ.out.keep kw (fun _ _ h => h)) (p := p) (err := 6) (x := ⟨(k : Int), on, now⟩) (l' := l') (Or.inr ⟨hp3, by have h := putF_is C.b0 C.b1 C.b2 p ⟨(k : Int), on, now⟩ l0; rw [HPF.out] at h; exact h⟩))
      simp only [Ev.val] at HP
      have HKT := hid hk
      clear e hidle' hpf hpd hp hC hb hq hrow hout hF hn0 htk hk hkC hnC hfew hid2 hp3 hpri
      have x0 := HB.out.cell 0 rfl
      have x1 := HB.out.cell 1 rfl
      have y0 := HY0.out
      have y1 := HY1.out
      go_enter Try.func18, Try.ntmps18
      go_upto_region 8 with fail
      go_still_tail 12, (by kernel_rfl)
      go_wp2_with fail
      refine (HP.out _ ((Keeps.refl No w).drew)).mono ?_
      rintro e w2 ⟨rfl, F1, L1, hq1, hu1⟩
      have HQ1 := hid hq1
      have HU1 : Hid (Upd F0 w w2 F1) := hid ⟨((Keeps.refl No w).drew.no (S := F0)).trans hu1.keeps, hu1.fresh⟩
      have hkb := hu1.keeps
      have hbF : ¬ F0 b := fun h => (HOUT.out b h).1 rfl
      have hgF : ¬ F0 g := fun h => (HOUT.out g h).2 rfl
      have HB2 := hid ((HB.out.drew).keep hkb hbF)
      have HR2 := hid (Keeps.own hkb ((HROW.out).drew) (fun i hi e => (HOUT.out i e).2 hi))
      clear hq1 hu1 hkb x0 x1 y0 y1
      go_wp2_with fail
      refine (prefuse_any HB2.out HLN.out (by omega) (by omega)).mono ?_
      rintro e w3 ⟨rfl, hb3, k3⟩
      go_wp2_with fail
      go_ret
      have hll := putF_no' HPF.out
      have hrf1 : ((rfn + 1 : Nat) : Int) = rf + 1 := by omega
      have hqk := HQ1.out.keep k3 (fun i hi e => by
        have e' : i = b := e
        subst e'
        rcases HU1.out.fresh _ hi with h | h
        · exact hbF h
        · have := HB.out.lt; omega)
      rw [hll] at hqk
      refine ⟨rfl, fun i => i = b ∨ (Value.slice (some ⟨g, 0, none⟩) n gc).ownBlock = some i ∨ F1 i, ⟨qb, _, F1, L1, ⟨?_, hqk, ?_, HNE.out, fun i hi => ?_⟩, fun i => Iff.rfl⟩, ⟨?_, fun i hi => ?_⟩⟩
      · simp only [hrf1]
        exact hb3
      · simp only
        rw [HN0.out]
        exact k3.own HR2.out (fun i hi e => HNE.out (by have e' : i = b := e; rw [← e']; exact hi))
      · rcases HU1.out.fresh i hi with h | h
        · exact HOUT.out i h
        · have h1 := HB.out.lt
          refine ⟨by omega, fun e => ?_⟩
          have := (HROW.out.lt _ e).2
          omega
      · exact (HU1.out.keeps).trans' k3 (fun i _ h => (HF.out i).2 (Or.inr (Or.inr h))) (fun i _ h => (HF.out i).2 (Or.inl h))
      · rcases hi with rfl | hi | hi
        · exact Or.inl ((HF.out _).2 (Or.inl rfl))
        · exact Or.inl ((HF.out _).2 (Or.inr (Or.inl hi)))
        · rcases HU1.out.fresh i hi with h | h
          · exact Or.inl ((HF.out i).2 (Or.inr (Or.inr h)))
          · exact Or.inr h
    · skip
      have e : offerD C ⟨l0, told, la, rfn⟩ now (k : Int) on = (⟨l', told.set k on, la, rfn⟩, true) := by unfold offerD; rw [if_neg (by rw [HID.out]; decide)]; simp only; rw [HPD.out, HPF.out]; rfl
      rw [e]
      have HP := hid (fun (w' : World) (kw : Keeps No w w') => qput_all (HQ.out.keep kw (fun _ _ h => h)) (p := p) (err := 0) (x := ⟨(k : Int), on, now⟩) (l' := l') (Or.inr ⟨hp3, by have h := putF_is C.b0 C.b1 C.b2 p ⟨(k : Int), on, now⟩ l0; rw [HPF.out] at h; exact h⟩))
      simp only [Ev.val] at HP
      have HKT := hid hk
      clear e hidle' hpf hpd hp hC hb hq hrow hout hF hn0 htk hk hkC hnC hfew hid2 hp3 hpri
      have x0 := HB.out.cell 0 rfl
      have x1 := HB.out.cell 1 rfl
      have y0 := HY0.out
      have y1 := HY1.out
      go_enter Try.func18, Try.ntmps18
      go_upto_region 8 with fail
      go_still_tail 12, (by kernel_rfl)
      go_wp2_with fail
      refine (HP.out _ ((Keeps.refl No w).drew)).mono ?_
      rintro e w2 ⟨rfl, F1, L1, hq1, hu1⟩
      have HQ1 := hid hq1
      have HU1 : Hid (Upd F0 w w2 F1) := hid ⟨((Keeps.refl No w).drew.no (S := F0)).trans hu1.keeps, hu1.fresh⟩
      have hkb := hu1.keeps
      have hbF : ¬ F0 b := fun h => (HOUT.out b h).1 rfl
      have hgF : ¬ F0 g := fun h => (HOUT.out g h).2 rfl
      have HB2 := hid ((HB.out.drew).keep hkb hbF)
      have HR2 := hid (Keeps.own hkb ((HROW.out).drew) (fun i hi e => (HOUT.out i e).2 hi))
      clear hq1 hu1 hkb x0 x1 y0 y1
      have f1 := HR2.out.frozenAt (k * 2 + 1)
      have y1 := World.ownsRow.cells HR2.out (g := g) rfl (k * 2 + 1) _ (rulC_told (prisC C) told k HKT.out HTL.out)
      rw [addr_add, Nat.zero_add] at y1
      go_wp2_with fail
      go_ret
      have k3 : Keeps (fun i => i = g) w2 (w2.setCell ⟨g, k * 2 + 1, none⟩ (.bool on)) := (Keeps.refl (fun i => i = g) w2).at
      refine ⟨rfl, fun i => i = b ∨ (Value.slice (some ⟨g, 0, none⟩) n gc).ownBlock = some i ∨ F1 i, ⟨qb, _, F1, L1, ⟨?_, HQ1.out.keep k3 (fun i hi e => ?_), ?_, HNE.out, fun i hi => ?_⟩, fun i => Iff.rfl⟩, ⟨?_, fun i hi => ?_⟩⟩
      · have h1 := HB2.out.keep k3 (fun e => HNE.out (by rw [show b = g from e]; rfl))
        rw [← hrf] at h1
        exact h1
      · have e' : i = g := e
        subst e'
        rcases HU1.out.fresh _ hi with h | h
        · exact hgF h
        · have := (HROW.out.lt i rfl).2; have h2 : w.heap.size ≤ i := h; omega
      · have h1 := (HR2.out.stored (k * 2 + 1) (.bool on)).1
        rw [rulC_set _ _ _ _ HTL.out] at h1
        simp only [List.length_set]
        rw [HN0.out]
        exact h1
      · rcases HU1.out.fresh i hi with h | h
        · exact HOUT.out i h
        · have h1 := HB.out.lt
          refine ⟨by omega, fun e => ?_⟩
          have := (HROW.out.lt _ e).2
          omega
      · exact (HU1.out.keeps).trans' k3 (fun i _ h => (HF.out i).2 (Or.inr (Or.inr h))) (fun i _ h => (HF.out i).2 (Or.inr (Or.inl (by rw [show i = g from h]; rfl))))
      · rcases hi with rfl | hi | hi
        · exact Or.inl ((HF.out _).2 (Or.inl rfl))
        · exact Or.inl ((HF.out _).2 (Or.inr (Or.inl hi)))
        · rcases HU1.out.fresh i hi with h | h
          · exact Or.inl ((HF.out i).2 (Or.inr (Or.inr h)))
          · exact Or.inr h

end Go.Proofs.Ytoodlhagecannaa
