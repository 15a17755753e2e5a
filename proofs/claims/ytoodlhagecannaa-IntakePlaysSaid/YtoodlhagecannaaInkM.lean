/-
  Events on their way: the document's intake: Offer.
-/
import Derived.Test.YtoodlhagecannaaInkM0
namespace Go.Proofs.Ytoodlhagecannaa
open Go.RowKit
set_option linter.unusedVariables false

section
variable {w : World} {b tb : Nat} {C : Cfg} {sv rv tv lv : Value} {s : InkD}

theorem imp2 {p q : Prop} (h : p) (k : p → q) : q := k h
/-- What was put stands apart. -/
def ApartQ (w w' : World) (b tb n n0 : Nat) (lv0 lv : Value) : Prop := (∀ k, lv.ownBlock = some k → k ≠ b ∧ k ≠ tb) ∧ (0 < n → ∀ k, lv.ownBlock = some k → k < w.heap.size ∨ w'.heap.size ≤ k) ∧ (0 < n → ∀ k, lv.ownBlock = some k → (lv0.ownBlock = some k ∧ 0 < n0) ∨ w.heap.size ≤ k)
theorem mputX {w w' : World} {lv : Value} {l : List (Int × Ev)} (kw : Keeps No w w') (h : SlIt w lv l) (hl : l.length ≤ 1000) {tb b0 : Nat} (hb : b0 < w.heap.size) (ht : tb < w.heap.size) (ho : ∀ k, lv.ownBlock = some k → k ≠ b0 ∧ k ≠ tb) (a b c p : Int) (x : Ev) (hp : 1 ≤ p ∧ p ≤ 3) {l' : List (Int × Ev)} {err : Int} (hpf : putF a b c p x l = (l', decide (err = 0))) (he : err = 0 ∨ err = 6) :
    Calls Try.prog 32 #[qval a b c lv, .int .u8 p, x.val] w' fun r w'' => ∃ lv', r = .returned (.tuple #[qval a b c lv', .int .i64 err]) ∧ SlIt w'' lv' l' ∧ Keeps No w' w'' ∧ ApartQ w w' b0 tb l'.length l.length lv lv' := by
  refine (mputF (h.keep kw (fun _ _ h => h)) hl a b c p x hp hpf he).mono ?_
  rintro r w'' ⟨lv', rfl, h1, h2, h3⟩
  have hs := kw.size
  refine ⟨lv', rfl, h1, h2, fun k hk => ?_, fun h0 k hk => ?_, fun h0 k hk => ?_⟩
  · rcases h3 with ⟨rfl, _⟩ | h3
    · exact ho k hk
    · have := h3 k hk; exact ⟨by omega, by omega⟩
  · rcases h3 with ⟨rfl, e⟩ | h3
    · left; rw [e] at h0; exact h.lt h0 k hk
    · right; exact h3 k hk
  · rcases h3 with ⟨rfl, e⟩ | h3
    · exact Or.inl ⟨hk, by rw [e] at h0; exact h0⟩
    · right; exact Nat.le_trans hs (h3 k hk)

theorem putF_no {a b c p : Int} {x : Ev} {l l' : List (Int × Ev)} (h : putF a b c p x l = (l', false)) : l' = l := by
  unfold putF at h
  split at h
  · cases h
  · split at h
    · cases h
    · injection h with h1 h2; exact h1.symm
theorem told_at {l : List Bool} {k : Nat} (hk : k < l.length) : (l.map Value.bool)[k]? = some (.bool l[k]) := by simp [hk]

set_option maxHeartbeats 8000000 in
set_option maxRecDepth 100000 in
theorem moffer_any (h : MInk w b tb C sv rv tv lv s) (hc : CfgR w C sv rv tv) (hC : InkC C) (hok : InkOk C s) (now r : Int) (on : Bool) (hrefs : s.refs ≤ 1000000000) :
    Calls Try.prog 19 #[.pointer (some ⟨b, 0, none⟩), .int .i64 now, .int .i64 r, .bool on] w fun e w' => e = .returned (.bool (offerD C s now r on).2) ∧ MInkX w w' b tb C sv rv tv lv s.l.length (offerD C s now r on).1 := by
  obtain ⟨l0, told, la, rfn⟩ := s
  obtain ⟨rf, hrf⟩ : ∃ q : Int, (rfn : Int) = q := ⟨_, rfl⟩
  obtain ⟨n, hn0⟩ : ∃ n, told.length = n := ⟨_, rfl⟩
  have hnC := hok.told
  have hlen := hok.len
  have hfew := hC.few
  simp only at hnC hlen hrefs
  rw [hn0] at hnC
  obtain ⟨hb, hi, ht, hne, how⟩ := h
  simp only at hb hi ht how
  obtain ⟨la0, lc0, rfl⟩ := hi.any
  obtain ⟨nl0, hnl0⟩ : ∃ q, l0.length = q := ⟨_, rfl⟩
  have HNL0 := hid hnl0
  rw [hnl0] at hb how hlen
  rw [hrf, hn0] at hb
  have HB := hid hb
  have HI : Hid (SlIt w (.slice la0 nl0 lc0) l0) := hid (by rw [← hnl0]; exact hi)
  clear hnl0
  have HT := hid ht
  have HOW := hid how
  have HNC := hid hnC
  by_cases hidle : idleD ⟨l0, told, la, rfn⟩ r on = true
  · have e : offerD C ⟨l0, told, la, rfn⟩ now r on = (⟨l0, told, la, rfn⟩, true) := by unfold offerD; rw [if_pos hidle]
    rw [e]
    have HM : Hid (∀ w', Keeps No w w' → MInkX w w' b tb C sv rv tv (.slice la0 l0.length lc0) l0.length ⟨l0, told, la, rfn⟩) := hid (fun w' k => ⟨_, (MInk.mk (s := ⟨l0, told, la, rfn⟩) (by simp only; rw [hrf, hn0]; exact HB.out) HI.out HT.out hne HOW.out).kept k, k.no, fun h0 k h => Or.inl ⟨(own_len _ _ _ _).trans h, h0⟩⟩)
    clear e
    by_cases h0 : r < 0
    · have d0 : decide (r < 0) = true := decide_eq_true h0
      clear hidle hb hi ht how hn0
      go_enter Try.func19, Try.ntmps19
      go_wp2_with fail
      go_ret
      exact ⟨rfl, HM.out _ (Keeps.refl _ _)⟩
    · have d0 : decide (r < 0) = false := decide_eq_false h0
      have x15 := HB.out.cell 15 rfl
      by_cases h1 : (n : Int) ≤ r
      · have d1 : decide (r ≥ (n : Int)) = true := decide_eq_true h1
        clear hidle hb hi ht how hn0
        go_enter Try.func19, Try.ntmps19
        go_wp2_with fail
        go_ret
        exact ⟨rfl, HM.out _ (Keeps.refl _ _)⟩
      · have d1 : decide (r ≥ (n : Int)) = false := decide_eq_false h1
        obtain ⟨k, rfl⟩ : ∃ k : Nat, r = k := ⟨r.toNat, by omega⟩
        have hk : k < told.length := by omega
        have ht2 : told[k] = on := by
          unfold idleD at hidle
          simp only [Int.toNat_natCast] at hidle
          rw [decide_eq_false (show ¬ ((k : Int) < 0 ∨ (told.length : Int) ≤ k) by rw [hn0]; omega), Bool.false_or] at hidle
          rw [List.getD_eq_getElem?_getD, List.getElem?_eq_getElem hk] at hidle
          simpa using hidle
        have y := HT.out.cell k (told_at hk)
        rw [ht2] at y
        have q : (on == on) = true := by simp
        have hkn : k < n := by omega
        clear hidle hb hi ht how hn0 ht2 hk
        go_enter Try.func19, Try.ntmps19
        go_wp2_with fail
        go_ret
        exact ⟨rfl, HM.out _ (Keeps.refl _ _)⟩
  · have hidle' : idleD ⟨l0, told, la, rfn⟩ r on = false := by simpa using hidle
    clear hidle
    have hid2 : ¬ (r < 0 ∨ (n : Int) ≤ r) := fun e => by
      unfold idleD at hidle'
      rw [decide_eq_true (by simp only; rw [hn0]; exact e)] at hidle'
      simp at hidle'
    obtain ⟨k, rfl⟩ : ∃ k : Nat, r = k := ⟨r.toNat, by omega⟩
    have hkn : k < n := by omega
    have hk : k < told.length := by omega
    have ht2 : (told[k] == on) = false := by
      unfold idleD at hidle'
      simp only [Int.toNat_natCast] at hidle'
      rw [List.getD_eq_getElem?_getD, List.getElem?_eq_getElem hk] at hidle'
      simp only [Option.getD_some, Bool.or_eq_false_iff] at hidle'
      exact hidle'.2
    have y := HT.out.cell k (told_at hk)
    have fy := HT.out.free k
    obtain ⟨tk, htk⟩ : ∃ q, told[k] = q := ⟨_, rfl⟩
    rw [htk] at y ht2
    have hkC : k < C.ruls.length := by omega
    obtain ⟨x, hx⟩ : ∃ x, C.ruls[k] = x := ⟨_, rfl⟩
    obtain ⟨p, hp⟩ : ∃ q, x.1.pri = q := ⟨_, rfl⟩
    have hp3 : 1 ≤ p ∧ p ≤ 3 := by rw [← hp]; exact hC.pri x (by rw [← hx]; exact List.getElem_mem hkC)
    have hpd : prioD C (k : Int) = p := by rw [prioD_at hkC, hx, hp]
    obtain ⟨ra, rc, hrv⟩ := hc.rul.any
    subst hrv
    obtain ⟨rg, rof, hra, hrg, hcc⟩ := Sl.itemC (enc := encRul) (size := 9) (fun _ => rfl) (by decide) hc.rul hkC hx
    subst hra
    have y6 := hcc 6 (.int .u8 p) (by rw [← hp]; rfl)
    obtain ⟨l', ok, hpf⟩ : ∃ l' ok, putF C.b0 C.b1 C.b2 p ⟨(k : Int), on, now⟩ l0 = (l', ok) := ⟨_, _, rfl⟩
    have d0 : decide ((k : Int) < 0) = false := decide_eq_false (by omega)
    have d1 : decide ((k : Int) ≥ (n : Int)) = false := decide_eq_false (by omega)
    have d3 : decide (n ≤ k) = false := decide_eq_false (by omega)
    have HPD := hid hpd
    have HPF := hid hpf
    have HID := hid hidle'
    obtain ⟨rn, hrn⟩ : ∃ q, C.ruls.length = q := ⟨_, rfl⟩
    have hkR : k < rn := by omega
    have hkRl : rn ≤ 64 := by omega
    rw [hrn] at HB
    have hrgne : ¬ rg = w.heap.size := by omega
    have hbne : ¬ b = w.heap.size := by have := HB.out.lt; omega
    have HRN := hid hrn
    have HN0 := hid hn0
    cases ok
    · have e : offerD C ⟨l0, told, la, rfn⟩ (now) (k : Int) on = (⟨l0, told, now, rfn + 1⟩, false) := by unfold offerD; rw [if_neg (by rw [HID.out]; decide)]; simp only; rw [HPD.out, HPF.out]; rfl
      rw [e]
      have HP := hid (fun (w' : World) (kw : Keeps No w w') => mputX kw HI.out (by rw [HNL0.out]; omega) HB.out.lt HT.out.lt HOW.out C.b0 C.b1 C.b2 p ⟨(k : Int), on, now⟩ hp3 (err := 6) (by rw [HPF.out]; rfl) (Or.inr rfl))
      unfold qval at HP
      simp only [Ev.val] at HP
      have HY6 := hid y6
      clear e hidle' hpf hpd hx hp hcc hc hok hC hb hi ht how hn0 htk hk hkC hrn hnC hlen hfew hid2
      have x0 := HB.out.cell 0 rfl
      have x1 := HB.out.cell 1 rfl
      have x2 := HB.out.cell 2 rfl
      have x3 := HB.out.cell 3 rfl
      have x4 := HB.out.cell 4 rfl
      have x5 := HB.out.cell 5 rfl
      have x6 := HB.out.cell 6 rfl
      have x7 := HB.out.cell 7 rfl
      have x8 := HB.out.cell 8 rfl
      have x9 := HB.out.cell 9 rfl
      have x10 := HB.out.cell 10 rfl
      have x11 := HB.out.cell 11 rfl
      have x12 := HB.out.cell 12 rfl
      have x13 := HB.out.cell 13 rfl
      have x14 := HB.out.cell 14 rfl
      have x15 := HB.out.cell 15 rfl
      have x16 := HB.out.cell 16 rfl
      have x17 := HB.out.cell 17 rfl
      go_enter Try.func19, Try.ntmps19
      go_upto_region 3 with fail
      go_cut [9, 10] from 33 to 53 (fun v9 v10 wx => ∃ qb qa nl qc, v9 = .pointer (some ⟨qb, 0, none⟩) ∧ v10 = .int .i64 6 ∧ Hid (Bk wx qb 55 [.int .i64 C.b0, .int .i64 C.b1, .int .i64 C.b2, .slice qa nl qc]) ∧ Hid (Keeps No w wx) ∧ Hid (SlIt wx (.slice qa nl qc) l') ∧ Hid (∀ k, (Value.slice qa nl qc).ownBlock = some k → k ≠ b ∧ k ≠ tb) ∧ Hid (w.heap.size ≤ qb) ∧ Hid (0 < l'.length → ∀ k, (Value.slice qa nl qc).ownBlock = some k → ((Value.slice la0 nl0 lc0).ownBlock = some k ∧ 0 < l0.length) ∨ w.heap.size ≤ k))
      case first =>
        first | go_region_held3 (fun w' => w'.cell? ⟨b, 1, none⟩ = some (.slice (some ⟨rg, rof, none⟩) rn rc) ∧ w'.cell? ⟨b, 11, none⟩ = some (.int .i64 C.b0) ∧ w'.cell? ⟨b, 12, none⟩ = some (.int .i64 C.b1) ∧ w'.cell? ⟨b, 13, none⟩ = some (.int .i64 C.b2) ∧ w'.cell? ⟨b, 14, none⟩ = some (.slice la0 nl0 lc0) ∧ w'.cell? ⟨rg, rof + k * 9 + 6, none⟩ = some (.int .u8 p)) (first | with_reducible exact ⟨x1, x11, x12, x13, x14, y6⟩ | with_reducible exact ⟨cellDr x1, cellDr x11, cellDr x12, cellDr x13, cellDr x14, cellDr y6⟩ | with_reducible exact ⟨cellA _ x1, cellA _ x11, cellA _ x12, cellA _ x13, cellA _ x14, cellA _ y6⟩ | with_reducible exact ⟨cellDr (cellA _ x1), cellDr (cellA _ x11), cellDr (cellA _ x12), cellDr (cellA _ x13), cellDr (cellA _ x14), cellDr (cellA _ y6)⟩ | exact ⟨((((Keeps.refl (fun i => i = w.heap.size) w9).at).at).at).at.cell (fun e => hbne e) x1, ((((Keeps.refl (fun i => i = w.heap.size) w9).at).at).at).at.cell (fun e => hbne e) x11, ((((Keeps.refl (fun i => i = w.heap.size) w9).at).at).at).at.cell (fun e => hbne e) x12, ((((Keeps.refl (fun i => i = w.heap.size) w9).at).at).at).at.cell (fun e => hbne e) x13, ((((Keeps.refl (fun i => i = w.heap.size) w9).at).at).at).at.cell (fun e => hbne e) x14, ((((Keeps.refl (fun i => i = w.heap.size) w9).at).at).at).at.cell (fun e => hrgne e) y6⟩ | (go_keep; done)) ((go_at_call 32; (with_reducible refine (HP.out _ (by repeat' (first | with_reducible exact Keeps.refl _ _ | with_reducible assumption | with_reducible refine Keeps.drewN ?_ _ | with_reducible refine Keeps.drew ?_ | with_reducible refine Keeps.alloc ?_ _))).mono ?_); rintro e w9 ⟨lv', rfl, hsl, kp, hs1, hs2, hs3⟩; obtain ⟨qa, qc, rfl⟩ := hsl.any; have kk : Keeps No w w9 := Keeps.trans (by repeat' (first | with_reducible exact Keeps.refl _ _ | with_reducible assumption | with_reducible refine Keeps.drewN ?_ _ | with_reducible refine Keeps.drew ?_ | with_reducible refine Keeps.alloc ?_ _)) kp; have g0 := HB.out.kept kk; have x1 := g0.cell 1 rfl; have x11 := g0.cell 11 rfl; have x12 := g0.cell 12 rfl; have x13 := g0.cell 13 rfl; have x14 := g0.cell 14 rfl; have y6 := kk.cell (fun h => h) HY6.out; have HSL := hid hsl; have HKK := hid kk; have HS1 := hid hs1; have HS3 := hid hs3; first | (refine imp2 (p := Keeps No (w.alloc (.cells #[.int .i64 0, .int .i64 0, .int .i64 0, .slice none 0 0] 55)) w9 ∧ (0 < l'.length → ∀ k, (Value.slice qa l'.length qc).ownBlock = some k → k ≠ w.heap.size)) ?_ ?_; (focus (refine ⟨Keeps.trans (by repeat' (first | with_reducible exact Keeps.refl _ _ | with_reducible assumption | with_reducible refine Keeps.drewN ?_ _ | with_reducible refine Keeps.drew ?_ | with_reducible refine Keeps.alloc ?_ _)) kp, fun h0 k hk => ?_⟩; have h7 := hs2 h0 k hk; simp at h7; omega)); intro kz; have hnb := (show Bk (w.alloc (.cells #[.int .i64 0, .int .i64 0, .int .i64 0, .slice none 0 0] 55)) w.heap.size 55 [.int .i64 0, .int .i64 0, .int .i64 0, .slice none 0 0] from Bk.new rfl _ _).kept kz.1; have n0 := hnb.cell 0 rfl; have n1 := hnb.cell 1 rfl; have n2 := hnb.cell 2 rfl; have n3 := hnb.cell 3 rfl; have e0 := hnb.free 0; have e1 := hnb.free 1; have e2 := hnb.free 2; have e3 := hnb.free 3; have HNB := hid hnb; have HNS := hid kz.2; clear hnb kz) | skip; clear g0 kp hsl kk hs1 hs2 hs3)) | fail
        all_goals
          go_wp2_with fail
          go_meet
          first
            | (have b1 := (((HNB.out.put 0 (.int .i64 C.b0) rfl).put 1 (.int .i64 C.b1) rfl).put 2 (.int .i64 C.b2) rfl).put 3 (.slice qa l'.length qc) rfl
               have k1 := (((((Keeps.refl (fun i => i = w.heap.size) w9).setCell (p := ⟨w.heap.size, 0, none⟩) (Or.inr rfl) (.int .i64 C.b0)).setCell (p := ⟨w.heap.size, 1, none⟩) (Or.inr rfl) (.int .i64 C.b1)).setCell (p := ⟨w.heap.size, 2, none⟩) (Or.inr rfl) (.int .i64 C.b2)).setCell (p := ⟨w.heap.size, 3, none⟩) (Or.inr rfl) (.slice qa l'.length qc))
               have s1 := Sl.keep' HSL.out k1 (fun h0 i hi _ e => HNS.out h0 i hi e)
               have k2 := HKK.out.trans' k1 (T := No) (fun _ _ h => h.elim) (fun i hi e => by have e' : i = w.heap.size := e; omega)
               exact ⟨w.heap.size, qa, l'.length, qc, rfl, rfl, hid b1, hid k2, hid s1, HS1, hid (Nat.le_refl _), HS3⟩)
            | (have b1 := Bk.new (w := w9) rfl [.int .i64 C.b0, .int .i64 C.b1, .int .i64 C.b2, .slice qa l'.length qc] 55
               have k2 := HKK.out.alloc (.cells #[.int .i64 C.b0, .int .i64 C.b1, .int .i64 C.b2, .slice qa l'.length qc] 55)
               have s1 := HSL.out.alloc (.cells #[.int .i64 C.b0, .int .i64 C.b1, .int .i64 C.b2, .slice qa l'.length qc] 55)
               exact ⟨w9.heap.size, qa, l'.length, qc, rfl, rfl, hid b1, hid k2, hid s1, HS1, hid HKK.out.size, HS3⟩)
      case rest =>
      obtain ⟨qb, qa, nl, qc, rfl, rfl, HQ, HKW, HSW, HOW2, HQB, HFRE⟩ := hcut
      have HBW := hid (HB.out.kept HKW.out)
      have HTW := hid (HT.out.kept HKW.out)
      clear x0 x1 x2 x3 x4 x5 x6 x7 x8 x9 x10 x11 x12 x13 x14 x15 x16 x17 y6 y fy HY6
      have x0 := HBW.out.cell 0 rfl
      have x1 := HBW.out.cell 1 rfl
      have x2 := HBW.out.cell 2 rfl
      have x3 := HBW.out.cell 3 rfl
      have x4 := HBW.out.cell 4 rfl
      have x5 := HBW.out.cell 5 rfl
      have x6 := HBW.out.cell 6 rfl
      have x7 := HBW.out.cell 7 rfl
      have x8 := HBW.out.cell 8 rfl
      have x9 := HBW.out.cell 9 rfl
      have x10 := HBW.out.cell 10 rfl
      have x11 := HBW.out.cell 11 rfl
      have x12 := HBW.out.cell 12 rfl
      have x13 := HBW.out.cell 13 rfl
      have x14 := HBW.out.cell 14 rfl
      have x15 := HBW.out.cell 15 rfl
      have x16 := HBW.out.cell 16 rfl
      have x17 := HBW.out.cell 17 rfl
      have f16 := HBW.out.free 16
      have f17 := HBW.out.free 17
      go_wp2_with fail
      go_ret
      have hn0' := HN0.out
      have hrf1 : ((rfn + 1 : Nat) : Int) = rf + 1 := by omega
      have k2 : Keeps (fun i => i = b ∨ i = tb) wc ((wc.setCell ⟨b, 17, none⟩ (.int .i64 (rf + 1))).setCell ⟨b, 16, none⟩ (.int .i64 now)) := ((Keeps.refl _ wc).setCell (Or.inr (Or.inl rfl)) _).setCell (Or.inr (Or.inl rfl)) _
      have kT : Keeps (fun i => i = b ∨ i = tb) w ((wc.setCell ⟨b, 17, none⟩ (.int .i64 (rf + 1))).setCell ⟨b, 16, none⟩ (.int .i64 now)) := HKW.out.no.trans k2
      refine ⟨rfl, .slice la0 nl0 lc0, ⟨?_, HI.out.keep kT (fun i hi e => e.elim (HOW.out i hi).1 (HOW.out i hi).2), ?_, hne, HOW.out⟩, kT, fun h0 k h => Or.inl ⟨(own_len _ _ _ _).trans h, h0⟩⟩
      · have h1 := (HBW.out.put 17 (.int .i64 (rf + 1)) rfl).put 16 (.int .i64 now) rfl
        simp only [List.set_cons_succ, List.set_cons_zero] at h1
        simp only [hn0', hrf1]
        rw [HRN.out]
        exact h1
      · exact (HTW.out.other (p := ⟨b, 17, none⟩) (fun e => hne e.symm) _).other (p := ⟨b, 16, none⟩) (fun e => hne e.symm) _
    · have e : offerD C ⟨l0, told, la, rfn⟩ (now) (k : Int) on = (⟨l', told.set k on, la, rfn⟩, true) := by unfold offerD; rw [if_neg (by rw [HID.out]; decide)]; simp only; rw [HPD.out, HPF.out]; rfl
      rw [e]
      have HKT := hid hk
      have HP := hid (fun (w' : World) (kw : Keeps No w w') => mputX kw HI.out (by rw [HNL0.out]; omega) HB.out.lt HT.out.lt HOW.out C.b0 C.b1 C.b2 p ⟨(k : Int), on, now⟩ hp3 (err := 0) (by rw [HPF.out]; rfl) (Or.inl rfl))
      unfold qval at HP
      simp only [Ev.val] at HP
      have HY6 := hid y6
      clear e hidle' hpf hpd hx hp hcc hc hok hC hb hi ht how hn0 htk hk hkC hrn hnC hlen hfew hid2
      have x0 := HB.out.cell 0 rfl
      have x1 := HB.out.cell 1 rfl
      have x2 := HB.out.cell 2 rfl
      have x3 := HB.out.cell 3 rfl
      have x4 := HB.out.cell 4 rfl
      have x5 := HB.out.cell 5 rfl
      have x6 := HB.out.cell 6 rfl
      have x7 := HB.out.cell 7 rfl
      have x8 := HB.out.cell 8 rfl
      have x9 := HB.out.cell 9 rfl
      have x10 := HB.out.cell 10 rfl
      have x11 := HB.out.cell 11 rfl
      have x12 := HB.out.cell 12 rfl
      have x13 := HB.out.cell 13 rfl
      have x14 := HB.out.cell 14 rfl
      have x15 := HB.out.cell 15 rfl
      have x16 := HB.out.cell 16 rfl
      have x17 := HB.out.cell 17 rfl
      go_enter Try.func19, Try.ntmps19
      go_upto_region 3 with fail
      go_cut [9, 10] from 33 to 53 (fun v9 v10 wx => ∃ qb qa nl qc, v9 = .pointer (some ⟨qb, 0, none⟩) ∧ v10 = .int .i64 0 ∧ Hid (Bk wx qb 55 [.int .i64 C.b0, .int .i64 C.b1, .int .i64 C.b2, .slice qa nl qc]) ∧ Hid (Keeps No w wx) ∧ Hid (SlIt wx (.slice qa nl qc) l') ∧ Hid (∀ k, (Value.slice qa nl qc).ownBlock = some k → k ≠ b ∧ k ≠ tb) ∧ Hid (w.heap.size ≤ qb) ∧ Hid (0 < l'.length → ∀ k, (Value.slice qa nl qc).ownBlock = some k → ((Value.slice la0 nl0 lc0).ownBlock = some k ∧ 0 < l0.length) ∨ w.heap.size ≤ k))
      case first =>
        first | go_region_held3 (fun w' => w'.cell? ⟨b, 1, none⟩ = some (.slice (some ⟨rg, rof, none⟩) rn rc) ∧ w'.cell? ⟨b, 11, none⟩ = some (.int .i64 C.b0) ∧ w'.cell? ⟨b, 12, none⟩ = some (.int .i64 C.b1) ∧ w'.cell? ⟨b, 13, none⟩ = some (.int .i64 C.b2) ∧ w'.cell? ⟨b, 14, none⟩ = some (.slice la0 nl0 lc0) ∧ w'.cell? ⟨rg, rof + k * 9 + 6, none⟩ = some (.int .u8 p)) (first | with_reducible exact ⟨x1, x11, x12, x13, x14, y6⟩ | with_reducible exact ⟨cellDr x1, cellDr x11, cellDr x12, cellDr x13, cellDr x14, cellDr y6⟩ | with_reducible exact ⟨cellA _ x1, cellA _ x11, cellA _ x12, cellA _ x13, cellA _ x14, cellA _ y6⟩ | with_reducible exact ⟨cellDr (cellA _ x1), cellDr (cellA _ x11), cellDr (cellA _ x12), cellDr (cellA _ x13), cellDr (cellA _ x14), cellDr (cellA _ y6)⟩ | exact ⟨((((Keeps.refl (fun i => i = w.heap.size) w9).at).at).at).at.cell (fun e => hbne e) x1, ((((Keeps.refl (fun i => i = w.heap.size) w9).at).at).at).at.cell (fun e => hbne e) x11, ((((Keeps.refl (fun i => i = w.heap.size) w9).at).at).at).at.cell (fun e => hbne e) x12, ((((Keeps.refl (fun i => i = w.heap.size) w9).at).at).at).at.cell (fun e => hbne e) x13, ((((Keeps.refl (fun i => i = w.heap.size) w9).at).at).at).at.cell (fun e => hbne e) x14, ((((Keeps.refl (fun i => i = w.heap.size) w9).at).at).at).at.cell (fun e => hrgne e) y6⟩ | (go_keep; done)) ((go_at_call 32; (with_reducible refine (HP.out _ (by repeat' (first | with_reducible exact Keeps.refl _ _ | with_reducible assumption | with_reducible refine Keeps.drewN ?_ _ | with_reducible refine Keeps.drew ?_ | with_reducible refine Keeps.alloc ?_ _))).mono ?_); rintro e w9 ⟨lv', rfl, hsl, kp, hs1, hs2, hs3⟩; obtain ⟨qa, qc, rfl⟩ := hsl.any; have kk : Keeps No w w9 := Keeps.trans (by repeat' (first | with_reducible exact Keeps.refl _ _ | with_reducible assumption | with_reducible refine Keeps.drewN ?_ _ | with_reducible refine Keeps.drew ?_ | with_reducible refine Keeps.alloc ?_ _)) kp; have g0 := HB.out.kept kk; have x1 := g0.cell 1 rfl; have x11 := g0.cell 11 rfl; have x12 := g0.cell 12 rfl; have x13 := g0.cell 13 rfl; have x14 := g0.cell 14 rfl; have y6 := kk.cell (fun h => h) HY6.out; have HSL := hid hsl; have HKK := hid kk; have HS1 := hid hs1; have HS3 := hid hs3; first | (refine imp2 (p := Keeps No (w.alloc (.cells #[.int .i64 0, .int .i64 0, .int .i64 0, .slice none 0 0] 55)) w9 ∧ (0 < l'.length → ∀ k, (Value.slice qa l'.length qc).ownBlock = some k → k ≠ w.heap.size)) ?_ ?_; (focus (refine ⟨Keeps.trans (by repeat' (first | with_reducible exact Keeps.refl _ _ | with_reducible assumption | with_reducible refine Keeps.drewN ?_ _ | with_reducible refine Keeps.drew ?_ | with_reducible refine Keeps.alloc ?_ _)) kp, fun h0 k hk => ?_⟩; have h7 := hs2 h0 k hk; simp at h7; omega)); intro kz; have hnb := (show Bk (w.alloc (.cells #[.int .i64 0, .int .i64 0, .int .i64 0, .slice none 0 0] 55)) w.heap.size 55 [.int .i64 0, .int .i64 0, .int .i64 0, .slice none 0 0] from Bk.new rfl _ _).kept kz.1; have n0 := hnb.cell 0 rfl; have n1 := hnb.cell 1 rfl; have n2 := hnb.cell 2 rfl; have n3 := hnb.cell 3 rfl; have e0 := hnb.free 0; have e1 := hnb.free 1; have e2 := hnb.free 2; have e3 := hnb.free 3; have HNB := hid hnb; have HNS := hid kz.2; clear hnb kz) | skip; clear g0 kp hsl kk hs1 hs2 hs3)) | fail
        all_goals
          go_wp2_with fail
          go_meet
          first
            | (have b1 := (((HNB.out.put 0 (.int .i64 C.b0) rfl).put 1 (.int .i64 C.b1) rfl).put 2 (.int .i64 C.b2) rfl).put 3 (.slice qa l'.length qc) rfl
               have k1 := (((((Keeps.refl (fun i => i = w.heap.size) w9).setCell (p := ⟨w.heap.size, 0, none⟩) (Or.inr rfl) (.int .i64 C.b0)).setCell (p := ⟨w.heap.size, 1, none⟩) (Or.inr rfl) (.int .i64 C.b1)).setCell (p := ⟨w.heap.size, 2, none⟩) (Or.inr rfl) (.int .i64 C.b2)).setCell (p := ⟨w.heap.size, 3, none⟩) (Or.inr rfl) (.slice qa l'.length qc))
               have s1 := Sl.keep' HSL.out k1 (fun h0 i hi _ e => HNS.out h0 i hi e)
               have k2 := HKK.out.trans' k1 (T := No) (fun _ _ h => h.elim) (fun i hi e => by have e' : i = w.heap.size := e; omega)
               exact ⟨w.heap.size, qa, l'.length, qc, rfl, rfl, hid b1, hid k2, hid s1, HS1, hid (Nat.le_refl _), HS3⟩)
            | (have b1 := Bk.new (w := w9) rfl [.int .i64 C.b0, .int .i64 C.b1, .int .i64 C.b2, .slice qa l'.length qc] 55
               have k2 := HKK.out.alloc (.cells #[.int .i64 C.b0, .int .i64 C.b1, .int .i64 C.b2, .slice qa l'.length qc] 55)
               have s1 := HSL.out.alloc (.cells #[.int .i64 C.b0, .int .i64 C.b1, .int .i64 C.b2, .slice qa l'.length qc] 55)
               exact ⟨w9.heap.size, qa, l'.length, qc, rfl, rfl, hid b1, hid k2, hid s1, HS1, hid HKK.out.size, HS3⟩)
      case rest =>
      obtain ⟨qb, qa, nl, qc, rfl, rfl, HQ, HKW, HSW, HOW2, HQB, HFRE⟩ := hcut
      have HBW := hid (HB.out.kept HKW.out)
      have HTW := hid (HT.out.kept HKW.out)
      clear x0 x1 x2 x3 x4 x5 x6 x7 x8 x9 x10 x11 x12 x13 x14 x15 x16 x17 y6 y fy HY6
      have x0 := HBW.out.cell 0 rfl
      have x1 := HBW.out.cell 1 rfl
      have x2 := HBW.out.cell 2 rfl
      have x3 := HBW.out.cell 3 rfl
      have x4 := HBW.out.cell 4 rfl
      have x5 := HBW.out.cell 5 rfl
      have x6 := HBW.out.cell 6 rfl
      have x7 := HBW.out.cell 7 rfl
      have x8 := HBW.out.cell 8 rfl
      have x9 := HBW.out.cell 9 rfl
      have x10 := HBW.out.cell 10 rfl
      have x11 := HBW.out.cell 11 rfl
      have x12 := HBW.out.cell 12 rfl
      have x13 := HBW.out.cell 13 rfl
      have x14 := HBW.out.cell 14 rfl
      have x15 := HBW.out.cell 15 rfl
      have x16 := HBW.out.cell 16 rfl
      have x17 := HBW.out.cell 17 rfl
      have q0 := HQ.out.cell 0 rfl
      have q1 := HQ.out.cell 1 rfl
      have q2 := HQ.out.cell 2 rfl
      have q3 := HQ.out.cell 3 rfl
      have f11 := HBW.out.free 11
      have f12 := HBW.out.free 12
      have f13 := HBW.out.free 13
      have f14 := HBW.out.free 14
      have y := HTW.out.cell k (told_at HKT.out)
      have fy := HTW.out.free k
      go_wp2_with fail
      go_ret
      have hn0' := HN0.out
      have k2 : Keeps (fun i => i = b ∨ i = tb) wc (((((wc.setCell ⟨b, 11, none⟩ (.int .i64 C.b0)).setCell ⟨b, 12, none⟩ (.int .i64 C.b1)).setCell ⟨b, 13, none⟩ (.int .i64 C.b2)).setCell ⟨b, 14, none⟩ (.slice qa nl qc)).setCell ⟨tb, k, none⟩ (.bool on)) := (((((Keeps.refl _ wc).setCell (Or.inr (Or.inl rfl)) _).setCell (Or.inr (Or.inl rfl)) _).setCell (Or.inr (Or.inl rfl)) _).setCell (Or.inr (Or.inl rfl)) _).setCell (Or.inr (Or.inr rfl)) _
      refine ⟨rfl, _, ⟨?_, ?_, ?_, hne, HOW2.out⟩, HKW.out.no.trans k2, fun h0 k h => by rw [own_len la0 _ nl0 lc0]; exact HFRE.out h0 k h⟩
      · have h1 := ((((HBW.out.put 11 (.int .i64 C.b0) rfl).put 12 (.int .i64 C.b1) rfl).put 13 (.int .i64 C.b2) rfl).put 14 (.slice qa nl qc) rfl).other (p := ⟨tb, k, none⟩) hne (.bool on)
        simp only [List.set_cons_succ, List.set_cons_zero] at h1
        simp only [List.length_set, hn0', hrf]
        rw [HRN.out]
        exact h1
      · exact HSW.out.keep k2 (fun i hi e => e.elim (HOW2.out i hi).1 (HOW2.out i hi).2)
      · exact (((((HTW.out.other (p := ⟨b, 11, none⟩) (fun e => hne e.symm) _).other (p := ⟨b, 12, none⟩) (fun e => hne e.symm) _).other (p := ⟨b, 13, none⟩) (fun e => hne e.symm) _).other (p := ⟨b, 14, none⟩) (fun e => hne e.symm) _).put k (.bool on) (by simp [List.map_set]))

end
end Go.Proofs.Ytoodlhagecannaa
