/-
  A wheel: Due.
-/
import Derived.Test.YtnedmmjkhemgjaaClockW
import Derived.Test.YtnedmmjkhemgjaaSrt9
import Derived.Deep.Cut
namespace Go.Proofs.Ytnedmmjkhemgjaa
open Go.RowKit Go.Maps

/-! ### the sort of none -/
set_option maxHeartbeats 1000000 in
set_option maxRecDepth 100000 in
theorem insort_nil (fv : Value) (w : World) : Calls Try.prog 24 #[.slice none 0 0, .int .i64 0, .int .i64 0, fv] w fun e w' => e = .returned (.tuple #[]) ∧ w = w' := by
  go_enter Try.func24, Try.ntmps24
  go_wp2_with fail
  go_loop [8] (fun v8 => v8 = .int .i64 1) (fun _ => 0)
  case atStart => rfl
  case round =>
    subst hrel
    go_wp2_with fail
    go_end0
    exact ⟨rfl, rfl⟩

set_option maxHeartbeats 4000000 in
set_option maxRecDepth 100000 in
theorem pdq_nil (fv : Value) (l : Int) (w : World) : Calls Try.prog 20 #[.slice none 0 0, .int .i64 0, .int .i64 0, .int .i64 l, fv] w fun e w' => e = .returned (.tuple #[]) ∧ w = w' := by
  have HI := hid (insort_nil fv w)
  go_enter Try.func20, Try.ntmps20
  go_wp2_with fail
  go_loop [1, 2] (fun v1 v2 => v1 = .int .i64 0 ∧ v2 = .int .i64 0) (fun _ _ => 0)
  case atStart => exact ⟨rfl, rfl⟩
  case round =>
    obtain ⟨rfl, rfl⟩ := hrel
    go_wp2_with (go_at_call 24; refine HI.out.mono ?_; rintro e w' ⟨rfl, rfl⟩)
    refine bodyPost_ret (results_none rfl _ _ _) rfl ?_
    exact ⟨rfl, rfl⟩

set_option maxHeartbeats 4000000 in
set_option maxRecDepth 100000 in
theorem sort_nil (fv : Value) (w : World) : Calls Try.prog 18 #[.slice none 0 0, fv] w fun e w' => e = .returned (.tuple #[]) ∧ ∃ q, w' = w.drewN q := by
  have HI := hid (pdq_nil fv)
  have HL := hid (len_any 0)
  go_enter Try.func18, Try.ntmps18
  go_wp2_with first
    | (go_at_call 21; refine (HL.out _ (by omega) (by omega)).mono ?_; rintro e w' ⟨⟨l, rfl⟩, rfl⟩)
    | (go_at_call 20; refine (HI.out _ _).mono ?_; rintro e w' ⟨rfl, rfl⟩)
  go_end0
  exact ⟨rfl, 0, rfl⟩

/-! ### what was gathered -/
theorem kAt_ne {x y : Int} (h : x ≠ y) : kAt x ≠ kAt y := fun e => h (by simpa [kAt] using e)

/-- Those met so far that are due. -/
structure Got (D : DataW Unit) (T : Int → Int) (now : Int) (left : Lit → Bool) (xs : List Int) : Prop where
  nodup : xs.Nodup
  iff : ∀ x, x ∈ xs ↔ (has D (kAt x) = true ∧ left (kAt x) = false ∧ T x ≤ now)

theorem Got.start (D : DataW Unit) (T : Int → Int) (now : Int) : Got D T now (has D) [] := ⟨List.nodup_nil, fun x => by cases has D (kAt x) <;> simp⟩

theorem key_self (x : Int) : (kAt x).sameKey (kAt x) = true := WideAt.sameKey_self trivial

theorem Got.more {D : DataW Unit} {T : Int → Int} {now : Int} {left : Lit → Bool} {xs : List Int} (h : Got D T now left xs) {x : Int} (hl : left (kAt x) = true) (hh : has D (kAt x) = true) (ht : T x ≤ now) : Got D T now (fun z => left z && !z.sameKey (kAt x)) (xs ++ [x]) := by
  have hnx : x ∉ xs := fun hm => by have := ((h.iff x).1 hm).2.1; rw [hl] at this; cases this
  refine ⟨?_, fun y => ?_⟩
  · rw [List.nodup_append]
    exact ⟨h.nodup, by simp, fun a ha b hb => by simp at hb; subst hb; exact fun e => hnx (e ▸ ha)⟩
  · rw [List.mem_append, h.iff y, List.mem_singleton]
    by_cases hy : y = x
    · subst hy; simp [key_self, hh, ht]
    · simp [hy, sameKey_ne (kAt_ne hy)]

theorem Got.pass {D : DataW Unit} {T : Int → Int} {now : Int} {left : Lit → Bool} {xs : List Int} (h : Got D T now left xs) {x : Int} (hl : left (kAt x) = true) (ht : ¬ T x ≤ now) : Got D T now (fun z => left z && !z.sameKey (kAt x)) xs := by
  refine ⟨h.nodup, fun y => ?_⟩
  rw [h.iff y]
  by_cases hy : y = x
  · subst hy; simp [hl, ht]
  · simp [sameKey_ne (kAt_ne hy)]

/-- The map without these. -/
def less (D : DataW Unit) (xs : List Int) : DataW Unit := xs.foldl (fun D x => D.del (kAt x)) D

theorem less_snoc (D : DataW Unit) (xs : List Int) (x : Int) : less D (xs ++ [x]) = (less D xs).del (kAt x) := by simp [less, List.foldl_append]

theorem has_less (y : Int) : ∀ (xs : List Int) (D : DataW Unit), has (less D xs) (kAt y) = (has D (kAt y) && !xs.contains y)
  | [], D => by simp [less]
  | x :: r, D => by
    show has (less (D.del (kAt x)) r) (kAt y) = _
    rw [has_less y r]
    by_cases h : y = x
    · subst h; simp [has_del_same]
    · rw [has_del_other (kAt_ne h)]; simp [h]

theorem at_less (y : Int) (z : DataW Unit) : ∀ (xs : List Int) (D : DataW Unit), y ∉ xs → (less D xs).atKey (kAt y) z = D.atKey (kAt y) z
  | [], _, _ => rfl
  | x :: r, D, h => by
    show (less (D.del (kAt x)) r).atKey (kAt y) z = _
    simp only [List.mem_cons, not_or] at h
    rw [at_less y z r _ h.2, atKey_del_other (kAt_ne h.1)]

/-! ### Due -/
theorem info_int : (Try.prog.info? 3).map (fun i => (i.zero, i.size, i.bytes)) = some (some (.int .i64 0), 1, 8) := by kernel_rfl

theorem ranges_keep {S : Nat → Prop} {w w' : World} {m r n cnt : Nat} {D : DataW Unit} {left : Lit → Bool} (h : w.ranges Try.prog 3 (plainElem (H := Unit) Try.prog 2) m r n D left cnt) (hk : Keeps S w w') (hm : ¬ S m) (hr : ¬ S r) :
    w'.ranges Try.prog 3 (plainElem (H := Unit) Try.prog 2) m r n D left cnt := by
  obtain ⟨es, clock, since, seen, c0, hb', F, hs, hD, hr', rest⟩ := h
  exact ⟨es, clock, since, seen, c0, (hk.block m (lt_of_block hb') hm).trans hb', F, hs, hD, (hk.block r (lt_of_block hr') hr).trans hr', rest⟩

/-- What Due leaves: those due, in order; a map without them. -/
structure DueDone (w : World) (b m n : Nat) (D : DataW Unit) (T : Int → Int) (now : Int) (v : Value) (w' : World) (xs : List Int) : Prop where
  ordered : xs.Pairwise (fun x y => ltT T x y = true)
  iff : ∀ x, x ∈ xs ↔ (has D (kAt x) = true ∧ T x ≤ now)
  row : w'.ownsRow 0 3 1 v xs.length (xs.map (Value.int .i64))
  fresh : ∀ k, v.ownBlock = some k → w.heap.size ≤ k
  wheel : WM w' b m n (less D xs)
  keeps : Keeps (fun k => k = m) w w'

set_option maxHeartbeats 4000000 in
set_option maxRecDepth 100000 in
theorem due_any {w : World} {b m n : Nat} {D : DataW Unit} {T : Int → Int} {S : List Int} (now : Int) (h : WM w b m n D) (hbm : b ≠ m) (hn : n ≤ 60) (hT : Times D T S) (hS : ∀ x, has D (kAt x) = true → x ∈ S) :
    Calls Try.prog 13 #[.pointer (some ⟨b, 0, none⟩), .int .i64 now] w fun e w' => ∃ v, e = .returned v ∧ ∃ xs, DueDone w b m n D T now v w' xs := by
  obtain ⟨i0, hi, hz0, hz1, hz2⟩ := info_parts info_int
  have HI := hid hi
  have H := hid h
  have c0 := h.cell
  have hown := h.own
  have hbl : b < w.heap.size := World.block_lt_of_cell? w _ c0
  have hml := hown.lt
  have hsz := hown.size_le
  have HT := hid hT
  have HS := hid hS
  clear hi h hT hS
  go_enter Try.func13, Try.ntmps13
  go_wp2_with (at_range; refine wpList_range_own _ rfl _ 47 rfl 3 2 klaw Try.underlying47 _ m n _ rfl hown ?_; intro w0 hrg0 hg0 hs0)
  go_frame
  go_loopw [5] (fun v5 wr => ∃ (left : Lit → Bool) (cnt : Nat) (xs : List Int), xs.length + cnt ≤ n ∧ Hid (wr.ranges Try.prog 3 (plainElem (H := Unit) Try.prog 2) m w.heap.size n D left cnt) ∧
      Hid (wr.ownsRow 0 3 1 v5 xs.length (xs.map (Value.int .i64))) ∧ Hid (∀ k, v5.ownBlock = some k → w.heap.size < k) ∧ Hid (Got D T now left xs) ∧ Hid (Keeps No w wr))
    (fun _ wr => wr.rangeLeft m w.heap.size)
  case atStart => exact ⟨_, _, [], by simpa using hsz, hid hrg0, hid (World.ownsRow_nil _ _ _ _), hid (fun k hk => by simp [Value.ownBlock] at hk), hid (Got.start _ _ _), hid ((Keeps.refl _ _).grown hg0 (fun k hk => by cases hk))⟩
  case round =>
    obtain ⟨left, cnt, xs, hlen, HRG, HROW, HFR, HG, HK⟩ := hrel
    go_wp2_with (at_next; refine wpList_next_ranges_ii _ rfl _ rfl 3 2 .i64 .i64 klaw Try.underlying3 Try.underlying2 m w.heap.size n _ _ _ rfl HRG.out ?_ ?_)
    · intro hc0 hl0
      have hiff : ∀ x, x ∈ xs ↔ (has D (kAt x) = true ∧ T x ≤ now) := fun x => by rw [HG.out.iff]; simp [hl0]
      have hnd := HG.out.nodup
      have hWM : WM wr b m n D := H.out.kept HK.out (fun h => h) (fun h => h)
      have HT2 : Times D T xs := fun x hx => HT.out x (HS.out x ((hiff x).1 hx).1)
      have hle1 := HK.out.size
      rcases HROW.out.2 with ⟨hnil, hk0⟩ | ⟨g, cap, cur, hv, hrest⟩
      · subst hnil
        obtain rfl : xs = [] := by simpa using hk0
        have HIFF := hid hiff
        have HWM := hid hWM
        clear hiff hWM HT2 hnd HG HROW HRG
        go_wp2_with (go_at_call 18; refine (sort_nil _ _).mono ?_; rintro e w' ⟨rfl, q, rfl⟩)
        go_loop [35] (fun v => v = .int .i64 0) (fun _ => 0)
        case atStart => rfl
        case round =>
          subst hrel
          go_wp2_with fail
          go_ret
          exact ⟨_, rfl, [], List.Pairwise.nil, HIFF.out, World.ownsRow_nil _ _ _ _, fun k hk => (by cases hk), HWM.out.kept ((Keeps.refl No wr).drewN q) (fun h => h) (fun h => h), HK.out.no.drewN q⟩
      · subst hv
        have hg : w.heap.size < g := HFR.out g rfl
        obtain ⟨ys, hylen, hymem, hs3, hsort⟩ := sort_list (T := T) xs HROW.out (by omega) hnd (orders_of hWM HT2 (g := g) (by omega) (by omega))
        have hmem : ∀ x, x ∈ ys ↔ (has D (kAt x) = true ∧ T x ≤ now) := fun x => by rw [hymem]; exact hiff x
        have h64 : ∀ x ∈ ys, I64 x := fun x hx => (HT2 x ((hymem x).1 hx)).1
        have HM := hid hmem
        have H64 := hid h64
        have HS3 := hid hs3
        have HWM := hid hWM
        have HSORT := hid hsort
        have HLEN := hid hylen
        clear hsort hs3 hmem h64 hWM HT2 hiff hnd HG HROW HRG hymem hylen hrest
        go_wp2_with (go_at_call 18; refine HSORT.out.mono ?_; rintro e w2 ⟨rfl, ho2, hk2⟩)
        have HO2 := hid ho2
        have HW2 : Hid (WM w2 b m n D) := hid (HWM.out.kept hk2 (by omega) (by omega))
        have HK2 : Hid (Keeps (fun k => k = m) w w2) := hid (HK.out.trans' hk2 (fun _ _ h => h.elim) (fun i hi h => by omega))
        clear ho2 hk2 HSORT HWM HK
        go_loopw [35] (fun v wr2 => ∃ k : Nat, k ≤ xs.length ∧ v = .int .i64 k ∧ Hid (wr2.ownsRow 0 3 1 (.slice (some ⟨g, 0, none⟩) xs.length cap) xs.length (ys.map (Value.int .i64))) ∧ Hid (WM wr2 b m n (less D (ys.take k))) ∧ Hid (Keeps (fun k => k = m) w wr2))
          (fun v _ => xs.length - (intOf v).toNat)
        case atStart => exact ⟨0, Nat.zero_le _, rfl, HO2, HW2, HK2⟩
        case round =>
          obtain ⟨k, hk, rfl, HO3, HW3, HK3⟩ := hrel
          by_cases hlt : k < xs.length
          · have hly : k < ys.length := by rw [HLEN.out]; exact hlt
            have cx : wr.cell? ⟨g, k, none⟩ = some (.int .i64 ys[k]) := by rw [HO3.out.cellAt k (by omega)]; simp [hly]
            have cw := HW3.out.cell
            have hkey := keyOf_int_mk Try.underlying3 (WalkArith.wf_i64 (H64.out ys[k] (List.getElem_mem hly)))
            have hown3 := HW3.out.own
            go_wp2_with (at_delete; refine wpList_delete_own _ rfl _ _ 47 3 rfl 2 klaw Try.underlying47 _ m n _ rfl hown3 _ _ rfl hkey ?_; intro w3 hown4 hturn)
            have hk4 : Keeps (fun k => k = m) wr w3 := (Keeps.refl _ _).grown hturn.grown (fun k hk => by cases hk; exact Or.inr rfl)
            have HO4 := hid (hk4.own HO3.out (fun k hk h => by have hk' : g = k := by simpa [Value.ownBlock] using hk
                                                               omega))
            have HW4 : Hid (WM w3 b m n (less D (ys.take (k + 1)))) := hid ⟨hk4.cell hbm cw, by rw [List.take_add_one, List.getElem?_eq_getElem hly]; simp only [Option.toList_some, less_snoc]; exact hown4⟩
            have HK4 := hid (HK3.out.trans hk4)
            clear hown4 hturn hk4 hown3 hkey
            go_wp2_with fail
            go_roundw
            case rel => exact ⟨k + 1, by omega, by go_num, HO4, HW4, HK4⟩
            case measure => simp [intOf]; omega
          · have HKE := hid (show k = ys.length by have := HLEN.out; omega)
            go_wp2_with fail
            go_ret
            refine ⟨_, rfl, ys, HS3.out, HM.out, by rw [HLEN.out]; exact HO3.out, fun k hk => ?_, by have := HW3.out; rwa [HKE.out, List.take_length] at this, HK3.out⟩
            have hk' : g = k := by simpa [Value.ownBlock] using hk
            omega
    · intro x c w1 cnt1 hwx hwc hlx hat hrg1 hlt hg1 hs1 hen
      have hhas : has D (kAt x) = true := has_true_of_atKey hat
      have hxS := HS.out x hhas
      have hTx : T x = c := by
        have := (HT.out x hxS).2 (.lit (.int .i64 0))
        rw [hat] at this
        simpa using this.symm
      have hm0 : wr.rangeLeft m w.heap.size = cnt := HRG.out.left_eq
      have hk1 : Keeps (fun k => k = w.heap.size) wr w1 := (Keeps.refl _ _).grown hg1 (fun k hk => by cases hk; exact Or.inr rfl)
      have row1 := hid (hk1.own HROW.out (fun k hk e => by have := HFR.out k hk; omega))
      have HK1 : Hid (Keeps No w w1) := hid (HK.out.trans' hk1 (fun _ _ h => h) (fun i hi h => by omega))
      have HR1 := hid hrg1
      have hle0 := hk1.size
      have hle1 := HK.out.size
      by_cases hle : c ≤ now
      · have hd : decide (c ≤ now) = true := by simpa using hle
        have HG1 := hid (HG.out.more hlx hhas (by omega : T x ≤ now))
        clear hat hxS hTx hhas hwx hwc hk1 hrg1 hg1 HRG HK HG hs1
        go_wp2_with (at_builtin; go_loud (refine wpl_append rfl _ _ 34 rfl 3 i0 (.int .i64 0) 1 8 Try.underlying34 HI.out hz0 hz1 hz2 rfl (by decide) _ _ _ _ _ _ rfl rfl (row1.out.alloc _) (Sl.one _ _ _) ?c1 ?c2 ?c3 ?_))
        case c1 => intro u hu; simp at hu; subst hu; rfl
        case c2 => unfold maxLen; omega
        case c3 => omega
        intro v2 w2 hown2 hk2 hbl2
        have HO2 := hid hown2
        have HK2 := hid hk2
        have HB2 := hid hbl2
        clear hown2 hk2 hbl2
        go_wp2_with fail
        go_roundw
        case rel =>
          have hkk := ((Keeps.refl (Bl u5) w1).alloc (.cells #[.int .i64 x] 3)).trans HK2.out
          have hnb : ∀ k, Bl u5 k → w.heap.size < k := fun k hk => HFR.out k (by simpa [Bl] using hk)
          refine ⟨_, cnt1, xs ++ [x], by simp; omega, hid (ranges_keep HR1.out hkk (fun h => by have := hnb _ h; omega) (fun h => by have := hnb _ h; omega)), hid ?_, hid ?_, HG1, hid (HK1.out.trans' hkk (fun _ _ h => h) (fun i hi h => by have := hnb _ h; omega))⟩
          · have := HO2.out
            rwa [show List.map (Value.int .i64) xs ++ [Value.int .i64 x] = (xs ++ [x]).map (Value.int .i64) by simp, show xs.length + 1 = (xs ++ [x]).length by simp] at this
          · intro k hk
            rcases HB2.out k hk with h | h
            · exact HFR.out k h
            · first | omega | (simp at h; omega)
        case measure => rw [hm0]; exact Nat.lt_of_le_of_lt (Nat.le_of_eq (ranges_keep HR1.out (((Keeps.refl (Bl u5) w1).alloc (.cells #[.int .i64 x] 3)).trans HK2.out) (fun h => by have := HFR.out m (by simpa [Bl] using h); omega) (fun h => by have := HFR.out w.heap.size (by simpa [Bl] using h); omega)).left_eq) hlt
      · have hd : decide (c ≤ now) = false := by simpa using hle
        have HG1 := hid (HG.out.pass hlx (by omega : ¬ T x ≤ now))
        clear hat hxS hTx hhas hwx hwc hk1 hrg1 hg1 HRG HK HG hs1
        go_wp2_with fail
        go_roundw
        case rel => exact ⟨_, cnt1, xs, by omega, HR1, row1, HFR, HG1, HK1⟩
        case measure => rw [HR1.out.left_eq, hm0]; exact hlt

end Go.Proofs.Ytnedmmjkhemgjaa
