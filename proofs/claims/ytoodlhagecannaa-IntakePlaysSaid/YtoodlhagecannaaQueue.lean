/-
  A queue of bands: what each of its functions does to a queue that holds three lists, said of the lists.
-/
import Derived.Test.YtoodlhagecannaaERing4
namespace Go.Proofs.Ytoodlhagecannaa
open Go.RowKit

/-- f, but at i it is v. -/
def upd {α : Type} (f : Nat → α) (i : Nat) (v : α) : Nat → α := fun j => if j = i then v else f j

theorem upd_at {α : Type} (f : Nat → α) (i : Nat) (v : α) : upd f i v i = v := by simp [upd]
theorem upd_ne {α : Type} (f : Nat → α) {i j : Nat} (v : α) (h : j ≠ i) : upd f i v j = f j := by simp [upd, h]

/-- The queue at block qb: its band of the priority i (1 to 3) is the ring at bs i, which stands in the blocks Fs i, has the room R i and holds L i. -/
structure QueueP (w : World) (qb : Nat) (R : Nat → Nat) (L : Nat → List Ev) (bs : Nat → Nat) (Fs : Nat → Nat → Prop) : Prop where
  blk : w.heap[qb]? = some (.cells #[.pointer (some ⟨bs 1, 0, none⟩), .pointer (some ⟨bs 2, 0, none⟩), .pointer (some ⟨bs 3, 0, none⟩)] 101 (0, 0))
  ring : ∀ i, 1 ≤ i → i ≤ 3 → RingE w (bs i) (Fs i) (R i) (L i)
  out : ∀ i, 1 ≤ i → i ≤ 3 → ¬ Fs i qb
  sep : ∀ i j, 1 ≤ i → i ≤ 3 → 1 ≤ j → j ≤ 3 → i ≠ j → ∀ k, Fs i k → ¬ Fs j k

/-- The blocks of a queue. -/
def QBl (qb : Nat) (Fs : Nat → Nat → Prop) : Nat → Prop := fun k => k = qb ∨ ∃ i, 1 ≤ i ∧ i ≤ 3 ∧ Fs i k

def QueueE (w : World) (qb : Nat) (F : Nat → Prop) (R : Nat → Nat) (L : Nat → List Ev) : Prop :=
  ∃ (bs : Nat → Nat) (Fs : Nat → Nat → Prop), QueueP w qb R L bs Fs ∧ ∀ k, F k ↔ QBl qb Fs k

section
variable {w w' : World} {qb : Nat} {R : Nat → Nat} {L : Nat → List Ev} {bs : Nat → Nat} {Fs : Nat → Nat → Prop} {F : Nat → Prop}

theorem QueueP.keep {S : Nat → Prop} (h : QueueP w qb R L bs Fs) (k : Keeps S w w') (hs : ∀ i, QBl qb Fs i → ¬ S i) : QueueP w' qb R L bs Fs :=
  ⟨k.heap (hs qb (Or.inl rfl)) h.blk, fun i h1 h2 => RingG.keep (h.ring i h1 h2) k (fun j hj => hs j (Or.inr ⟨i, h1, h2, hj⟩)), h.out, h.sep⟩

theorem QueueE.keep {S : Nat → Prop} (h : QueueE w qb F R L) (k : Keeps S w w') (hs : ∀ i, F i → ¬ S i) : QueueE w' qb F R L := by
  obtain ⟨bs, Fs, h, hF⟩ := h
  exact ⟨bs, Fs, h.keep k (fun i hi => hs i ((hF i).2 hi)), hF⟩

theorem QueueP.lt (h : QueueP w qb R L bs Fs) {k : Nat} (hk : QBl qb Fs k) : k < w.heap.size := by
  rcases hk with rfl | ⟨i, h1, h2, hi⟩
  · exact lt_of_block h.blk
  · exact RingG.lt (h.ring i h1 h2) k hi

theorem QueueE.lt (h : QueueE w qb F R L) {k : Nat} (hk : F k) : k < w.heap.size := by
  obtain ⟨bs, Fs, h, hF⟩ := h
  exact h.lt ((hF k).1 hk)

theorem QueueE.cnt (h : QueueE w qb F R L) {i : Nat} (h1 : 1 ≤ i) (h2 : i ≤ 3) : (L i).length ≤ R i ∧ R i ≤ 1024 := by
  obtain ⟨bs, Fs, h, hF⟩ := h
  exact RingG.cnt (h.ring i h1 h2)

/-- One band is another one behind a call. -/
theorem QueueP.step (h : QueueP w qb R L bs Fs) {i : Nat} (h1 : 1 ≤ i) (h2 : i ≤ 3) {F' : Nat → Prop} {l' : List Ev} (r : RingE w' (bs i) F' (R i) l') (u : Upd (Fs i) w w' F') :
    QueueP w' qb R (upd L i l') bs (upd Fs i F') ∧ Upd (QBl qb Fs) w w' (QBl qb (upd Fs i F')) := by
  have hlt : ∀ j, 1 ≤ j → j ≤ 3 → ∀ k, Fs j k → k < w.heap.size := fun j a b k hk => RingG.lt (h.ring j a b) k hk
  refine ⟨⟨u.keeps.heap (h.out i h1 h2) h.blk, fun j a b => ?_, fun j a b => ?_, fun a b a1 a2 b1 b2 hab k => ?_⟩, u.keeps.mono (fun k _ hk => Or.inr ⟨i, h1, h2, hk⟩), fun k hk => ?_⟩
  · by_cases e : j = i
    · subst e; rw [upd_at, upd_at]; exact r
    · rw [upd_ne _ _ e, upd_ne _ _ e]; exact RingG.keep (h.ring j a b) u.keeps (fun k hk => h.sep j i a b h1 h2 e k hk)
  · by_cases e : j = i
    · subst e; rw [upd_at]; exact u.out (lt_of_block h.blk) (h.out j h1 h2)
    · rw [upd_ne _ _ e]; exact h.out j a b
  · by_cases ea : a = i
    · have eb : b ≠ i := fun e => hab (ea.trans e.symm)
      subst ea
      rw [upd_at, upd_ne _ _ eb]
      intro hk hb
      rcases u.fresh k hk with h' | h'
      · exact h.sep a b a1 a2 b1 b2 hab k h' hb
      · have := hlt b b1 b2 k hb; omega
    · rw [upd_ne _ _ ea]
      intro hk
      by_cases eb : b = i
      · subst eb
        rw [upd_at]
        exact u.out (hlt a a1 a2 k hk) (h.sep a b a1 a2 b1 b2 hab k hk)
      · rw [upd_ne _ _ eb]; exact h.sep a b a1 a2 b1 b2 hab k hk
  · rcases hk with rfl | ⟨j, a, b, hj⟩
    · exact Or.inl (Or.inl rfl)
    · by_cases e : j = i
      · subst e
        rw [upd_at] at hj
        rcases u.fresh k hj with h' | h'
        · exact Or.inl (Or.inr ⟨j, a, b, h'⟩)
        · exact Or.inr h'
      · rw [upd_ne _ _ e] at hj
        exact Or.inl (Or.inr ⟨j, a, b, hj⟩)

theorem QueueP.up (h : QueueP w qb R L bs Fs) (hF : ∀ k, F k ↔ QBl qb Fs k) {i : Nat} (h1 : 1 ≤ i) (h2 : i ≤ 3) {F' : Nat → Prop} {l' : List Ev} (r : RingE w' (bs i) F' (R i) l') (u : Upd (Fs i) w w' F') :
    ∃ F'', QueueE w' qb F'' R (upd L i l') ∧ Upd F w w' F'' := by
  have := h.step h1 h2 r u
  have e : F = QBl qb Fs := funext fun k => propext (hF k)
  exact ⟨QBl qb (upd Fs i F'), ⟨_, _, this.1, fun _ => Iff.rfl⟩, e ▸ this.2⟩
end

set_option maxHeartbeats 400000 in
theorem isprio_any (p : Int) (w : World) (t : Bool) (ht : Hid (t = decide (1 ≤ p ∧ p ≤ 3))) :
    Calls Try.prog 40 #[.int .u8 p] w fun e w' => e = .returned (.bool t) ∧ w = w' := by
  by_cases h0 : 1 ≤ p
  · by_cases h1 : p ≤ 3
    · have hd : t = true := by rw [ht.out]; simp [h0, h1]
      subst hd
      clear ht
      go_enter Try.func40, Try.ntmps40
      go_wp2
      go_ret
      exact ⟨rfl, rfl⟩
    · have hd : t = false := by rw [ht.out]; simp [h1]
      have hd1 : decide (p ≤ 3) = false := by simpa using h1
      subst hd
      clear ht
      go_enter Try.func40, Try.ntmps40
      go_wp2
      go_ret
      exact ⟨rfl, rfl⟩
  · have hd : t = false := by rw [ht.out]; simp [h0]
    have hd1 : decide (1 ≤ p) = false := by simpa using h0
    subst hd
    clear ht
    go_enter Try.func40, Try.ntmps40
    go_wp2
    go_ret
    exact ⟨rfl, rfl⟩

set_option maxHeartbeats 400000 in
theorem qband_ok {w : World} {qb : Nat} {R : Nat → Nat} {L : Nat → List Ev} {bs : Nat → Nat} {Fs : Nat → Nat → Prop} (h : QueueP w qb R L bs Fs) {p : Int} {i : Nat} (hp : p = i) (h1 : 1 ≤ i) (h2 : i ≤ 3) :
    Calls Try.prog 38 #[.pointer (some ⟨qb, 0, none⟩), .int .u8 p] w fun e w' => e = .returned (.pointer (some ⟨bs i, 0, none⟩)) ∧ w = w' := by
  have c0 := cell_at (i := 0) h.blk rfl
  have c1 := cell_at (i := 1) h.blk rfl
  have c2 := cell_at (i := 2) h.blk rfl
  clear h
  rcases (show i = 1 ∨ i = 2 ∨ i = 3 by omega) with rfl | rfl | rfl
  all_goals
    subst hp
    clear h1 h2
    go_enter Try.func38, Try.ntmps38
    go_wp2_with (go_at_call 40; refine (isprio_any _ _ true (hid (by decide))).mono ?_; rintro e w' ⟨rfl, rfl⟩)
    go_ret
    exact ⟨rfl, rfl⟩

set_option maxHeartbeats 400000 in
theorem qband_none (q : Nat) (p : Int) (w : World) (hp : p < 1 ∨ 3 < p) :
    Calls Try.prog 38 #[.pointer (some ⟨q, 0, none⟩), .int .u8 p] w fun e w' => e = .returned (.pointer none) ∧ w = w' := by
  have hh := isprio_any p w false (hid (by simp; omega))
  clear hp
  go_enter Try.func38, Try.ntmps38
  go_wp2_with (go_at_call 40; refine hh.mono ?_; rintro e w' ⟨rfl, rfl⟩)
  go_ret
  exact ⟨rfl, rfl⟩

set_option maxHeartbeats 1000000 in
set_option maxRecDepth 100000 in
theorem erepl_none {w : World} {b room : Nat} {F : Nat → Prop} {l : List Ev} (h : RingE w b F room l) (x : Ev) (hn : ∀ y ∈ l, y.rule ≠ x.rule) :
    Calls Try.prog 41 #[.pointer (some ⟨b, 0, none⟩), x.val] w fun e w' => e = .returned (.bool false) ∧ Keeps No w w' := by
  obtain ⟨xr, xo, xa⟩ := x
  unfold Ev.val
  have hcn := RingG.cnt h
  obtain ⟨hcn1, hcn2⟩ := hcn
  have h1 : RingE (w.alloc (.cells #[.int .i64 xr, .bool xo, .int .i64 xa] 64)) b F room l := RingG.keep h ((Keeps.refl No _).alloc _) (fun _ _ h => h)
  have hbx := heap_alloc_new w (.cells #[.int .i64 xr, .bool xo, .int .i64 xa] 64)
  have hk1 : Keeps No w (w.alloc (.cells #[.int .i64 xr, .bool xo, .int .i64 xa] 64)) := (Keeps.refl No _).alloc _
  obtain ⟨w1, hw1⟩ : ∃ w1, w1 = w.alloc (.cells #[.int .i64 xr, .bool xo, .int .i64 xa] 64) := ⟨_, rfl⟩
  have HW1 := hid hw1
  rw [← hw1] at h1 hbx hk1
  have c2 := RingE.len_cell h1
  have H1 := hid h1
  have HBX := hid hbx
  have HK1 := hid hk1
  have HN := hid hn
  clear h h1 hbx hk1 hw1 hn
  go_enter Try.func41, Try.ntmps41
  go_wp2_with fail
  rw [← HW1.out]
  refine (elen_any _ _ _ c2).mono ?_
  rintro e w' ⟨rfl, rfl⟩
  go_wp2_with fail
  go_loopw [10] (fun v10 wr => ∃ k : Nat, k ≤ l.length ∧ v10 = .int .i64 k ∧ Hid (Keeps No w1 wr)) (fun v10 _ => l.length - (intOf v10).toNat)
  case atStart => exact ⟨0, Nat.zero_le _, rfl, hid (Keeps.refl _ _)⟩
  case round =>
    obtain ⟨k, hk, rfl, HK⟩ := hrel
    by_cases hlt : k < l.length
    · have hne := HN.out l[k] (List.getElem_mem hlt)
      have h2 := RingG.keep H1.out HK.out (fun _ _ h => h)
      have hat := eat_ok h2 hlt
      obtain ⟨y, hy⟩ : ∃ y, l[k] = y := ⟨_, rfl⟩
      rw [hy] at hat hne
      obtain ⟨yr, yo, ya⟩ := y
      unfold Ev.val at hat
      have hne' : (yr == xr) = false := by simpa using hne
      clear hy hne h2
      go_wp2_with fail
      refine hat.mono ?_
      rintro e w3 ⟨rfl, k3⟩
      have hk3 := HK.out.trans k3
      have hb3 := hk3.heap (fun h => h) HBX.out
      have hl3 := lt_of_block hb3
      have hne3 : ¬ w.heap.size = w3.heap.size := by omega
      have b0 := cell_at (i := 0) hb3 rfl
      have HK3 := hid hk3
      clear k3 hat hk3 hb3
      go_wp2_with fail
      go_roundw
      case rel =>
        refine ⟨k + 1, by omega, by go_num, hid ?_⟩
        have hk3 := HK3.out
        have hs3 := hk3.size
        repeat' (first | with_reducible exact hk3 | with_reducible refine Keeps.setCell ?_ ?_ _ | with_reducible refine Keeps.alloc ?_ _ | exact Or.inl hs3)
      case measure => simp [intOf]; omega
    · have hkl : k = l.length := by omega
      subst hkl
      go_wp2_with fail
      go_ret
      exact ⟨rfl, HK1.out.trans HK.out⟩

set_option maxHeartbeats 1000000 in
set_option maxRecDepth 100000 in
theorem erepl_ok {w : World} {b room : Nat} {F : Nat → Prop} {l : List Ev} (h : RingE w b F room l) (x : Ev) {i : Nat} (hi : i < l.length) (he : l[i].rule = x.rule) (hn : ∀ (j : Nat) (h : j < l.length), j < i → l[j].rule ≠ x.rule) :
    Calls Try.prog 41 #[.pointer (some ⟨b, 0, none⟩), x.val] w fun e w' => e = .returned (.bool true) ∧ ∃ F', RingE w' b F' room (l.set i x) ∧ Upd F w w' F' := by
  obtain ⟨xr, xo, xa⟩ := x
  have hval : (⟨xr, xo, xa⟩ : Ev).val = .agg #[.int .i64 xr, .bool xo, .int .i64 xa] := rfl
  rw [hval]
  have HV := hid hval
  clear hval
  have hcn := RingG.cnt h
  obtain ⟨hcn1, hcn2⟩ := hcn
  have h1 : RingE (w.alloc (.cells #[.int .i64 xr, .bool xo, .int .i64 xa] 64)) b F room l := RingG.keep h ((Keeps.refl No _).alloc _) (fun _ _ h => h)
  have hbx := heap_alloc_new w (.cells #[.int .i64 xr, .bool xo, .int .i64 xa] 64)
  have hk1 : Keeps No w (w.alloc (.cells #[.int .i64 xr, .bool xo, .int .i64 xa] 64)) := (Keeps.refl No _).alloc _
  obtain ⟨w1, hw1⟩ : ∃ w1, w1 = w.alloc (.cells #[.int .i64 xr, .bool xo, .int .i64 xa] 64) := ⟨_, rfl⟩
  have HW1 := hid hw1
  rw [← hw1] at h1 hbx hk1
  have c2 := RingE.len_cell h1
  have H1 := hid h1
  have HBX := hid hbx
  have HK1 := hid hk1
  have HN := hid hn
  have HE := hid he
  clear h h1 hbx hk1 hw1 hn he
  go_enter Try.func41, Try.ntmps41
  go_wp2_with fail
  rw [← HW1.out]
  refine (elen_any _ _ _ c2).mono ?_
  rintro e w' ⟨rfl, rfl⟩
  go_wp2_with fail
  go_loopw [10] (fun v10 wr => ∃ k : Nat, k ≤ i ∧ v10 = .int .i64 k ∧ Hid (Keeps No w1 wr)) (fun v10 _ => l.length - (intOf v10).toNat)
  case atStart => exact ⟨0, Nat.zero_le _, rfl, hid (Keeps.refl _ _)⟩
  case round =>
    obtain ⟨k, hk, rfl, HK⟩ := hrel
    have hlt : k < l.length := by omega
    have h2 := RingG.keep H1.out HK.out (fun _ _ h => h)
    have hat := eat_ok h2 hlt
    by_cases hki : k < i
    · have hne := HN.out k hlt hki
      obtain ⟨y, hy⟩ : ∃ y, l[k] = y := ⟨_, rfl⟩
      rw [hy] at hat hne
      obtain ⟨yr, yo, ya⟩ := y
      unfold Ev.val at hat
      have hne' : (yr == xr) = false := by simpa using hne
      clear hy hne h2
      go_wp2_with fail
      refine hat.mono ?_
      rintro e w3 ⟨rfl, k3⟩
      have hk3 := HK.out.trans k3
      have hb3 := hk3.heap (fun h => h) HBX.out
      have hl3 := lt_of_block hb3
      have hne3 : ¬ w.heap.size = w3.heap.size := by omega
      have b0 := cell_at (i := 0) hb3 rfl
      have HK3 := hid hk3
      clear k3 hat hk3 hb3
      go_wp2_with fail
      go_roundw
      case rel =>
        refine ⟨k + 1, by omega, by go_num, hid ?_⟩
        have hk3 := HK3.out
        have hs3 := hk3.size
        repeat' (first | with_reducible exact hk3 | with_reducible refine Keeps.setCell ?_ ?_ _ | with_reducible refine Keeps.alloc ?_ _ | exact Or.inl hs3)
      case measure => simp [intOf]; omega
    · obtain rfl : k = i := by omega
      have hne := HE.out
      obtain ⟨y, hy⟩ : ∃ y, l[k] = y := ⟨_, rfl⟩
      rw [hy] at hat hne
      obtain ⟨yr, yo, ya⟩ := y
      unfold Ev.val at hat
      have hne' : (yr == xr) = true := by simpa using hne
      clear hy hne h2
      go_wp2_with fail
      refine hat.mono ?_
      rintro e w3 ⟨rfl, k3⟩
      have hk3 := HK.out.trans k3
      have hb3 := hk3.heap (fun h => h) HBX.out
      have hl3 := lt_of_block hb3
      have hne3 : ¬ w.heap.size = w3.heap.size := by omega
      have b0 := cell_at (i := 0) hb3 rfl
      have b1 := cell_at (i := 1) hb3 rfl
      have b2 := cell_at (i := 2) hb3 rfl
      have HK3 := hid hk3
      clear k3 hat hk3 hb3
      go_wp2_with fail
      have hk5 : ∀ w5, Keeps No w3 w5 → RingE w5 b F room l := fun w5 k5 => RingG.keep H1.out (HK3.out.trans k5) (fun _ _ h => h)
      rw [← HV.out]
      refine (eset_ok (hk5 _ ?c1) hlt _).mono ?_
      case c1 => repeat' (first | with_reducible exact Keeps.refl _ _ | with_reducible refine Keeps.setCell ?_ ?_ _ | with_reducible refine Keeps.alloc ?_ _ | exact Or.inl (Nat.le_refl _))
      rintro e w6 ⟨rfl, F', h6, u6⟩
      have H6 := hid h6
      have U6 := hid u6
      clear h6 u6
      go_wp2_with fail
      go_ret
      refine ⟨rfl, F', H6.out, ?_⟩
      exact Upd.behind ((HK1.out.trans HK3.out).alloc _) U6.out

end Go.Proofs.Ytoodlhagecannaa
