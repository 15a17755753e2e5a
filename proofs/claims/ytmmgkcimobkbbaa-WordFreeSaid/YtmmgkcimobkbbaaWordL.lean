/-
  What the laws of layer 5 share: the document's example, items laid twice, a number's lowest 32 bits.
-/
import Derived.Test.YtmmgkcimobkbbaaIn2
namespace Go.Proofs.Ytmmgkcimobkbbaa
open Go.RowKit

set_option maxHeartbeats 2000000 in
set_option maxRecDepth 100000 in
theorem lays_true (w : World) :
    Calls Try.prog 8 #[] w fun r w' => r = .returned (.bool true) ∧ Keeps No w w' := by
  have HW := hid (Wr.new w)
  have e1 : (⟨[2], 0, 0⟩ : RS).flag = (false, ⟨[], 0, 2⟩) := by simp [RS.flag]
  have e2 : (⟨[], 0, 2⟩ : RS).fault = (0, 2) := by simp [RS.fault]
  have HE1 := hid e1
  have HE2 := hid e2
  clear e1 e2
  go_enter Try.func8, Try.ntmps8
  go_wp2_with fail
  with_reducible refine (rnew_any (p := [2]) ?s1 ?s2 ?s3).mono ?_
  case s1 => exact Sl.newAt (by simp) #[.int .u8 2] _ 1 1 rfl (by decide)
  case s2 => intro x hx; simp at hx; omega
  case s3 => decide
  rintro r w1 ⟨rb, F, rfl, hr, hk, hf⟩
  simp at hf
  have k1 : Keeps No (w.alloc (.cells #[.slice none 0 0] 44)) w1 := ((Keeps.refl No _).alloc _).trans hk
  have HW1 := hid (HW.out.keep k1 (fun _ _ h => h))
  have HK1 := hid (((Keeps.refl No w).alloc _).trans k1)
  have HF := hid hf
  have HR := hid hr
  clear hr hk hf k1 HW
  go_wp2_with fail
  with_reducible refine (rflag_any HR.out).mono ?_
  rw [HE1.out]
  rintro r w2 ⟨rfl, hr, hk⟩
  have hrb : w.heap.size + 1 + 1 ≤ rb := (HF.out rb (by obtain ⟨lv, h⟩ := hr; exact h.rb)).1
  have HW2 := hid (HW1.out.keep hk (fun i hi e => by omega))
  have HK2 := hid (HK1.out.trans' hk (fun _ _ h => h) (fun i hi e => by omega))
  have HR2 := hid hr
  clear hr hk HR HW1 HK1
  go_wp2_with fail
  with_reducible refine (rfault_any HR2.out).mono ?_
  rw [HE2.out]
  rintro r w3 ⟨rfl, hk⟩
  have HW3 := hid (HW2.out.keep hk (fun _ _ h => h))
  have HK3 := hid (HK2.out.trans hk)
  clear hk HW2 HK2 HR2
  go_wp2_with fail
  with_reducible refine (wbyte_any HW3.out 7 (by decide)).mono ?_
  rintro r w4 ⟨rfl, F4, hw, hu⟩
  have hn := newUpd (by intro i hi; omega) HK3.out hu
  have HW4 := hid hw
  have HN4 := hid hn
  clear hw hu hn HW3 HK3
  go_wp2_with fail
  with_reducible refine (wint_any HW4.out (-2) (by decide)).mono ?_
  rintro r w5 ⟨rfl, F5, hw, hu⟩
  have hn := newUpd HN4.out.1 HN4.out.2 hu
  have HW5 := hid hw
  have HN5 := hid hn
  clear hw hu hn HW4 HN4
  go_wp2_with fail
  with_reducible refine (wbytes_any HW5.out (by decide)).mono ?_
  rintro r w6 ⟨v6, rfl, ho, hk, hb⟩
  have h6 : SlB w6 v6 [7, 255, 255, 255, 254] := Sl.ofOwn ho
  have HK6 := hid (HN5.out.2.trans hk)
  obtain ⟨a6, c6, rfl⟩ := h6.any
  have H6 : Hid (SlB w6 (.slice a6 5 c6) [7, 255, 255, 255, 254]) := hid h6
  clear h6 ho hk hb HW5 HN5
  go_wp2_with fail
  with_reducible refine (mbytes_true (l := [7, 255, 255, 255, 254]) ?s3 ?s4).mono ?_
  case s3 => exact Sl.alloc H6.out _
  case s4 => exact Sl.new _ #[.int .u8 7, .int .u8 255, .int .u8 255, .int .u8 255, .int .u8 254] _ 1 5 rfl (by decide)
  rintro r w7 ⟨rfl, hk⟩
  have HK7 := hid ((HK6.out.alloc _).trans hk)
  clear hk
  go_wp2_with fail
  go_ret
  exact ⟨rfl, HK7.out⟩

/-- An item's cells. -/
def encIt (y : Int × Int) : List Value := [.int .u8 y.1, .int .i64 y.2]
def goodIt (y : Int × Int) : Prop := 0 ≤ y.1 ∧ y.1 ≤ 255

set_option maxRecDepth 100000 in
theorem decIt {H : Type} {enc : TypeId × Value → H} {W : World} {n : Nat} {cs : List Value} {x} (h : DataW.trod enc Try.prog W 0 (fun _ => true) true n 31 cs = some x) : ∃ y : Int × Int, cs = encIt y ∧ goodIt y := by
  obtain ⟨y0, y1, m, _, hl, h0, h1⟩ := Go.ChangeShapes.trod_struct2 Try.underlying31 h
  rw [show Try.prog.cellsOf 31 = 2 by kernel_rfl] at hl
  match cs, hl with
  | [c0, c1], _ =>
    dsimp only at h0 h1
    rw [show Try.prog.cellsOf 5 = 1 by kernel_rfl] at h0
    rw [show Try.prog.cellsOf 3 = 1 by kernel_rfl] at h1
    obtain ⟨a, e0, _, w0⟩ := DataW.trod_int Try.underlying5 h0
    obtain ⟨b, e1, _, w1⟩ := DataW.trod_int Try.underlying3 h1
    simp at e0 e1
    obtain ⟨h0, h1⟩ := bounds_u8 w0
    exact ⟨(a, b), by simp [e0, e1, encIt], h0, h1⟩

/-- An item's bytes. -/
def itemB (y : Int × Int) : List Int := if y.1 % 3 = 0 then [y.2 % 256] else if y.1 % 3 = 1 then [flagB (decide (0 < y.2))] else int4 y.2
def layL (l : List (Int × Int)) : List Int := l.flatMap itemB

theorem itemB_len (y : Int × Int) : (itemB y).length ≤ 4 := by unfold itemB int4; split <;> (try split) <;> simp

theorem layL_len (l : List (Int × Int)) : (layL l).length ≤ 4 * l.length := by
  unfold layL
  induction l with
  | nil => simp
  | cons x r ih => have := itemB_len x; simp only [List.flatMap_cons, List.length_append, List.length_cons]; omega

theorem layL_take (l : List (Int × Int)) {k : Nat} (hk : k < l.length) : layL (l.take (k + 1)) = layL (l.take k) ++ itemB l[k] := by
  unfold layL
  rw [List.take_succ_eq_append_getElem hk, List.flatMap_append]; simp

theorem flagB_byte (b : Bool) : 0 ≤ flagB b ∧ flagB b ≤ 255 := by cases b <;> simp [flagB]

theorem itemB_bytes (y : Int × Int) : Bytes (itemB y) := by
  intro x hx
  unfold itemB int4 at hx
  split at hx
  · simp at hx; subst hx; omega
  · split at hx
    · simp only [List.mem_singleton] at hx; subst hx; exact flagB_byte _
    · simp at hx; omega

theorem layL_bytes (l : List (Int × Int)) : Bytes (layL l) := by
  intro x hx
  unfold layL at hx
  rw [List.mem_flatMap] at hx
  obtain ⟨y, _, hy⟩ := hx
  exact itemB_bytes y x hy

/-- A writer of the call's own, and a row of the call's own beside it. -/
structure Two (w wr : World) (wb : Nat) (F : Nat → Prop) (lw lp : List Int) (v : Value) : Prop where
  wtr : Wr wr wb F lw
  own : wr.ownsRow 0 5 1 v lp.length (lp.map (Value.int .u8))
  sep : ∀ k, v.ownBlock = some k → ¬ F k
  newF : ∀ k, F k → w.heap.size ≤ k
  newV : ∀ k, v.ownBlock = some k → w.heap.size ≤ k
  old : Keeps No w wr

section
variable {w wr w2 : World} {wb : Nat} {F F2 : Nat → Prop} {lw lw2 lp lp2 : List Int} {v v2 : Value}

theorem Two.lay (h : Two w wr wb F lw lp v) (hw : Wr w2 wb F2 lw2) (u : Upd F wr w2 F2) : Two w w2 wb F2 lw2 lp v :=
  have hn := newUpd h.newF h.old u
  ⟨hw, u.keeps.own h.own h.sep, fun k hk => u.out (h.own.lt k hk).2 (h.sep k hk), hn.1, h.newV, hn.2⟩

theorem Two.calm (h : Two w wr wb F lw lp v) (k : Keeps No wr w2) : Two w w2 wb F lw lp v :=
  ⟨h.wtr.keep k (fun _ _ h => h), k.own h.own (fun _ _ h => h), h.sep, h.newF, h.newV, h.old.trans k⟩

theorem Two.app (h : Two w wr wb F lw lp v) (ho : w2.ownsRow 0 5 1 v2 lp2.length (lp2.map (Value.int .u8))) (k : Keeps (Bl v) wr w2) (hb : ∀ k, v2.ownBlock = some k → v.ownBlock = some k ∨ wr.heap.size ≤ k) : Two w w2 wb F lw lp2 v2 := by
  refine ⟨h.wtr.keep k (fun i hi hv => h.sep i hv hi), ho, fun i hi hf => ?_, h.newF, fun i hi => ?_, h.old.trans' k (fun _ _ h => h) (fun i hi hv => by have := h.newV i hv; omega)⟩
  · rcases hb i hi with h' | h'
    · exact h.sep i h' hf
    · have := h.wtr.lt i hf; omega
  · rcases hb i hi with h' | h'
    · exact h.newV i h'
    · exact Nat.le_trans h.old.size h'
end

set_option maxHeartbeats 4000000 in
set_option maxRecDepth 100000 in
theorem lay_law {w : World} {sv : Option Addr} {cap : Nat} {l : List (Int × Int)} (hs : Sl w 2 (.slice sv l.length cap) l.length (l.flatMap encIt)) (hg : ∀ y ∈ l, goodIt y) (hl : l.length ≤ 60) :
    Calls Try.prog 9 #[.slice sv l.length cap] w fun r w' => ∃ v1 v2, r = .returned (.tuple #[v1, v2]) ∧ SlB w' v1 (layL l) ∧ SlB w' v2 (layL l) ∧ Keeps No w w' := by
  obtain ⟨i0, hi, hz0, hz1, hz2⟩ := info_parts info_byte
  have HI := hid hi
  have HS := hid hs
  have HG := hid hg
  have H0 : Hid (Two w (w.alloc (.cells #[.slice none 0 0] 44)) w.heap.size (fun k => k = w.heap.size) [] [] (.slice none 0 0)) :=
    hid ⟨Wr.new w, World.ownsRow_nil _ _ _ _, fun k hk => by simp [Value.ownBlock] at hk, fun k hk => by omega, fun k hk => by simp [Value.ownBlock] at hk, (Keeps.refl _ _).alloc _⟩
  clear hi hs hg
  go_enter Try.func9, Try.ntmps9
  go_wp2_with fail
  go_loopw [5, 6] (fun v5 v6 wr => ∃ k : Nat, k ≤ l.length ∧ v6 = .int .i64 k ∧ ∃ F, Hid (Two w wr w.heap.size F (layL (l.take k)) (layL (l.take k)) v5)) (fun _ v6 _ => l.length - (intOf v6).toNat)
  case atStart => exact ⟨0, Nat.zero_le _, rfl, _, H0⟩
  case round =>
    obtain ⟨k, hk, rfl, F, HT⟩ := hrel
    clear H0
    by_cases hlt : k < l.length
    · have HL := hid (layL_take l hlt)
      have hlen := layL_len (l.take k)
      rw [List.length_take] at hlen
      obtain ⟨a5, c5, rfl⟩ := own_any HT.out.own
      obtain ⟨d, x, hy⟩ : ∃ d x, l[k] = (d, x) := ⟨_, _, rfl⟩
      have hgd := HG.out l[k] (List.getElem_mem hlt)
      rw [hy] at hgd HL
      obtain ⟨hd0, hd1⟩ := hgd
      simp only at hd0 hd1
      obtain ⟨g, off, rfl, hglt, hc0⟩ := Sl.cellAt HS.out (j := k * 2 + 0) (u := .int .u8 d) (by rw [getElem?_flatMap_enc (size := 2) (fun _ => rfl) l k 0 (by omega) hlt, hy]; rfl)
      obtain ⟨g', off', he, _, hc1⟩ := Sl.cellAt HS.out (j := k * 2 + 1) (u := .int .i64 x) (by rw [getElem?_flatMap_enc (size := 2) (fun _ => rfl) l k 1 (by omega) hlt, hy]; rfl)
      simp only [Option.some.injEq, Addr.mk.injEq, and_true] at he
      obtain ⟨rfl, rfl⟩ := he
      simp only [Nat.add_zero] at hc0
      rw [← Nat.add_assoc] at hc1
      have HC1 := hid hc1
      have x0 := HT.out.old.cell (fun h => h) hc0
      have x1 := HT.out.old.cell (fun h => h) hc1
      clear hy hc0 hc1
      rcases (show d % 3 = 0 ∨ d % 3 = 1 ∨ d % 3 = 2 by omega) with h3 | h3 | h3
      · have hitem : itemB (d, x) = [x % 256] := by unfold itemB; simp [h3]
        have e0 : (d % 3 == 0) = true := by simp [h3]
        rw [hitem] at HL
        clear hitem h3
        go_wp2_with fail
        with_reducible refine (wbyte_any HT.out.wtr (x % 256) (by omega)).mono ?_
        rintro r w1 ⟨rfl, F1, hw, hu⟩
        have HT1 := hid (HT.out.lay hw hu)
        have x1 := HT1.out.old.cell (fun h => h) HC1.out
        clear hw hu HT x0
        go_wp2_with (at_builtin; refine wpl_append rfl _ _ 24 rfl 5 i0 (.int .u8 0) 1 1 Try.underlying24 HI.out hz0 hz1 hz2 rfl (by decide) _ _ _ _ _ _ rfl rfl (HT1.out.own.alloc _) (Sl.new _ _ _ _ 1 rfl (by decide)) ?c2 ?c3 ?c4 ?_)
        case c2 => rfl
        case c3 => unfold maxLen; omega
        case c4 => omega
        intro v2 w2 ho2 k2 hb2
        have HT2 := hid ((HT1.out.calm ((Keeps.refl _ _).alloc _)).app (lp2 := layL (l.take k) ++ [x % 256]) (by rw [List.length_append, List.map_append]; exact ho2) k2 (by simpa using hb2))
        clear ho2 k2 hb2 HT1 x1
        go_wp2_with fail
        go_roundw
        case rel => exact ⟨k + 1, by omega, by go_num, _, hid (by rw [HL.out]; exact HT2.out)⟩
        case measure => simp [intOf]; omega
      · have hitem : itemB (d, x) = [flagB (decide (0 < x))] := by unfold itemB; simp [h3]
        have e0 : (d % 3 == 0) = false := by simp [h3]
        have e1 : (d % 3 == 1) = true := by simp [h3]
        rw [hitem] at HL
        clear hitem h3
        go_wp2_with fail
        with_reducible refine (wflag_any HT.out.wtr (decide (0 < x)) (by omega)).mono ?_
        rintro r w1 ⟨rfl, F1, hw, hu⟩
        have HT1 := hid (HT.out.lay hw hu)
        have x1 := HT1.out.old.cell (fun h => h) HC1.out
        clear hw hu HT x0
        go_wp2_with fail
        with_reducible refine (mflag_any (decide (0 < x)) _).mono ?_
        rintro r w' ⟨rfl, rfl⟩
        go_wp2_with (at_builtin; refine wpl_append rfl _ _ 24 rfl 5 i0 (.int .u8 0) 1 1 Try.underlying24 HI.out hz0 hz1 hz2 rfl (by decide) _ _ _ _ _ _ rfl rfl (HT1.out.own.alloc _) (Sl.new _ _ _ _ 1 rfl (by decide)) ?c2 ?c3 ?c4 ?_)
        case c2 => rfl
        case c3 => unfold maxLen; omega
        case c4 => omega
        intro v2 w2 ho2 k2 hb2
        have HT2 := hid ((HT1.out.calm ((Keeps.refl _ _).alloc _)).app (lp2 := layL (l.take k) ++ [flagB (decide (0 < x))]) (by rw [List.length_append, List.map_append]; exact ho2) k2 (by simpa using hb2))
        clear ho2 k2 hb2 HT1 x1
        go_wp2_with fail
        go_roundw
        case rel => exact ⟨k + 1, by omega, by go_num, _, hid (by rw [HL.out]; exact HT2.out)⟩
        case measure => simp [intOf]; omega
      · have hitem : itemB (d, x) = int4 x := by unfold itemB; simp [h3]
        have e0 : (d % 3 == 0) = false := by simp [h3]
        have e1 : (d % 3 == 1) = false := by simp [h3]
        rw [hitem] at HL
        clear hitem h3
        go_wp2_with fail
        with_reducible refine (wint_any HT.out.wtr x (by omega)).mono ?_
        rintro r w1 ⟨rfl, F1, hw, hu⟩
        have HT1 := hid (HT.out.lay hw hu)
        have x1 := HT1.out.old.cell (fun h => h) HC1.out
        clear hw hu HT x0
        go_wp2_with fail
        with_reducible refine (mint_any x _).mono ?_
        rintro r w2 ⟨vi, rfl, hvi, hk2⟩
        have HT2 := hid (HT1.out.calm hk2)
        have HV := hid hvi
        obtain ⟨ai, ci, rfl⟩ := hvi.any
        clear hk2 hvi HT1 x1
        go_wp2_with (at_builtin; refine wpl_append rfl _ _ 24 rfl 5 i0 (.int .u8 0) 1 1 Try.underlying24 HI.out hz0 hz1 hz2 rfl (by decide) _ _ _ _ _ _ rfl rfl HT2.out.own HV.out (bytes_one _) ?c3 ?c4 ?_)
        case c3 => unfold maxLen; simp [int4]; omega
        case c4 => simp [int4]; omega
        intro v3 w3 ho3 k3 hb3
        have HT3 := hid (HT2.out.app (lp2 := layL (l.take k) ++ int4 x) (by rw [List.length_append, List.map_append]; exact ho3) k3 hb3)
        clear ho3 k3 hb3 HT2 HV
        go_wp2_with fail
        go_roundw
        case rel => exact ⟨k + 1, by omega, by go_num, _, hid (by rw [HL.out]; exact HT3.out)⟩
        case measure => simp [intOf]; omega
    · obtain rfl : k = l.length := by omega
      have hT := HT.out
      rw [List.take_length] at hT
      have hlen := layL_len l
      have HT2 := hid hT
      obtain ⟨a5, c5, rfl⟩ := own_any hT.own
      clear HT hT
      go_wp2_with fail
      with_reducible refine (wbytes_any HT2.out.wtr (by omega)).mono ?_
      rintro r w1 ⟨v1, rfl, ho, hk1, hb⟩
      have H1 := hid (Sl.ofOwn ho)
      obtain ⟨a1, c1, rfl⟩ := own_any ho
      have HK1 := hid hk1
      clear ho hk1 hb
      go_wp2_with fail
      go_ret2
      exact ⟨_, _, rfl, H1.out, (Sl.ofOwn HT2.out.own).keep HK1.out (fun _ _ h => h), HT2.out.old.trans HK1.out⟩

/-- A number's lowest 32 bits, as a number. -/
def lowI (n : Int) : Int := (n + 2147483648) % 4294967296 - 2147483648

set_option maxHeartbeats 1000000 in
set_option maxRecDepth 100000 in
theorem low_any (n : Int) (w : World) :
    Calls Try.prog 15 #[.int .i64 n] w fun r w' => r = .returned (.int .i64 (lowI n)) ∧ w = w' := by
  obtain ⟨m, hm⟩ : ∃ m, n.tmod 4294967296 = m := ⟨_, rfl⟩
  have hb : -4294967295 ≤ m ∧ m ≤ 4294967295 := by
    have h1 := Int.tmod_lt_of_pos n (show (0 : Int) < 4294967296 by decide)
    have h2 := Int.lt_tmod_of_pos n (show (0 : Int) < 4294967296 by decide)
    omega
  have he : lowI n = if m ≥ 2147483648 then m - 4294967296 else if m < -2147483648 then m + 4294967296 else m := by
    have h1 := Int.tmod_add_mul_tdiv n 4294967296
    rw [hm] at h1
    unfold lowI
    split
    · omega
    · split <;> omega
  rw [he]
  clear he
  obtain ⟨hb0, hb1⟩ := hb
  by_cases h1 : m ≥ 2147483648
  · have d1 : decide (m ≥ 2147483648) = true := decide_eq_true h1
    have d2 : decide (m - 4294967296 < -2147483648) = false := decide_eq_false (by omega)
    rw [if_pos h1]
    go_enter Try.func15, Try.ntmps15
    go_wp2_with fail
    go_ret
    exact ⟨rfl, rfl⟩
  · have d1 : decide (m ≥ 2147483648) = false := decide_eq_false h1
    rw [if_neg h1]
    by_cases h2 : m < -2147483648
    · have d2 : decide (m < -2147483648) = true := decide_eq_true h2
      rw [if_pos h2]
      go_enter Try.func15, Try.ntmps15
      go_wp2_with fail
      go_ret
      exact ⟨rfl, rfl⟩
    · have d2 : decide (m < -2147483648) = false := decide_eq_false h2
      rw [if_neg h2]
      go_enter Try.func15, Try.ntmps15
      go_wp2_with fail
      go_ret
      exact ⟨rfl, rfl⟩

section
variable {w : World} {rb : Nat} {F : Nat → Prop}

theorem rbyte_one {b : Int} {t : List Int} {k : Nat} (h : Rd w rb F ⟨b :: t, k, 0⟩) :
    Calls Try.prog 12 #[.pointer (some ⟨rb, 0, none⟩)] w fun r w' => r = .returned (.int .u8 b) ∧ Rd w' rb F ⟨t, k + 1, 0⟩ ∧ Keeps (fun k => k = rb) w w' := rbyte_any h

theorem rflag_one {b : Bool} {t : List Int} {k : Nat} (h : Rd w rb F ⟨flagB b :: t, k, 0⟩) :
    Calls Try.prog 13 #[.pointer (some ⟨rb, 0, none⟩)] w fun r w' => r = .returned (.bool b) ∧ Rd w' rb F ⟨t, k + 1, 0⟩ ∧ Keeps (fun k => k = rb) w w' := by
  have := rflag_any h
  cases b <;> exact this

theorem int4_low (n : Int) : int32Of (n / 16777216 % 256) (n / 65536 % 256) (n / 256 % 256) (n % 256) = lowI n := by
  unfold int32Of lowI
  split <;> omega

theorem rint_one {n : Int} {t : List Int} {k : Nat} (h : Rd w rb F ⟨int4 n ++ t, k, 0⟩) :
    Calls Try.prog 14 #[.pointer (some ⟨rb, 0, none⟩)] w fun r w' => r = .returned (.int .i64 (lowI n)) ∧ Rd w' rb F ⟨t, k + 4, 0⟩ ∧ Keeps (fun k => k = rb) w w' := by
  have := rint_four h
  rwa [int4_low] at this

end

theorem layL_drop (l : List (Int × Int)) {k : Nat} (hk : k < l.length) : layL (l.drop k) = itemB l[k] ++ layL (l.drop (k + 1)) := by
  unfold layL
  rw [List.drop_eq_getElem_cons hk, List.flatMap_cons]

end Go.Proofs.Ytmmgkcimobkbbaa
