/-
  The document's example for layer 8; a scanner that is fed piece by piece.
-/
import Derived.Test.YthfjihpfcollfaaFr9
namespace Go.Proofs.Ythfjihpfcollfaa
open Go.RowKit

theorem look_part {m : List Int} (h1 : 1 ≤ m.length) (h2 : m.length ≤ 32) {i : Nat} (hi : i < (frm m).length) : look ((frm m).take i) = .begun := by
  rw [frm_len] at hi
  obtain ⟨R, hR⟩ : ∃ R, m ++ [((mof ((m.length : Int) :: m)).toNat : Int) / 256, ((mof ((m.length : Int) :: m)).toNat : Int) % 256] = R := ⟨_, rfl⟩
  have hRl : R.length = m.length + 2 := by rw [← hR]; simp
  have e : frm m = 85 :: 170 :: (m.length : Int) :: R := by rw [← hR]; simp [frm]
  rw [e]
  match i, hi with
  | 0, _ => rfl
  | 1, _ => rfl
  | 2, _ => rfl
  | j + 3, hi =>
    simp only [List.take_succ_cons, look]
    rw [if_pos (by simp; omega), if_pos (by rw [List.length_take, hRl]; simp; omega)]

theorem scan_part {m : List Int} (h1 : 1 ≤ m.length) (h2 : m.length ≤ 32) {i : Nat} (hi : i < (frm m).length) : scan ((frm m).take i) = ⟨[], 0, (frm m).take i⟩ := scan_begun (look_part h1 h2 hi)

theorem scan_one {m : List Int} (h1 : 1 ≤ m.length) (h2 : m.length ≤ 32) : scan (frm m) = ⟨[m], 0, []⟩ := by
  have := scan_frm [] h1 h2
  rw [List.append_nil, scan_nil] at this
  exact this

/-- A scanner of a call's own. -/
structure OwnS (w wr : World) (sb : Nat) (F : Nat → Prop) (q : List Int) (l : Nat) : Prop where
  sc : ScS wr sb F q l
  new : ∀ k, F k → w.heap.size ≤ k
  keep : Keeps No w wr

theorem OwnS.calm {w wr w2 : World} {sb : Nat} {F : Nat → Prop} {q : List Int} {l : Nat} (h : OwnS w wr sb F q l) (k : Keeps No wr w2) : OwnS w w2 sb F q l := ⟨h.sc.keep k (fun _ _ h => h), h.new, h.keep.trans k⟩

theorem OwnS.made {w w1 w2 : World} {F : Nat → Prop} (hk : Keeps No w w1) (h : ScS w2 w1.heap.size F [] 0) (k : Keeps No w1 w2) (f : ∀ i, F i → i = w1.heap.size) : OwnS w w2 w1.heap.size F [] 0 :=
  ⟨h, fun i hi => by rw [f i hi]; exact hk.size, hk.trans k⟩

/-- What a Feed leaves. -/
theorem OwnS.fed {w wr w2 : World} {sb : Nat} {F : Nat → Prop} {q : List Int} {l : Nat} (h : OwnS w wr sb F q l) {s : Sc} {tv : Value} (hf : FeedP wr w2 sb F s l tv) :
    ∃ (vs : List Value) (F' : Nat → Prop), OwnS w w2 sb F' s.rest (l + s.lost) ∧ Upd F wr w2 F' ∧ w2.ownsRow 0 26 1 tv vs.length vs ∧ RdAll w2 vs s.out ∧ New wr w2 tv ∧ (∀ u ∈ vs, New wr w2 u) ∧
    (∀ k, tv.ownBlock = some k → ¬ F' k) ∧ (∀ u ∈ vs, ∀ k, u.ownBlock = some k → ¬ F' k) ∧ (∀ u ∈ vs, ∀ k, tv.ownBlock = some k → u.ownBlock ≠ some k) ∧ (∀ k, F' k → k < w2.heap.size) ∧ (∀ u ∈ vs, Soft w2 u) := by
  obtain ⟨vs, F', h1, h2, h3, h4, h5, h6, h7, h8, h9⟩ := hf.ex
  have hn := newUpd h.new h.keep h4
  exact ⟨vs, F', ⟨h3, hn.1, hn.2⟩, h4, h1, h2, h5, h6, h7, h8, h9⟩

set_option maxHeartbeats 4000000 in
set_option maxRecDepth 100000 in
theorem told_true (w : World) : Calls Try.prog 14 #[] w fun e w' => e = .returned (.bool true) ∧ Keeps No w w' := by
  have hpart := fun i hi => scan_part (m := [7, 8]) (by decide) (by decide) (i := i) hi
  have hone := scan_one (m := [7, 8]) (by decide) (by decide)
  have hXl : (frm [7, 8]).length = 7 := by rw [frm_len]; rfl
  have hXb : Bytes (frm [7, 8]) := frm_bytes (by intro x hx; simp at hx; omega) (by decide)
  go_enter Try.func14, Try.ntmps14
  go_wp2_with fail
  refine new_any.mono ?_
  rintro e w1 ⟨F1, rfl, h1, k1, f1⟩
  have H1 := hid (OwnS.made (Keeps.refl No w) h1 k1 f1)
  have HF1 := hid f1
  have K1 := hid k1
  clear h1 f1 k1
  go_wp2_with fail
  refine (frame_any (p := [7, 8]) (Sl.new _ #[.int .u8 7, .int .u8 8] _ 1 2 rfl (by decide)) (by intro x hx; simp at hx; omega) (by decide)).mono ?_
  rintro e w2 ⟨v2, rfl, ho2, k2, f2⟩
  rw [hXl] at ho2
  obtain ⟨X, hX⟩ : ∃ X, frm [7, 8] = X := ⟨_, rfl⟩
  rw [hX] at ho2 hpart hone hXl hXb
  obtain ⟨a2, c2, rfl⟩ := own_any ho2
  have hb2 : ∀ k, (Value.slice a2 7 c2).ownBlock = some k → w1.heap.size ≤ k ∧ k < w2.heap.size := fun k hk => ⟨by have := f2 k hk; simp at this; omega, own_lt ho2 k hk⟩
  have hn2 : ∀ k, (Value.slice a2 7 c2).ownBlock = some k → ¬ F1 k := fun k hk hF => by
    have h1 := HF1.out k hF
    have h2 := (hb2 k hk).1
    have h3 := lt_of_block (H1.out.sc.choose_spec.blk)
    omega
  have HO2 := hid ho2
  have H2 := hid (H1.out.calm (((Keeps.refl No w1).alloc _).trans k2))
  have HB2 := hid hb2
  have HN2 := hid hn2
  have HP := hid hpart
  have HONE := hid hone
  have HXL := hid hXl
  have HXB := hid hXb
  clear ho2 k2 f2 hb2 hn2 hpart hone hXl hXb hX H1 HF1 K1
  go_wp2_with fail
  go_loopw [3] (fun v3 wr => ∃ (i : Nat) (F : Nat → Prop), i ≤ 6 ∧ v3 = .int .i64 i ∧ Hid (OwnS w wr w.heap.size F (X.take i) 0) ∧ Hid (wr.ownsRow 0 5 1 (.slice a2 7 c2) 7 (X.map (Value.int .u8))) ∧ Hid (∀ k, (Value.slice a2 7 c2).ownBlock = some k → ¬ F k)) (fun v3 _ => 6 - (intOf v3).toNat)
  case atStart => exact ⟨0, F1, by omega, rfl, H2, HO2, HN2⟩
  case round =>
    clear H2 HO2 HN2
    obtain ⟨i, F, hi, rfl, H, HO, HN⟩ := hrel
    have hs : SlB wr (.slice a2 X.length c2) X := by rw [HXL.out]; have := Sl.ofOwn HO.out; unfold SlB; rw [HXL.out]; exact this
    by_cases hlt : i < 6
    · obtain ⟨a4, c4, hs4, hr4, _⟩ := piece hs i (i + 1) (by omega) (by rw [HXL.out]; omega)
      have e4 : (X.drop i).take (i + 1 - i) = [X[i]'(by rw [HXL.out]; omega)] := by
        rw [show i + 1 - i = 1 by omega, List.drop_eq_getElem_cons (show i < X.length by rw [HXL.out]; omega)]; rfl
      rw [e4, show i + 1 - i = 1 by omega] at hs4
      rw [HXL.out, show i + 1 - i = 1 by omega] at hr4
      have hr5 : ∀ (w : World), (Instr.slice 26 (.slice a2 7 c2) (some (.int .i64 (i : Int))) (some (.int .i64 ((i : Int) + 1))) none).run Try.prog w = .ok (.slice a4 1 c4) w := fun w => hr4 w _ _ rfl (by omega)
      have et : X.take i ++ [X[i]'(by rw [HXL.out]; omega)] = X.take (i + 1) := by rw [List.take_succ_eq_append_getElem (show i < X.length by rw [HXL.out]; omega)]
      have hfeed := feed_any H.out.sc (p := [X[i]'(by rw [HXL.out]; omega)]) hs4 (fun x hx => by simp at hx; subst hx; exact HXB.out _ (List.getElem_mem _)) (by simp; omega) (by omega)
      rw [et, HP.out (i + 1) (by rw [HXL.out]; omega)] at hfeed
      have HFE := hid hfeed
      clear hs hs4 hr4 e4 et hfeed
      go_wp2_with fail
      refine HFE.out.mono ?_
      rintro e w3 ⟨tv, rfl, hf⟩
      obtain ⟨vs, F', hsc, hu, ho3, hr3, _⟩ := H.out.fed hf
      have hv0 : vs.length = 0 := hr3.len
      rw [hv0] at ho3
      obtain ⟨a3, c3, rfl⟩ := own_any ho3
      have H3 := hid hsc
      have HO3 : Hid (w3.ownsRow 0 5 1 (.slice a2 7 c2) 7 (X.map (Value.int .u8))) := hid (hu.keeps.own HO.out HN.out)
      have HN3 : Hid (∀ k, (Value.slice a2 7 c2).ownBlock = some k → ¬ F' k) := hid (fun k hk => hu.out (own_lt HO.out k hk) (HN.out k hk))
      clear hf hsc hu ho3 hr3 hv0
      go_wp2_with fail
      go_roundw
      case rel => exact ⟨i + 1, F', by omega, by go_num, H3, HO3, HN3⟩
      case measure => simp [intOf]; omega
    · obtain rfl : i = 6 := by omega
      obtain ⟨a4, c4, hs4, hr4, _⟩ := piece_from hs 6 (by rw [HXL.out]; omega)
      have hl4 : (X.drop 6).length = 1 := by rw [List.length_drop, HXL.out]
      rw [hl4] at hr4
      rw [HXL.out] at hr4
      have hr5 : ∀ (w : World), (Instr.slice 26 (.slice a2 7 c2) (some (.int .i64 6)) none none).run Try.prog w = .ok (.slice a4 1 c4) w := fun w => hr4 w _ rfl
      have hfeed := feed_any H.out.sc (p := X.drop 6) hs4 (HXB.out.drop 6) (by rw [List.length_take, hl4]; omega) (by omega)
      rw [List.take_append_drop, HONE.out, hl4] at hfeed
      have HFE := hid hfeed
      clear hs hs4 hr4 hfeed hl4
      go_wp2_with fail
      refine HFE.out.mono ?_
      rintro e w3 ⟨tv, rfl, hf⟩
      obtain ⟨vs, F', hsc, hu, ho3, hr3, _⟩ := H.out.fed hf
      have hv1 : vs.length = 1 := hr3.len
      obtain ⟨u, hu1, hu2⟩ := hr3.at 0 (by simp)
      obtain ⟨au, cu, rfl⟩ := hu2.any
      have hs3 := Sl.ofOwn ho3
      rw [hv1] at hs3
      obtain ⟨a3, c3, rfl⟩ := hs3.any
      obtain ⟨g3, off3, rfl, _, c0⟩ := Sl.cellAt hs3 hu1
      rw [Nat.add_zero] at c0
      have H3 := hid hsc
      have HU : Hid (SlB w3 (.slice au 2 cu) [7, 8]) := hid hu2
      clear hf hsc hu ho3 hr3 hu1 hu2 hv1 hs3
      go_wp2_with fail
      refine (mbytes_true (l := [7, 8]) (HU.out.alloc _) (Sl.new _ #[.int .u8 7, .int .u8 8] _ 1 2 rfl (by decide))).mono ?_
      rintro e w4 ⟨rfl, k4⟩
      have H4 := hid (H3.out.calm (((Keeps.refl No w3).alloc _).trans k4))
      clear k4 c0
      go_wp2_with fail
      refine (lost_any H4.out.sc).mono ?_
      rintro e w5 ⟨rfl, rfl⟩
      go_wp2_with fail
      refine (held_any H4.out.sc).mono ?_
      rintro e w5 ⟨rfl, rfl⟩
      go_wp2_with fail
      go_ret
      exact ⟨rfl, H4.out.keep⟩

end Go.Proofs.Ythfjihpfcollfaa
