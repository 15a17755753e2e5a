/-
  What is shown: the document's Highest, Same.
-/
import Derived.Test.YtnmlaobiljmgaaaPanM
import Derived.Test.YtnmlaobiljmgaaaLampEq
namespace Go.Proofs.Ytnmlaobiljmgaaa
open Go.RowKit
set_option linter.unusedVariables false

def fL (loud : Bool) (x : LightD) : Bool := x.life.lit && !(loud && x.life.ack)
theorem fL_loud : fL true = loudL := by funext x; unfold fL loudL; simp
theorem fL_lit : fL false = litD := by funext x; unfold fL litD; simp
theorem highD_snoc (f : LightD → Bool) (l : List LightD) (x : LightD) : highD f (l ++ [x]) = if f x && decide (highD f l < x.pri) then x.pri else highD f l := by
  unfold highD; rw [List.foldl_append]; rfl

set_option maxHeartbeats 4000000 in
set_option maxRecDepth 100000 in
theorem mhigh_any {w : World} {v : Value} {l : List LightD} (h : SlLi w v l) (hl : l.length ≤ 1000) (hb : ∀ x ∈ l, 0 ≤ x.pri ∧ x.pri ≤ 255) (loud : Bool) :
    Calls Try.prog 25 #[v, .bool loud] w fun e w' => e = .returned (.int .u8 (highD (fL loud) l)) ∧ Keeps No w w' := by
  obtain ⟨ao, cap, rfl⟩ := h.any
  obtain ⟨m, hm⟩ : ∃ m, l.length = m := ⟨_, rfl⟩
  have HM := hid hm
  have HS : Hid (SlLi w (.slice ao m cap) l) := hid (by rw [← hm]; exact h)
  have HB := hid hb
  rw [hm] at hl ⊢
  clear h hm hb
  go_enter Try.func25, Try.ntmps25
  go_wp2_with fail
  go_loopw [5, 6] (fun v5 v6 wr => ∃ (i : Nat) (p : Int), i ≤ m ∧ v6 = .int .i64 i ∧ v5 = .int .u8 p ∧ 0 ≤ p ∧ p ≤ 255 ∧ Hid (highD (fL loud) (l.take i) = p) ∧ Hid (Keeps No w wr)) (fun _ v6 _ => m - (intOf v6).toNat)
  case atStart => exact ⟨0, 0, Nat.zero_le _, rfl, rfl, by omega, by omega, hid rfl, hid (Keeps.refl _ _)⟩
  case round =>
    obtain ⟨i, p, hi, rfl, rfl, p0, p1, HP, HK⟩ := hrel
    by_cases hlt : i < m
    · have hil : i < l.length := by rw [HM.out]; exact hlt
      obtain ⟨x, hx⟩ : ∃ x, l[i] = x := ⟨_, rfl⟩
      obtain ⟨g, off, ha, hg, c0, c1, c2, c3, c4, c5, c6⟩ := SlLi.at (HS.out.keep HK.out (fun _ _ h => h)) HM.out hlt hx
      have HT : Hid (l.take (i + 1) = l.take i ++ [x]) := hid (by rw [List.take_succ_eq_append_getElem hil, hx])
      have hxb := HB.out x (by rw [← hx]; exact List.getElem_mem hil)
      subst ha
      obtain ⟨cond, pri, ⟨on, lit, ack, since, stage⟩⟩ := x
      simp only at c0 c1 c2 c3 c4 c5 c6 hxb
      obtain ⟨x0, x1⟩ := hxb
      clear hx hil
      cases lit
      · go_wp2_with fail
        go_roundw
        case rel => exact ⟨i + 1, p, by omega, by go_num, rfl, by omega, by omega, hid (by rw [HT.out, highD_snoc, HP.out]; unfold fL; simp), hid (by first | exact HK.out | exact HK.out.drewN _)⟩
        case measure => simp [intOf]; omega

      · by_cases hp : pri > p
        · have d : decide (pri > p) = true := decide_eq_true hp
          cases loud
          · go_wp2_with fail
            go_roundw
            case rel => exact ⟨i + 1, pri, by omega, by go_num, by go_num, by omega, by omega, hid (by rw [HT.out, highD_snoc, HP.out]; unfold fL; simp; intro h; omega), hid (by first | exact HK.out | exact HK.out.drewN _)⟩
            case measure => simp [intOf]; omega

          · cases ack
            · go_wp2_with fail
              go_roundw
              case rel => exact ⟨i + 1, pri, by omega, by go_num, by go_num, by omega, by omega, hid (by rw [HT.out, highD_snoc, HP.out]; unfold fL; simp; intro h; omega), hid (by first | exact HK.out | exact HK.out.drewN _)⟩
              case measure => simp [intOf]; omega

            · go_wp2_with fail
              go_roundw
              case rel => exact ⟨i + 1, p, by omega, by go_num, rfl, by omega, by omega, hid (by rw [HT.out, highD_snoc, HP.out]; unfold fL; simp), hid (by first | exact HK.out | exact HK.out.drewN _)⟩
              case measure => simp [intOf]; omega

        · have d : decide (pri > p) = false := decide_eq_false hp
          cases loud
          · go_wp2_with fail
            go_roundw
            case rel => exact ⟨i + 1, p, by omega, by go_num, rfl, by omega, by omega, hid (by rw [HT.out, highD_snoc, HP.out]; unfold fL; simp; intro h; omega), hid (by first | exact HK.out | exact HK.out.drewN _)⟩
            case measure => simp [intOf]; omega

          · cases ack
            · go_wp2_with fail
              go_roundw
              case rel => exact ⟨i + 1, p, by omega, by go_num, rfl, by omega, by omega, hid (by rw [HT.out, highD_snoc, HP.out]; unfold fL; simp; intro h; omega), hid (by first | exact HK.out | exact HK.out.drewN _)⟩
              case measure => simp [intOf]; omega

            · go_wp2_with fail
              go_roundw
              case rel => exact ⟨i + 1, p, by omega, by go_num, rfl, by omega, by omega, hid (by rw [HT.out, highD_snoc, HP.out]; unfold fL; simp), hid (by first | exact HK.out | exact HK.out.drewN _)⟩
              case measure => simp [intOf]; omega

    · obtain rfl : i = m := by omega
      have HE : Hid (highD (fL loud) l = p) := hid (by have := HP.out; rwa [List.take_of_length_le (by rw [HM.out]; exact Nat.le_refl _)] at this)
      go_wp2_with fail
      go_ret
      exact ⟨by rw [HE.out]; rfl, HK.out⟩

set_option maxHeartbeats 4000000 in
set_option maxRecDepth 100000 in
theorem lamp_neq_same (a : LampD) (w : World) : (binOp .neq 77 (.agg #[.int .i64 a.cond, .int .u8 a.pri, .int .i64 a.stage, .bool a.cause, .bool a.acked]) (.agg #[.int .i64 a.cond, .int .u8 a.pri, .int .i64 a.stage, .bool a.cause, .bool a.acked])).run Try.prog w = .ok (.bool false) w := by
  have := lamp_neq a a w
  rw [LampD.same_refl] at this
  exact this

theorem msameO_true {w : World} {va vb : Value} {l : List LampD} (ha : SlLa w va l) (hb : SlLa w vb l) (hl : l.length ≤ 1000) (tk au : Int) (so pa off : Bool) :
    Calls Try.prog 21 #[.agg #[.int .i64 tk, va, .int .u8 au, .bool so, .bool pa, .bool off], .agg #[.int .i64 tk, vb, .int .u8 au, .bool so, .bool pa, .bool off]] w fun e w' => e = .returned (.bool true) ∧ Keeps No w w' := by
  obtain ⟨aa, ac, rfl⟩ := ha.any
  obtain ⟨ba, bc, rfl⟩ := hb.any
  obtain ⟨m, hm⟩ : ∃ m, l.length = m := ⟨_, rfl⟩
  have HM := hid hm
  have HA : Hid (SlLa w (.slice aa m ac) l) := hid (by rw [← hm]; exact ha)
  have HB : Hid (SlLa w (.slice ba m bc) l) := hid (by rw [← hm]; exact hb)
  rw [hm] at hl ⊢
  clear ha hb hm
  obtain ⟨wb, hwb⟩ : ∃ q, w.heap.size = q := ⟨_, rfl⟩
  obtain ⟨W, hW⟩ : ∃ W, (w.alloc (.cells #[.int .i64 tk, .slice aa m ac, .int .u8 au, .bool so, .bool pa, .bool off] 43)).alloc (.cells #[.int .i64 tk, .slice ba m bc, .int .u8 au, .bool so, .bool pa, .bool off] 43) = W := ⟨_, rfl⟩
  have HKW : Hid (Keeps No w W) := hid (by rw [← hW]; exact ((Keeps.refl _ _).alloc _).alloc _)
  have H1 : Hid (Bk W wb 43 [.int .i64 tk, .slice aa m ac, .int .u8 au, .bool so, .bool pa, .bool off]) := hid (by rw [← hW]; exact (Bk.new hwb _ _).alloc _)
  have H2 : Hid (Bk W (wb + 1) 43 [.int .i64 tk, .slice ba m bc, .int .u8 au, .bool so, .bool pa, .bool off]) := hid (by rw [← hW]; exact Bk.new (by simp [hwb]) _ _)
  go_enter Try.func21, Try.ntmps21
  go_upto_region 1 with fail
  try rw [hwb]
  try rw [hW]
  clear hwb hW
  have x0_0 := H1.out.cell 0 rfl
  have x0_1 := H1.out.cell 1 rfl
  have x0_2 := H1.out.cell 2 rfl
  have x0_3 := H1.out.cell 3 rfl
  have x0_4 := H1.out.cell 4 rfl
  have x0_5 := H1.out.cell 5 rfl
  have x1_0 := H2.out.cell 0 rfl
  have x1_1 := H2.out.cell 1 rfl
  have x1_2 := H2.out.cell 2 rfl
  have x1_3 := H2.out.cell 3 rfl
  have x1_4 := H2.out.cell 4 rfl
  have x1_5 := H2.out.cell 5 rfl
  have e1 : (tk != tk) = false := by simp
  have e2 : (au != au) = false := by simp
  have e3 : (so != so) = false := by simp
  have e4 : (pa != pa) = false := by simp
  have e5 : (off != off) = false := by simp
  have e6 : ((m : Int) != (m : Int)) = false := by simp
  go_wp2_with fail
  clear x0_0 x0_1 x0_2 x0_3 x0_4 x0_5 x1_0 x1_1 x1_2 x1_3 x1_4 x1_5
  go_loopw [5] (fun v5 wr => ∃ i : Nat, i ≤ m ∧ v5 = .int .i64 i ∧ Hid (Keeps No W wr)) (fun v5 _ => m - (intOf v5).toNat)
  case atStart => exact ⟨0, Nat.zero_le _, rfl, hid (Keeps.refl _ _)⟩
  case round =>
    obtain ⟨i, hi, rfl, HK⟩ := hrel
    have HR1 := hid (H1.out.kept HK.out)
    have HR2 := hid (H2.out.kept HK.out)
    have x0_0 := HR1.out.cell 0 rfl
    have x0_1 := HR1.out.cell 1 rfl
    have x0_2 := HR1.out.cell 2 rfl
    have x0_3 := HR1.out.cell 3 rfl
    have x0_4 := HR1.out.cell 4 rfl
    have x0_5 := HR1.out.cell 5 rfl
    have x1_0 := HR2.out.cell 0 rfl
    have x1_1 := HR2.out.cell 1 rfl
    have x1_2 := HR2.out.cell 2 rfl
    have x1_3 := HR2.out.cell 3 rfl
    have x1_4 := HR2.out.cell 4 rfl
    have x1_5 := HR2.out.cell 5 rfl
    by_cases hlt : i < m
    · have hil : i < l.length := by rw [HM.out]; exact hlt
      obtain ⟨x, hx⟩ : ∃ x, l[i] = x := ⟨_, rfl⟩
      obtain ⟨g, of, hga, hg, c0, c1, c2, c3, c4⟩ := SlLa.at (HA.out.keep (HKW.out.trans HK.out) (fun _ _ h => h)) HM.out hlt hx
      obtain ⟨g2, of2, hgb, hg2, d0, d1, d2, d3, d4⟩ := SlLa.at (HB.out.keep (HKW.out.trans HK.out) (fun _ _ h => h)) HM.out hlt hx
      have q := lamp_neq_same x
      clear hx hil
      subst hga hgb
      go_wp2_with fail
      go_quiet (fail)
      go_wp2_with fail
      go_roundw
      case rel => exact ⟨i + 1, by omega, by go_num, hid (HK.out.drewN _)⟩
      case measure => simp [intOf]; omega
    · obtain rfl : i = m := by omega
      go_wp2_with fail
      go_ret
      exact ⟨rfl, HKW.out.trans HK.out⟩

end Go.Proofs.Ytnmlaobiljmgaaa
