/-
  What is shown: the program's lights, the greatest priority.
-/
import Derived.Test.YtnmlaobiljmgaaaPanM
import Derived.Test.YtnmlaobiljmgaaaLifeS
import Derived.Test.YtnmlaobiljmgaaaPanH
namespace Go.Proofs.Ytnmlaobiljmgaaa
open Go.RowKit
set_option linter.unusedVariables false

set_option maxHeartbeats 1000000 in
set_option maxRecDepth 100000 in
theorem plit_any (cond pri : Int) (on lit ack : Bool) (since stage : Int) (w : World) : Calls Try.prog 31 #[.agg #[.int .i64 cond, .int .u8 pri, .bool on, .bool lit, .bool ack, .int .i64 since, .int .i64 stage]] w fun e w' => e = .returned (.bool lit) ∧ Keeps No w w' := by
  go_enter Try.func31, Try.ntmps31
  go_wp2_with fail
  go_ret
  refine ⟨rfl, ?_⟩
  repeat' (first | with_reducible exact Keeps.refl _ _ | with_reducible assumption | with_reducible refine Keeps.drewN ?_ _ | with_reducible refine Keeps.drew ?_ | with_reducible refine Keeps.alloc ?_ _ | with_reducible refine Keeps.setCell ?_ ?_ _ | exact Or.inl (by simp) | exact Or.inl (by simp; omega) | exact Or.inl (by omega))

set_option maxHeartbeats 1000000 in
set_option maxRecDepth 100000 in
theorem ploud_any (cond pri : Int) (on lit ack : Bool) (since stage : Int) (w : World) : Calls Try.prog 36 #[.agg #[.int .i64 cond, .int .u8 pri, .bool on, .bool lit, .bool ack, .int .i64 since, .int .i64 stage]] w fun e w' => e = .returned (.bool (loudL (⟨cond, pri, ⟨on, lit, ack, since, stage⟩⟩ : LightD))) ∧ Keeps No w w' := by
  have HL := hid (fun w => lloud_any on lit ack since stage w)
  have e : loudD ⟨on, lit, ack, since, stage⟩ = loudL (⟨cond, pri, ⟨on, lit, ack, since, stage⟩⟩ : LightD) := rfl
  rw [e] at HL
  obtain ⟨r, hr⟩ : ∃ r, loudL (⟨cond, pri, ⟨on, lit, ack, since, stage⟩⟩ : LightD) = r := ⟨_, rfl⟩
  rw [hr] at HL ⊢
  clear e hr
  go_enter Try.func36, Try.ntmps36
  go_wp2_with fail
  refine (HL.out _).mono ?_
  rintro e w1 ⟨rfl, k1⟩
  have K1 := hid (Keeps.trans (by repeat' (first | with_reducible exact Keeps.refl _ _ | with_reducible assumption | with_reducible refine Keeps.drewN ?_ _ | with_reducible refine Keeps.drew ?_ | with_reducible refine Keeps.alloc ?_ _) : Keeps No w _) k1)
  clear k1
  go_wp2_with fail
  go_ret
  exact ⟨rfl, K1.out⟩

set_option maxHeartbeats 2000000 in
set_option maxRecDepth 100000 in
theorem plamp_any (cond pri : Int) (on lit ack : Bool) (since stage : Int) (w : World) : Calls Try.prog 32 #[.agg #[.int .i64 cond, .int .u8 pri, .bool on, .bool lit, .bool ack, .int .i64 since, .int .i64 stage]] w fun e w' => e = .returned (.agg #[.int .i64 cond, .int .u8 pri, .int .i64 stage, .bool on, .bool ack]) ∧ Keeps No w w' := by
  go_enter Try.func32, Try.ntmps32
  go_wp2_with fail
  first
    | (go_returns; refine ⟨rfl, ?_⟩)
    | (refine bodyPost_ret (v := .agg #[.int .i64 cond, .int .u8 pri, .int .i64 stage, .bool on, .bool ack]) (by simp [results, Try.results32, go_sem]) rfl ?_; refine ⟨rfl, ?_⟩)
  repeat' (first | with_reducible exact Keeps.refl _ _ | with_reducible assumption | with_reducible refine Keeps.drewN ?_ _ | with_reducible refine Keeps.drew ?_ | with_reducible refine Keeps.alloc ?_ _ | with_reducible refine Keeps.setCell ?_ ?_ _ | exact Or.inl (by simp) | exact Or.inl (by simp; omega) | exact Or.inl (by omega))

abbrev SlPi (w : World) (v : Value) (l : List LightD) : Prop := Sl w 7 v l.length (l.flatMap encLi)
theorem SlPi.at {w : World} {ao : Option Addr} {n cap : Nat} {l : List LightD} (h : SlPi w (.slice ao n cap) l) (hn : l.length = n) {k : Nat} (hk : k < n) {x : LightD} (hx : l[k]'(by omega) = x) :
    ∃ g off, ao = some ⟨g, off, none⟩ ∧ g < w.heap.size ∧ w.cell? ⟨g, off + k * 7, none⟩ = some (.int .i64 x.cond) ∧ w.cell? ⟨g, off + k * 7 + 1, none⟩ = some (.int .u8 x.pri) ∧ w.cell? ⟨g, off + k * 7 + 2, none⟩ = some (.bool x.life.on) ∧ w.cell? ⟨g, off + k * 7 + 3, none⟩ = some (.bool x.life.lit) ∧ w.cell? ⟨g, off + k * 7 + 4, none⟩ = some (.bool x.life.ack) ∧ w.cell? ⟨g, off + k * 7 + 5, none⟩ = some (.int .i64 x.life.since) ∧ w.cell? ⟨g, off + k * 7 + 6, none⟩ = some (.int .i64 x.life.stage) := SlLi.at h hn hk hx

set_option maxHeartbeats 4000000 in
set_option maxRecDepth 100000 in
theorem pgreat_lit {w : World} {v : Value} {l : List LightD} (h : SlPi w v l) (hl : l.length ≤ 1000) (hb : ∀ x ∈ l, 0 ≤ x.pri ∧ x.pri ≤ 255) :
    Calls Try.prog 35 #[v, .func (.func 31) #[] #[]] w fun e w' => e = .returned (.int .u8 (highD litD l)) ∧ Keeps No w w' := by
  obtain ⟨ao, cap, rfl⟩ := h.any
  obtain ⟨m, hm⟩ : ∃ m, l.length = m := ⟨_, rfl⟩
  have HM := hid hm
  have HS : Hid (SlPi w (.slice ao m cap) l) := hid (by rw [← hm]; exact h)
  have HB := hid hb
  rw [hm] at hl ⊢
  clear h hm hb
  go_enter Try.func35, Try.ntmps35
  go_wp2_with fail
  go_loopw [5, 10] (fun v5 v10 wr => ∃ (i : Nat) (p : Int), i ≤ m ∧ v10 = .int .i64 i ∧ v5 = .int .u8 p ∧ 0 ≤ p ∧ p ≤ 255 ∧ Hid (highD litD (l.take i) = p) ∧ Hid (Keeps No w wr)) (fun _ v10 _ => m - (intOf v10).toNat)
  case atStart => exact ⟨0, 0, Nat.zero_le _, rfl, rfl, by omega, by omega, hid rfl, hid (Keeps.refl _ _)⟩
  case round =>
    obtain ⟨i, p, hi, rfl, rfl, p0, p1, HP, HK⟩ := hrel
    by_cases hlt : i < m
    · have hil : i < l.length := by rw [HM.out]; exact hlt
      obtain ⟨x, hx⟩ : ∃ x, l[i] = x := ⟨_, rfl⟩
      obtain ⟨g, off, ha, hg, c0, c1, c2, c3, c4, c5, c6⟩ := SlPi.at (HS.out.keep HK.out (fun _ _ h => h)) HM.out hlt hx
      have HT : Hid (l.take (i + 1) = l.take i ++ [x]) := hid (by rw [List.take_succ_eq_append_getElem hil, hx])
      have hxb := HB.out x (by rw [← hx]; exact List.getElem_mem hil)
      subst ha
      obtain ⟨cond, pri, ⟨on, lit, ack, since, stage⟩⟩ := x
      simp only at c0 c1 c2 c3 c4 c5 c6 hxb
      obtain ⟨x0, x1⟩ := hxb
      clear hx hil
      have HF : Hid (∀ w, Calls Try.prog 31 #[.agg #[.int .i64 cond, .int .u8 pri, .bool on, .bool lit, .bool ack, .int .i64 since, .int .i64 stage]] w fun e w' => e = .returned (.bool (litD (⟨cond, pri, ⟨on, lit, ack, since, stage⟩⟩ : LightD))) ∧ Keeps No w w') := hid (fun w => plit_any cond pri on lit ack since stage w)
      obtain ⟨r, hr⟩ : ∃ r, litD (⟨cond, pri, ⟨on, lit, ack, since, stage⟩⟩ : LightD) = r := ⟨_, rfl⟩
      have HR := hid hr
      rw [hr] at HF
      clear hr
      obtain ⟨xb, hxb⟩ : ∃ q, wr.heap.size = q := ⟨_, rfl⟩
      obtain ⟨W, hW⟩ : ∃ W, wr.alloc (.cells #[.int .i64 cond, .int .u8 pri, .bool on, .bool lit, .bool ack, .int .i64 since, .int .i64 stage] 51) = W := ⟨_, rfl⟩
      have HX : Hid (Bk W xb 51 [.int .i64 cond, .int .u8 pri, .bool on, .bool lit, .bool ack, .int .i64 since, .int .i64 stage]) := hid (by rw [← hW]; exact Bk.new hxb _ _)
      have KW : Hid (Keeps No w W) := hid (by rw [← hW]; exact HK.out.alloc _)
      go_upto_region 5 with fail
      try rw [hxb]
      try rw [hW]
      clear hxb hW c0 c1 c2 c3 c4 c5 c6
      have x0_0 := HX.out.cell 0 rfl
      have x0_1 := HX.out.cell 1 rfl
      have x0_2 := HX.out.cell 2 rfl
      have x0_3 := HX.out.cell 3 rfl
      have x0_4 := HX.out.cell 4 rfl
      have x0_5 := HX.out.cell 5 rfl
      have x0_6 := HX.out.cell 6 rfl
      go_wp2_with fail
      refine (HF.out _).mono ?_
      rintro e w2 ⟨rfl, k2⟩
      have K2 := hid (KW.out.trans k2)
      have y1 := (HX.out.kept k2).cell 1 rfl
      clear k2 x0_0 x0_1 x0_2 x0_3 x0_4 x0_5 x0_6
      cases r
      · go_wp2_with fail
        go_roundw
        case rel => exact ⟨i + 1, p, by omega, by go_num, rfl, by omega, by omega, hid (by rw [HT.out, highD_snoc, HP.out, HR.out]; simp), hid K2.out⟩
        case measure => simp [intOf]; omega
      · by_cases hp : pri > p
        · go_wp2_with fail
          go_roundw
          case rel => exact ⟨i + 1, pri, by omega, by go_num, by first | rfl | rw [if_pos hp], by omega, by omega, hid (by rw [HT.out, highD_snoc, HP.out, HR.out]; simp; intro h; omega), hid K2.out⟩
          case measure => simp [intOf]; omega
        · go_wp2_with fail
          go_roundw
          case rel => exact ⟨i + 1, p, by omega, by go_num, by first | rfl | rw [if_neg hp], by omega, by omega, hid (by rw [HT.out, highD_snoc, HP.out, HR.out]; simp; intro h; omega), hid K2.out⟩
          case measure => simp [intOf]; omega
    · obtain rfl : i = m := by omega
      have HE : Hid (highD litD l = p) := hid (by have := HP.out; rwa [List.take_of_length_le (by rw [HM.out]; exact Nat.le_refl _)] at this)
      go_wp2_with fail
      go_ret
      exact ⟨by rw [HE.out]; rfl, HK.out⟩

set_option maxHeartbeats 4000000 in
set_option maxRecDepth 100000 in
theorem pgreat_loud {w : World} {v : Value} {l : List LightD} (h : SlPi w v l) (hl : l.length ≤ 1000) (hb : ∀ x ∈ l, 0 ≤ x.pri ∧ x.pri ≤ 255) :
    Calls Try.prog 35 #[v, .func (.func 36) #[] #[]] w fun e w' => e = .returned (.int .u8 (highD loudL l)) ∧ Keeps No w w' := by
  obtain ⟨ao, cap, rfl⟩ := h.any
  obtain ⟨m, hm⟩ : ∃ m, l.length = m := ⟨_, rfl⟩
  have HM := hid hm
  have HS : Hid (SlPi w (.slice ao m cap) l) := hid (by rw [← hm]; exact h)
  have HB := hid hb
  rw [hm] at hl ⊢
  clear h hm hb
  go_enter Try.func35, Try.ntmps35
  go_wp2_with fail
  go_loopw [5, 10] (fun v5 v10 wr => ∃ (i : Nat) (p : Int), i ≤ m ∧ v10 = .int .i64 i ∧ v5 = .int .u8 p ∧ 0 ≤ p ∧ p ≤ 255 ∧ Hid (highD loudL (l.take i) = p) ∧ Hid (Keeps No w wr)) (fun _ v10 _ => m - (intOf v10).toNat)
  case atStart => exact ⟨0, 0, Nat.zero_le _, rfl, rfl, by omega, by omega, hid rfl, hid (Keeps.refl _ _)⟩
  case round =>
    obtain ⟨i, p, hi, rfl, rfl, p0, p1, HP, HK⟩ := hrel
    by_cases hlt : i < m
    · have hil : i < l.length := by rw [HM.out]; exact hlt
      obtain ⟨x, hx⟩ : ∃ x, l[i] = x := ⟨_, rfl⟩
      obtain ⟨g, off, ha, hg, c0, c1, c2, c3, c4, c5, c6⟩ := SlPi.at (HS.out.keep HK.out (fun _ _ h => h)) HM.out hlt hx
      have HT : Hid (l.take (i + 1) = l.take i ++ [x]) := hid (by rw [List.take_succ_eq_append_getElem hil, hx])
      have hxb := HB.out x (by rw [← hx]; exact List.getElem_mem hil)
      subst ha
      obtain ⟨cond, pri, ⟨on, lit, ack, since, stage⟩⟩ := x
      simp only at c0 c1 c2 c3 c4 c5 c6 hxb
      obtain ⟨x0, x1⟩ := hxb
      clear hx hil
      have HF : Hid (∀ w, Calls Try.prog 36 #[.agg #[.int .i64 cond, .int .u8 pri, .bool on, .bool lit, .bool ack, .int .i64 since, .int .i64 stage]] w fun e w' => e = .returned (.bool (loudL (⟨cond, pri, ⟨on, lit, ack, since, stage⟩⟩ : LightD))) ∧ Keeps No w w') := hid (fun w => ploud_any cond pri on lit ack since stage w)
      obtain ⟨r, hr⟩ : ∃ r, loudL (⟨cond, pri, ⟨on, lit, ack, since, stage⟩⟩ : LightD) = r := ⟨_, rfl⟩
      have HR := hid hr
      rw [hr] at HF
      clear hr
      obtain ⟨xb, hxb⟩ : ∃ q, wr.heap.size = q := ⟨_, rfl⟩
      obtain ⟨W, hW⟩ : ∃ W, wr.alloc (.cells #[.int .i64 cond, .int .u8 pri, .bool on, .bool lit, .bool ack, .int .i64 since, .int .i64 stage] 51) = W := ⟨_, rfl⟩
      have HX : Hid (Bk W xb 51 [.int .i64 cond, .int .u8 pri, .bool on, .bool lit, .bool ack, .int .i64 since, .int .i64 stage]) := hid (by rw [← hW]; exact Bk.new hxb _ _)
      have KW : Hid (Keeps No w W) := hid (by rw [← hW]; exact HK.out.alloc _)
      go_upto_region 5 with fail
      try rw [hxb]
      try rw [hW]
      clear hxb hW c0 c1 c2 c3 c4 c5 c6
      have x0_0 := HX.out.cell 0 rfl
      have x0_1 := HX.out.cell 1 rfl
      have x0_2 := HX.out.cell 2 rfl
      have x0_3 := HX.out.cell 3 rfl
      have x0_4 := HX.out.cell 4 rfl
      have x0_5 := HX.out.cell 5 rfl
      have x0_6 := HX.out.cell 6 rfl
      go_wp2_with fail
      refine (HF.out _).mono ?_
      rintro e w2 ⟨rfl, k2⟩
      have K2 := hid (KW.out.trans k2)
      have y1 := (HX.out.kept k2).cell 1 rfl
      clear k2 x0_0 x0_1 x0_2 x0_3 x0_4 x0_5 x0_6
      cases r
      · go_wp2_with fail
        go_roundw
        case rel => exact ⟨i + 1, p, by omega, by go_num, rfl, by omega, by omega, hid (by rw [HT.out, highD_snoc, HP.out, HR.out]; simp), hid K2.out⟩
        case measure => simp [intOf]; omega
      · by_cases hp : pri > p
        · go_wp2_with fail
          go_roundw
          case rel => exact ⟨i + 1, pri, by omega, by go_num, by first | rfl | rw [if_pos hp], by omega, by omega, hid (by rw [HT.out, highD_snoc, HP.out, HR.out]; simp; intro h; omega), hid K2.out⟩
          case measure => simp [intOf]; omega
        · go_wp2_with fail
          go_roundw
          case rel => exact ⟨i + 1, p, by omega, by go_num, by first | rfl | rw [if_neg hp], by omega, by omega, hid (by rw [HT.out, highD_snoc, HP.out, HR.out]; simp; intro h; omega), hid K2.out⟩
          case measure => simp [intOf]; omega
    · obtain rfl : i = m := by omega
      have HE : Hid (highD loudL l = p) := hid (by have := HP.out; rwa [List.take_of_length_le (by rw [HM.out]; exact Nat.le_refl _)] at this)
      go_wp2_with fail
      go_ret
      exact ⟨by rw [HE.out]; rfl, HK.out⟩

set_option maxHeartbeats 2000000 in
set_option maxRecDepth 100000 in
theorem phigh_any {w : World} {v : Value} {l : List LightD} (h : SlPi w v l) (hl : l.length ≤ 1000) (hb : ∀ x ∈ l, 0 ≤ x.pri ∧ x.pri ≤ 255) :
    Calls Try.prog 24 #[v] w fun e w' => e = .returned (.int .u8 (highD litD l)) ∧ Keeps No w w' := by
  have HC := hid (pgreat_lit h hl hb)
  obtain ⟨ao, cap, rfl⟩ := h.any
  obtain ⟨m, hm⟩ : ∃ m, l.length = m := ⟨_, rfl⟩
  obtain ⟨q, hq⟩ : ∃ q, highD litD l = q := ⟨_, rfl⟩
  rw [hm, hq] at HC
  rw [hm, hq]
  clear h hm hq hl hb
  go_enter Try.func24, Try.ntmps24
  go_wp2_with fail
  refine (HC.out).mono ?_
  rintro e w2 ⟨rfl, k2⟩
  have K2 := hid k2
  clear k2
  go_wp2_with fail
  go_ret
  exact ⟨rfl, K2.out⟩

set_option maxHeartbeats 2000000 in
set_option maxRecDepth 100000 in
theorem ploudest_any {w : World} {v : Value} {l : List LightD} (h : SlPi w v l) (hl : l.length ≤ 1000) (hb : ∀ x ∈ l, 0 ≤ x.pri ∧ x.pri ≤ 255) :
    Calls Try.prog 26 #[v] w fun e w' => e = .returned (.int .u8 (highD loudL l)) ∧ Keeps No w w' := by
  have HC := hid (pgreat_loud h hl hb)
  obtain ⟨ao, cap, rfl⟩ := h.any
  obtain ⟨m, hm⟩ : ∃ m, l.length = m := ⟨_, rfl⟩
  obtain ⟨q, hq⟩ : ∃ q, highD loudL l = q := ⟨_, rfl⟩
  rw [hm, hq] at HC
  rw [hm, hq]
  clear h hm hq hl hb
  go_enter Try.func26, Try.ntmps26
  go_wp2_with fail
  refine (HC.out).mono ?_
  rintro e w2 ⟨rfl, k2⟩
  have K2 := hid k2
  clear k2
  go_wp2_with fail
  go_ret
  exact ⟨rfl, K2.out⟩

end Go.Proofs.Ytnmlaobiljmgaaa
