/-
  What is shown: the program's lamps.
-/
import Derived.Test.YtnmlaobiljmgaaaPanS
import Derived.Test.YtnmlaobiljmgaaaPanL
import Derived.Test.YtnmlaobiljmgaaaSrtL
namespace Go.Proofs.Ytnmlaobiljmgaaa
open Go.RowKit
set_option linter.unusedVariables false

theorem litLamps_snoc (l : List LightD) (x : LightD) : litLamps (l ++ [x]) = if x.life.lit then litLamps l ++ [lampOf x] else litLamps l := by
  unfold litLamps
  rw [List.filter_append, List.map_append]
  cases h : x.life.lit <;> simp [h]
theorem litLamps_len (l : List LightD) : (litLamps l).length ≤ l.length := by
  unfold litLamps; rw [List.length_map]; exact List.length_filter_le _ _
theorem litLamps_unlike {l : List LightD} (h : Unlike l) : (litLamps l).Pairwise (fun a b => a.cond ≠ b.cond) := by
  unfold litLamps
  rw [List.pairwise_map]
  exact List.Pairwise.filter _ h

set_option maxHeartbeats 8000000 in
set_option maxRecDepth 100000 in
theorem plamps_any {w : World} {v : Value} {l : List LightD} (h : SlPi w v l) (hl : l.length ≤ 1000) (hu : Unlike l) :
    Calls Try.prog 22 #[v] w fun e w' => ∃ v', e = .returned v' ∧ SlLa w' v' (lampsD l) ∧ Keeps No w w' ∧ ∀ k, v'.ownBlock = some k → w.heap.size ≤ k := by
  obtain ⟨ao, cap, rfl⟩ := h.any
  obtain ⟨m, hm⟩ : ∃ m, l.length = m := ⟨_, rfl⟩
  have HM := hid hm
  have HS : Hid (SlPi w (.slice ao m cap) l) := hid (by rw [← hm]; exact h)
  have HU := hid hu
  obtain ⟨i0, hi, hz0, hz1, hz2⟩ := info_parts info_lamp
  have HI := hid hi
  rw [hm] at hl ⊢
  clear h hm hi hu
  go_enter Try.func22, Try.ntmps22
  go_wp2_with fail
  go_loopw [3, 8] (fun v3 v8 wr => ∃ (i : Nat) (oa : Option Addr) (oc on : Nat), i ≤ m ∧ v8 = .int .i64 i ∧ v3 = .slice oa on oc ∧ on ≤ i ∧ Hid (RowA w wr (.slice oa on oc) on (litLamps (l.take i)))) (fun _ v8 _ => m - (intOf v8).toNat)
  case atStart => exact ⟨0, none, 0, 0, Nat.zero_le _, rfl, rfl, Nat.le_refl _, hid ⟨World.ownsRow_nil _ _ _ _, fun k hk => by simp [Value.ownBlock] at hk, Keeps.refl _ _⟩⟩
  case round =>
    obtain ⟨i, oa, oc, n, hi, rfl, rfl, hon, HR⟩ := hrel
    by_cases hlt : i < m
    · have hil : i < l.length := by rw [HM.out]; exact hlt
      obtain ⟨x, hx⟩ : ∃ x, l[i] = x := ⟨_, rfl⟩
      obtain ⟨g, off, ha, hg, c0, c1, c2, c3, c4, c5, c6⟩ := SlPi.at (HS.out.keep HR.out.keeps (fun _ _ h => h)) HM.out hlt hx
      have HT : Hid (litLamps (l.take (i + 1)) = if x.life.lit then litLamps (l.take i) ++ [lampOf x] else litLamps (l.take i)) := hid (by rw [List.take_succ_eq_append_getElem hil, hx, litLamps_snoc])
      subst ha
      obtain ⟨cond, pri, ⟨on, lit, ack, since, stage⟩⟩ := x
      simp only at c0 c1 c2 c3 c4 c5 c6 HT
      clear hx hil
      obtain ⟨xb, hxb⟩ : ∃ q, wr.heap.size = q := ⟨_, rfl⟩
      obtain ⟨W, hW⟩ : ∃ W, wr.alloc (.cells #[.int .i64 cond, .int .u8 pri, .bool on, .bool lit, .bool ack, .int .i64 since, .int .i64 stage] 51) = W := ⟨_, rfl⟩
      have HX : Hid (Bk W xb 51 [.int .i64 cond, .int .u8 pri, .bool on, .bool lit, .bool ack, .int .i64 since, .int .i64 stage]) := hid (by rw [← hW]; exact Bk.new hxb _ _)
      have KW : Hid (Keeps No wr W) := hid (by rw [← hW]; exact (Keeps.refl No wr).alloc _)
      go_upto_region 5 with fail
      try rw [hxb]
      try rw [hW]
      clear hxb hW c0 c1 c2 c3 c4 c5 c6
      have x0_0 := HX.out.cell 0 rfl
      have x0_1 := HX.out.cell 1 rfl
      have x0_2 := HX.out.cell 2 rfl
      have x0_3 := HX.out.cell 3 rfl
      have x0_4 := HX.out.cell 4 rfl
      have x0_5 := HX.out.cell 5 rfl
      have x0_6 := HX.out.cell 6 rfl
      go_wp2_with fail
      refine (plit_any cond pri on lit ack since stage _).mono ?_
      rintro e w2 ⟨rfl, k2⟩
      have K2 := hid (KW.out.trans k2)
      have HX2 := hid (HX.out.kept k2)
      clear k2 x0_0 x0_1 x0_2 x0_3 x0_4 x0_5 x0_6
      cases lit
      · have HT2 : Hid (litLamps (l.take (i + 1)) = litLamps (l.take i)) := hid (by rw [HT.out]; rfl)
        clear HT
        go_wp2_with fail
        go_roundw
        case rel => exact ⟨i + 1, oa, oc, n, by omega, by go_num, rfl, by omega, hid (by rw [HT2.out]; exact HR.out.calm K2.out)⟩
        case measure => simp [intOf]; omega
      · have HT2 : Hid (litLamps (l.take (i + 1)) = litLamps (l.take i) ++ [⟨cond, pri, stage, on, ack⟩]) := hid (by rw [HT.out]; rfl)
        clear HT
        have x0_0 := HX2.out.cell 0 rfl
        have x0_1 := HX2.out.cell 1 rfl
        have x0_2 := HX2.out.cell 2 rfl
        have x0_3 := HX2.out.cell 3 rfl
        have x0_4 := HX2.out.cell 4 rfl
        have x0_5 := HX2.out.cell 5 rfl
        have x0_6 := HX2.out.cell 6 rfl
        go_wp2_with fail
        refine (plamp_any cond pri on true ack since stage _).mono ?_
        rintro e w3 ⟨rfl, k3⟩
        have K3 := hid (K2.out.trans k3)
        clear k3 x0_0 x0_1 x0_2 x0_3 x0_4 x0_5 x0_6
        have HR3 := hid (HR.out.calm K3.out)
        go_wp2_with (at_builtin; refine wpl_append rfl _ _ 40 rfl 77 i0 (.agg #[.int .i64 0, .int .u8 0, .int .i64 0, .bool false, .bool false]) 5 32 Try.underlying40 HI.out hz0 hz1 hz2 rfl (by decide) _ _ _ _ _ _ rfl rfl ((HR3.out.calm (show Keeps No _ _ from by repeat' (first | with_reducible exact Keeps.refl _ _ | with_reducible assumption | with_reducible refine Keeps.drewN ?_ _ | with_reducible refine Keeps.drew ?_ | with_reducible refine Keeps.alloc ?_ _))).own) (Sl.new _ _ _ 5 1 rfl (by decide)) ?c1 ?c2 ?c3 ?_)
        case c1 => exact ⟨rfl, rfl, rfl, rfl, rfl⟩
        case c2 => unfold maxLen; omega
        case c3 => omega
        intro u2 w4 hown2 hk2 hbl2
        obtain ⟨ma1, mc1, rfl⟩ := own_any hown2
        have HR4 := hid (RowA.app (⟨cond, pri, stage, on, ack⟩ : LampD) HR3.out (show Keeps No _ _ from by repeat' (first | with_reducible exact Keeps.refl _ _ | with_reducible assumption | with_reducible refine Keeps.drewN ?_ _ | with_reducible refine Keeps.drew ?_ | with_reducible refine Keeps.alloc ?_ _)) (by simpa [encLa] using hown2) hk2 (by simpa using hbl2))
        clear hown2 hk2 hbl2
        go_wp2_with fail
        go_roundw
        case rel => exact ⟨i + 1, ma1, mc1, n + 1, by omega, by go_num, rfl, by omega, hid (by rw [HT2.out]; exact HR4.out)⟩
        case measure => simp [intOf]; omega
    · obtain rfl : i = m := by omega
      have HR2 : Hid (RowA w wr (.slice oa n oc) n (litLamps l)) := hid (by have := HR.out; rwa [List.take_of_length_le (by rw [HM.out]; exact Nat.le_refl _)] at this)
      clear HR
      have HSO := hid (sortL_any HR2.out.own HR2.out.len (by omega) (litLamps_unlike HU.out))
      go_wp2_with fail
      refine (HSO.out).mono ?_
      rintro e w5 ⟨rfl, mm, hp, hs, hsl, kk⟩
      have HMM : Hid (mm = lampsD l) := hid (lampsD_uniq HU.out hs hp)
      have HLN : Hid (n = (lampsD l).length) := hid (by rw [← HMM.out, hp.length_eq]; exact HR2.out.len.symm)
      have HSL := hid hsl
      have HKK := hid kk
      clear hp hs hsl kk
      go_wp2_with fail
      go_ret
      refine ⟨_, rfl, ?_, HR2.out.keeps.trans' HKK.out (fun _ _ h => h.elim) (fun k hk e => by have := HR2.out.new k e; omega), HR2.out.new⟩
      show Sl w5 5 (.slice oa n oc) (lampsD l).length ((lampsD l).flatMap encLa)
      rw [← HLN.out, ← HMM.out]
      exact HSL.out

end Go.Proofs.Ytnmlaobiljmgaaa
