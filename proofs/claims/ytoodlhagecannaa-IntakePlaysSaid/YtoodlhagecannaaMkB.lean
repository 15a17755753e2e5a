/-
  The document's Make: the table, and the rest.
-/
import Derived.Test.YtoodlhagecannaaMkA
namespace Go.Proofs.Ytoodlhagecannaa
open Go.RowKit
set_option linter.unusedVariables false

set_option maxHeartbeats 40000000 in
set_option maxRecDepth 100000 in
theorem make_tail (w : World) (rules : List (LineD × Value)) (slots : List Int) (ra : Option Addr) (rc : Nat) (sa : Option Addr) (sc : Nat) (ba dr pa of_ : Int) (br : Bool) (lo : Int) (dl : List Value) (H : Hid (DraftR w rules (.slice ra rules.length rc) slots (.slice sa slots.length sc))) (HDL : Hid (dl = draftL (.slice ra rules.length rc) (.slice sa slots.length sc) ba dr pa of_ br lo)) (hba : U8 ba) (hdr : U8 dr) (hpa : U8 pa) (hof : U8 of_) (hlo : U8 lo)
    (wr : World) (i : Nat) (crv : Value) (rs : List (Rul × Value)) (u : Nat → Value) (hi8 : i ≤ 8) (hi1 : 1 ≤ i) (hir : i ≤ rules.length + 1) (HNC : Hid (¬((i < rules.length ∧ i < 8) ∨ i = 0))) (HRL : Hid (rs.length = i)) (HK : Hid (MkS w wr dl crv (.slice none 0 0) rs)) (HLIKE : Hid (LikeL rules rs)) :
    Code.wp Try.prog makeTail (bodyPost Try.prog Try.f12 (MakePost3 w rules ba dr pa of_ lo br)) ⟨List.toArray ((.agg #[.slice ra rules.length rc, .slice sa slots.length sc, .int .u8 ba, .int .u8 dr, .int .u8 pa, .int .u8 of_, .bool br, .int .u8 lo]) :: (.pointer (some ⟨w.heap.size, 0, none⟩)) :: (.pointer (some ⟨w.heap.size + 1, 0, none⟩)) :: (.pointer (some ⟨w.heap.size + 1 + 1 + 1, 0, none⟩)) :: (.int .i64 (i : Int)) :: (u 5) :: (u 6) :: (u 7) :: (u 8) :: (undef) :: (undef) :: (undef) :: (undef) :: (undef) :: (undef) :: (undef) :: (undef) :: (undef) :: (.agg #[.int .i64 (-100), .int .i64 300]) :: (.agg #[.int .i64 0, .int .i64 250]) :: (.agg #[.int .i64 (-2147483648), .int .i64 2147483647]) :: (.slice (some ⟨w.heap.size + 1 + 1, 0, none⟩) 3 3) :: (.agg #[.slice (some ⟨w.heap.size + 1 + 1, 0, none⟩) 3 3, .slice none 0 0, .slice none 0 0, .int .i64 0, .int .i64 0, .int .i64 0, .int .i64 0, .int .i64 0, .int .i64 0, .bool false, .int .i64 0]) :: (u 23) :: (u 24) :: (u 25) :: (u 26) :: (u 27) :: (u 28) :: (u 29) :: (u 30) :: (u 31) :: (u 32) :: (u 33) :: (u 34) :: (u 35) :: (u 36) :: (u 37) :: (u 38) :: (u 39) :: (u 40) :: (u 41) :: (u 42) :: (u 43) :: (u 44) :: (u 45) :: (u 46) :: (u 47) :: (u 48) :: (u 49) :: (u 50) :: (u 51) :: (u 52) :: (u 53) :: (u 54) :: (u 55) :: (u 56) :: (u 57) :: (u 58) :: (u 59) :: (u 60) :: (u 61) :: (u 62) :: (u 63) :: (u 64) :: (u 65) :: (u 66) :: (u 67) :: (u 68) :: (u 69) :: (u 70) :: (u 71) :: (u 72) :: (u 73) :: (u 74) :: (u 75) :: (u 76) :: (u 77) :: (u 78) :: (u 79) :: (u 80) :: (u 81) :: (u 82) :: (u 83) :: (u 84) :: (u 85) :: (u 86) :: (u 87) :: (u 88) :: (u 89) :: (u 90) :: (u 91) :: (u 92) :: (u 93) :: (u 94) :: (u 95) :: (u 96) :: (u 97) :: (u 98) :: (u 99) :: (u 100) :: (u 101) :: (u 102) :: (u 103) :: (u 104) :: (u 105) :: (u 106) :: (u 107) :: (u 108) :: (u 109) :: (u 110) :: (u 111) :: (u 112) :: (u 113) :: (u 114) :: (u 115) :: (u 116) :: (u 117) :: (u 118) :: (u 119) :: (u 120) :: (u 121) :: (u 122) :: (u 123) :: (u 124) :: (u 125) :: (u 126) :: (u 127) :: (u 128) :: (u 129) :: (u 130) :: (u 131) :: (u 132) :: (u 133) :: (u 134) :: (u 135) :: (u 136) :: (u 137) :: (u 138) :: (u 139) :: (u 140) :: (u 141) :: (u 142) :: (u 143) :: (u 144) :: (u 145) :: (u 146) :: (u 147) :: (u 148) :: (u 149) :: (u 150) :: (u 151) :: (u 152) :: (u 153) :: (u 154) :: (u 155) :: (u 156) :: (u 157) :: (u 158) :: (u 159) :: (u 160) :: (u 161) :: (u 162) :: (u 163) :: (u 164) :: (u 165) :: (u 166) :: (u 167) :: (u 168) :: (u 169) :: (u 170) :: (u 171) :: (u 172) :: (undef) :: (undef) :: (undef) :: (undef) :: (undef) :: (undef) :: (undef) :: (undef) :: (undef) :: (undef) :: (undef) :: (undef) :: (undef) :: (undef) :: (undef) :: (undef) :: (undef) :: (undef) :: (undef) :: (undef) :: (undef) :: (undef) :: (undef) :: (undef) :: (undef) :: (undef) :: (undef) :: (undef) :: (undef) :: (undef) :: (undef) :: (undef) :: (undef) :: (undef) :: (undef) :: (undef) :: (undef) :: (undef) :: (undef) :: (undef) :: (undef) :: (undef) :: (undef) :: (undef) :: (undef) :: (undef) :: (undef) :: (undef) :: (undef) :: (undef) :: (undef) :: (undef) :: (undef) :: (undef) :: (undef) :: (undef) :: (undef) :: (undef) :: (undef) :: (undef) :: (undef) :: (undef) :: (undef) :: (undef) :: (undef) :: (undef) :: (undef) :: (undef) :: (undef) :: (undef) :: (undef) :: (undef) :: (undef) :: (undef) :: (undef) :: (undef) :: (undef) :: (undef) :: (undef) :: (undef) :: (undef) :: (undef) :: (undef) :: (undef) :: (undef) :: (undef) :: (undef) :: (undef) :: (undef) :: (undef) :: (undef) :: (undef) :: (undef) :: (undef) :: (undef) :: (undef) :: (undef) :: (undef) :: (undef) :: (undef) :: (undef) :: (undef) :: (undef) :: (undef) :: (undef) :: (undef) :: (undef) :: (undef) :: (undef) :: (undef) :: (undef) :: (undef) :: (undef) :: (undef) :: (undef) :: (undef) :: (undef) :: (undef) :: (undef) :: (undef) :: (undef) :: (undef) :: (undef) :: (undef) :: (undef) :: (undef) :: (undef) :: (undef) :: (undef) :: (undef) :: (undef) :: (undef) :: (undef) :: (undef) :: (undef) :: (undef) :: (undef) :: (undef) :: (undef) :: (undef) :: (undef) :: (undef) :: (undef) :: (undef) :: []), []⟩ wr := by
  conv => arg 2; whnf
  have d0 : wr.cell? ⟨w.heap.size, 0, none⟩ = some (.slice ra rules.length rc) := HK.out.d.cell (by rw [HDL.out]; rfl)
  have hil : i ≤ rules.length + 1 := hir
  have hlr : (rules.length : Int) ≤ 9223372036854775807 := by
    have := H.out.rul.2.1
    unfold maxLen at this
    omega
  obtain ⟨wR, hwR⟩ : ∃ x, x = wr := ⟨_, rfl⟩
  subst hwR
  obtain ⟨cra, crc, rfl⟩ := own_any HK.out.own
  have hrs1 : 1 ≤ rs.length := by rw [HRL.out]; exact hi1
  have hrs8 : rs.length ≤ 8 := by rw [HRL.out]; exact hi8
  have HCB := hid HK.out.c.lt
  have hba' := hba
  obtain ⟨hba0, hba1⟩ := hba
  have d2 : wR.cell? ⟨w.heap.size, 2, none⟩ = some (.int .u8 ba) := HK.out.d.cell (by rw [HDL.out]; rfl)
  have T0 : Hid (TbS w wR wR (.slice cra rs.length crc) (.slice none 0 0) rs.length []) := hid ⟨HK.out.c, Keeps.refl _ _, World.ownsRow_nil _ _ _ _, fun b hb => by simp [Value.ownBlock] at hb, fun x hx => by simp at hx, fun x hx => by simp at hx, List.Pairwise.nil, fun x hx => by simp at hx⟩
  obtain ⟨n, hn⟩ : ∃ n : Nat, 1 + ba / 16 % 6 = (n : Int) := ⟨(1 + ba / 16 % 6).toNat, by omega⟩
  have hn1 : 1 ≤ n := by omega
  have hn6 : n ≤ 6 := by omega
  have HN := hid hn
  have hls : (slots.length : Int) ≤ 9223372036854775807 := by
    have := H.out.slo.2.1
    unfold maxLen at this
    omega
  clear hn d0
  go_upto_region 33 with fail
  rw [HN.out]
  clear d2 hba0 hba1
  have HBA := hid hba'
  clear hba'
  obtain ⟨i0, hi, hz0, hz1, hz2⟩ := info_parts info_intA
  have HI := hid hi
  obtain ⟨i1, hi', hy0, hy1, hy2⟩ := info_parts info_slotA
  have HI1 := hid hi'
  clear hi hi'
  go_wp2_with fail
  go_loopw [10] (fun v10 wt => ∃ (a : Nat) (ctv : Value) (ts : List (List Int × Value)), a ≤ n ∧ v10 = .int .i64 a ∧ Hid (ts.length = a) ∧ Hid (TbS w wR wt (.slice cra rs.length crc) ctv rs.length ts) ∧ Hid (∀ x ∈ ts, x.1.length ≤ 24)) (fun v10 _ => n - (intOf v10).toNat)
  case atStart => exact ⟨0, _, [], Nat.zero_le _, rfl, hid rfl, T0, hid (fun x hx => by simp at hx)⟩
  case round =>
    obtain ⟨wt, hwt⟩ : ∃ x, x = wr := ⟨_, rfl⟩
    subst hwt
    obtain ⟨a, ctv, ts, ha, rfl, HTL, HT, HFEW⟩ := hrel
    clear T0
    have hno : Keeps No w wt := HK.out.old.trans' HT.out.old (fun _ _ h => h) (fun b hb e => by omega)
    have HNO := hid hno
    clear hno
    by_cases han : a < n
    · have ha6 : a ≤ 6 := by omega
      have S0 : Hid (SlotOk rs.length []) := hid (SlotOk.nil _)
      go_wp2_with fail
      go_loopw [11, 12] (fun v11 v12 wk => ∃ (kk : Nat) (la : Option Addr) (lc : Nat) (l : List Int), kk ≤ 30 ∧ v12 = .int .i64 kk ∧ v11 = .slice la l.length lc ∧ Hid (wk.ownsRow 0 3 1 (.slice la l.length lc) l.length (l.map (.int .i64))) ∧ Hid (∀ b, (Value.slice la l.length lc).ownBlock = some b → wt.heap.size ≤ b) ∧ Hid (Keeps No wt wk) ∧ Hid (SlotOk rs.length l) ∧ l.length ≤ kk ∧ l.length ≤ 24) (fun _ v12 _ => 30 - (intOf v12).toNat)
      case atStart => exact ⟨a, none, 0, [], by omega, rfl, rfl, hid (World.ownsRow_nil _ _ _ _), hid (fun b hb => by simp [Value.ownBlock] at hb), hid (Keeps.refl _ _), S0, Nat.zero_le _, by simp⟩
      case round =>
        obtain ⟨wk, hwk⟩ : ∃ x, x = wr := ⟨_, rfl⟩
        subst hwk
        obtain ⟨kk, la, lc, l, hkk, rfl, rfl, HOW, HNW, HKK, HSO, hlk, hl24⟩ := hrel
        have hkn := HNO.out.trans HKK.out
        have hsl : SlB wk (.slice sa slots.length sc) slots := Sl.keep H.out.slo hkn (fun _ _ h => h)
        have d1 : wk.cell? ⟨w.heap.size, 1, none⟩ = some (.slice sa slots.length sc) := ((HK.out.d.keep HT.out.old (by omega)).keep HKK.out (fun h => h)).cell (by rw [HDL.out]; rfl)
        have c1 : wk.cell? ⟨w.heap.size + 1 + 1 + 1, 1, none⟩ = some (.slice cra rs.length crc) := (HT.out.c.keep HKK.out (fun h => h)).cell rfl
        have HSL := hid hsl
        clear hkn hsl
        by_cases hc : kk < slots.length ∧ kk < 24
        · obtain ⟨hlt, h24⟩ := hc
          obtain ⟨ga, offa, rfl, hgl, hca⟩ := SlB.cellAt HSL.out hlt
          obtain ⟨sk, hsk⟩ : ∃ s, slots[kk] = s := ⟨_, rfl⟩
          rw [hsk] at hca
          obtain ⟨hs0, hs1⟩ := H.out.sby sk (by rw [← hsk]; exact List.getElem_mem hlt)
          clear hsk
          go_wp2_with fail
          go_quiet (fail)
          obtain ⟨x, hx⟩ : ∃ x, sk % ((rs.length : Int) + 2) = x := ⟨_, rfl⟩
          have hx0 : 0 ≤ x := by rw [← hx]; exact Int.emod_nonneg _ (by omega)
          have hxn : x < (rs.length : Int) + 2 := by rw [← hx]; exact Int.emod_lt_of_pos _ (by omega)
          rw [hx]
          clear hx hca hs0 hs1
          have HSI : Hid (SlI (wk.drewN nq) (.slice la l.length lc) l) := hid (Sl.ofOwn (own_drewN HOW.out nq))
          have TB0 : Hid (decide ((rs.length : Int) ≤ x) = true ↔ (rs.length : Int) ≤ x ∨ x ∈ l.take 0) := hid (by simp)
          go_wp2_with fail
          go_loop [14, 15] (fun v14 v15 => ∃ (j : Nat) (tb : Bool), j ≤ l.length ∧ v15 = .int .i64 j ∧ v14 = .bool tb ∧ Hid (tb = true ↔ (rs.length : Int) ≤ x ∨ x ∈ l.take j)) (fun _ v15 => l.length - (intOf v15).toNat)
          case atStart => exact ⟨0, _, Nat.zero_le _, rfl, rfl, TB0⟩
          case round =>
            obtain ⟨j, tb, hj, rfl, rfl, HTB⟩ := hrel
            clear TB0
            by_cases hjl : j < l.length
            · obtain ⟨g2, off2, rfl, hg2, hc2⟩ := SlI.cellAt HSI.out hjl
              obtain ⟨y, hy⟩ : ∃ y, l[j] = y := ⟨_, rfl⟩
              rw [hy] at hc2
              have HT2 : Hid ((tb || decide (y = x)) = true ↔ (rs.length : Int) ≤ x ∨ x ∈ l.take (j + 1)) := hid (by
                rw [List.take_succ_eq_append_getElem hjl, hy, List.mem_append, Bool.or_eq_true, HTB.out, decide_eq_true_iff, or_assoc]
                simp [eq_comm])
              clear hy
              cases tb
              · by_cases hyx : y = x
                · subst hyx
                  go_wp2_with fail
                  go_round
                  case rel => exact ⟨j + 1, true, by omega, by go_num, rfl, hid (by have := HT2.out; simpa using this)⟩
                  case measure => simp [intOf]; omega
                · have hyb : (y == x) = false := by simpa using hyx
                  go_wp2_with fail
                  go_round
                  case rel => exact ⟨j + 1, false, by omega, by go_num, rfl, hid (by have := HT2.out; rw [decide_eq_false hyx] at this; simpa using this)⟩
                  case measure => simp [intOf]; omega
              · go_wp2_with fail
                go_round
                case rel => exact ⟨j + 1, true, by omega, by go_num, rfl, hid (by have := HT2.out; simpa using this)⟩
                case measure => simp [intOf]; omega
            · have HT2 : Hid (tb = true ↔ (rs.length : Int) ≤ x ∨ x ∈ l) := hid (by
                have := HTB.out
                rwa [List.take_of_length_le (by omega)] at this)
              clear HTB
              cases tb
              · have HXN : Hid (x < rs.length ∧ x ∉ l) := hid (by
                  have := HT2.out
                  simp at this
                  exact ⟨by omega, this.2⟩)
                go_wp2_with (at_builtin; refine stuck ?_)
                unfold Stuck
                refine wpl_append rfl _ _ 61 rfl 3 i0 (.int .i64 0) 1 8 Try.underlying61 HI.out hz0 hz1 hz2 rfl (by decide) (.slice la l.length lc) (.slice (some ⟨wk.heap.size, 0, none⟩) 1 1) l.length 1 (l.map (Value.int .i64)) [.int .i64 x] rfl rfl ((own_drewN HOW.out nq).alloc _) (Sl.new _ #[.int .i64 x] _ 1 1 rfl (by decide)) (by intro u hu; simp at hu; subst hu; rfl) (by unfold maxLen; omega) (by omega) ?_
                intro v2 w2 ho2 hk2 hb2
                obtain ⟨a2, c2, rfl⟩ := own_any ho2
                have HO2 := hid ho2
                have HK2 := hid hk2
                have HB2 := hid hb2
                clear ho2 hk2 hb2 hj hjl
                go_wp2_with fail
                go_roundw
                case rel =>
                  have e : l.length + 1 = (l ++ [x]).length := by simp
                  have ho := HO2.out
                  have e2 : l.map (Value.int .i64) ++ [Value.int .i64 x] = (l ++ [x]).map (Value.int .i64) := by simp
                  rw [e2, e] at ho
                  refine ⟨kk + n, a2, c2, l ++ [x], by omega, by go_num, by rw [e], hid ho, hid (fun b hb => ?_), hid ?_, hid (HSO.out.snoc HXN.out.2 hx0 HXN.out.1), by simp; omega, by simp; omega⟩
                  · rcases HB2.out b (by simpa [Value.ownBlock] using hb) with h' | h'
                    · exact HNW.out b h'
                    · have := HKK.out.size
                      simp at h'
                      omega
                  · exact HKK.out.trans' (((Keeps.refl No _).drewN _).alloc _ |>.trans' HK2.out (T := Bl (.slice la l.length lc)) (fun _ _ h => h.elim) (fun _ _ h => h)) (fun _ _ h => h) (fun b hb h' => by have := HNW.out b h'; omega)
                case measure => simp [intOf]; omega
              · go_wp2_with fail
                go_roundw
                case rel => exact ⟨kk + n, la, lc, l, by omega, by go_num, rfl, hid (own_drewN HOW.out _), HNW, hid (HKK.out.drewN _), HSO, by omega, hl24⟩
                case measure => simp [intOf]; omega
        · obtain ⟨cta, ctc, rfl⟩ := own_any HT.out.own
          have hcc := HT.out.c.keep HKK.out (fun h => h)
          have c2 : wk.cell? ⟨w.heap.size + 1 + 1 + 1, 2, none⟩ = some (.slice cta ts.length ctc) := hcc.cell rfl
          have hts6 : ts.length ≤ 6 := by rw [HTL.out]; omega
          have HOT := hid (HKK.out.own HT.out.own (fun _ _ h => h))
          have hcl := hcc.lt
          have hcx : ¬ w.heap.size + 1 + 1 + 1 = wk.heap.size := by omega
          clear hcc
          have hcase : (kk < slots.length ∧ ¬ kk < 24) ∨ ¬ kk < slots.length := by omega
          clear hc
          rcases hcase with ⟨hq1, hq2⟩ | hq1
          all_goals
            go_wp2_with (at_builtin; refine stuck ?_)
            unfold Stuck
            refine wpl_append rfl _ _ 31 rfl 61 i1 (.slice none 0 0) 1 24 Try.underlying31 HI1.out hy0 hy1 hy2 rfl (by decide) (.slice cta ts.length ctc) (.slice (some ⟨wk.heap.size, 0, none⟩) 1 1) ts.length 1 (ts.map (·.2)) [.slice la l.length lc] rfl rfl (HOT.out.alloc _) (Sl.new _ #[.slice la l.length lc] _ 1 1 rfl (by decide)) (by intro u hu; simp at hu; subst hu; rfl) (by unfold maxLen; omega) (by omega) ?_
            intro v2 w2 ho2 hk2 hb2
            obtain ⟨a2, c2', rfl⟩ := own_any ho2
            have hm2 := HT.out.mid HCB.out (HKK.out.alloc _) (fun _ _ h => h) hk2
            have u2 := hm2.cell (o := 2) (v := .slice cta ts.length ctc) rfl
            have f2 := hm2.free 2
            have HO2 := hid ho2
            have HK2 := hid hk2
            have HB2 := hid hb2
            clear ho2 hk2 hb2 hm2
            go_wp2_with fail
            go_roundw
            case rel => exact ⟨a + 1, .slice a2 (ts.length + 1) c2', ts ++ [(l, .slice la l.length lc)], by omega, by go_num, hid (by rw [List.length_append, HTL.out]; rfl), hid (HT.out.add (x := (l, .slice la l.length lc)) HCB.out (HKK.out.alloc _) (fun _ _ h => h) HO2.out HK2.out HB2.out (HOW.out.alloc _) HNW.out HSO.out), hid (fun x hx => by
                rcases List.mem_append.1 hx with hx | hx
                · exact HFEW.out x hx
                · simp at hx; subst hx; exact hl24)⟩
            case measure => simp [intOf]; omega
    · have hae : a = n := by omega
      have htl := HTL.out
      obtain ⟨tsi, ⟨yl, yv⟩, hts⟩ := snoc_of (l := ts) (by omega)
      subst hts
      obtain ⟨gb, ctc, rfl⟩ := own_some HT.out.own (by omega)
      have hm : tsi.length + 1 = n := by simpa [hae] using htl
      obtain ⟨m, hmm⟩ : ∃ m, tsi.length = m := ⟨_, rfl⟩
      have HT1 : Hid (TbS w wR wt (.slice cra rs.length crc) (.slice (some ⟨gb, 0, none⟩) (tsi.length + 1) ctc) rs.length (tsi ++ [(yl, yv)])) := hid (by have := HT.out; rw [show (tsi ++ [(yl, yv)]).length = tsi.length + 1 by simp] at this; exact this)
      have HFI : Hid (∀ x ∈ tsi, x.1.length ≤ 24) := hid (fun x hx => HFEW.out x (List.mem_append_left _ hx))
      have HFY : Hid (yl.length ≤ 24) := hid (HFEW.out (yl, yv) (by simp))
      have hnm : ((n : Int)) = (m : Int) + 1 := by omega
      have hm5 : m ≤ 5 := by omega
      have HNM := hid hnm
      have HMM := hid hmm
      clear HT HFEW hae HTL htl hm hnm hmm
      have hna : ¬ a < n := han
      go_upto_region 49 with fail
      rw [HNM.out]
      clear hna han ha hn1 hn6
      go_wp2_with fail
      go_loopw [16] (fun v16 wz => ∃ (q : Nat) (l : List Int) (lv : Value), q ≤ rs.length ∧ v16 = .int .i64 q ∧ Hid (TbS w wR wz (.slice cra rs.length crc) (.slice (some ⟨gb, 0, none⟩) (tsi.length + 1) ctc) rs.length (tsi ++ [(l, lv)])) ∧ Hid (∀ p : Nat, p < q → standsB ((tsi ++ [(l, lv)]).map (·.1)) p = true) ∧ l.length ≤ 24 + q) (fun v16 _ => rs.length - (intOf v16).toNat)
      case atStart => exact ⟨0, yl, yv, Nat.zero_le _, rfl, HT1, hid (fun p hp => by omega), HFY.out⟩
      case round =>
        obtain ⟨wz, hwz⟩ : ∃ x, x = wr := ⟨_, rfl⟩
        subst hwz
        obtain ⟨q, l, lv, hq, rfl, HT, HST, hll⟩ := hrel
        have c0 : wz.cell? ⟨w.heap.size + 1 + 1 + 1, 0, none⟩ = _ := HT.out.c.cell rfl
        have c1 : wz.cell? ⟨w.heap.size + 1 + 1 + 1, 1, none⟩ = _ := HT.out.c.cell rfl
        have c2 : wz.cell? ⟨w.heap.size + 1 + 1 + 1, 2, none⟩ = _ := HT.out.c.cell rfl
        have c3 : wz.cell? ⟨w.heap.size + 1 + 1 + 1, 3, none⟩ = _ := HT.out.c.cell rfl
        have c4 : wz.cell? ⟨w.heap.size + 1 + 1 + 1, 4, none⟩ = _ := HT.out.c.cell rfl
        have c5 : wz.cell? ⟨w.heap.size + 1 + 1 + 1, 5, none⟩ = _ := HT.out.c.cell rfl
        have c6 : wz.cell? ⟨w.heap.size + 1 + 1 + 1, 6, none⟩ = _ := HT.out.c.cell rfl
        have c7 : wz.cell? ⟨w.heap.size + 1 + 1 + 1, 7, none⟩ = _ := HT.out.c.cell rfl
        have c8 : wz.cell? ⟨w.heap.size + 1 + 1 + 1, 8, none⟩ = _ := HT.out.c.cell rfl
        have c9 : wz.cell? ⟨w.heap.size + 1 + 1 + 1, 9, none⟩ = _ := HT.out.c.cell rfl
        have c10 : wz.cell? ⟨w.heap.size + 1 + 1 + 1, 10, none⟩ = _ := HT.out.c.cell rfl
        have hel : (tsi ++ [(l, lv)]).length = tsi.length + 1 := by simp
        by_cases hqr : q < rs.length
        · have hS0 := mstands_any (w := wz) (t := tsi ++ [(l, lv)]) (ta := some ⟨gb, 0, none⟩) (tc := ctc) (sa := some ⟨w.heap.size + 1 + 1, 0, none⟩) (sn := 3) (sc := 3) (ra := cra) (rn := rs.length) (rc := crc) (by rw [hel]; exact HT.out.tabR) q 0 0 0 0 0 0 0 false
          rw [hel] at hS0
          unfold cfgV at hS0
          have HLQ := hid hqr
          by_cases hst : standsB ((tsi ++ [(l, lv)]).map (·.1)) q = true
          · rw [hst] at hS0
            have HS0 := hid hS0
            have HSQ := hid hst
            clear hst hS0 hel
            go_wp2_with (go_at_call 25; (with_reducible refine HS0.out.mono ?_); rintro e w1 ⟨rfl, k1⟩; have K1 := hid k1; clear k1)
            go_roundw
            case rel => exact ⟨q + 1, l, lv, by omega, by go_num, hid (HT.out.keep K1.out (fun _ _ h => h)), hid (fun p hp => by
              rcases Nat.lt_or_ge p q with h | h
              · exact HST.out p h
              · rw [show p = q by omega]; exact HSQ.out), by omega⟩
            case measure => simp [intOf]; omega
          · rw [show standsB ((tsi ++ [(l, lv)]).map (·.1)) q = false by simpa using hst] at hS0
            have HS0 := hid hS0
            have HSQ := hid hst
            clear hst hS0 hel
            go_upto_region 53 with (go_at_call 25; (with_reducible refine HS0.out.mono ?_); rintro e w1 ⟨rfl, k1⟩; have K1 := hid k1; clear k1)
            have HT2 := hid (HT.out.keep K1.out (fun _ _ h => h))
            have hso := HT2.out.slot (l, lv) (by simp)
            simp only at hso
            obtain ⟨lya, lyc, rfl⟩ := own_any hso
            have HSO := hid hso
            have c2 : w1.cell? ⟨w.heap.size + 1 + 1 + 1, 2, none⟩ = some (.slice (some ⟨gb, 0, none⟩) (tsi.length + 1) ctc) := HT2.out.c.cell rfl
            have hr0 : w1.cell? ⟨gb, tsi.length, none⟩ = some (.slice lya l.length lyc) := by
              have h1 := HT2.out.own
              rw [show (tsi ++ [(l, Value.slice lya l.length lyc)]).length = tsi.length + 1 by simp] at h1
              exact own_cell h1 (by simp)
            rw [HMM.out] at hr0
            have hmi : m < tsi.length + 1 := by have := HMM.out; omega
            have hwm : IntKind.i64.wrap (m : Int) = (m : Int) := by rw [IntKind.wrap_i64]; omega
            have hmi2 : (m : Int) < (tsi.length : Int) + 1 := by omega
            have hcl := HT2.out.c.lt
            have hgl := (HT2.out.own.lt gb rfl).2
            have hcx : ¬ w.heap.size + 1 + 1 + 1 = w1.heap.size := by omega
            have hgx : ¬ gb = w1.heap.size := by omega
            clear hso c0 c1 c3 c4 c5 c6 c7 c8 c9 c10
            go_region_law (refine step_append rfl (.tmp 260) (.tmp 262) 61 rfl 3 i0 (.int .i64 0) 1 8 Try.underlying61 HI.out hz0 hz1 hz2 rfl (by decide) (.slice lya l.length lyc) (.slice (some ⟨w1.heap.size, 0, none⟩) 1 1) l.length 1 (l.map (Value.int .i64)) [.int .i64 q] (by rfl) (by rfl) (Keeps.own (S := No) (by repeat' (first | with_reducible exact Keeps.refl _ _ | with_reducible refine Keeps.drewN ?_ _ | with_reducible refine Keeps.drew ?_ | with_reducible refine Keeps.alloc ?_ _ | with_reducible refine Keeps.setCell ?_ ?_ _ | exact Or.inr rfl)) HSO.out (fun _ _ h => h)) (Sl.newAt (by simp) _ _ _ _ rfl (by decide)) (by intro u hu; simp at hu; subst hu; rfl) (by unfold maxLen; omega) (by omega) ?_; intro v2 w2 ho2 hk2 hb2; obtain ⟨a2, c2', rfl⟩ := own_any ho2; have hm2 := HT2.out.midRow HCB.out (S := No) (by repeat' (first | with_reducible exact Keeps.refl _ _ | with_reducible refine Keeps.drewN ?_ _ | with_reducible refine Keeps.drew ?_ | with_reducible refine Keeps.alloc ?_ _ | with_reducible refine Keeps.setCell ?_ ?_ _ | exact Or.inr rfl)) (fun _ _ h => h) hk2; have u2 : w2.cell? ⟨w.heap.size + 1 + 1 + 1, 2, none⟩ = some (.slice (some ⟨gb, 0, none⟩) (tsi.length + 1) ctc) := hm2.1.cell rfl; have u3 : w2.cell? ⟨gb, m, none⟩ = some (.slice lya l.length lyc) := HMM.out ▸ hm2.2.1; have u4 : w2.frozen? ⟨gb, m, none⟩ = false := HMM.out ▸ hm2.2.2; have HO2 := hid ho2; have HK2 := hid hk2; have HB2 := hid hb2; clear ho2 hk2 hb2 hm2)
            all_goals
              go_wp2_with fail
              go_roundw
              case rel =>
                have hmm := HMM.out
                have hno := not_stands HSQ.out
                have hok := (HT2.out.ok (l, .slice lya l.length lyc) (by simp)).snoc (x := (q : Int)) hno (by omega) (by have := HLQ.out; omega)
                have hmore := HT2.out.more (i := (q : Int)) HCB.out (S := No) (by repeat' (first | with_reducible exact Keeps.refl _ _ | with_reducible refine Keeps.drewN ?_ _ | with_reducible refine Keeps.drew ?_ | with_reducible refine Keeps.alloc ?_ _ | with_reducible refine Keeps.setCell ?_ ?_ _ | exact Or.inr rfl)) (fun _ _ h => h) HO2.out HK2.out HB2.out hok
                rw [← hmm]
                exact ⟨q + 1, l ++ [(q : Int)], .slice a2 (l.length + 1) c2', by omega, by go_num, hid hmore, hid (fun p hp => stands_more (by
                  rcases Nat.lt_or_ge p q with h | h
                  · exact Or.inl (HST.out p h)
                  · exact Or.inr (by omega))), by simp; omega⟩
              case measure => simp [intOf]; omega
        · have hqe : q = rs.length := by omega
          have hke := entries_lt (v := lv) HFI.out (by rw [hqe] at hll; exact hll)
          have HKE := hid hke
          have HSA := hid (show ∀ p : Nat, p < rs.length → standsB ((tsi ++ [(l, lv)]).map (·.1)) p = true by rw [← hqe]; exact HST.out)
          have hdk := HK.out.d.keep HT.out.old (by omega)
          have HDK := hid hdk
          have HRK := hid (HK.out.r.keep HT.out.old (by omega))
          obtain ⟨hba0, hba1⟩ := HBA.out
          obtain ⟨hdr0, hdr1⟩ := hdr
          obtain ⟨hpa0, hpa1⟩ := hpa
          obtain ⟨hof0, hof1⟩ := hof
          obtain ⟨hlo0, hlo1⟩ := hlo
          have e2 : wz.cell? ⟨w.heap.size, 2, none⟩ = some (.int .u8 ba) := hdk.cell (by rw [HDL.out]; rfl)
          have f0 := fun o => HT.out.c.free o
          have f3 := HT.out.c.free 3
          have f4 := HT.out.c.free 4
          have f5 := HT.out.c.free 5
          have hcd : ¬ w.heap.size = w.heap.size + 1 + 1 + 1 := by omega
          clear hqe hke hdk hll hel c0 c2 c6 c7 c8 c9 c10 f0
          go_upto_region 56 with fail
          obtain ⟨wA, hwA⟩ : ∃ wA, ((wz.setCell ⟨w.heap.size + 1 + 1 + 1, 3, none⟩ (.int .i64 (1 + ba % 16 % 3))).setCell ⟨w.heap.size + 1 + 1 + 1, 4, none⟩ (.int .i64 (1 + ba % 16 / 2 % 3))).setCell ⟨w.heap.size + 1 + 1 + 1, 5, none⟩ (.int .i64 (1 + ba % 16 / 4 % 4)) = wA := ⟨_, rfl⟩
          have hca : BlkL wA (w.heap.size + 1 + 1 + 1) 34 [.slice (some ⟨w.heap.size + 1 + 1, 0, none⟩) 3 3, .slice cra rs.length crc, .slice (some ⟨gb, 0, none⟩) (tsi.length + 1) ctc, .int .i64 (1 + ba % 16 % 3), .int .i64 (1 + ba % 16 / 2 % 3), .int .i64 (1 + ba % 16 / 4 % 4), .int .i64 0, .int .i64 0, .int .i64 0, .bool false, .int .i64 0] := by rw [← hwA]; exact ((HT.out.c.set 3 _).set 4 _).set 5 _
          have hka : Keeps (fun b => b = w.heap.size + 1 + 1 + 1) wz wA := by rw [← hwA]; exact (Keeps.refl _ _).at.at.at
          rw [hwA]
          have HCA := hid hca
          have HKA := hid hka
          have HDA := hid (HDK.out.keep hka (by omega))
          have HRA := hid (HRK.out.keep hka (by omega))
          obtain ⟨E, hE⟩ : ∃ E, entries ((tsi ++ [(l, lv)]).map (·.1)) = E := ⟨_, rfl⟩
          have hke := HKE.out
          rw [hE] at hke
          have hEN : ∀ w', Keeps No wA w' → Calls Try.prog 26 #[.agg #[.slice (some ⟨w.heap.size + 1 + 1, 0, none⟩) 3 3, .slice cra rs.length crc, .slice (some ⟨gb, 0, none⟩) (tsi.length + 1) ctc, .int .i64 (1 + ba % 16 % 3), .int .i64 (1 + ba % 16 / 2 % 3), .int .i64 (1 + ba % 16 / 4 % 4), .int .i64 0, .int .i64 0, .int .i64 0, .bool false, .int .i64 0]] w' fun e w'' => e = .returned (.int .i64 E) ∧ Keeps No w' w'' := fun w' kw => by
            have ht := HT.out.tabR
            have hel : (tsi ++ [(l, lv)]).length = tsi.length + 1 := by simp
            have ht' : TabR w' (.slice (some ⟨gb, 0, none⟩) (tsi ++ [(l, lv)]).length ctc) (tsi ++ [(l, lv)]) := by
              rw [hel]
              have hk : Keeps (fun b => b = w.heap.size + 1 + 1 + 1) wz w' := hka.trans (kw.mono (fun _ _ h => h.elim))
              have hcb := HCB.out
              refine ⟨ht.row.keep hk (fun b hb (e : b = w.heap.size + 1 + 1 + 1) => by have := HT.out.new b hb; omega), fun x hx => Sl.keep (ht.slot x hx) hk (fun b hb (e : b = w.heap.size + 1 + 1 + 1) => by have := (HT.out.snew x hx b hb).1; omega)⟩
            have hmm := HMM.out
            have := mentries_any ht' (by rw [hE]; have hmm := HMM.out; exact Nat.le_trans hke (by omega)) (sa := some ⟨w.heap.size + 1 + 1, 0, none⟩) (sn := 3) (sc := 3) (ra := cra) (rn := rs.length) (rc := crc) (1 + ba % 16 % 3) (1 + ba % 16 / 2 % 3) (1 + ba % 16 / 4 % 4) 0 0 0 0 false
            rw [hel, hE] at this
            exact this
          have HEN := hid hEN
          have HE := hid hE
          have HE2 := hid (show E ≤ 1000 by have := HMM.out; omega)
          have HE3 := hid (show E ≤ 24 * (m + 1) + 8 by have := HMM.out; omega)
          have x0 := hca.cell (o := 0) rfl
          have x1 := hca.cell (o := 1) rfl
          have x2 := hca.cell (o := 2) rfl
          have x3 := hca.cell (o := 3) rfl
          have x4 := hca.cell (o := 4) rfl
          have x5 := hca.cell (o := 5) rfl
          have x6 := hca.cell (o := 6) rfl
          have x7 := hca.cell (o := 7) rfl
          have x8 := hca.cell (o := 8) rfl
          have x9 := hca.cell (o := 9) rfl
          have x10 := hca.cell (o := 10) rfl
          have y3 : wA.cell? ⟨w.heap.size, 3, none⟩ = some (.int .u8 dr) := HDA.out.cell (by rw [HDL.out]; rfl)
          clear hwA hca hka hke hE hEN f3 f4 f5 e2 c1
          go_cut [] from 282 to 294 (fun wx => ∃ D, Hid (D = (E : Int) / ((m : Int) + 1) + 1 + dr % 4 / 3 * 2) ∧ Hid (BlkL wx (w.heap.size + 1 + 1 + 1) 34 [.slice (some ⟨w.heap.size + 1 + 1, 0, none⟩) 3 3, .slice cra rs.length crc, .slice (some ⟨gb, 0, none⟩) (tsi.length + 1) ctc, .int .i64 (1 + ba % 16 % 3), .int .i64 (1 + ba % 16 / 2 % 3), .int .i64 (1 + ba % 16 / 4 % 4), .int .i64 D, .int .i64 0, .int .i64 0, .bool false, .int .i64 0]) ∧ Hid (Keeps (fun b => b = w.heap.size + 1 + 1 + 1) wz wx))
          case first =>
            go_region_with ((go_at_call 26; (with_reducible refine (HEN.out _ ?hk).mono ?_); (case hk => exact (by repeat' (first | with_reducible exact Keeps.refl _ _ | with_reducible refine Keeps.drewN ?_ _ | with_reducible refine Keeps.drew ?_ | with_reducible refine Keeps.alloc ?_ _ | with_reducible refine Keeps.setCell ?_ ?_ _ | exact Or.inr rfl))); rintro e w5 ⟨rfl, k5⟩; have k6 : Keeps No wA w5 := Keeps.trans (by repeat' (first | with_reducible exact Keeps.refl _ _ | with_reducible refine Keeps.drewN ?_ _ | with_reducible refine Keeps.drew ?_ | with_reducible refine Keeps.alloc ?_ _ | with_reducible refine Keeps.setCell ?_ ?_ _ | exact Or.inr rfl)) k5; have h5 := HCA.out.keep k6 (fun h => h); have g5 := HDA.out.keep k6 (fun h => h); have x0 := h5.cell (o := 0) rfl; have x1 := h5.cell (o := 1) rfl; have x2 := h5.cell (o := 2) rfl; have x3 := h5.cell (o := 3) rfl; have x4 := h5.cell (o := 4) rfl; have x5 := h5.cell (o := 5) rfl; have x6 := h5.cell (o := 6) rfl; have x7 := h5.cell (o := 7) rfl; have x8 := h5.cell (o := 8) rfl; have x9 := h5.cell (o := 9) rfl; have x10 := h5.cell (o := 10) rfl; have y3 : w5.cell? ⟨w.heap.size, 3, none⟩ = some (.int .u8 dr) := g5.cell (by rw [HDL.out]; rfl); have z6 := h5.free 6; have K6 := hid k6; have H5 := hid h5; clear k5 k6 h5 g5))
            all_goals
              go_wp2_with fail
              go_meet
              first
                | exact ⟨_, hid (drain_of HE2.out ⟨hdr0, hdr1⟩), hid (H5.out.set 6 _), hid ((HKA.out.trans (K6.out.mono (fun _ _ h => h.elim))).at)⟩
                | exact ⟨_, hid (drain_of2 HE2.out ⟨hdr0, hdr1⟩), hid (H5.out.set 6 _), hid ((HKA.out.trans (K6.out.mono (fun _ _ h => h.elim))).at)⟩
          case rest =>
            clear x0 x1 x2 x3 x4 x5 x6 x7 x8 x9 x10 y3 HEN HCA HDA HRA c3 c4 c5
            obtain ⟨D, HD, HCB2, HKB⟩ := hcut
            obtain ⟨wB, hwB⟩ : ∃ x, x = wc := ⟨_, rfl⟩
            subst hwB
            have HDB := hid (HDK.out.keep HKB.out (by omega))
            have HRB := hid (HRK.out.keep HKB.out (by omega))
            have y4 : wB.cell? ⟨w.heap.size, 4, none⟩ = some (.int .u8 pa) := HDB.out.cell (by rw [HDL.out]; rfl)
            have y5 : wB.cell? ⟨w.heap.size, 5, none⟩ = some (.int .u8 of_) := HDB.out.cell (by rw [HDL.out]; rfl)
            have y6 : wB.cell? ⟨w.heap.size, 6, none⟩ = some (.bool br) := HDB.out.cell (by rw [HDL.out]; rfl)
            have y7 : wB.cell? ⟨w.heap.size, 7, none⟩ = some (.int .u8 lo) := HDB.out.cell (by rw [HDL.out]; rfl)
            obtain ⟨x0, x1, x2, x3, x4, x5, x6, x7, x8, x9, x10⟩ := cellsK HCB2.out
            obtain ⟨z0, z1, z2, z3, z4, z5, z6, z7, z8, z9, z10⟩ := freesK HCB2.out
            go_upto_region 57 with fail
            go_cut [] from 295 to 315 (fun wx => Hid (BlkL wx (w.heap.size + 1 + 1 + 1) 34 [.slice (some ⟨w.heap.size + 1 + 1, 0, none⟩) 3 3, .slice cra rs.length crc, .slice (some ⟨gb, 0, none⟩) (tsi.length + 1) ctc, .int .i64 (1 + ba % 16 % 3), .int .i64 (1 + ba % 16 / 2 % 3), .int .i64 (1 + ba % 16 / 4 % 4), .int .i64 D, .int .i64 (1 + pa % 30), .int .i64 (1 + of_ % 30), .bool br, .int .i64 (1 + lo % 40)]) ∧ Hid (Keeps (fun b => b = w.heap.size + 1 + 1 + 1) wz wx))
            case first =>
              go_region
              all_goals
                go_wp2_with fail
                go_meet
                have p7 := HCB2.out.put (ys := [.slice (some ⟨w.heap.size + 1 + 1, 0, none⟩) 3 3, .slice cra rs.length crc, .slice (some ⟨gb, 0, none⟩) (tsi.length + 1) ctc, .int .i64 (1 + ba % 16 % 3), .int .i64 (1 + ba % 16 / 2 % 3), .int .i64 (1 + ba % 16 / 4 % 4), .int .i64 D, .int .i64 (1 + pa % 30), .int .i64 0, .bool false, .int .i64 0]) 7 (.int .i64 (1 + pa % 30)) rfl
                have p8 := p7.put (ys := [.slice (some ⟨w.heap.size + 1 + 1, 0, none⟩) 3 3, .slice cra rs.length crc, .slice (some ⟨gb, 0, none⟩) (tsi.length + 1) ctc, .int .i64 (1 + ba % 16 % 3), .int .i64 (1 + ba % 16 / 2 % 3), .int .i64 (1 + ba % 16 / 4 % 4), .int .i64 D, .int .i64 (1 + pa % 30), .int .i64 (1 + of_ % 30), .bool false, .int .i64 0]) 8 (.int .i64 (1 + of_ % 30)) rfl
                have p9 := p8.put (ys := [.slice (some ⟨w.heap.size + 1 + 1, 0, none⟩) 3 3, .slice cra rs.length crc, .slice (some ⟨gb, 0, none⟩) (tsi.length + 1) ctc, .int .i64 (1 + ba % 16 % 3), .int .i64 (1 + ba % 16 / 2 % 3), .int .i64 (1 + ba % 16 / 4 % 4), .int .i64 D, .int .i64 (1 + pa % 30), .int .i64 (1 + of_ % 30), .bool br, .int .i64 0]) 9 (.bool br) rfl
                have p10 := p9.put (ys := [.slice (some ⟨w.heap.size + 1 + 1, 0, none⟩) 3 3, .slice cra rs.length crc, .slice (some ⟨gb, 0, none⟩) (tsi.length + 1) ctc, .int .i64 (1 + ba % 16 % 3), .int .i64 (1 + ba % 16 / 2 % 3), .int .i64 (1 + ba % 16 / 4 % 4), .int .i64 D, .int .i64 (1 + pa % 30), .int .i64 (1 + of_ % 30), .bool br, .int .i64 (1 + lo % 40)]) 10 (.int .i64 (1 + lo % 40)) rfl
                exact ⟨hid p10.drew, hid (HKB.out.at.at.at.at.drew)⟩
            case rest =>
              obtain ⟨HCD, HKD⟩ := hcut
              obtain ⟨wD, hwD⟩ : ∃ x, x = wc := ⟨_, rfl⟩
              subst hwD
              have HRD := hid (HRK.out.keep HKD.out (by omega))
              have hne1 : ¬ w.heap.size + 1 = w.heap.size + 1 + 1 + 1 := by omega
              clear y4 y5 y6 y7 x0 x1 x2 x3 x4 x5 x6 x7 x8 x9 x10 z0 z1 z2 z3 z4 z5 z6 z7 z8 z9 z10
              obtain ⟨x0, x1, x2, x3, x4, x5, x6, x7, x8, x9, x10⟩ := cellsK HCD.out
              obtain ⟨z0, z1, z2, z3, z4, z5, z6, z7, z8, z9, z10⟩ := freesK HRD.out
              obtain ⟨y0, y1, y2, y3, y4, y5, y6, y7, y8, y9, y10⟩ := cellsK (show BlkL wD (w.heap.size + 1) 34 [.slice none 0 0, .slice none 0 0, .slice none 0 0, .int .i64 0, .int .i64 0, .int .i64 0, .int .i64 0, .int .i64 0, .int .i64 0, .bool false, .int .i64 0] from HRD.out)
              have hcfg : ∀ w', Keeps (fun b => b = w.heap.size + 1) wD w' → CfgR w' (madeC rs (tsi ++ [(l, lv)]) (1 + ba % 16 % 3) (1 + ba % 16 / 2 % 3) (1 + ba % 16 / 4 % 4) D (1 + pa % 30) (1 + of_ % 30) br (1 + lo % 40)) (.slice (some ⟨w.heap.size + 1 + 1, 0, none⟩) 3 3) (.slice cra rs.length crc) (.slice (some ⟨gb, 0, none⟩) (tsi.length + 1) ctc) ∧ Keeps No w w' := fun w' hw => make_cfg HK.out HT.out HKD.out hw (1 + ba % 16 % 3) (1 + ba % 16 / 2 % 3) (1 + ba % 16 / 4 % 4) D (1 + pa % 30) (1 + of_ % 30) br (1 + lo % 40)
              have hmade : Made (madeC rs (tsi ++ [(l, lv)]) (1 + ba % 16 % 3) (1 + ba % 16 / 2 % 3) (1 + ba % 16 / 4 % 4) D (1 + pa % 30) (1 + of_ % 30) br (1 + lo % 40)) := make_made HK.out HT.out hrs1 hrs8 HMM.out hm5 HSA.out HE.out HE3.out br HBA.out ⟨hdr0, hdr1⟩ ⟨hpa0, hpa1⟩ ⟨hof0, hof1⟩ ⟨hlo0, hlo1⟩ HD.out
              have hown : ∀ w', Keeps (fun b => b = w.heap.size + 1) wD w' → MadeOwn w w' (madeC rs (tsi ++ [(l, lv)]) (1 + ba % 16 % 3) (1 + ba % 16 / 2 % 3) (1 + ba % 16 / 4 % 4) D (1 + pa % 30) (1 + of_ % 30) br (1 + lo % 40)) (.slice (some ⟨w.heap.size + 1 + 1, 0, none⟩) 3 3) (.slice cra rs.length crc) (.slice (some ⟨gb, 0, none⟩) (tsi.length + 1) ctc) := fun w' hw => make_own HK.out HT.out HKD.out hw (1 + ba % 16 % 3) (1 + ba % 16 / 2 % 3) (1 + ba % 16 / 4 % 4) D (1 + pa % 30) (1 + of_ % 30) br (1 + lo % 40)
              have HOWN := hid hown
              have HCFG := hid hcfg
              have HMADE := hid hmade
              have hfrom : MadeFrom (madeC rs (tsi ++ [(l, lv)]) (1 + ba % 16 % 3) (1 + ba % 16 / 2 % 3) (1 + ba % 16 / 4 % 4) D (1 + pa % 30) (1 + of_ % 30) br (1 + lo % 40)) rules ba dr pa of_ lo br := by
                have hnm := HNM.out
                have hmm := HMM.out
                have hn := HN.out
                have htl : (tsi ++ [(l, lv)]).length = m + 1 := by simp [hmm]
                refine ⟨HLIKE.out, ?_, ?_, rfl, rfl, rfl, ?_, rfl, rfl, rfl, rfl⟩
                · have h1 := HRL.out
                  have h2 := HNC.out
                  have h3 := HLIKE.out.1
                  show rs.length = _
                  omega
                · show ((tsi ++ [(l, lv)]).length : Int) = _
                  rw [htl]; omega
                · show D = _ / (((tsi ++ [(l, lv)]).length : Nat) : Int) + 1 + _
                  rw [htl, HD.out]
                  show _ = ((entries ((tsi ++ [(l, lv)]).map (·.1)) : Nat) : Int) / _ + 1 + _
                  rw [HE.out]
                  push_cast
                  rfl
              have HFROM := hid hfrom
              have htab := fun (w' : World) (hw : Keeps (fun b => b = w.heap.size + 1) wD w') => make_tab HK.out HT.out HKD.out hw (1 + ba % 16 % 3) (1 + ba % 16 / 2 % 3) (1 + ba % 16 / 4 % 4) D (1 + pa % 30) (1 + of_ % 30) br (1 + lo % 40)
              have HTAB := hid htab
              clear hown hcfg hmade hfrom htab HLIKE HK HT HKD HMM HSA HE HE2 HE3 HBA HD HCD HRD HRB HDB HCB2 HKB HKA HRK HDK HKE HST HNO HNM HFI HFY HI HI1 HN HCB HNC HRL HDL H hz0 hz1 hz2 hy0 hy1 hy2 hcd hne1 hdr0 hdr1 hpa0 hpa1 hof0 hof1 hlo0 hlo1 hba0 hba1 hq hqr hm5 hrs1 hrs8 hi1 hil hi8 hir hlr hls
              go_wp2_with fail
              refine bodyPost_ret (v := (.agg #[.slice (some ⟨w.heap.size + 1 + 1, 0, none⟩) 3 3, .slice cra rs.length crc, .slice (some ⟨gb, 0, none⟩) (tsi.length + 1) ctc, .int .i64 (1 + ba % 16 % 3), .int .i64 (1 + ba % 16 / 2 % 3), .int .i64 (1 + ba % 16 / 4 % 4), .int .i64 D, .int .i64 (1 + pa % 30), .int .i64 (1 + of_ % 30), .bool br, .int .i64 (1 + lo % 40)])) (by simp [results, Try.results12, go_sem, y0, y1, y2, y3, y4, y5, y6, y7, y8, y9, y10]) rfl ?_
              refine ⟨(madeC rs (tsi ++ [(l, lv)]) (1 + ba % 16 % 3) (1 + ba % 16 / 2 % 3) (1 + ba % 16 / 4 % 4) D (1 + pa % 30) (1 + of_ % 30) br (1 + lo % 40)), _, _, _, ⟨rfl, (HCFG.out _ ?_).1, HMADE.out, (HCFG.out _ ?_).2, HOWN.out _ ?_⟩, HFROM.out, HTAB.out _ ?_⟩
              · repeat' (first | with_reducible exact Keeps.refl _ _ | with_reducible refine Keeps.at ?_)
              · repeat' (first | with_reducible exact Keeps.refl _ _ | with_reducible refine Keeps.at ?_)
              · repeat' (first | with_reducible exact Keeps.refl _ _ | with_reducible refine Keeps.at ?_)
              · repeat' (first | with_reducible exact Keeps.refl _ _ | with_reducible refine Keeps.at ?_)

end Go.Proofs.Ytoodlhagecannaa
