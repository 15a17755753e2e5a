/-
  The document's answers for layer 2: Take, more: what is taken where something waits.
-/
import Derived.Test.YtoodlhagecannaaM4
import Derived.Test.YtoodlhagecannaaM6
import Derived.Deep.DeepCutAuto
import Derived.Deep.CutBlock
namespace Go.Proofs.Ytoodlhagecannaa
open Go.RowKit

theorem PutR.mid' {w4 wr W w2 : World} {b3 : Nat} {a b c : Int} {lv : Value} {l : List (Int × Ev)} (h : PutR w4 wr b3 a b c lv l) (hb : b3 < w4.heap.size) {S : Nat → Prop} (hk : Keeps S wr W) (hS : ∀ i, S i → wr.heap.size ≤ i) (hk2 : Keeps (Bl lv) W w2) :
    w2.heap[b3]? = some (.cells #[.int .i64 a, .int .i64 b, .int .i64 c, lv] 55 (0, 0)) := by
  have hs := h.old.size
  exact hk2.heap (fun h' => by have := h.new b3 (by simpa [Bl] using h'); omega) (hk.heap (fun e => by have := hS _ e; omega) h.blk)

theorem PutR.steps {w4 wr W w2 : World} {b3 : Nat} {a b c : Int} {lv v2 : Value} {l : List (Int × Ev)} {ys : List (Int × Ev)} (h : PutR w4 wr b3 a b c lv l) (hb : b3 < w4.heap.size) {S : Nat → Prop} (hk : Keeps S wr W) (hS : ∀ i, S i → wr.heap.size ≤ i)
    (ho : w2.ownsRow 0 107 4 v2 (l.length + ys.length) (l.flatMap encI ++ ys.flatMap encI)) (hk2 : Keeps (Bl lv) W w2) (hb2 : ∀ k, v2.ownBlock = some k → lv.ownBlock = some k ∨ W.heap.size ≤ k) :
    PutR w4 (w2.setCell ⟨b3, 3, none⟩ v2) b3 a b c v2 (l ++ ys) := by
  have hs := h.old.size
  have hs2 := hk.size
  have hnew : ∀ k, v2.ownBlock = some k → w4.heap.size ≤ k := fun k hk' => by
    rcases hb2 k hk' with h' | h'
    · exact h.new k h'
    · omega
  refine ⟨?_, ?_, hnew, ?_⟩
  · have := heap_setCell_at (i := 3) (v := v2) (h.mid' hb hk hS hk2)
    simpa using this
  · have := ownsRow_setCell_other (a := ⟨b3, 3, none⟩) ho (fun e => by have := hnew b3 e; omega) v2
    rw [List.length_append, List.flatMap_append]
    simpa using this
  · refine Keeps.at ?_
    refine (h.old.trans' hk (fun _ _ h => h) (fun i hi e => by have := hS i e; omega)).trans' hk2 (fun _ _ h => h) (fun i hi h' => by have := h.new i (by simpa [Bl] using h'); omega)

theorem heap_drew (w : World) : w.drew.heap = w.heap := rfl

section
variable {w : World} {lv : Value} {l : List (Int × Ev)}

set_option maxHeartbeats 8000000 in
set_option maxRecDepth 100000 in
theorem mtake_ok (h : SlIt w lv l) (hl : l.length ≤ 1000) (h0 : 0 < l.length) (a b c : Int) :
    Calls Try.prog 29 #[qval a b c lv] w fun e w' => ∃ lv' m, Best l l.length m ∧ ∃ hm : m < l.length, e = .returned (.tuple #[qval a b c lv', l[m].2.val, .int .u8 l[m].1, .bool true]) ∧ SlIt w' lv' (l.take m ++ l.drop (m + 1)) ∧ Keeps No w w' ∧ ∀ k, lv'.ownBlock = some k → w.heap.size ≤ k := by
  obtain ⟨ao, cap, rfl⟩ := h.any
  obtain ⟨w1, hw1⟩ : ∃ w1, w1 = ((w.alloc (.cells #[.int .i64 a, .int .i64 b, .int .i64 c, .slice ao l.length cap] 55)).alloc (.cells #[.int .i64 0, .int .i64 0, .int .i64 0, .slice none 0 0] 55)).alloc (.cells #[.int .i64 0, .bool false, .int .i64 0] 64) := ⟨_, rfl⟩
  have hk1 : Keeps No w w1 := by rw [hw1]; exact (((Keeps.refl No _).alloc _).alloc _).alloc _
  have hq0 : w1.heap[w.heap.size]? = some (.cells #[.int .i64 a, .int .i64 b, .int .i64 c, .slice ao l.length cap] 55 (0, 0)) := by rw [hw1]; exact heapA _ (heapA _ (heap_alloc_new w _))
  have hq1 : w1.heap[w.heap.size + 1]? = some (.cells #[.int .i64 0, .int .i64 0, .int .i64 0, .slice none 0 0] 55 (0, 0)) := by rw [hw1]; exact heapA _ (by simpa using heap_alloc_new (w.alloc _) _)
  have hq2 : w1.heap[w.heap.size + 2]? = some (.cells #[.int .i64 0, .bool false, .int .i64 0] 64 (0, 0)) := by rw [hw1]; simpa using heap_alloc_new ((w.alloc _).alloc _) _
  have hs1 : w1.heap.size = w.heap.size + 3 := by rw [hw1]; simp
  have H := hid (Sl.keep h hk1 (fun _ _ h => h))
  have HG0 := hid (Sl.lt h h0)
  have HW1 := hid hw1
  have HQ0 := hid hq0
  have HQ1 := hid hq1
  have HQ2 := hid hq2
  have HS1 := hid hs1
  have HK1 := hid hk1
  unfold qval
  clear h hk1 hq0 hq1 hq2 hs1 hw1
  go_enter Try.func29, Try.ntmps29
  go_wp2_with fail
  rw [← HW1.out]
  go_loopw [6, 7] (fun v6 v7 wr => ∃ k : Nat, k ≤ l.length ∧ v7 = .int .i64 k ∧ Hid (Keeps No w1 wr) ∧ ((k = 0 ∧ v6 = .int .i64 (-1)) ∨ ∃ m : Nat, Hid (Best l k m) ∧ m < l.length ∧ v6 = .int .i64 m)) (fun _ v7 _ => l.length - (intOf v7).toNat)
  case atStart => exact ⟨0, Nat.zero_le _, rfl, hid (Keeps.refl _ _), Or.inl ⟨rfl, rfl⟩⟩
  case round =>
    obtain ⟨k, hk, rfl, HN, hbest⟩ := hrel
    have hQ := HN.out.heap (fun h => h) HQ0.out
    have x3 := cell_at (i := 3) hQ rfl
    have HL := hid (Sl.keep H.out HN.out (fun _ _ h => h))
    by_cases hlt : k < l.length
    · obtain ⟨g, off, rfl, hg, c0, _, _, _⟩ := SlIt.at HL.out hlt
      rcases hbest with ⟨rfl, rfl⟩ | ⟨m, HB, hm, rfl⟩
      · go_wp2_with fail
        go_quiet (fail)
        go_wp2_with fail
        go_roundw
        case rel => exact ⟨1, by omega, rfl, hid (HN.out.drewN _), Or.inr ⟨0, hid Best.one, by omega, rfl⟩⟩
        case measure => simp [intOf]; omega
      · obtain ⟨g', off', e, _, d0, _, _, _⟩ := SlIt.at HL.out hm
        simp only [Option.some.injEq, Addr.mk.injEq, and_true] at e
        obtain ⟨rfl, rfl⟩ := e
        by_cases hp : l[m].1 < l[k].1
        · have HB2 := hid (Best.turn HB.out hlt hm hp)
          have hd : decide (l[m].1 < l[k].1) = true := by simpa using hp
          generalize l[m].1 = xm at *
          generalize l[k].1 = xk at *
          have hneg : decide ((m : Int) < 0) = false := by simp
          go_wp2_with fail
          go_quiet (fail)
          go_wp2_with fail
          go_roundw
          case rel => exact ⟨k + 1, by omega, by go_num, hid (HN.out.drewN _), Or.inr ⟨k, HB2, hlt, rfl⟩⟩
          case measure => simp [intOf]; omega
        · have HB2 := hid (Best.keep HB.out hlt hm hp)
          have hd : decide (l[m].1 < l[k].1) = false := by simpa using hp
          generalize l[m].1 = xm at *
          generalize l[k].1 = xk at *
          have hneg : decide ((m : Int) < 0) = false := by simp
          go_wp2_with fail
          go_quiet (fail)
          go_wp2_with fail
          go_roundw
          case rel => exact ⟨k + 1, by omega, by go_num, hid (HN.out.drewN _), Or.inr ⟨m, HB2, hm, rfl⟩⟩
          case measure => simp [intOf]; omega
    · have HKE := hid (show k = l.length by omega)
      rcases hbest with ⟨rfl, _⟩ | ⟨m, HB, hm, rfl⟩
      · omega
      · have hneg : decide ((m : Int) < 0) = false := by simp
        have x0 := cell_at (i := 0) hQ rfl
        have x1 := cell_at (i := 1) hQ rfl
        have x2 := cell_at (i := 2) hQ rfl
        obtain ⟨i0, hi, hz0, hz1, hz2⟩ := info_parts info_item
        have HI := hid hi
        have hcap : l.length ≤ cap := by
          obtain ⟨_, _, a', cap', hv, hc, _⟩ := H.out
          simp only [Value.slice.injEq] at hv
          omega
        have hmc : m ≤ cap := by omega
        have hbz2 : w.heap.size + 2 < wr.heap.size := lt_of_block (HN.out.heap (fun h => h) HQ2.out)
        have hbz1 : w.heap.size + 1 < wr.heap.size := by omega
        have hbz : w.heap.size < wr.heap.size := by omega
        clear hi
        go_upto_region 10 with fail
        obtain ⟨w4, hw4⟩ : ∃ w4, w4 = wr.alloc (.cells #[.int .i64 a, .int .i64 b, .int .i64 c, .slice none 0 0] 55) := ⟨_, rfl⟩
        have hP0 : PutR w4 w4 wr.heap.size a b c (.slice none 0 0) [] := ⟨by rw [hw4]; exact heap_alloc_new _ _, World.ownsRow_nil _ _ _ _, fun k hk => by simp [Value.ownBlock] at hk, Keeps.refl _ _⟩
        have hk4 : Keeps No wr w4 := by rw [hw4]; exact (Keeps.refl No _).alloc _
        have hb34 : wr.heap.size < w4.heap.size := by rw [hw4]; simp
        rw [← hw4]
        have HP0 := hid hP0
        have HK4 := hid hk4
        have HQ4 := hid (hk4.heap (fun h => h) hQ)
        have HL4 := hid (HL.out.keep hk4 (fun _ _ h => h))
        clear hw4 hP0 hk4 hQ x0 x1 x2 x3
        go_cut [] (fun wx => ∃ lv, Hid (PutR w4 wx wr.heap.size a b c lv (l.take m)))
        case first =>
          have x3 := cell_at (i := 3) HQ4.out rfl
          have t3 := cell_at (i := 3) HP0.out.blk rfl
          have e3 := free_at (i := 3) HP0.out.blk
          simp at x3 t3
          go_region_law (refine step_append rfl (.tmp 42) (.tmp 46) 53 rfl 107 i0 (.agg #[.int .u8 0, .int .i64 0, .bool false, .int .i64 0]) 4 32 Try.underlying53 HI.out hz0 hz1 hz2 rfl (by decide) (.slice none 0 0) (.slice ao m cap) 0 m [] _ (by rfl) (by rfl) (World.ownsRow_nil _ _ _ _) (Sl.head HL4.out (Nat.le_of_lt hm)) (by rw [flat_take]; exact items_oneCell _) (by unfold maxLen; omega) (by omega) ?_; intro v2 w2 ho2 hk2 hb2; obtain ⟨a2, c2, rfl⟩ := own_any ho2; have hm2 := HP0.out.mid' hb34 (S := No) (by repeat' (first | with_reducible exact Keeps.refl _ _ | with_reducible refine Keeps.drewN ?_ _ | with_reducible refine Keeps.drew ?_ | with_reducible refine Keeps.alloc ?_ _ | with_reducible refine Keeps.setCell ?_ ?_ _ | exact Or.inr rfl)) (fun _ h => h.elim) hk2; have u3 := cell_at (i := 3) hm2 rfl; have d3 := free_at (i := 3) hm2; simp at u3; have HO2 := hid ho2; have HK2 := hid hk2; have HB2 := hid hb2; clear ho2 hk2 hb2)
          all_goals
            go_wp2_with fail
            go_meet
            have ho : w2.ownsRow 0 107 4 (.slice a2 m c2) (([] : List (Int × Ev)).length + (l.take m).length) (([] : List (Int × Ev)).flatMap encI ++ (l.take m).flatMap encI) := by
              have := HO2.out
              rw [flat_take] at this
              simpa [Nat.min_eq_left (Nat.le_of_lt hm)] using this
            have hk2 := HK2.out
            have hb2 := HB2.out
            simp only [Nat.zero_add] at hb2
            exact ⟨_, hid (HP0.out.steps (ys := l.take m) hb34 (S := No) (by repeat' (first | with_reducible exact Keeps.refl _ _ | with_reducible refine Keeps.drewN ?_ _ | with_reducible refine Keeps.drew ?_ | with_reducible refine Keeps.alloc ?_ _ | with_reducible refine Keeps.setCell ?_ ?_ _ | exact Or.inr rfl)) (fun _ h => h.elim) ho hk2 hb2)⟩
        case rest =>
          obtain ⟨lv2, HP1⟩ := hcut
          clear HP0
          have hol := HP1.out.old
          have hlv2 : ∃ a2 c2, lv2 = .slice a2 m c2 := by
            obtain ⟨a2, c2, rfl⟩ := own_any HP1.out.own
            exact ⟨a2, c2, by rw [List.length_take, Nat.min_eq_left (Nat.le_of_lt hm)]⟩
          obtain ⟨a2, c2, rfl⟩ := hlv2
          have HQ5 := hid (hol.heap (b := w.heap.size) (by omega) HQ4.out)
          have HL5 := hid (HL4.out.keep' hol (fun h0 b hb hlt e => by
            have := HL.out.lt h0 b hb; omega))
          go_upto_region 11 with fail
          clear hol
          obtain ⟨sv, hsv⟩ : ∃ a', (if cap = m + 1 then ao else ao.map (·.add ((m + 1) * 4))) = a' := ⟨_, rfl⟩
          have hsl : ∀ w : World, (Instr.slice 53 (.slice ao l.length cap) (some (.int .i64 (IntKind.i64.wrap ((m : Int) + 1)))) none none).run Try.prog w = .ok (.slice sv (l.length - (m + 1)) (cap - (m + 1))) w := fun w => by
            rw [← hsv, show IntKind.i64.wrap ((m : Int) + 1) = (m : Int) + 1 by rw [IntKind.wrap_i64]; omega]
            exact run_sliceFrom (size := 4) Try.underlying53 (by kernel_rfl) (by omega) (by omega) w
          have hss : Sl wc 4 (.slice sv (l.length - (m + 1)) (cap - (m + 1))) (l.length - (m + 1)) ((l.drop (m + 1)).flatMap encI) := by
            have := Sl.sub HL5.out (lo := m + 1) (hi := l.length) (by omega) (Nat.le_refl _)
            rw [hsv, flat_drop, List.take_of_length_le (by rw [length_flatMap_enc encI_len, List.length_drop]; exact Nat.le_refl _)] at this
            exact this
          have HSS := hid hss
          clear hss hsv
          go_cut [] (fun wx => ∃ lv, Hid (PutR w4 wx wr.heap.size a b c lv (l.take m ++ l.drop (m + 1))))
          case first =>
            have x3 := cell_at (i := 3) HQ5.out rfl
            have t3 := cell_at (i := 3) HP1.out.blk rfl
            have e3 := free_at (i := 3) HP1.out.blk
            simp at x3 t3
            have HOW : Hid (wc.ownsRow 0 107 4 (.slice a2 m c2) m ((l.take m).flatMap encI)) := hid (by have := HP1.out.own; rwa [List.length_take, Nat.min_eq_left (Nat.le_of_lt hm)] at this)
            go_region_law (refine step_append rfl (.tmp 50) (.tmp 55) 53 rfl 107 i0 (.agg #[.int .u8 0, .int .i64 0, .bool false, .int .i64 0]) 4 32 Try.underlying53 HI.out hz0 hz1 hz2 rfl (by decide) (.slice a2 m c2) (.slice sv (l.length - (m + 1)) (cap - (m + 1))) m (l.length - (m + 1)) _ _ (by rfl) (by rfl) HOW.out HSS.out (items_oneCell _) (by unfold maxLen; omega) (by omega) ?_; intro v2 w2 ho2 hk2 hb2; obtain ⟨a2, c2, rfl⟩ := own_any ho2; have hm2 := HP1.out.mid' hb34 (S := No) (by repeat' (first | with_reducible exact Keeps.refl _ _ | with_reducible refine Keeps.drewN ?_ _ | with_reducible refine Keeps.drew ?_ | with_reducible refine Keeps.alloc ?_ _ | with_reducible refine Keeps.setCell ?_ ?_ _ | exact Or.inr rfl)) (fun _ h => h.elim) hk2; have u3 := cell_at (i := 3) hm2 rfl; have d3 := free_at (i := 3) hm2; simp at u3; have HO2 := hid ho2; have HK2 := hid hk2; have HB2 := hid hb2; clear ho2 hk2 hb2)
            all_goals
              go_wp2_with fail
              go_meet
              have ho : w2.ownsRow 0 107 4 (.slice a2 (m + (l.length - (m + 1))) c2) ((l.take m).length + (l.drop (m + 1)).length) ((l.take m).flatMap encI ++ (l.drop (m + 1)).flatMap encI) := by
                rw [List.length_take, List.length_drop, Nat.min_eq_left (Nat.le_of_lt hm)]; exact HO2.out
              have hk2 := HK2.out
              have hb2 := HB2.out
              exact ⟨_, hid (HP1.out.steps (ys := l.drop (m + 1)) hb34 (S := No) (by repeat' (first | with_reducible exact Keeps.refl _ _ | with_reducible refine Keeps.drewN ?_ _ | with_reducible refine Keeps.drew ?_ | with_reducible refine Keeps.alloc ?_ _ | with_reducible refine Keeps.setCell ?_ ?_ _ | exact Or.inr rfl)) (fun _ h => h.elim) ho hk2 hb2)⟩
          case rest =>
            obtain ⟨lv3, HP2⟩ := hcut
            clear HP1 hsl HSS HL5 HQ5
            have hlv3 : ∃ a3 n3 cq, lv3 = .slice a3 n3 cq ∧ Hid (n3 = (l.take m ++ l.drop (m + 1)).length) := by
              obtain ⟨a3, cq, h⟩ := own_any HP2.out.own
              exact ⟨a3, _, cq, h, hid rfl⟩
            obtain ⟨a3, n3, cq, rfl, HN3⟩ := hlv3
            have hol := HP2.out.old
            have hR1 := HN.out.heap (fun h => h) HQ1.out
            have hR2 := HN.out.heap (fun h => h) HQ2.out
            have HQ6 := hid (hol.heap (b := w.heap.size) (by omega) HQ4.out)
            have hN4 := HN.out
            have hwl := lt_of_block hR2
            have hB1 := hol.heap (b := w.heap.size + 1) (by omega) (HK4.out.heap (fun h => h) hR1)
            have hB2 := hol.heap (b := w.heap.size + 1 + 1) (by omega) (HK4.out.heap (fun h => h) hR2)
            have r0 := cell_at (i := 0) hB1 rfl
            have r1 := cell_at (i := 1) hB1 rfl
            have r2 := cell_at (i := 2) hB1 rfl
            have r3 := cell_at (i := 3) hB1 rfl
            have f0 := free_at (i := 0) hB1
            have f1 := free_at (i := 1) hB1
            have f2 := free_at (i := 2) hB1
            have f3 := free_at (i := 3) hB1
            have g0 := cell_at (i := 0) hB2 rfl
            have g1 := cell_at (i := 1) hB2 rfl
            have g2 := cell_at (i := 2) hB2 rfl
            have h0' := free_at (i := 0) hB2
            have h1' := free_at (i := 1) hB2
            have h2' := free_at (i := 2) hB2
            have t0 := cell_at (i := 0) HP2.out.blk rfl
            have t1 := cell_at (i := 1) HP2.out.blk rfl
            have t2 := cell_at (i := 2) HP2.out.blk rfl
            have t3 := cell_at (i := 3) HP2.out.blk rfl
            have x3 := cell_at (i := 3) HQ6.out rfl
            obtain ⟨g, off, rfl, hg, c0, c1, c2, c3⟩ := SlIt.at (Sl.keep' HL4.out hol (fun h0 b hb hlt e => by have := HL.out.lt h0 b hb; omega)) hm
            have hgl : g < w.heap.size := HG0.out g rfl
            simp at r0 r1 r2 r3 g0 g1 g2 t0 t1 t2 t3 x3
            have hn1 : ¬ g = w.heap.size + 1 := by omega
            have hn2 : ¬ g = w.heap.size + 1 + 1 := by omega
            have hn3 : ¬ w.heap.size + 1 = g := by omega
            have hn4 : ¬ w.heap.size + 1 + 1 = g := by omega
            have hn5 : ¬ wr.heap.size = w.heap.size + 1 := by omega
            have hn6 : ¬ wr.heap.size = w.heap.size + 1 + 1 := by omega
            have hn7 : ¬ w.heap.size + 1 = wr.heap.size := by omega
            have hn8 : ¬ w.heap.size + 1 + 1 = wr.heap.size := by omega
            have HB1 := hid hB1
            have HB2 := hid hB2
            have HKC : Hid (Keeps No wr wc) := hid (HK4.out.trans' hol (fun _ _ h => h) (fun i hi e => by omega))
            obtain ⟨⟨yp, yr, yo, ya⟩, hy⟩ : ∃ y, l[m] = y := ⟨_, rfl⟩
            rw [hy] at c0 c1 c2 c3
            simp only at c0 c1 c2 c3
            have HY := hid hy
            clear hB1 hB2 hR1 hR2 hy hol hN4 HL4 HQ4 HK4 HQ6
            go_upto_region 12 with fail
            go_cut [4, 5] (fun v4 v5 wx => v4 = .int .u8 yp ∧ v5 = .bool true ∧ Hid (wx.heap[w.heap.size + 1]? = some (.cells #[.int .i64 a, .int .i64 b, .int .i64 c, .slice a3 n3 cq] 55 (0, 0))) ∧ Hid (wx.heap[w.heap.size + 1 + 1]? = some (.cells #[.int .i64 yr, .bool yo, .int .i64 ya] 64 (0, 0))) ∧ Hid (Keeps (fun k => k = w.heap.size + 1 ∨ k = w.heap.size + 1 + 1) wc wx))
            case first =>
              go_region
              all_goals
                go_wp2_with fail
                go_meet
                have hb1 := HB1.out
                have hb2 := HB2.out
                have hne1 : ¬ w.heap.size + 1 + 1 = w.heap.size + 1 := by omega
                refine ⟨rfl, rfl, hid ?_, hid ?_, hid ?_⟩
                · simp [World.setCell, heap_drew, Array.getElem?_modify, hb1]
                · simp [World.setCell, heap_drew, Array.getElem?_modify, hb2]
                · repeat' (first | with_reducible exact Keeps.refl _ _ | with_reducible refine Keeps.drew ?_ | with_reducible refine Keeps.drewN ?_ _ | with_reducible refine Keeps.setCell ?_ ?_ _ | exact Or.inr (Or.inl rfl) | exact Or.inr (Or.inr rfl))
            case rest =>
              obtain ⟨rfl, rfl, H1, H2, HK⟩ := hcut
              have z0 := cell_at (i := 0) H1.out rfl
              have z1 := cell_at (i := 1) H1.out rfl
              have z2 := cell_at (i := 2) H1.out rfl
              have z3 := cell_at (i := 3) H1.out rfl
              have y0 := cell_at (i := 0) H2.out rfl
              have y1 := cell_at (i := 1) H2.out rfl
              have y2 := cell_at (i := 2) H2.out rfl
              simp at z0 z1 z2 z3 y0 y1 y2
              go_wp2_with fail
              refine bodyPost_ret (v := .tuple #[.agg #[.int .i64 a, .int .i64 b, .int .i64 c, .slice a3 n3 cq], .agg #[.int .i64 yr, .bool yo, .int .i64 ya], .int .u8 yp, .bool true]) (by simp [results, Try.results29, go_sem, z0, z1, z2, z3, y0, y1, y2]) rfl ?_
              have hS := Sl.ofOwn HP2.out.own
              have hb := HB.out
              rw [HKE.out] at hb
              have hws := HK1.out.size
              have hns := HN.out.size
              refine ⟨.slice a3 n3 cq, m, hb, hm, by rw [HY.out]; rfl, ?_, ?_, fun k hk => by have := HP2.out.new k hk; omega⟩
              · rw [← HN3.out] at hS
                unfold SlIt
                rw [← HN3.out]
                exact hS.keep HK.out (fun k hk h => by have := HP2.out.new k hk; omega)
              · exact ((HK1.out.trans HN.out).trans HKC.out).trans' HK.out (fun _ _ h => h) (fun i hi e => by omega)

end

end Go.Proofs.Ytoodlhagecannaa
