/-
  What is shown: the document's Lamps.
-/
import Derived.Test.YtnmlaobiljmgaaaPanH
namespace Go.Proofs.Ytnmlaobiljmgaaa
open Go.RowKit
set_option linter.unusedVariables false

/-- So far through the list: what is laid, and is a in it? -/
def insP (a : LampD) (l : List LampD) : List LampD × Bool := l.foldl (fun s b => if !s.2 && aheadD a b then (s.1 ++ [a, b], true) else (s.1 ++ [b], s.2)) ([], false)
theorem insP_snoc (a : LampD) (l : List LampD) (b : LampD) : insP a (l ++ [b]) = if !(insP a l).2 && aheadD a b then ((insP a l).1 ++ [a, b], true) else ((insP a l).1 ++ [b], (insP a l).2) := by
  unfold insP; rw [List.foldl_append]; rfl
theorem insP_is (a : LampD) (l : List LampD) : insD a l = if (insP a l).2 then (insP a l).1 else (insP a l).1 ++ [a] := by
  have h2 : ∀ (l : List LampD) (acc : List LampD), l.foldl (fun s b => if !s.2 && aheadD a b then (s.1 ++ [a, b], true) else (s.1 ++ [b], s.2)) (acc, true) = (acc ++ l, true) := by
    intro l
    induction l with
    | nil => intro acc; simp
    | cons b l ih => intro acc; rw [List.foldl_cons]; simp only [Bool.not_true, Bool.false_and, Bool.false_eq_true, if_false]; rw [ih]; simp
  have h : ∀ (l : List LampD) (acc : List LampD), acc ++ insD a l = if (l.foldl (fun s b => if !s.2 && aheadD a b then (s.1 ++ [a, b], true) else (s.1 ++ [b], s.2)) (acc, false)).2 then (l.foldl (fun s b => if !s.2 && aheadD a b then (s.1 ++ [a, b], true) else (s.1 ++ [b], s.2)) (acc, false)).1 else (l.foldl (fun s b => if !s.2 && aheadD a b then (s.1 ++ [a, b], true) else (s.1 ++ [b], s.2)) (acc, false)).1 ++ [a] := by
    intro l
    induction l with
    | nil => intro acc; rfl
    | cons b l ih =>
      intro acc
      rw [List.foldl_cons]
      unfold insD
      by_cases hc : aheadD a b = true
      · rw [if_pos hc]
        simp only [Bool.not_false, Bool.true_and, hc, if_true]
        rw [h2]
        simp
      · rw [if_neg hc]
        have hc' : aheadD a b = false := by simpa using hc
        simp only [Bool.not_false, Bool.true_and, hc', Bool.false_eq_true, if_false]
        rw [← ih (acc ++ [b])]
        simp
  exact h l []
theorem insP_len (a : LampD) (l : List LampD) : (insP a l).1.length ≤ l.length + 1 := by
  have key : ∀ (l : List LampD) (acc : List LampD) (d : Bool), (l.foldl (fun s b => if !s.2 && aheadD a b then (s.1 ++ [a, b], true) else (s.1 ++ [b], s.2)) (acc, d)).1.length ≤ acc.length + l.length + (if d then 0 else 1) := by
    intro l
    induction l with
    | nil => intro acc d; simp
    | cons b l ih =>
      intro acc d
      rw [List.foldl_cons]
      by_cases hc : (!d && aheadD a b) = true
      · rw [if_pos hc]
        have h1 := ih (acc ++ [a, b]) true
        simp only [Bool.and_eq_true, Bool.not_eq_true'] at hc
        rw [hc.1]
        simp only [List.length_append, List.length_cons, List.length_nil, if_true, Bool.false_eq_true, if_false] at h1 ⊢
        omega
      · rw [if_neg hc]
        have h1 := ih (acc ++ [b]) d
        simp only [List.length_append, List.length_cons, List.length_nil] at h1 ⊢
        omega
  have := key l [] false
  simpa [insP] using this

theorem info_lamp : (Try.prog.info? 77).map (fun i => (i.zero, i.size, i.bytes)) = some (some (.agg #[.int .i64 0, .int .u8 0, .int .i64 0, .bool false, .bool false]), 5, 32) := by kernel_rfl

/-- A row of lamps that is being filled, new since w0. -/
structure RowA (w0 wr : World) (v : Value) (n : Nat) (l : List LampD) : Prop where
  own : wr.ownsRow 0 77 5 v n (l.flatMap encLa)
  new : ∀ k, v.ownBlock = some k → w0.heap.size ≤ k
  keeps : Keeps No w0 wr
theorem encLa_len (l : List LampD) : (l.flatMap encLa).length = l.length * 5 := length_flatMap_enc (size := 5) (enc := encLa) (fun _ => rfl) l
theorem RowA.sl {w0 wr : World} {v : Value} {n : Nat} {l : List LampD} (h : RowA w0 wr v n l) : Sl wr 5 v n (l.flatMap encLa) := Sl.ofOwn h.own
theorem RowA.calm {w0 wr w' : World} {v : Value} {n : Nat} {l : List LampD} (h : RowA w0 wr v n l) (k : Keeps No wr w') : RowA w0 w' v n l := ⟨k.own h.own (fun _ _ h => h), h.new, h.keeps.trans k⟩
theorem RowA.app {w0 wr W w4 : World} {v v' : Value} {n : Nat} {l : List LampD} (x : LampD) (h : RowA w0 wr v n l) (k : Keeps No wr W) (ho : w4.ownsRow 0 77 5 v' (n + 1) (l.flatMap encLa ++ encLa x)) (k2 : Keeps (Bl v) W w4) (hb : ∀ k, v'.ownBlock = some k → v.ownBlock = some k ∨ W.heap.size ≤ k) : RowA w0 w4 v' (n + 1) (l ++ [x]) := by
  have hs := h.keeps.size
  have hs2 := k.size
  refine ⟨by rw [List.flatMap_append]; simpa using ho, fun i hi => ?_, (h.keeps.trans k).trans' k2 (fun _ _ h => h) (fun i hi e => by have := h.new i e; omega)⟩
  rcases hb i hi with h1 | h1
  · exact h.new i h1
  · omega
theorem RowA.len {w0 wr : World} {v : Value} {n : Nat} {l : List LampD} (h : RowA w0 wr v n l) : l.length = n := by
  have := h.own.1
  rw [encLa_len] at this
  omega

set_option maxHeartbeats 16000000 in
set_option maxRecDepth 100000 in
theorem mlamps_any {w : World} {v : Value} {l : List LightD} (h : SlLi w v l) (hl : l.length ≤ 1000) :
    Calls Try.prog 23 #[v] w fun e w' => ∃ v', e = .returned v' ∧ SlLa w' v' (lampsD l) ∧ Keeps No w w' ∧ ∀ k, v'.ownBlock = some k → w.heap.size ≤ k := by
  obtain ⟨ao, cap, rfl⟩ := h.any
  obtain ⟨m, hm⟩ : ∃ m, l.length = m := ⟨_, rfl⟩
  have HM := hid hm
  have HS : Hid (SlLi w (.slice ao m cap) l) := hid (by rw [← hm]; exact h)
  obtain ⟨i0, hi, hz0, hz1, hz2⟩ := info_parts info_lamp
  have HI := hid hi
  rw [hm] at hl ⊢
  clear h hm hi
  go_enter Try.func23, Try.ntmps23
  go_wp2_with fail
  go_loopw [3, 4] (fun v3 v4 wr => ∃ (i : Nat) (oa : Option Addr) (oc on : Nat), i ≤ m ∧ v4 = .int .i64 i ∧ v3 = .slice oa on oc ∧ on ≤ i ∧ Hid ((lampsD (l.take i)).length = on) ∧ Hid (SlLa wr (.slice oa on oc) (lampsD (l.take i))) ∧ Hid (∀ k, (Value.slice oa on oc).ownBlock = some k → w.heap.size ≤ k) ∧ Hid (Keeps No w wr)) (fun _ v4 _ => m - (intOf v4).toNat)
  case atStart => exact ⟨0, none, 0, 0, Nat.zero_le _, rfl, rfl, Nat.le_refl _, hid rfl, hid (Sl.nil _ _), hid (fun k hk => by simp [Value.ownBlock] at hk), hid (Keeps.refl _ _)⟩
  case round =>
    obtain ⟨i, oa, oc, on, hi, rfl, rfl, hon, HN, HO, HNW, HK⟩ := hrel
    by_cases hlt : i < m
    · have hil : i < l.length := by rw [HM.out]; exact hlt
      obtain ⟨x, hx⟩ : ∃ x, l[i] = x := ⟨_, rfl⟩
      obtain ⟨g, off, ha, hg, c0, c1, c2, c3, c4, c5, c6⟩ := SlLi.at (HS.out.keep HK.out (fun _ _ h => h)) HM.out hlt hx
      have HT : Hid (lampsD (l.take (i + 1)) = if x.life.lit then insD (lampOf x) (lampsD (l.take i)) else lampsD (l.take i)) := hid (by rw [List.take_succ_eq_append_getElem hil, hx, lampsD_step])
      obtain ⟨out, hout⟩ : ∃ out, lampsD (l.take i) = out := ⟨_, rfl⟩
      rw [hout] at HN HO HT
      subst ha
      obtain ⟨cond, pri, ⟨on_, lit, ack, since, stage⟩⟩ := x
      simp only at c0 c1 c2 c3 c4 c5 c6 HT
      clear hx hil hout
      cases lit
      · have HT2 : Hid (lampsD (l.take (i + 1)) = out) := hid (by rw [HT.out]; rfl)
        go_wp2_with fail
        go_roundw
        case rel => exact ⟨i + 1, oa, oc, on, by omega, by go_num, rfl, by omega, hid (by rw [HT2.out]; exact HN.out), hid (by rw [HT2.out]; exact HO.out.alloc _), HNW, hid (HK.out.alloc _)⟩
        case measure => simp [intOf]; omega
      · have HT2 : Hid (lampsD (l.take (i + 1)) = insD ⟨cond, pri, stage, on_, ack⟩ out) := hid (by rw [HT.out]; rfl)
        clear HT
        go_upto_region 8 with fail
        obtain ⟨xb, hxb⟩ : ∃ q, wr.heap.size = q := ⟨_, rfl⟩
        obtain ⟨w2, hw2⟩ : ∃ w2, (wr.alloc (.cells #[.int .i64 cond, .int .u8 pri, .bool on_, .bool true, .bool ack, .int .i64 since, .int .i64 stage] 75)).alloc (.cells #[.int .i64 cond, .int .u8 pri, .int .i64 stage, .bool on_, .bool ack] 77) = w2 := ⟨_, rfl⟩
        have HA2 : Hid (Bk w2 (xb + 1) 77 [.int .i64 cond, .int .u8 pri, .int .i64 stage, .bool on_, .bool ack]) := hid (by rw [← hw2]; exact Bk.new (by simp [hxb]) _ _)
        have K2 : Hid (Keeps No wr w2) := hid (by rw [← hw2]; exact ((Keeps.refl _ _).alloc _).alloc _)
        have HO2 : Hid (Sl w2 5 (.slice oa on oc) on (out.flatMap encLa)) := hid (by have := HO.out; unfold SlLa at this; rw [HN.out] at this; exact this.keep K2.out (fun _ _ h => h))
        try rw [hxb]
        try rw [hw2]
        clear hxb hw2 c0 c1 c2 c3 c4 c5 c6
        go_upto_region 11 with fail
        go_loopw [7, 8, 9] (fun v7 v8 v9 wq => ∃ (k : Nat) (ma : Option Addr) (mc mn : Nat) (dn : Bool), k ≤ on ∧ v9 = .int .i64 k ∧ v7 = .slice ma mn mc ∧ v8 = .bool dn ∧ mn ≤ k + 1 ∧ Hid (dn = false → mn = k) ∧ Hid ((insP (⟨cond, pri, stage, on_, ack⟩ : LampD) (out.take k)).2 = dn) ∧ Hid (RowA w2 wq (.slice ma mn mc) mn (insP (⟨cond, pri, stage, on_, ack⟩ : LampD) (out.take k)).1)) (fun _ _ v9 _ => on - (intOf v9).toNat)
        case atStart => exact ⟨0, none, 0, 0, false, Nat.zero_le _, rfl, rfl, rfl, by omega, hid (fun _ => rfl), hid rfl, hid ⟨World.ownsRow_nil _ _ _ _, fun k hk => by simp [Value.ownBlock] at hk, Keeps.refl _ _⟩⟩
        case round =>
          obtain ⟨k, ma, mc, mn, dn, hk, rfl, rfl, rfl, hmn, HLF, HD, HR0⟩ := hrel
          have HAq := hid (HA2.out.kept HR0.out.keeps)
          have a0 := HAq.out.cell 0 rfl
          have a1 := HAq.out.cell 1 rfl
          have a2 := HAq.out.cell 2 rfl
          have a3 := HAq.out.cell 3 rfl
          have a4 := HAq.out.cell 4 rfl
          by_cases hkl : k < on
          · have hkl2 : k < out.length := by rw [HN.out]; exact hkl
            obtain ⟨y, hy⟩ : ∃ y, out[k] = y := ⟨_, rfl⟩
            obtain ⟨g2, of2, hga, hg2, d0, d1, d2, d3, d4⟩ := SlLa.at (l := out) (n := on) (by show Sl w2 5 _ out.length _; rw [HN.out]; exact HO2.out) HN.out hkl hy
            have HY : Hid (out.take (k + 1) = out.take k ++ [y]) := hid (by rw [List.take_succ_eq_append_getElem hkl2, hy])
            obtain ⟨cb, pb, sb, ub, kb⟩ := y
            simp only at d0 d1 d2 d3 d4
            have E0 := hid d0
            have E1 := hid d1
            have E2 := hid d2
            have E3 := hid d3
            have E4 := hid d4
            clear hy hkl2 d0 d1 d2 d3 d4
            have d0 := HR0.out.keeps.cell (fun h => h) E0.out
            have d1 := HR0.out.keeps.cell (fun h => h) E1.out
            have d2 := HR0.out.keeps.cell (fun h => h) E2.out
            have d3 := HR0.out.keeps.cell (fun h => h) E3.out
            have d4 := HR0.out.keeps.cell (fun h => h) E4.out
            subst hga
            have HNEXT : Hid (insP (⟨cond, pri, stage, on_, ack⟩ : LampD) (out.take (k + 1)) = if !dn && aheadD (⟨cond, pri, stage, on_, ack⟩ : LampD) (⟨cb, pb, sb, ub, kb⟩ : LampD) then ((insP (⟨cond, pri, stage, on_, ack⟩ : LampD) (out.take k)).1 ++ [(⟨cond, pri, stage, on_, ack⟩ : LampD), (⟨cb, pb, sb, ub, kb⟩ : LampD)], true) else ((insP (⟨cond, pri, stage, on_, ack⟩ : LampD) (out.take k)).1 ++ [(⟨cb, pb, sb, ub, kb⟩ : LampD)], dn)) := hid (by rw [HY.out, insP_snoc, HD.out])
            cases dn
            · by_cases hp : pri > pb
              · have q1 : decide (pri > pb) = true := decide_eq_true hp
                have HAH : Hid (aheadD (⟨cond, pri, stage, on_, ack⟩ : LampD) (⟨cb, pb, sb, ub, kb⟩ : LampD) = true) := hid (by unfold aheadD; simp only; rw [decide_eq_true (show pb < pri by omega)]; rfl)
                go_wp2_with fail
                go_quiet (fail)
                go_wp2_with (at_builtin; refine wpl_append rfl _ _ 40 rfl 77 i0 (.agg #[.int .i64 0, .int .u8 0, .int .i64 0, .bool false, .bool false]) 5 32 Try.underlying40 HI.out hz0 hz1 hz2 rfl (by decide) _ _ _ _ _ _ rfl rfl ((HR0.out.calm (show Keeps No _ _ from by repeat' (first | with_reducible exact Keeps.refl _ _ | with_reducible assumption | with_reducible refine Keeps.drewN ?_ _ | with_reducible refine Keeps.drew ?_ | with_reducible refine Keeps.alloc ?_ _))).own) (Sl.new _ _ _ 5 1 rfl (by decide)) ?c1 ?c2 ?c3 ?_)
                case c1 => exact ⟨rfl, rfl, rfl, rfl, rfl⟩
                case c2 => unfold maxLen; omega
                case c3 => omega
                intro u2 w4 hown2 hk2 hbl2
                obtain ⟨ma1, mc1, rfl⟩ := own_any hown2
                have HR1 := hid (RowA.app (⟨cond, pri, stage, on_, ack⟩ : LampD) HR0.out (show Keeps No _ _ from by repeat' (first | with_reducible exact Keeps.refl _ _ | with_reducible assumption | with_reducible refine Keeps.drewN ?_ _ | with_reducible refine Keeps.drew ?_ | with_reducible refine Keeps.alloc ?_ _)) (by simpa [encLa] using hown2) hk2 (by simpa using hbl2))
                clear hown2 hk2 hbl2
                clear d0 d1 d2 d3 d4
                have d0 := HR1.out.keeps.cell (fun h => h) E0.out
                have d1 := HR1.out.keeps.cell (fun h => h) E1.out
                have d2 := HR1.out.keeps.cell (fun h => h) E2.out
                have d3 := HR1.out.keeps.cell (fun h => h) E3.out
                have d4 := HR1.out.keeps.cell (fun h => h) E4.out
                go_wp2_with (at_builtin; refine wpl_append rfl _ _ 40 rfl 77 i0 (.agg #[.int .i64 0, .int .u8 0, .int .i64 0, .bool false, .bool false]) 5 32 Try.underlying40 HI.out hz0 hz1 hz2 rfl (by decide) _ _ _ _ _ _ rfl rfl ((HR1.out.calm (show Keeps No _ _ from by repeat' (first | with_reducible exact Keeps.refl _ _ | with_reducible assumption | with_reducible refine Keeps.drewN ?_ _ | with_reducible refine Keeps.drew ?_ | with_reducible refine Keeps.alloc ?_ _))).own) (Sl.new _ _ _ 5 1 rfl (by decide)) ?c1 ?c2 ?c3 ?_)
                case c1 => exact ⟨rfl, rfl, rfl, rfl, rfl⟩
                case c2 => unfold maxLen; omega
                case c3 => omega
                intro u2 w4 hown2 hk2 hbl2
                obtain ⟨ma2, mc2, rfl⟩ := own_any hown2
                have HR2 := hid (RowA.app (⟨cb, pb, sb, ub, kb⟩ : LampD) HR1.out (show Keeps No _ _ from by repeat' (first | with_reducible exact Keeps.refl _ _ | with_reducible assumption | with_reducible refine Keeps.drewN ?_ _ | with_reducible refine Keeps.drew ?_ | with_reducible refine Keeps.alloc ?_ _)) (by simpa [encLa] using hown2) hk2 (by simpa using hbl2))
                clear hown2 hk2 hbl2
                go_wp2_with fail
                go_roundw
                case rel =>
                  have hb9 := insP_len (⟨cond, pri, stage, on_, ack⟩ : LampD) (out.take k)
                  have hr9 := HR0.out.len
                  rw [List.length_take] at hb9
                  exact ⟨k + 1, ma2, mc2, mn + 1 + 1, true, by omega, by go_num, rfl, rfl, by have h7 := HR0.out.len; have h8 := HLF.out (by first | rfl | trivial); omega, hid (fun h => (by cases h)), hid (by rw [HNEXT.out, HAH.out]; rfl), hid (by rw [HNEXT.out, HAH.out]; have := HR2.out; rw [List.append_assoc] at this; exact this)⟩
                case measure => simp [intOf]; omega

              · have q1 : decide (pri > pb) = false := decide_eq_false hp
                by_cases he : pri = pb
                · have q2 : (pri == pb) = true := by simpa using he
                  by_cases hc : cond < cb
                  · have q3 : decide (cond < cb) = true := decide_eq_true hc
                    have HAH : Hid (aheadD (⟨cond, pri, stage, on_, ack⟩ : LampD) (⟨cb, pb, sb, ub, kb⟩ : LampD) = true) := hid (by unfold aheadD; simp only; rw [decide_eq_true he, decide_eq_true hc]; simp)
                    have HE := hid he
                    clear he
                    go_wp2_with fail
                    go_quiet (fail)
                    go_wp2_with (at_builtin; refine wpl_append rfl _ _ 40 rfl 77 i0 (.agg #[.int .i64 0, .int .u8 0, .int .i64 0, .bool false, .bool false]) 5 32 Try.underlying40 HI.out hz0 hz1 hz2 rfl (by decide) _ _ _ _ _ _ rfl rfl ((HR0.out.calm (show Keeps No _ _ from by repeat' (first | with_reducible exact Keeps.refl _ _ | with_reducible assumption | with_reducible refine Keeps.drewN ?_ _ | with_reducible refine Keeps.drew ?_ | with_reducible refine Keeps.alloc ?_ _))).own) (Sl.new _ _ _ 5 1 rfl (by decide)) ?c1 ?c2 ?c3 ?_)
                    case c1 => exact ⟨rfl, rfl, rfl, rfl, rfl⟩
                    case c2 => unfold maxLen; omega
                    case c3 => omega
                    intro u2 w4 hown2 hk2 hbl2
                    obtain ⟨ma1, mc1, rfl⟩ := own_any hown2
                    have HR1 := hid (RowA.app (⟨cond, pri, stage, on_, ack⟩ : LampD) HR0.out (show Keeps No _ _ from by repeat' (first | with_reducible exact Keeps.refl _ _ | with_reducible assumption | with_reducible refine Keeps.drewN ?_ _ | with_reducible refine Keeps.drew ?_ | with_reducible refine Keeps.alloc ?_ _)) (by simpa [encLa] using hown2) hk2 (by simpa using hbl2))
                    clear hown2 hk2 hbl2
                    clear d0 d1 d2 d3 d4
                    have d0 := HR1.out.keeps.cell (fun h => h) E0.out
                    have d1 := HR1.out.keeps.cell (fun h => h) E1.out
                    have d2 := HR1.out.keeps.cell (fun h => h) E2.out
                    have d3 := HR1.out.keeps.cell (fun h => h) E3.out
                    have d4 := HR1.out.keeps.cell (fun h => h) E4.out
                    go_wp2_with (at_builtin; refine wpl_append rfl _ _ 40 rfl 77 i0 (.agg #[.int .i64 0, .int .u8 0, .int .i64 0, .bool false, .bool false]) 5 32 Try.underlying40 HI.out hz0 hz1 hz2 rfl (by decide) _ _ _ _ _ _ rfl rfl ((HR1.out.calm (show Keeps No _ _ from by repeat' (first | with_reducible exact Keeps.refl _ _ | with_reducible assumption | with_reducible refine Keeps.drewN ?_ _ | with_reducible refine Keeps.drew ?_ | with_reducible refine Keeps.alloc ?_ _))).own) (Sl.new _ _ _ 5 1 rfl (by decide)) ?c1 ?c2 ?c3 ?_)
                    case c1 => exact ⟨rfl, rfl, rfl, rfl, rfl⟩
                    case c2 => unfold maxLen; omega
                    case c3 => omega
                    intro u2 w4 hown2 hk2 hbl2
                    obtain ⟨ma2, mc2, rfl⟩ := own_any hown2
                    have HR2 := hid (RowA.app (⟨cb, pb, sb, ub, kb⟩ : LampD) HR1.out (show Keeps No _ _ from by repeat' (first | with_reducible exact Keeps.refl _ _ | with_reducible assumption | with_reducible refine Keeps.drewN ?_ _ | with_reducible refine Keeps.drew ?_ | with_reducible refine Keeps.alloc ?_ _)) (by simpa [encLa] using hown2) hk2 (by simpa using hbl2))
                    clear hown2 hk2 hbl2
                    go_wp2_with fail
                    go_roundw
                    case rel =>
                      have hb9 := insP_len (⟨cond, pri, stage, on_, ack⟩ : LampD) (out.take k)
                      have hr9 := HR0.out.len
                      rw [List.length_take] at hb9
                      exact ⟨k + 1, ma2, mc2, mn + 1 + 1, true, by omega, by go_num, rfl, rfl, by have h7 := HR0.out.len; have h8 := HLF.out (by first | rfl | trivial); omega, hid (fun h => (by cases h)), hid (by rw [HNEXT.out, HAH.out]; rfl), hid (by rw [HNEXT.out, HAH.out]; have := HR2.out; rw [List.append_assoc] at this; exact this)⟩
                    case measure => simp [intOf]; omega

                  · have q3 : decide (cond < cb) = false := decide_eq_false hc
                    have HAH : Hid (aheadD (⟨cond, pri, stage, on_, ack⟩ : LampD) (⟨cb, pb, sb, ub, kb⟩ : LampD) = false) := hid (by unfold aheadD; simp only; rw [decide_eq_false (show ¬ pb < pri by omega), decide_eq_false hc]; simp)
                    have HE := hid he
                    clear he
                    go_wp2_with fail
                    go_quiet (fail)
                    go_wp2_with (at_builtin; refine wpl_append rfl _ _ 40 rfl 77 i0 (.agg #[.int .i64 0, .int .u8 0, .int .i64 0, .bool false, .bool false]) 5 32 Try.underlying40 HI.out hz0 hz1 hz2 rfl (by decide) _ _ _ _ _ _ rfl rfl ((HR0.out.calm (show Keeps No _ _ from by repeat' (first | with_reducible exact Keeps.refl _ _ | with_reducible assumption | with_reducible refine Keeps.drewN ?_ _ | with_reducible refine Keeps.drew ?_ | with_reducible refine Keeps.alloc ?_ _))).own) (Sl.new _ _ _ 5 1 rfl (by decide)) ?c1 ?c2 ?c3 ?_)
                    case c1 => exact ⟨rfl, rfl, rfl, rfl, rfl⟩
                    case c2 => unfold maxLen; omega
                    case c3 => omega
                    intro u2 w4 hown2 hk2 hbl2
                    obtain ⟨ma1, mc1, rfl⟩ := own_any hown2
                    have HR1 := hid (RowA.app (⟨cb, pb, sb, ub, kb⟩ : LampD) HR0.out (show Keeps No _ _ from by repeat' (first | with_reducible exact Keeps.refl _ _ | with_reducible assumption | with_reducible refine Keeps.drewN ?_ _ | with_reducible refine Keeps.drew ?_ | with_reducible refine Keeps.alloc ?_ _)) (by simpa [encLa] using hown2) hk2 (by simpa using hbl2))
                    clear hown2 hk2 hbl2
                    go_wp2_with fail
                    go_roundw
                    case rel => exact ⟨k + 1, ma1, mc1, mn + 1, false, by omega, by go_num, rfl, rfl, by omega, hid (fun h => (by have := HLF.out (by first | rfl | trivial); omega)), hid (by rw [HNEXT.out, HAH.out]; rfl), hid (by rw [HNEXT.out, HAH.out]; exact HR1.out)⟩
                    case measure => simp [intOf]; omega

                · have q2 : (pri == pb) = false := by simpa using he
                  have HAH : Hid (aheadD (⟨cond, pri, stage, on_, ack⟩ : LampD) (⟨cb, pb, sb, ub, kb⟩ : LampD) = false) := hid (by unfold aheadD; simp only; rw [decide_eq_false (show ¬ pb < pri by omega), decide_eq_false he]; simp)
                  go_wp2_with fail
                  go_quiet (fail)
                  go_wp2_with (at_builtin; refine wpl_append rfl _ _ 40 rfl 77 i0 (.agg #[.int .i64 0, .int .u8 0, .int .i64 0, .bool false, .bool false]) 5 32 Try.underlying40 HI.out hz0 hz1 hz2 rfl (by decide) _ _ _ _ _ _ rfl rfl ((HR0.out.calm (show Keeps No _ _ from by repeat' (first | with_reducible exact Keeps.refl _ _ | with_reducible assumption | with_reducible refine Keeps.drewN ?_ _ | with_reducible refine Keeps.drew ?_ | with_reducible refine Keeps.alloc ?_ _))).own) (Sl.new _ _ _ 5 1 rfl (by decide)) ?c1 ?c2 ?c3 ?_)
                  case c1 => exact ⟨rfl, rfl, rfl, rfl, rfl⟩
                  case c2 => unfold maxLen; omega
                  case c3 => omega
                  intro u2 w4 hown2 hk2 hbl2
                  obtain ⟨ma1, mc1, rfl⟩ := own_any hown2
                  have HR1 := hid (RowA.app (⟨cb, pb, sb, ub, kb⟩ : LampD) HR0.out (show Keeps No _ _ from by repeat' (first | with_reducible exact Keeps.refl _ _ | with_reducible assumption | with_reducible refine Keeps.drewN ?_ _ | with_reducible refine Keeps.drew ?_ | with_reducible refine Keeps.alloc ?_ _)) (by simpa [encLa] using hown2) hk2 (by simpa using hbl2))
                  clear hown2 hk2 hbl2
                  go_wp2_with fail
                  go_roundw
                  case rel => exact ⟨k + 1, ma1, mc1, mn + 1, false, by omega, by go_num, rfl, rfl, by omega, hid (fun h => (by have := HLF.out (by first | rfl | trivial); omega)), hid (by rw [HNEXT.out, HAH.out]; rfl), hid (by rw [HNEXT.out, HAH.out]; exact HR1.out)⟩
                  case measure => simp [intOf]; omega

            · have HAH : Hid ((!true && aheadD (⟨cond, pri, stage, on_, ack⟩ : LampD) (⟨cb, pb, sb, ub, kb⟩ : LampD)) = false) := hid rfl
              go_wp2_with fail
              go_quiet (fail)
              go_wp2_with (at_builtin; refine wpl_append rfl _ _ 40 rfl 77 i0 (.agg #[.int .i64 0, .int .u8 0, .int .i64 0, .bool false, .bool false]) 5 32 Try.underlying40 HI.out hz0 hz1 hz2 rfl (by decide) _ _ _ _ _ _ rfl rfl ((HR0.out.calm (show Keeps No _ _ from by repeat' (first | with_reducible exact Keeps.refl _ _ | with_reducible assumption | with_reducible refine Keeps.drewN ?_ _ | with_reducible refine Keeps.drew ?_ | with_reducible refine Keeps.alloc ?_ _))).own) (Sl.new _ _ _ 5 1 rfl (by decide)) ?c1 ?c2 ?c3 ?_)
              case c1 => exact ⟨rfl, rfl, rfl, rfl, rfl⟩
              case c2 => unfold maxLen; omega
              case c3 => omega
              intro u2 w4 hown2 hk2 hbl2
              obtain ⟨ma1, mc1, rfl⟩ := own_any hown2
              have HR1 := hid (RowA.app (⟨cb, pb, sb, ub, kb⟩ : LampD) HR0.out (show Keeps No _ _ from by repeat' (first | with_reducible exact Keeps.refl _ _ | with_reducible assumption | with_reducible refine Keeps.drewN ?_ _ | with_reducible refine Keeps.drew ?_ | with_reducible refine Keeps.alloc ?_ _)) (by simpa [encLa] using hown2) hk2 (by simpa using hbl2))
              clear hown2 hk2 hbl2
              go_wp2_with fail
              go_roundw
              case rel => exact ⟨k + 1, ma1, mc1, mn + 1, true, by omega, by go_num, rfl, rfl, by omega, hid (fun h => (by cases h)), hid (by rw [HNEXT.out]; rfl), hid (by rw [HNEXT.out]; exact HR1.out)⟩
              case measure => simp [intOf]; omega

          · have hke : k = on := by omega
            subst hke
            have HDE : Hid ((insP (⟨cond, pri, stage, on_, ack⟩ : LampD) out).2 = dn) := hid (by have := HD.out; rwa [List.take_of_length_le (by rw [HN.out]; exact Nat.le_refl _)] at this)
            have HRE : Hid (RowA w2 wr (.slice ma mn mc) mn (insP (⟨cond, pri, stage, on_, ack⟩ : LampD) out).1) := hid (by have := HR0.out; rwa [List.take_of_length_le (by rw [HN.out]; exact Nat.le_refl _)] at this)
            cases dn
            · have HI2 : Hid (insD (⟨cond, pri, stage, on_, ack⟩ : LampD) out = (insP (⟨cond, pri, stage, on_, ack⟩ : LampD) out).1 ++ [(⟨cond, pri, stage, on_, ack⟩ : LampD)]) := hid (by rw [insP_is, HDE.out]; rfl)
              go_wp2_with (at_builtin; refine wpl_append rfl _ _ 40 rfl 77 i0 (.agg #[.int .i64 0, .int .u8 0, .int .i64 0, .bool false, .bool false]) 5 32 Try.underlying40 HI.out hz0 hz1 hz2 rfl (by decide) _ _ _ _ _ _ rfl rfl ((HRE.out.calm (show Keeps No _ _ from by repeat' (first | with_reducible exact Keeps.refl _ _ | with_reducible assumption | with_reducible refine Keeps.drewN ?_ _ | with_reducible refine Keeps.drew ?_ | with_reducible refine Keeps.alloc ?_ _))).own) (Sl.new _ _ _ 5 1 rfl (by decide)) ?c1 ?c2 ?c3 ?_)
              case c1 => exact ⟨rfl, rfl, rfl, rfl, rfl⟩
              case c2 => unfold maxLen; omega
              case c3 => omega
              intro u2 w4 hown2 hk2 hbl2
              obtain ⟨ma1, mc1, rfl⟩ := own_any hown2
              have HR1 := hid (RowA.app (⟨cond, pri, stage, on_, ack⟩ : LampD) HRE.out (show Keeps No _ _ from by repeat' (first | with_reducible exact Keeps.refl _ _ | with_reducible assumption | with_reducible refine Keeps.drewN ?_ _ | with_reducible refine Keeps.drew ?_ | with_reducible refine Keeps.alloc ?_ _)) (by simpa [encLa] using hown2) hk2 (by simpa using hbl2))
              clear hown2 hk2 hbl2
              go_wp2_with fail
              go_roundw
              case rel => exact ⟨i + 1, ma1, mc1, mn + 1, by omega, by go_num, rfl, by have := HLF.out (by first | rfl | trivial); omega, hid (by rw [HT2.out, HI2.out]; exact HR1.out.len), hid (by rw [HT2.out, HI2.out]; show Sl _ 5 _ _ _; rw [HR1.out.len]; exact HR1.out.sl), hid (fun k hk => Nat.le_trans (HK.out.trans K2.out).size (HR1.out.new k hk)), hid (HK.out.trans (K2.out.trans HR1.out.keeps))⟩
              case measure => simp [intOf]; omega
            · have HI2 : Hid (insD (⟨cond, pri, stage, on_, ack⟩ : LampD) out = (insP (⟨cond, pri, stage, on_, ack⟩ : LampD) out).1) := hid (by rw [insP_is, HDE.out]; rfl)
              go_wp2_with fail
              go_roundw
              case rel => exact ⟨i + 1, ma, mc, mn, by omega, by go_num, rfl, by omega, hid (by rw [HT2.out, HI2.out]; exact HRE.out.len), hid (by rw [HT2.out, HI2.out]; show Sl _ 5 _ _ _; rw [HRE.out.len]; exact HRE.out.sl), hid (fun k hk => Nat.le_trans (HK.out.trans K2.out).size (HRE.out.new k hk)), hid (HK.out.trans (K2.out.trans HRE.out.keeps))⟩
              case measure => simp [intOf]; omega
    · obtain rfl : i = m := by omega
      have HE : Hid (lampsD l = lampsD (l.take i)) := hid (by rw [List.take_of_length_le (by rw [HM.out]; exact Nat.le_refl _)])
      go_wp2_with fail
      go_ret
      exact ⟨_, rfl, by rw [HE.out]; exact HO.out, HK.out, HNW.out⟩

end Go.Proofs.Ytnmlaobiljmgaaa
