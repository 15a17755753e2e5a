/-
  Events on their way: the document's intake: New, Drain, Over, Waiting.
-/
import Derived.Test.YtoodlhagecannaaInkM0
namespace Go.Proofs.Ytoodlhagecannaa
open Go.RowKit
set_option linter.unusedVariables false

theorem run_make_b {P : Program} {t e : TypeId} {z : Value} {size bytes : Nat} (ht : P.underlying t = some (.slice e)) (hi : (P.info? e).map (fun i => (i.zero, i.size, i.bytes)) = some (some z, size, bytes)) (n : Nat) (hb : bytes * n ≤ 281474976710656) (hn : n ≤ 1000000) (w : World) :
    (Instr.makeSlice t (.int .i64 (n : Int)) (.int .i64 (n : Int))).run P w = .ok (.slice (some ⟨w.heap.size, 0, none⟩) n n) (w.alloc (.cells (madeCells z.cells (n * size)) e)) := by
  obtain ⟨i, hi', hz, hs, hb'⟩ := info_parts hi
  subst hs
  have := run_make (P := P) (w := w) t e i z ht hi' hz .i64 .i64 (n : Int) (n : Int) (by omega) (Int.le_refl _) (by rw [hb', ← Int.natCast_mul]; omega) (by omega)
  simpa using this
theorem info_boolI : (Try.prog.info? 4).map (fun i => (i.zero, i.size, i.bytes)) = some (some (.bool false), 1, 1) := by kernel_rfl

set_option maxHeartbeats 4000000 in
set_option maxRecDepth 100000 in
theorem minew_any (w : World) {C : Cfg} {sv rv tv : Value} (hc : CfgR w C sv rv tv) (hn : C.ruls.length ≤ 64) :
    Calls Try.prog 14 #[.agg #[sv, rv, tv, .int .i64 C.b0, .int .i64 C.b1, .int .i64 C.b2, .int .i64 C.drain, .int .i64 C.pause, .int .i64 C.off, .bool C.brk, .int .i64 C.log]] w fun e w' => ∃ b tb, e = .returned (.pointer (some ⟨b, 0, none⟩)) ∧ MInk w' b tb C sv rv tv (.slice none 0 0) (InkD.start C.ruls.length) ∧ Keeps No w w' ∧ w.heap.size ≤ b ∧ w.heap.size ≤ tb := by
  obtain ⟨ra, rc, rfl⟩ := hc.rul.any
  obtain ⟨sa, sc, rfl⟩ := hc.sig.any
  obtain ⟨ta, tc, rfl⟩ := hc.tab.any
  obtain ⟨n, hnn⟩ : ∃ n, C.ruls.length = n := ⟨_, rfl⟩
  obtain ⟨sn, hsn⟩ : ∃ n, C.sigs.length = n := ⟨_, rfl⟩
  obtain ⟨tn, htn⟩ : ∃ n, C.tab.length = n := ⟨_, rfl⟩
  rw [hnn] at hn ⊢
  rw [hsn, htn]
  clear hc hnn hsn htn
  obtain ⟨W1, hW1⟩ : ∃ W1, w.alloc (.cells #[.slice sa sn sc, .slice ra n rc, .slice ta tn tc, .int .i64 C.b0, .int .i64 C.b1, .int .i64 C.b2, .int .i64 C.drain, .int .i64 C.pause, .int .i64 C.off, .bool C.brk, .int .i64 C.log] 34) = W1 := ⟨_, rfl⟩
  have k1 : Keeps No w W1 := by rw [← hW1]; exact (Keeps.refl _ _).alloc _
  have HBK : Hid (Bk W1 w.heap.size 34 [.slice sa sn sc, .slice ra n rc, .slice ta tn tc, .int .i64 C.b0, .int .i64 C.b1, .int .i64 C.b2, .int .i64 C.drain, .int .i64 C.pause, .int .i64 C.off, .bool C.brk, .int .i64 C.log]) := hid (by rw [← hW1]; exact Bk.new rfl _ _)
  have K1 := hid k1
  have HW1 := hid hW1
  obtain ⟨wb, hwb⟩ : ∃ q, w.heap.size = q := ⟨_, rfl⟩
  rw [hwb] at HBK
  have HWB := hid hwb
  have hs1 : w.heap.size ≤ W1.heap.size := k1.size
  clear k1 hW1 hwb
  obtain ⟨zs, hzs⟩ : ∃ zs : List Value, (InkD.start n).told.map Value.bool = zs := ⟨_, rfl⟩
  have HZ := hid hzs
  have hmk : ∀ W : World, (Instr.makeSlice 56 (.int .i64 (n : Int)) (.int .i64 (n : Int))).run Try.prog W = .ok (.slice (some ⟨W.heap.size, 0, none⟩) n n) (W.alloc (.cells zs.toArray 4)) := fun W => by
    have := run_make_b (P := Try.prog) Try.underlying56 info_boolI n (by omega) (by omega) W
    rw [Nat.mul_one] at this
    rw [show zs.toArray = madeCells (Value.bool false).cells n from by
      rw [← hzs]
      refine Array.ext' ?_
      rw [show (Value.bool false).cells = #[Value.bool false] from rfl, toList_madeCells_one]
      simp [InkD.start]]
    exact this
  clear hzs
  have x0 := HBK.out.cell 0 rfl
  have x1 := HBK.out.cell 1 rfl
  have x2 := HBK.out.cell 2 rfl
  have x3 := HBK.out.cell 3 rfl
  have x4 := HBK.out.cell 4 rfl
  have x5 := HBK.out.cell 5 rfl
  have x6 := HBK.out.cell 6 rfl
  have x7 := HBK.out.cell 7 rfl
  have x8 := HBK.out.cell 8 rfl
  have x9 := HBK.out.cell 9 rfl
  have x10 := HBK.out.cell 10 rfl
  go_enter Try.func14, Try.ntmps14
  go_upto_region 1 with fail
  rw [HW1.out, HWB.out]
  have z0 := cellA (.cells zs.toArray 4) x0
  have z1 := cellA (.cells zs.toArray 4) x1
  have z2 := cellA (.cells zs.toArray 4) x2
  have z3 := cellA (.cells zs.toArray 4) x3
  have z4 := cellA (.cells zs.toArray 4) x4
  have z5 := cellA (.cells zs.toArray 4) x5
  have z6 := cellA (.cells zs.toArray 4) x6
  have z7 := cellA (.cells zs.toArray 4) x7
  have z8 := cellA (.cells zs.toArray 4) x8
  have z9 := cellA (.cells zs.toArray 4) x9
  have z10 := cellA (.cells zs.toArray 4) x10
  go_region
  all_goals
    go_wp2_with fail
    go_ret
    refine ⟨W1.heap.size + 1, W1.heap.size, rfl, ⟨?_, Sl.nil _ _, ?_, by omega, by simp [Value.ownBlock]⟩, ?_, by omega, by omega⟩
    · rw [show (InkD.start n).told.length = n by simp [InkD.start]]
      exact Bk.new (by simp) _ _
    · rw [HZ.out]
      exact (Bk.new rfl zs 4).alloc _
    · exact ((K1.out.alloc _).drewN _).alloc _

def lenOf : Value → Nat
  | .slice _ n _ => n
  | _ => 0

theorem MInk.cellsOf {w : World} {b tb : Nat} {C : Cfg} {sv rv tv lv : Value} {s : InkD} (h : MInk w b tb C sv rv tv lv s) : ∃ la lc, lv = .slice la s.l.length lc := h.items.any

set_option maxHeartbeats 8000000 in
set_option maxRecDepth 100000 in
theorem midrain_any {w : World} {b tb : Nat} {C : Cfg} {sv rv tv lv0 : Value} {s : InkD} (h : MInk w b tb C sv rv tv lv0 s) (hC : InkC C) (hok : InkOk C s) :
    Calls Try.prog 17 #[.pointer (some ⟨b, 0, none⟩)] w fun e w' => ∃ v, e = .returned v ∧ w'.ownsRow 0 64 3 v (drainD C s).1.length ((drainD C s).1.flatMap encE) ∧ (∀ k, v.ownBlock = some k → w.heap.size ≤ k) ∧ MInkX w w' b tb C sv rv tv lv0 s.l.length (drainD C s).2 := by
  obtain ⟨l0, told, la, rfn⟩ := s
  have hlen := hok.len
  have hfew := hC.few
  have hdr := hC.drain
  simp only at hlen
  obtain ⟨d, hd⟩ : ∃ d : Nat, C.drain = d := ⟨C.drain.toNat, by omega⟩
  have hl0 : l0.length ≤ 64 := by omega
  unfold drainD
  rw [hd, Int.toNat_natCast]
  rw [hd] at hdr
  have hd1 : d ≤ 1024 := by omega
  have HD := hid hd
  have HM := hid h
  have hbl := h.blk.lt
  have htl := h.told.lt
  obtain ⟨i0, hi, hz0, hz1, hz2⟩ := info_parts info_ev
  have HI := hid hi
  simp only
  clear h hC hok hd hlen hfew hi
  go_enter Try.func17, Try.ntmps17
  go_wp2_with fail
  go_loopw [3] (fun v3 wr => ∃ (va : Option Addr) (vc on : Nat) (lv : Value) (o : List Ev) (l : List (Int × Ev)), v3 = .slice va on vc ∧ on ≤ d ∧ Hid (o.length = on) ∧ Hid (wr.ownsRow 0 64 3 (.slice va on vc) on (o.flatMap encE)) ∧ Hid (∀ k, (Value.slice va on vc).ownBlock = some k → w.heap.size ≤ k) ∧ Hid (MInk wr b tb C sv rv tv lv ⟨l, told, la, rfn⟩) ∧ Hid (drainF d l0 = (o ++ (drainF (d - on) l).1, (drainF (d - on) l).2)) ∧ Hid (l.length ≤ 64) ∧ Hid (0 < l.length → ∀ i, lv.ownBlock = some i → (Value.slice va on vc).ownBlock ≠ some i) ∧ Hid (Keeps (fun i => i = b ∨ i = tb) w wr) ∧ Hid (0 < l.length → ∀ k, lv.ownBlock = some k → (lv0.ownBlock = some k ∧ 0 < l0.length) ∨ w.heap.size ≤ k)) (fun v3 _ => d - lenOf v3)
  case atStart => exact ⟨none, 0, 0, lv0, [], l0, rfl, Nat.zero_le _, hid rfl, hid (World.ownsRow_nil _ _ _ _), hid (fun k hk => by simp [Value.ownBlock] at hk), HM, hid (by simp), hid hl0, hid (fun _ i _ => by simp [Value.ownBlock]), hid (Keeps.refl _ _), hid (fun h0 k h => Or.inl ⟨h, h0⟩)⟩
  case round =>
    obtain ⟨va, vc, on, lv1, o, l, rfl, hon, HO, HR, HN, HM1, HE, HL, HQR, HK, HFR⟩ := hrel
    obtain ⟨qa, qc, hlv⟩ := HM1.out.cellsOf
    subst hlv
    obtain ⟨nl, hnl⟩ : ∃ q, l.length = q := ⟨_, rfl⟩
    have HNL := hid hnl
    have HB1 := hid HM1.out.blk
    simp only at HB1 HM1
    rw [hnl, HD.out] at HB1
    clear hnl
    have x0 := HB1.out.cell 0 rfl
    have x1 := HB1.out.cell 1 rfl
    have x2 := HB1.out.cell 2 rfl
    have x3 := HB1.out.cell 3 rfl
    have x4 := HB1.out.cell 4 rfl
    have x5 := HB1.out.cell 5 rfl
    have x6 := HB1.out.cell 6 rfl
    have x7 := HB1.out.cell 7 rfl
    have x8 := HB1.out.cell 8 rfl
    have x9 := HB1.out.cell 9 rfl
    have x10 := HB1.out.cell 10 rfl
    have x11 := HB1.out.cell 11 rfl
    have x12 := HB1.out.cell 12 rfl
    have x13 := HB1.out.cell 13 rfl
    have x14 := HB1.out.cell 14 rfl
    have x15 := HB1.out.cell 15 rfl
    have x16 := HB1.out.cell 16 rfl
    have x17 := HB1.out.cell 17 rfl
    by_cases hlt : on < d
    · have d1 : decide ((on : Int) < (d : Int)) = true := decide_eq_true (by omega)
      obtain ⟨m, hm⟩ : ∃ m, d - on = m + 1 := ⟨d - on - 1, by omega⟩
      rw [hm] at HE
      have HMM := hid hm
      clear hm
      rcases takeF_is l with ⟨h1, h2, hT⟩ | ⟨p, y, l', h1, hT⟩
      · have HTK := hid (mtakeF (HM1.out.items) (by have := HL.out; simp only; omega) C.b0 C.b1 C.b2 (y := Ev.zero) (p := 0) (ok := false) (l' := []) h1 (fun _ => ⟨rfl, rfl, rfl⟩))
        simp only at HTK
        rw [HNL.out] at HTK
        unfold qval at HTK
        have HZ := hid h2
        clear h1 h2 hT
        go_wp2_with fail
        refine HTK.out.mono ?_
        rintro e w9 ⟨lv', rfl, hsl, kp, hnw⟩
        obtain ⟨ra, rc, rfl⟩ := hsl.any
        have HM9 := hid (HM1.out.kept kp)
        have K9 := hid kp
        clear hsl hnw kp x0 x1 x2 x3 x4 x5 x6 x7 x8 x9 x10 x11 x12 x13 x14 x15 x16 x17 HTK
        simp only [Ev.zero, Ev.val, List.length_nil]
        go_wp2_with fail
        go_ret
        have HE2 : drainF d l0 = (o, l) := by rw [HE.out, HZ.out, drainF_nil, List.append_nil]
        have k2 : Keeps No wr ((w9.alloc (.cells #[.int .i64 C.b0, .int .i64 C.b1, .int .i64 C.b2, .slice ra 0 rc] 55)).alloc (.cells #[.int .i64 0, .bool false, .int .i64 0] 64)) := (K9.out.alloc _).alloc _
        rw [HE2]
        refine ⟨_, rfl, ?_, HN.out, _, HM1.out.kept k2, HK.out.trans' k2 (fun _ _ h => h) (fun _ _ h => h.elim), fun h0 k h => HFR.out h0 k ((own_len _ _ _ _).trans h)⟩
        rw [HO.out]
        exact k2.own HR.out (fun _ _ h => h)
      · obtain ⟨yr, yo, ya⟩ := y
        have HTK := hid (mtakeF (HM1.out.items) (by have := HL.out; simp only; omega) C.b0 C.b1 C.b2 (y := ⟨yr, yo, ya⟩) (p := p) (ok := true) (l' := l') h1 (fun h => by cases h))
        simp only at HTK
        rw [HNL.out] at HTK
        unfold qval at HTK
        simp only [Ev.val] at HTK
        have HTF := hid h1
        clear h1 hT
        go_wp2_with fail
        refine HTK.out.mono ?_
        rintro e w9 ⟨lv', rfl, hsl, kp, hnw⟩
        obtain ⟨ra, rc, rfl⟩ := hsl.any
        obtain ⟨nl', hnl'⟩ : ∃ q, l'.length = q := ⟨_, rfl⟩
        have HNL' := hid hnl'
        have HSL := hid hsl
        rw [hnl'] at hnw ⊢
        obtain ⟨qb, hqb⟩ : ∃ q, w9.heap.size = q := ⟨_, rfl⟩
        obtain ⟨W, hW⟩ : ∃ W, (w9.alloc (.cells #[.int .i64 C.b0, .int .i64 C.b1, .int .i64 C.b2, .slice ra nl' rc] 55)).alloc (.cells #[.int .i64 yr, .bool yo, .int .i64 ya] 64) = W := ⟨_, rfl⟩
        have KW : Hid (Keeps No wr W) := hid (by rw [← hW]; exact (kp.alloc _).alloc _)
        have HQ : Hid (Bk W qb 55 [.int .i64 C.b0, .int .i64 C.b1, .int .i64 C.b2, .slice ra nl' rc]) := hid (by rw [← hW]; exact (Bk.new hqb _ _).alloc _)
        have HEV : Hid (Bk W (qb + 1) 64 [.int .i64 yr, .bool yo, .int .i64 ya]) := hid (by rw [← hW]; exact Bk.new (by simp [hqb]) _ _)
        have HSW : Hid (SlIt W (.slice ra nl' rc) l') := hid (by
          rw [← hW]
          have := (hsl.alloc (.cells #[.int .i64 C.b0, .int .i64 C.b1, .int .i64 C.b2, .slice ra l'.length rc] 55)).alloc (.cells #[.int .i64 yr, .bool yo, .int .i64 ya] 64)
          rw [hnl'] at this
          show Sl _ 4 _ l'.length _
          rw [hnl']
          exact this)
        have HOW2 : Hid (∀ i, (Value.slice ra nl' rc).ownBlock = some i → i ≠ b ∧ i ≠ tb) := hid (fun i hi => by
          rcases hnw with ⟨e1, _⟩ | hnw
          · rw [e1] at hi; exact HM1.out.own i (by rw [HNL.out]; exact hi)
          · have h3 := hnw i hi
            have h4 := HB1.out.lt
            have h5 := HM1.out.told.lt
            exact ⟨by omega, by omega⟩)
        have HBW := hid (HB1.out.kept KW.out)
        have HTW := hid (HM1.out.told.kept KW.out)
        have HRW := hid (KW.out.own HR.out (fun _ _ h => h))
        have HNW := hid hnw
        have hqs : w.heap.size ≤ qb := by have h1 := HK.out.size; have h2 := kp.size; omega
        have HWS : Hid (qb + 2 = W.heap.size) := hid (by rw [← hW]; simp [hqb])
        clear hsl hnw kp x0 x1 x2 x3 x4 x5 x6 x7 x8 x9 x10 x11 x12 x13 x14 x15 x16 x17 HTK hnl'
        go_upto_region 4 with fail
        try rw [hqb]
        try rw [hW]
        clear hqb hW
        have x0 := HBW.out.cell 0 rfl
        have x1 := HBW.out.cell 1 rfl
        have x2 := HBW.out.cell 2 rfl
        have x3 := HBW.out.cell 3 rfl
        have x4 := HBW.out.cell 4 rfl
        have x5 := HBW.out.cell 5 rfl
        have x6 := HBW.out.cell 6 rfl
        have x7 := HBW.out.cell 7 rfl
        have x8 := HBW.out.cell 8 rfl
        have x9 := HBW.out.cell 9 rfl
        have x10 := HBW.out.cell 10 rfl
        have x11 := HBW.out.cell 11 rfl
        have x12 := HBW.out.cell 12 rfl
        have x13 := HBW.out.cell 13 rfl
        have x14 := HBW.out.cell 14 rfl
        have x15 := HBW.out.cell 15 rfl
        have x16 := HBW.out.cell 16 rfl
        have x17 := HBW.out.cell 17 rfl
        have q0 := HQ.out.cell 0 rfl
        have q1 := HQ.out.cell 1 rfl
        have q2 := HQ.out.cell 2 rfl
        have q3 := HQ.out.cell 3 rfl
        have v0 := HEV.out.cell 0 rfl
        have v1 := HEV.out.cell 1 rfl
        have v2 := HEV.out.cell 2 rfl
        have f11 := HBW.out.free 11
        have f12 := HBW.out.free 12
        have f13 := HBW.out.free 13
        have f14 := HBW.out.free 14
        go_upto_region 7 with fail
        obtain ⟨W2, hW2⟩ : ∃ W2, (((W.setCell ⟨b, 11, none⟩ (.int .i64 C.b0)).setCell ⟨b, 12, none⟩ (.int .i64 C.b1)).setCell ⟨b, 13, none⟩ (.int .i64 C.b2)).setCell ⟨b, 14, none⟩ (.slice ra nl' rc) = W2 := ⟨_, rfl⟩
        have K2 : Hid (Keeps (fun i => i = b ∨ i = tb) W W2) := hid (by rw [← hW2]; exact ((((Keeps.refl _ W).setCell (Or.inr (Or.inl rfl)) _).setCell (Or.inr (Or.inl rfl)) _).setCell (Or.inr (Or.inl rfl)) _).setCell (Or.inr (Or.inl rfl)) _)
        have HM2 : Hid (MInk W2 b tb C sv rv tv (.slice ra nl' rc) ⟨l', told, la, rfn⟩) := hid (by
          refine ⟨?_, HSW.out.keep K2.out (fun i hi e => e.elim (HOW2.out i hi).1 (HOW2.out i hi).2), ?_, HM1.out.ne, HOW2.out⟩
          · have h1 := ((((HBW.out.put 11 (.int .i64 C.b0) rfl).put 12 (.int .i64 C.b1) rfl).put 13 (.int .i64 C.b2) rfl).put 14 (.slice ra nl' rc) rfl)
            rw [hW2] at h1
            simp only [List.set_cons_succ, List.set_cons_zero] at h1
            rw [← HD.out] at h1
            exact h1
          · rw [← hW2]
            exact (((HTW.out.other (p := ⟨b, 11, none⟩) (fun e => HM1.out.ne e.symm) _).other (p := ⟨b, 12, none⟩) (fun e => HM1.out.ne e.symm) _).other (p := ⟨b, 13, none⟩) (fun e => HM1.out.ne e.symm) _).other (p := ⟨b, 14, none⟩) (fun e => HM1.out.ne e.symm) _)
        have hE2 := HEV.out.keep K2.out (fun e => by omega)
        have v0 := hE2.cell 0 rfl
        have v1 := hE2.cell 1 rfl
        have v2 := hE2.cell 2 rfl
        have HR2 := hid (K2.out.own HRW.out (fun i hi e => by have := HN.out i hi; omega))
        have HS2 : Hid (W2.heap.size = W.heap.size) := hid (by rw [← hW2]; simp)
        try rw [hW2]
        clear hW2 x0 x1 x2 x3 x4 x5 x6 x7 x8 x9 x10 x11 x12 x13 x14 x15 x16 x17 q0 q1 q2 q3 f11 f12 f13 f14 hE2
        go_wp2_with (at_builtin; refine wpl_append rfl _ _ 43 rfl 64 i0 (.agg #[.int .i64 0, .bool false, .int .i64 0]) 3 24 Try.underlying43 HI.out hz0 hz1 hz2 rfl (by decide) _ _ _ _ _ _ rfl rfl (HR2.out.alloc _) (Sl.new _ _ _ 3 1 rfl (by decide)) ?c1 ?c2 ?c3 ?_)
        case c1 => exact ⟨rfl, rfl, rfl⟩
        case c2 => unfold maxLen; omega
        case c3 => omega
        intro u2 w4 hown2 hk2 hbl2
        obtain ⟨va2, vc2, rfl⟩ := own_any hown2
        have HOW4 := hid hown2
        have HK4 := hid hk2
        have HBL4 := hid hbl2
        clear hown2 hk2 hbl2
        go_wp2_with fail
        go_roundw
        case rel =>
          have hrb : ∀ i, Bl (.slice va on vc) i → w.heap.size ≤ i := fun i hi => HN.out i hi
          have k4 : Keeps (Bl (.slice va on vc)) W2 w4 := ((Keeps.refl (Bl (.slice va on vc)) W2).alloc (.cells #[.int .i64 yr, .bool yo, .int .i64 ya] 64)).trans HK4.out
          have hs1 := HK.out.size
          have hs2 := KW.out.size
          have hs3 := HWS.out
          have hs4 := HS2.out
          have hqr : 0 < l'.length → ∀ i, (Value.slice ra nl' rc).ownBlock = some i → (Value.slice va on vc).ownBlock ≠ some i := fun h0 i hi he => by
            rcases HNW.out with ⟨e1, e2⟩ | hnw
            · refine HQR.out (by rw [← e2]; exact h0) i ?_ he
              rw [HNL.out, ← e1]; exact hi
            · have h1 := hnw i hi
              have h2 := (HR.out.lt _ he).2
              omega
          refine ⟨va2, vc2, on + 1, _, o ++ [⟨yr, yo, ya⟩], l', rfl, by omega, hid (by rw [List.length_append, HO.out]; rfl), hid ?_, hid ?_, hid (HM2.out.keep k4 (fun e => by have := hrb _ e; omega) (fun e => by have := hrb _ e; omega) (fun h0 i hi _ e => hqr h0 i hi e)), hid ?_, hid (by have := takeF_len HTF.out; have := HL.out; omega), hid ?_, hid ?_, hid (fun h0 k hk => by
            rcases HNW.out with ⟨e1, e2⟩ | hnw
            · exact HFR.out (by rw [← e2]; exact h0) k ((own_len qa _ nl qc).trans (by rw [← e1]; exact hk))
            · have := hnw k hk; omega)⟩
          · have := HOW4.out
            rw [List.flatMap_append]
            simpa [encE] using this
          · intro i hi
            rcases HBL4.out i hi with h | h
            · exact HN.out i h
            · have h' : W2.heap.size ≤ i := by first | omega | (simp at h; omega)
              omega
          · have hmm := HMM.out
            rw [HE.out, drainF_take HTF.out, show d - (on + 1) = m by omega]
            simp
          · intro h0 i hi he
            rcases HBL4.out i he with h | h
            · exact hqr h0 i hi h
            · have h1 := HSW.out.lt (by have := HNL'.out; omega) i hi
              have h' : W2.heap.size ≤ i := by first | omega | (simp at h; omega)
              omega
          · exact ((HK.out.trans' KW.out (fun _ _ h => h) (fun _ _ h => h.elim)).trans K2.out).trans' k4 (fun _ _ h => h) (fun i hi e => by have := hrb _ e; omega)
        case measure => simp [lenOf]; omega
    · have hd0 : on = d := by omega
      subst hd0
      have d1 : decide ((on : Int) < (on : Int)) = false := decide_eq_false (by omega)
      have HE2 : Hid (drainF on l0 = (o, l)) := hid (by have := HE.out; rw [Nat.sub_self] at this; simpa [drainF] using this)
      clear hlt
      go_wp2_with fail
      go_ret
      rw [HE2.out]
      refine ⟨_, rfl, ?_, HN.out, _, HM1.out, HK.out, fun h0 k h => HFR.out h0 k ((own_len _ _ _ _).trans h)⟩
      simp only
      rw [HO.out]
      exact HR.out

set_option maxHeartbeats 4000000 in
set_option maxRecDepth 100000 in
theorem miover_any {w : World} {b tb : Nat} {C : Cfg} {sv rv tv lv : Value} {s : InkD} (h : MInk w b tb C sv rv tv lv s) (hc : CfgR w C sv rv tv) (hok : InkOk C s) (now : Int) (hn : I64 now) :
    Calls Try.prog 21 #[.pointer (some ⟨b, 0, none⟩), .int .i64 now] w fun e w' => e = .returned (.bool (overD C s now)) ∧ Keeps No w w' := by
  obtain ⟨l, told, la, rfn⟩ := s
  have hla := hok.last
  simp only at hla
  obtain ⟨ta, tc, rfl⟩ := hc.tab.any
  obtain ⟨qa, qc, hlv⟩ := h.cellsOf
  subst hlv
  have HB := hid h.blk
  simp only at HB
  obtain ⟨nl, hnl⟩ : ∃ q, l.length = q := ⟨_, rfl⟩
  obtain ⟨tn, htn⟩ : ∃ q, C.tab.length = q := ⟨_, rfl⟩
  obtain ⟨n, hnn⟩ : ∃ q, told.length = q := ⟨_, rfl⟩
  obtain ⟨rf, hrf⟩ : ∃ q : Int, (rfn : Int) = q := ⟨_, rfl⟩
  rw [hnl, hnn, htn, hrf] at HB
  have HS := hid (fun w' => msince_any now la w' hn hla)
  obtain ⟨sd, hsd⟩ : ∃ q, held (now - la) = q := ⟨_, rfl⟩
  rw [hsd] at HS
  have HV : Hid (overD C ⟨l, told, la, rfn⟩ now = (decide (0 < rf) && decide (sd < (tn : Int)))) := hid (by
    unfold overD
    simp only
    rw [hsd, htn, ← hrf]
    congr 1
    exact decide_eq_decide.2 (by omega))
  rw [HV.out]
  clear h hc hok hla hnl htn hnn hrf hsd hn
  have x0_0 := HB.out.cell 0 rfl
  have x0_1 := HB.out.cell 1 rfl
  have x0_2 := HB.out.cell 2 rfl
  have x0_3 := HB.out.cell 3 rfl
  have x0_4 := HB.out.cell 4 rfl
  have x0_5 := HB.out.cell 5 rfl
  have x0_6 := HB.out.cell 6 rfl
  have x0_7 := HB.out.cell 7 rfl
  have x0_8 := HB.out.cell 8 rfl
  have x0_9 := HB.out.cell 9 rfl
  have x0_10 := HB.out.cell 10 rfl
  have x0_11 := HB.out.cell 11 rfl
  have x0_12 := HB.out.cell 12 rfl
  have x0_13 := HB.out.cell 13 rfl
  have x0_14 := HB.out.cell 14 rfl
  have x0_15 := HB.out.cell 15 rfl
  have x0_16 := HB.out.cell 16 rfl
  have x0_17 := HB.out.cell 17 rfl
  by_cases h0 : 0 < rf
  · have d0 : decide (rf > 0) = true := decide_eq_true h0
    obtain ⟨dv, hdv⟩ : ∃ q, decide (sd < (tn : Int)) = q := ⟨_, rfl⟩
    have HR : Hid ((decide (0 < rf) && dv) = dv) := hid (by rw [decide_eq_true h0]; rfl)
    rw [hdv, HR.out]
    go_enter Try.func21, Try.ntmps21
    go_upto_region 1 with fail
    first | go_region_held3 (fun w' => w'.cell? ⟨b, 0, none⟩ = some (sv) ∧ w'.cell? ⟨b, 1, none⟩ = some (rv) ∧ w'.cell? ⟨b, 2, none⟩ = some (.slice ta tn tc) ∧ w'.cell? ⟨b, 3, none⟩ = some (.int .i64 C.b0) ∧ w'.cell? ⟨b, 4, none⟩ = some (.int .i64 C.b1) ∧ w'.cell? ⟨b, 5, none⟩ = some (.int .i64 C.b2) ∧ w'.cell? ⟨b, 6, none⟩ = some (.int .i64 C.drain) ∧ w'.cell? ⟨b, 7, none⟩ = some (.int .i64 C.pause) ∧ w'.cell? ⟨b, 8, none⟩ = some (.int .i64 C.off) ∧ w'.cell? ⟨b, 9, none⟩ = some (.bool C.brk) ∧ w'.cell? ⟨b, 10, none⟩ = some (.int .i64 C.log) ∧ w'.cell? ⟨b, 11, none⟩ = some (.int .i64 C.b0) ∧ w'.cell? ⟨b, 12, none⟩ = some (.int .i64 C.b1) ∧ w'.cell? ⟨b, 13, none⟩ = some (.int .i64 C.b2) ∧ w'.cell? ⟨b, 14, none⟩ = some (.slice qa nl qc) ∧ w'.cell? ⟨b, 15, none⟩ = some (.slice (some ⟨tb, 0, none⟩) n n) ∧ w'.cell? ⟨b, 16, none⟩ = some (.int .i64 la) ∧ w'.cell? ⟨b, 17, none⟩ = some (.int .i64 rf)) (first | with_reducible exact ⟨x0_0, x0_1, x0_2, x0_3, x0_4, x0_5, x0_6, x0_7, x0_8, x0_9, x0_10, x0_11, x0_12, x0_13, x0_14, x0_15, x0_16, x0_17⟩ | with_reducible exact ⟨cellDr x0_0, cellDr x0_1, cellDr x0_2, cellDr x0_3, cellDr x0_4, cellDr x0_5, cellDr x0_6, cellDr x0_7, cellDr x0_8, cellDr x0_9, cellDr x0_10, cellDr x0_11, cellDr x0_12, cellDr x0_13, cellDr x0_14, cellDr x0_15, cellDr x0_16, cellDr x0_17⟩ | with_reducible exact ⟨cellA _ x0_0, cellA _ x0_1, cellA _ x0_2, cellA _ x0_3, cellA _ x0_4, cellA _ x0_5, cellA _ x0_6, cellA _ x0_7, cellA _ x0_8, cellA _ x0_9, cellA _ x0_10, cellA _ x0_11, cellA _ x0_12, cellA _ x0_13, cellA _ x0_14, cellA _ x0_15, cellA _ x0_16, cellA _ x0_17⟩ | with_reducible exact ⟨cellDr (cellA _ x0_0), cellDr (cellA _ x0_1), cellDr (cellA _ x0_2), cellDr (cellA _ x0_3), cellDr (cellA _ x0_4), cellDr (cellA _ x0_5), cellDr (cellA _ x0_6), cellDr (cellA _ x0_7), cellDr (cellA _ x0_8), cellDr (cellA _ x0_9), cellDr (cellA _ x0_10), cellDr (cellA _ x0_11), cellDr (cellA _ x0_12), cellDr (cellA _ x0_13), cellDr (cellA _ x0_14), cellDr (cellA _ x0_15), cellDr (cellA _ x0_16), cellDr (cellA _ x0_17)⟩ | (go_keep; done)) (first | (go_at_call 34; (with_reducible refine (HS.out _).mono ?_); rintro e w9 ⟨rfl, rfl⟩)) | fail
    go_wp2_with fail
    go_ret
    exact ⟨rfl, (Keeps.refl _ _).drewN _⟩
  · have d0 : decide (rf > 0) = false := decide_eq_false h0
    have HR : Hid ((decide (0 < rf) && decide (sd < (tn : Int))) = false) := hid (by rw [decide_eq_false h0]; rfl)
    rw [HR.out]
    go_enter Try.func21, Try.ntmps21
    go_upto_region 1 with fail
    go_quiet (fail)
    go_wp2_with fail
    go_ret
    exact ⟨rfl, (Keeps.refl _ _).drewN _⟩

set_option maxHeartbeats 4000000 in
set_option maxRecDepth 100000 in
theorem miwait_any {w : World} {b tb : Nat} {C : Cfg} {sv rv tv lv : Value} {s : InkD} (h : MInk w b tb C sv rv tv lv s) (hl : s.l.length ≤ 1000) :
    Calls Try.prog 23 #[.pointer (some ⟨b, 0, none⟩)] w fun e w' => e = .returned (.agg #[.int .i64 ((bandL 1 s.l).length : Int), .int .i64 ((bandL 2 s.l).length : Int), .int .i64 ((bandL 3 s.l).length : Int)]) ∧ Keeps No w w' := by
  obtain ⟨l, told, la, rfn⟩ := s
  simp only at hl ⊢
  obtain ⟨qa, qc, hlv⟩ := h.cellsOf
  subst hlv
  have HM := hid h
  have HB := hid h.blk
  simp only at HB HM
  have HQ0 := hid (fun (p : Int) (w' : World) (k : Keeps No w w') => mband_any (HM.out.items.keep k (fun _ _ h => h)) hl C.b0 C.b1 C.b2 p)
  simp only at HQ0
  obtain ⟨nl, hnl⟩ : ∃ q, l.length = q := ⟨_, rfl⟩
  obtain ⟨n, hnn⟩ : ∃ q, told.length = q := ⟨_, rfl⟩
  obtain ⟨rf, hrf⟩ : ∃ q : Int, (rfn : Int) = q := ⟨_, rfl⟩
  rw [hnl, hnn, hrf] at HB
  rw [hnl] at HQ0
  unfold qval at HQ0
  have hb1 := bandL_le 1 l
  have hb2 := bandL_le 2 l
  have hb3 := bandL_le 3 l
  obtain ⟨n1, hn1⟩ : ∃ q, (bandL 1 l).length = q := ⟨_, rfl⟩
  obtain ⟨n2, hn2⟩ : ∃ q, (bandL 2 l).length = q := ⟨_, rfl⟩
  obtain ⟨n3, hn3⟩ : ∃ q, (bandL 3 l).length = q := ⟨_, rfl⟩
  have HQ1 := hid (HQ0.out 1)
  have HQ2 := hid (HQ0.out 2)
  have HQ3 := hid (HQ0.out 3)
  rw [hn1] at HQ1 ⊢
  rw [hn2] at HQ2 ⊢
  rw [hn3] at HQ3 ⊢
  have hbl := HB.out.lt
  clear h hnl hnn hrf hn1 hn2 hn3 hb1 hb2 hb3 HQ0
  obtain ⟨wb, hwb⟩ : ∃ q, w.heap.size = q := ⟨_, rfl⟩
  obtain ⟨W, hW⟩ : ∃ W, w.alloc (.cells #[.int .i64 0, .int .i64 0, .int .i64 0] 32) = W := ⟨_, rfl⟩
  have HKW : Hid (Keeps No w W) := hid (by rw [← hW]; exact (Keeps.refl _ _).alloc _)
  have HZ : Hid (Bk W wb 32 [.int .i64 0, .int .i64 0, .int .i64 0]) := hid (by rw [← hW]; exact Bk.new hwb _ _)
  have HBW := hid (HB.out.kept HKW.out)
  go_enter Try.func23, Try.ntmps23
  go_upto_region 1 with fail
  try rw [hwb]
  try rw [hW]
  have hwbs := hwb
  clear hwb hW
  have x11 := HBW.out.cell 11 rfl
  have x12 := HBW.out.cell 12 rfl
  have x13 := HBW.out.cell 13 rfl
  have x14 := HBW.out.cell 14 rfl
  have hbw : ¬ b = wb := by omega
  have hwle : w.heap.size ≤ wb := by omega
  clear hwbs
  have z0 := HZ.out.cell 0 rfl
  have z1 := HZ.out.cell 1 rfl
  have z2 := HZ.out.cell 2 rfl
  first | go_region_held3 (fun w' => w'.cell? ⟨b, 11, none⟩ = some (.int .i64 C.b0) ∧ w'.cell? ⟨b, 12, none⟩ = some (.int .i64 C.b1) ∧ w'.cell? ⟨b, 13, none⟩ = some (.int .i64 C.b2) ∧ w'.cell? ⟨b, 14, none⟩ = some (.slice qa nl qc)) (first | with_reducible exact ⟨x11, x12, x13, x14⟩ | with_reducible exact ⟨cellDr x11, cellDr x12, cellDr x13, cellDr x14⟩ | with_reducible exact ⟨cellA _ x11, cellA _ x12, cellA _ x13, cellA _ x14⟩ | with_reducible exact ⟨cellDr (cellA _ x11), cellDr (cellA _ x12), cellDr (cellA _ x13), cellDr (cellA _ x14)⟩ | exact ⟨(((Keeps.refl (fun i => i = wb) w9).at).at).at.cell (fun e => hbw e) x11, (((Keeps.refl (fun i => i = wb) w9).at).at).at.cell (fun e => hbw e) x12, (((Keeps.refl (fun i => i = wb) w9).at).at).at.cell (fun e => hbw e) x13, (((Keeps.refl (fun i => i = wb) w9).at).at).at.cell (fun e => hbw e) x14⟩ | (go_keep; done)) (first | (go_at_call 36; (with_reducible refine (HQ1.out _ (Keeps.trans HKW.out (by repeat' (first | with_reducible exact Keeps.refl _ _ | with_reducible assumption | with_reducible refine Keeps.drewN ?_ _ | with_reducible refine Keeps.drew ?_ | with_reducible refine Keeps.alloc ?_ _)))).mono ?_); rintro e w9 ⟨v9, rfl, hO, k, hN⟩; obtain ⟨va, vc, rfl⟩ := own_any hO; have kk : Keeps No W w9 := Keeps.trans (by repeat' (first | with_reducible exact Keeps.refl _ _ | with_reducible assumption | with_reducible refine Keeps.drewN ?_ _ | with_reducible refine Keeps.drew ?_ | with_reducible refine Keeps.alloc ?_ _)) k; have g0 := HBW.out.kept kk; have x11 := g0.cell 11 rfl; have x12 := g0.cell 12 rfl; have x13 := g0.cell 13 rfl; have x14 := g0.cell 14 rfl; have HGZ := hid (HZ.out.kept kk); have HKK := hid kk; have gz := HGZ.out; have z0 := gz.cell 0 rfl; have z1 := gz.cell 1 rfl; have z2 := gz.cell 2 rfl; have e0 := gz.free 0; have e1 := gz.free 1; have e2 := gz.free 2; clear g0 gz k hO hN) | (go_at_call 36; (with_reducible refine (HQ2.out _ (Keeps.trans HKW.out (by repeat' (first | with_reducible exact Keeps.refl _ _ | with_reducible assumption | with_reducible refine Keeps.drewN ?_ _ | with_reducible refine Keeps.drew ?_ | with_reducible refine Keeps.alloc ?_ _)))).mono ?_); rintro e w9 ⟨v9, rfl, hO, k, hN⟩; obtain ⟨va, vc, rfl⟩ := own_any hO; have kk : Keeps No W w9 := Keeps.trans (by repeat' (first | with_reducible exact Keeps.refl _ _ | with_reducible assumption | with_reducible refine Keeps.drewN ?_ _ | with_reducible refine Keeps.drew ?_ | with_reducible refine Keeps.alloc ?_ _)) k; have g0 := HBW.out.kept kk; have x11 := g0.cell 11 rfl; have x12 := g0.cell 12 rfl; have x13 := g0.cell 13 rfl; have x14 := g0.cell 14 rfl; have HGZ := hid (HZ.out.kept kk); have HKK := hid kk; have gz := HGZ.out; have z0 := gz.cell 0 rfl; have z1 := gz.cell 1 rfl; have z2 := gz.cell 2 rfl; have e0 := gz.free 0; have e1 := gz.free 1; have e2 := gz.free 2; clear g0 gz k hO hN) | (go_at_call 36; (with_reducible refine (HQ3.out _ (Keeps.trans HKW.out (by repeat' (first | with_reducible exact Keeps.refl _ _ | with_reducible assumption | with_reducible refine Keeps.drewN ?_ _ | with_reducible refine Keeps.drew ?_ | with_reducible refine Keeps.alloc ?_ _)))).mono ?_); rintro e w9 ⟨v9, rfl, hO, k, hN⟩; obtain ⟨va, vc, rfl⟩ := own_any hO; have kk : Keeps No W w9 := Keeps.trans (by repeat' (first | with_reducible exact Keeps.refl _ _ | with_reducible assumption | with_reducible refine Keeps.drewN ?_ _ | with_reducible refine Keeps.drew ?_ | with_reducible refine Keeps.alloc ?_ _)) k; have g0 := HBW.out.kept kk; have x11 := g0.cell 11 rfl; have x12 := g0.cell 12 rfl; have x13 := g0.cell 13 rfl; have x14 := g0.cell 14 rfl; have HGZ := hid (HZ.out.kept kk); have HKK := hid kk; have gz := HGZ.out; have z0 := gz.cell 0 rfl; have z1 := gz.cell 1 rfl; have z2 := gz.cell 2 rfl; have e0 := gz.free 0; have e1 := gz.free 1; have e2 := gz.free 2; clear g0 gz k hO hN)) | fail
  go_wp2_with fail
  have b1 := ((HGZ.out.put 0 (.int .i64 n1) rfl).put 1 (.int .i64 n2) rfl).put 2 (.int .i64 n3) rfl
  have c0 := b1.cell 0 rfl
  have c1 := b1.cell 1 rfl
  have c2 := b1.cell 2 rfl
  refine bodyPost_ret (v := .agg #[.int .i64 n1, .int .i64 n2, .int .i64 n3]) (by simp [results, Try.results23, go_sem, c0, c1, c2]) rfl ?_
  exact ⟨rfl, (((HKW.out.trans HKK.out).setCell (Or.inl hwle) _).setCell (Or.inl hwle) _).setCell (Or.inl hwle) _⟩

end Go.Proofs.Ytoodlhagecannaa
