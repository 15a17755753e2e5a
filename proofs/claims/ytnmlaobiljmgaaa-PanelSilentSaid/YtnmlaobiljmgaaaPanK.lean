/-
  Panels: what the laws share: lights by numbers, the document's example.
-/
import Derived.Test.YtnmlaobiljmgaaaPanSW
import Derived.Test.YtnmlaobiljmgaaaArgs
import Derived.ProofKit
import Derived.OpenShut
namespace Go.Proofs.Ytnmlaobiljmgaaa
open Go.ChangeShapes Go.WideShapes Go.ChangeAt Go.RowKit
set_option linter.unusedVariables false
set_option linter.unusedSimpArgs false

structure One20 where
  p : Int
  st : Int
  stage : Int
  since : Int
def encOne (x : One20) : List Value := [.int .u8 x.p, .int .u8 x.st, .int .u8 x.stage, .int .u16 x.since]
theorem encOne_len (x : One20) : (encOne x).length = 4 := rfl
def goodOne20 (x : One20) : Prop := (Lit.int .u8 x.p).wf = true ∧ (Lit.int .u8 x.st).wf = true ∧ (Lit.int .u8 x.stage).wf = true ∧ (Lit.int .u16 x.since).wf = true

set_option maxRecDepth 100000 in
theorem decOne {H : Type} {enc : TypeId × Value → H} {W : World} {n : Nat} {cs : List Value} {x} (h : DataW.trod enc Try.prog W 0 (fun _ => true) true n 72 cs = some x) : ∃ y : One20, cs = encOne y ∧ goodOne20 y := by
  obtain ⟨xs, m, _, _, hl, hlen, hf⟩ := DataW.trod_struct Try.underlying72 h
  rw [show Try.prog.cellsOf 72 = 4 by kernel_rfl] at hl
  match cs, hl, xs, hlen with
  | [c0, c1, c2, c3], _, [y0, y1, y2, y3], _ =>
    have h0 : DataW.trod enc Try.prog W 0 (fun _ => true) true m 5 (([c0, c1, c2, c3].drop 0).take (Try.prog.cellsOf 5)) = some y0 := hf 0 _ rfl
    have h1 : DataW.trod enc Try.prog W 0 (fun _ => true) true m 5 (([c0, c1, c2, c3].drop 1).take (Try.prog.cellsOf 5)) = some y1 := hf 1 _ rfl
    have h2 : DataW.trod enc Try.prog W 0 (fun _ => true) true m 5 (([c0, c1, c2, c3].drop 2).take (Try.prog.cellsOf 5)) = some y2 := hf 2 _ rfl
    have h3 : DataW.trod enc Try.prog W 0 (fun _ => true) true m 54 (([c0, c1, c2, c3].drop 3).take (Try.prog.cellsOf 54)) = some y3 := hf 3 _ rfl
    rw [show Try.prog.cellsOf 5 = 1 by kernel_rfl] at h0 h1 h2
    rw [show Try.prog.cellsOf 54 = 1 by kernel_rfl] at h3
    obtain ⟨a0, e0, _, w0⟩ := DataW.trod_int Try.underlying5 h0
    obtain ⟨a1, e1, _, w1⟩ := DataW.trod_int Try.underlying5 h1
    obtain ⟨a2, e2, _, w2⟩ := DataW.trod_int Try.underlying5 h2
    obtain ⟨a3, e3, _, w3⟩ := DataW.trod_int Try.underlying54 h3
    simp at e0 e1 e2 e3
    exact ⟨⟨a0, a1, a2, a3⟩, by simp [e0, e1, e2, e3, encOne], w0, w1, w2, w3⟩

def One20.zero : One20 := ⟨0, 0, 0, 0⟩
/-- A light by numbers. -/
def oneL (turn : Bool) (x : One20) (i : Nat) : LightD := ⟨if turn then 40 - (i : Int) else i, 1 + x.p % 3, ⟨decide (x.st % 2 = 1), decide (x.st % 4 > 0), decide (x.st % 8 > 4), x.since, x.stage % 4⟩⟩
def ofN (turn : Bool) (l : List One20) (n : Nat) : List LightD := (List.range n).map (fun i => oneL turn (l.getD i One20.zero) i)
def ofL (turn : Bool) (l : List One20) : List LightD := ofN turn l (min l.length 20)
theorem ofN_succ (turn : Bool) (l : List One20) (n : Nat) : ofN turn l (n + 1) = ofN turn l n ++ [oneL turn (l.getD n One20.zero) n] := by
  unfold ofN; rw [List.range_succ, List.map_append]; rfl
theorem ofN_len (turn : Bool) (l : List One20) (n : Nat) : (ofN turn l n).length = n := by unfold ofN; simp
theorem ofL_len (turn : Bool) (l : List One20) : (ofL turn l).length ≤ 20 := by unfold ofL; rw [ofN_len]; exact Nat.min_le_right _ _
theorem ofL_pri (turn : Bool) {l : List One20} (h : ∀ x ∈ l, goodOne20 x) : ∀ x ∈ ofL turn l, 1 ≤ x.pri ∧ x.pri ≤ 3 := by
  intro x hx
  unfold ofL ofN at hx
  rw [List.mem_map] at hx
  obtain ⟨i, _, rfl⟩ := hx
  show 1 ≤ 1 + _ % 3 ∧ 1 + _ % 3 ≤ 3
  omega
theorem ofL_unlike (turn : Bool) (l : List One20) : Unlike (ofL turn l) := by
  unfold Unlike ofL ofN
  rw [List.pairwise_map]
  refine List.Pairwise.imp ?_ (List.pairwise_lt_range)
  intro i j hij
  show (if turn then 40 - (i : Int) else i) ≠ (if turn then 40 - (j : Int) else j)
  cases turn <;> simp <;> omega
theorem ofL_since (turn : Bool) {l : List One20} (h : ∀ x ∈ l, goodOne20 x) : True := trivial

theorem info_light : (Try.prog.info? 51).map (fun i => (i.zero, i.size, i.bytes)) = some (some (.agg #[.int .i64 0, .int .u8 0, .bool false, .bool false, .bool false, .int .i64 0, .int .i64 0]), 7, 40) := by kernel_rfl
theorem info_mlight : (Try.prog.info? 75).map (fun i => (i.zero, i.size, i.bytes)) = some (some (.agg #[.int .i64 0, .int .u8 0, .bool false, .bool false, .bool false, .int .i64 0, .int .i64 0]), 7, 40) := by kernel_rfl

/-- A row of lights that is being filled, new since w0. -/
structure RowL (T : TypeId) (w0 wr : World) (v : Value) (n : Nat) (l : List LightD) : Prop where
  own : wr.ownsRow 0 T 7 v n (l.flatMap encLi)
  new : ∀ k, v.ownBlock = some k → w0.heap.size ≤ k
theorem encLi_len (l : List LightD) : (l.flatMap encLi).length = l.length * 7 := length_flatMap_enc (size := 7) (enc := encLi) (fun _ => rfl) l
theorem RowL.sl {T : TypeId} {w0 wr : World} {v : Value} {n : Nat} {l : List LightD} (h : RowL T w0 wr v n l) : Sl wr 7 v n (l.flatMap encLi) := Sl.ofOwn h.own
theorem RowL.keep {T : TypeId} {w0 wr w' : World} {v : Value} {n : Nat} {l : List LightD} {S : Nat → Prop} (h : RowL T w0 wr v n l) (k : Keeps S wr w') (hs : ∀ k, v.ownBlock = some k → ¬ S k) : RowL T w0 w' v n l := ⟨k.own h.own hs, h.new⟩
theorem RowL.lt {T : TypeId} {w0 wr : World} {v : Value} {n : Nat} {l : List LightD} (h : RowL T w0 wr v n l) : ∀ k, v.ownBlock = some k → k < wr.heap.size := fun k hk => (h.own.lt k hk).2
theorem RowL.app {T : TypeId} {w0 wr W w4 : World} {v v' : Value} {n : Nat} {l : List LightD} (x : LightD) (h : RowL T w0 wr v n l) (hs : w0.heap.size ≤ W.heap.size) (ho : w4.ownsRow 0 T 7 v' (n + 1) (l.flatMap encLi ++ encLi x)) (hb : ∀ k, v'.ownBlock = some k → v.ownBlock = some k ∨ W.heap.size ≤ k) : RowL T w0 w4 v' (n + 1) (l ++ [x]) := by
  refine ⟨by rw [List.flatMap_append]; simpa using ho, fun i hi => ?_⟩
  rcases hb i hi with h1 | h1
  · exact h.new i h1
  · omega
theorem RowL.len {T : TypeId} {w0 wr : World} {v : Value} {n : Nat} {l : List LightD} (h : RowL T w0 wr v n l) : l.length = n := by
  have := h.own.1
  rw [encLi_len] at this
  omega
/-- Two rows lie apart. -/
def Apart (u v : Value) : Prop := ∀ k, u.ownBlock = some k → v.ownBlock = some k → False

set_option maxHeartbeats 16000000 in
set_option maxRecDepth 100000 in
theorem of_false {w : World} {ao : Option Addr} {cap : Nat} {l : List One20} (hs : Sl w 4 (.slice ao l.length cap) l.length (l.flatMap encOne)) (hg : ∀ x ∈ l, goodOne20 x) (hl : l.length ≤ 1000000) :
    Calls Try.prog 20 #[.slice ao l.length cap, .bool false] w fun e w' => ∃ va vb, e = .returned (.tuple #[va, vb]) ∧ SlPi w' va (ofL false l) ∧ SlLi w' vb (ofL false l) ∧ (∀ k, va.ownBlock = some k → w.heap.size ≤ k) ∧ (∀ k, vb.ownBlock = some k → w.heap.size ≤ k) ∧ Keeps No w w' := by
  obtain ⟨m, hm⟩ : ∃ m, l.length = m := ⟨_, rfl⟩
  have HM := hid hm
  have HS : Hid (Sl w 4 (.slice ao m cap) m (l.flatMap encOne)) := hid (by rw [← hm]; exact hs)
  have HG := hid hg
  obtain ⟨i0, hi, hz0, hz1, hz2⟩ := info_parts info_light
  have HI := hid hi
  obtain ⟨i1, hj, hy0, hy1, hy2⟩ := info_parts info_mlight
  have HJ := hid hj
  rw [hm] at hl ⊢
  clear hs hm hg hi hj
  go_enter Try.func20, Try.ntmps20
  go_wp2_with fail
  go_loopw [6, 7, 8] (fun v6 v7 v8 wr => ∃ (i : Nat) (aa ba : Option Addr) (ac bc : Nat), i ≤ m ∧ i ≤ 20 ∧ v8 = .int .i64 i ∧ v6 = .slice aa i ac ∧ v7 = .slice ba i bc ∧ Hid (RowL 51 w wr (.slice aa i ac) i (ofN false l i)) ∧ Hid (RowL 75 w wr (.slice ba i bc) i (ofN false l i)) ∧ Hid (Apart (.slice aa i ac) (.slice ba i bc)) ∧ Hid (Keeps No w wr)) (fun _ _ v8 _ => 20 - (intOf v8).toNat)
  case atStart => exact ⟨0, none, none, 0, 0, Nat.zero_le _, Nat.zero_le _, rfl, rfl, rfl, hid ⟨World.ownsRow_nil _ _ _ _, fun k hk => by simp [Value.ownBlock] at hk⟩, hid ⟨World.ownsRow_nil _ _ _ _, fun k hk => by simp [Value.ownBlock] at hk⟩, hid (fun k hk => by simp [Value.ownBlock] at hk), hid (Keeps.refl _ _)⟩
  case round =>
    obtain ⟨i, aa, ba, ac, bc, hi, hi20, rfl, rfl, rfl, HA, HB, HAP, HK⟩ := hrel
    by_cases hlt : i < m
    · by_cases h20 : i < 20
      · have hil : i < l.length := by rw [HM.out]; exact hlt
        obtain ⟨x, hx⟩ : ∃ x, l[i] = x := ⟨_, rfl⟩
        have hgx := HG.out x (by rw [← hx]; exact List.getElem_mem hil)
        obtain ⟨g, off, ha, hgl, hc⟩ := Sl.itemC (enc := encOne) (size := 4) (fun _ => rfl) (by decide) (HS.out.keep HK.out (fun _ _ h => h)) (by rw [HM.out]; exact hlt) hx
        have c0 : wr.cell? ⟨g, off + i * 4, none⟩ = some (.int .u8 x.p) := hc 0 _ rfl
        have c1 := hc 1 _ rfl
        have c2 := hc 2 _ rfl
        have c3 := hc 3 _ rfl
        have HT : Hid (ofN false l (i + 1) = ofN false l i ++ [oneL false x i]) := hid (by rw [ofN_succ, List.getD_eq_getElem?_getD, List.getElem?_eq_getElem hil, hx]; rfl)
        subst ha
        obtain ⟨p, st, sg, since⟩ := x
        simp only at c0 c1 c2 c3
        obtain ⟨wp, wst, wsg, wsi⟩ := hgx
        obtain ⟨p0, p1⟩ := bounds_u8 wp
        obtain ⟨st0, st1⟩ := bounds_u8 wst
        obtain ⟨sg0, sg1⟩ := bounds_u8 wsg
        obtain ⟨si0, si1⟩ := bounds_u16 wsi
        simp only at p0 p1 st0 st1 sg0 sg1 si0 si1
        clear hx hil hc wp wst wsg wsi
        have t1 : p.tmod 3 = p % 3 := Int.tmod_eq_emod_of_nonneg p0
        have t2 : st.tmod 2 = st % 2 := Int.tmod_eq_emod_of_nonneg st0
        have t3 : st.tmod 4 = st % 4 := Int.tmod_eq_emod_of_nonneg st0
        have t4 : st.tmod 8 = st % 8 := Int.tmod_eq_emod_of_nonneg st0
        have t5 : sg.tmod 4 = sg % 4 := Int.tmod_eq_emod_of_nonneg sg0
        obtain ⟨on, hon⟩ : ∃ q, decide (st % 2 = 1) = q := ⟨_, rfl⟩
        obtain ⟨lit, hlit⟩ : ∃ q, decide (st % 4 > 0) = q := ⟨_, rfl⟩
        obtain ⟨ack, hack⟩ : ∃ q, decide (st % 8 > 4) = q := ⟨_, rfl⟩
        obtain ⟨stg, hstg⟩ : ∃ q, sg % 4 = q := ⟨_, rfl⟩
        obtain ⟨pri, hpri⟩ : ∃ q, 1 + p % 3 = q := ⟨_, rfl⟩
        obtain ⟨p3, hp3⟩ : ∃ q, p % 3 = q := ⟨_, rfl⟩
        obtain ⟨s2, hs2⟩ : ∃ q, st % 2 = q := ⟨_, rfl⟩
        obtain ⟨s4, hs4⟩ : ∃ q, st % 4 = q := ⟨_, rfl⟩
        obtain ⟨s8, hs8⟩ : ∃ q, st % 8 = q := ⟨_, rfl⟩
        have u1 : IntKind.u8.wrap p3 = p3 := by simp only [IntKind.wrap, IntKind.bits, IntKind.signed]; simp; omega
        have u2 : IntKind.u8.wrap s2 = s2 := by simp only [IntKind.wrap, IntKind.bits, IntKind.signed]; simp; omega
        have u3 : IntKind.u8.wrap s4 = s4 := by simp only [IntKind.wrap, IntKind.bits, IntKind.signed]; simp; omega
        have u4 : IntKind.u8.wrap s8 = s8 := by simp only [IntKind.wrap, IntKind.bits, IntKind.signed]; simp; omega
        have u5 : IntKind.u8.wrap stg = stg := by simp only [IntKind.wrap, IntKind.bits, IntKind.signed]; simp; omega
        have u6 : IntKind.u8.wrap (1 + p3) = pri := by rw [← hpri, ← hp3]; simp only [IntKind.wrap, IntKind.bits, IntKind.signed]; simp; omega
        have u7 : IntKind.i64.wrap since = since := by simp only [IntKind.wrap_i64]; omega
        have u8_ : IntKind.i64.wrap stg = stg := by simp only [IntKind.wrap_i64]; omega
        have e1 : (s2 == 1) = on := by rw [← hon, ← hs2]; by_cases h : st % 2 = 1 <;> simp [h]
        have e2 : decide (s4 > 0) = lit := by rw [← hlit, ← hs4]
        have e3 : decide (s8 > 4) = ack := by rw [← hack, ← hs8]
        obtain ⟨cond, hcond⟩ : ∃ q : Int, (i : Int) = q := ⟨_, rfl⟩
        have u9 : IntKind.i64.wrap (40 - (i : Int)) = 40 - (i : Int) := by simp only [IntKind.wrap_i64]; omega
        have HT2 : Hid (ofN false l (i + 1) = ofN false l i ++ [⟨cond, pri, ⟨on, lit, ack, since, stg⟩⟩]) := hid (by rw [HT.out]; unfold oneL; simp only [hon, hlit, hack, hstg, hpri]; rw [← hcond]; rfl)
        rw [hp3] at t1
        rw [hs2] at t2
        rw [hs4] at t3
        rw [hs8] at t4
        rw [hstg] at t5
        subst hcond
        clear HT hon hlit hack hpri hp3 hs2 hs4 hs8 hstg
        clear HG
        go_upto_region 7 with fail
        obtain ⟨xb, hxb⟩ : ∃ q, wr.heap.size = q := ⟨_, rfl⟩
        obtain ⟨W, hW⟩ : ∃ W, wr.alloc (.cells #[.int .u8 p, .int .u8 st, .int .u8 sg, .int .u16 since] 72) = W := ⟨_, rfl⟩
        have HX : Hid (Bk W xb 72 [.int .u8 p, .int .u8 st, .int .u8 sg, .int .u16 since]) := hid (by rw [← hW]; exact Bk.new hxb _ _)
        have KW : Hid (Keeps No wr W) := hid (by rw [← hW]; exact (Keeps.refl No wr).alloc _)
        have HXB : Hid (wr.heap.size = xb) := hid hxb
        try rw [hxb]
        try rw [hW]
        clear hxb hW c0 c1 c2 c3
        have x0_0 := HX.out.cell 0 rfl
        have x0_1 := HX.out.cell 1 rfl
        have x0_2 := HX.out.cell 2 rfl
        have x0_3 := HX.out.cell 3 rfl
        go_upto_region 11 with fail
        obtain ⟨yb, hyb⟩ : ∃ q, W.heap.size = q := ⟨_, rfl⟩
        obtain ⟨W2, hW2⟩ : ∃ W2, W.alloc (.cells #[.bool on, .bool lit, .bool ack, .int .i64 since, .int .i64 stg] 73) = W2 := ⟨_, rfl⟩
        have HX2 : Hid (Bk W2 xb 72 [.int .u8 p, .int .u8 st, .int .u8 sg, .int .u16 since]) := hid (by rw [← hW2]; exact HX.out.alloc _)
        have HY2 : Hid (Bk W2 yb 73 [.bool on, .bool lit, .bool ack, .int .i64 since, .int .i64 stg]) := hid (by rw [← hW2]; exact Bk.new hyb _ _)
        have KW2 : Hid (Keeps No wr W2) := hid (by rw [← hW2]; exact KW.out.alloc _)
        have HA2 := hid (HA.out.keep KW2.out (fun _ _ h => h))
        have HB2 := hid (HB.out.keep KW2.out (fun _ _ h => h))
        have HYB : Hid (wr.heap.size ≤ yb) := hid (by have := KW.out.size; omega)
        try rw [hyb]
        try rw [hW2]
        clear hyb hW2 x0_0 x0_1 x0_2 x0_3
        have x0_0 := HX2.out.cell 0 rfl
        have x0_1 := HX2.out.cell 1 rfl
        have x0_2 := HX2.out.cell 2 rfl
        have x0_3 := HX2.out.cell 3 rfl
        have x1_0 := HY2.out.cell 0 rfl
        have x1_1 := HY2.out.cell 1 rfl
        have x1_2 := HY2.out.cell 2 rfl
        have x1_3 := HY2.out.cell 3 rfl
        have x1_4 := HY2.out.cell 4 rfl
        go_wp2_with (at_builtin; refine wpl_append rfl _ _ 36 rfl 75 i1 (.agg #[.int .i64 0, .int .u8 0, .bool false, .bool false, .bool false, .int .i64 0, .int .i64 0]) 7 40 Try.underlying36 HJ.out hy0 hy1 hy2 rfl (by decide) _ _ _ _ _ _ rfl rfl ((HB2.out.keep (show Keeps No _ _ from by repeat' (first | with_reducible exact Keeps.refl _ _ | with_reducible assumption | with_reducible refine Keeps.drewN ?_ _ | with_reducible refine Keeps.drew ?_ | with_reducible refine Keeps.alloc ?_ _)) (fun _ _ h => h)).own) (Sl.new _ _ _ 7 1 rfl (by decide)) ?c1 ?c2 ?c3 ?_)
        case c1 => exact ⟨rfl, rfl, rfl, rfl, rfl, rfl, rfl⟩
        case c2 => unfold maxLen; omega
        case c3 => omega
        intro u2 w4 hown2 hk2 hbl2
        obtain ⟨ma, mc, rfl⟩ := own_any hown2
        have hb3 : ∀ k, (Value.slice ma (i + 1) mc).ownBlock = some k → (Value.slice ba i bc).ownBlock = some k ∨ W2.heap.size ≤ k := fun k hk => by
          rcases hbl2 k hk with h | h
          · exact Or.inl h
          · exact Or.inr (by first | omega | (simp at h; omega))
        have K4 := hid (Keeps.trans (S := Bl (.slice ba i bc)) ((show Keeps No W2 _ from by repeat' (first | with_reducible exact Keeps.refl _ _ | with_reducible assumption | with_reducible refine Keeps.drewN ?_ _ | with_reducible refine Keeps.drew ?_ | with_reducible refine Keeps.alloc ?_ _)).no) hk2)
        have HSW : Hid (w.heap.size ≤ W2.heap.size) := hid (HK.out.trans KW2.out).size
        have HB4 := hid (RowL.app (w4 := w4) (v' := .slice ma (i + 1) mc) (W := W2) ⟨(i : Int), pri, ⟨on, lit, ack, since, stg⟩⟩ HB2.out HSW.out (by simpa [encLi] using hown2) hb3)
        have HAP2 : Hid (Apart (.slice aa i ac) (.slice ma (i + 1) mc)) := hid (fun k h1 h2 => by
          rcases hb3 k h2 with h | h
          · exact HAP.out k h1 h
          · have := HA2.out.lt k h1; omega)
        have HA4 := hid (HA2.out.keep K4.out (fun k h1 h2 => HAP.out k h1 h2))
        have HX4 := hid (HX2.out.keep K4.out (fun h => by have h1 := HB.out.lt _ h; have h2 := HXB.out; omega))
        have HY4 := hid (HY2.out.keep K4.out (fun h => by have h1 := HB.out.lt _ h; have h2 := HYB.out; omega))
        have KALL : Hid (Keeps No w w4) := hid ((HK.out.trans KW2.out).trans' K4.out (fun _ _ h => h) (fun k hk h => by have := HB.out.new k h; omega))
        clear hown2 hk2 hbl2 hb3 x0_0 x0_1 x0_2 x0_3 x1_0 x1_1 x1_2 x1_3 x1_4
        go_upto_region 12 with fail
        have x0_0 := HX4.out.cell 0 rfl
        have x0_1 := HX4.out.cell 1 rfl
        have x0_2 := HX4.out.cell 2 rfl
        have x0_3 := HX4.out.cell 3 rfl
        have x1_0 := HY4.out.cell 0 rfl
        have x1_1 := HY4.out.cell 1 rfl
        have x1_2 := HY4.out.cell 2 rfl
        have x1_3 := HY4.out.cell 3 rfl
        have x1_4 := HY4.out.cell 4 rfl
        go_wp2_with (at_builtin; refine wpl_append rfl _ _ 35 rfl 51 i0 (.agg #[.int .i64 0, .int .u8 0, .bool false, .bool false, .bool false, .int .i64 0, .int .i64 0]) 7 40 Try.underlying35 HI.out hz0 hz1 hz2 rfl (by decide) _ _ _ _ _ _ rfl rfl ((HA4.out.keep (show Keeps No _ _ from by repeat' (first | with_reducible exact Keeps.refl _ _ | with_reducible assumption | with_reducible refine Keeps.drewN ?_ _ | with_reducible refine Keeps.drew ?_ | with_reducible refine Keeps.alloc ?_ _)) (fun _ _ h => h)).own) (Sl.new _ _ _ 7 1 rfl (by decide)) ?c1 ?c2 ?c3 ?_)
        case c1 => exact ⟨rfl, rfl, rfl, rfl, rfl, rfl, rfl⟩
        case c2 => unfold maxLen; omega
        case c3 => omega
        intro u3 w5 hown3 hk3 hbl3
        obtain ⟨na, nc, rfl⟩ := own_any hown3
        have hb5 : ∀ k, (Value.slice na (i + 1) nc).ownBlock = some k → (Value.slice aa i ac).ownBlock = some k ∨ w4.heap.size ≤ k := fun k hk => by
          rcases hbl3 k hk with h | h
          · exact Or.inl h
          · exact Or.inr (by first | omega | (simp at h; omega))
        have K5 := hid (Keeps.trans (S := Bl (.slice aa i ac)) ((show Keeps No w4 _ from by repeat' (first | with_reducible exact Keeps.refl _ _ | with_reducible assumption | with_reducible refine Keeps.drewN ?_ _ | with_reducible refine Keeps.drew ?_ | with_reducible refine Keeps.alloc ?_ _)).no) hk3)
        have HA5 := hid (RowL.app (w4 := w5) (v' := .slice na (i + 1) nc) (W := w4) ⟨(i : Int), pri, ⟨on, lit, ack, since, stg⟩⟩ HA4.out KALL.out.size (by simpa [encLi] using hown3) hb5)
        have HAP3 : Hid (Apart (.slice na (i + 1) nc) (.slice ma (i + 1) mc)) := hid (fun k h1 h2 => by
          rcases hb5 k h1 with h | h
          · exact HAP2.out k h h2
          · have := HB4.out.lt k h2; omega)
        have HB5 := hid (HB4.out.keep K5.out (fun k h1 h2 => HAP2.out k h2 h1))
        have KALL5 : Hid (Keeps No w w5) := hid (KALL.out.trans' K5.out (fun _ _ h => h) (fun k hk h => by have := HA.out.new k h; omega))
        clear hown3 hk3 hbl3 hb5 x0_0 x0_1 x0_2 x0_3 x1_0 x1_1 x1_2 x1_3 x1_4
        go_wp2_with fail
        go_roundw
        case rel => exact ⟨i + 1, na, ma, nc, mc, by omega, by omega, by go_num, rfl, rfl, hid (by rw [HT2.out]; exact HA5.out), hid (by rw [HT2.out]; exact HB5.out), HAP3, KALL5⟩
        case measure => simp [intOf]; omega
      · obtain rfl : i = 20 := by omega
        have HL2 : Hid (ofL false l = ofN false l 20) := hid (by unfold ofL; rw [HM.out, Nat.min_eq_right (by omega)])
        go_wp2_with fail
        go_ret2
        exact ⟨_, _, rfl, by rw [HL2.out]; unfold SlPi; rw [ofN_len]; exact HA.out.sl, by rw [HL2.out]; unfold SlLi; rw [ofN_len]; exact HB.out.sl, HA.out.new, HB.out.new, HK.out⟩
    · obtain rfl : i = m := by omega
      have HL2 : Hid (ofL false l = ofN false l i) := hid (by unfold ofL; rw [HM.out, Nat.min_eq_left (by omega)])
      go_wp2_with fail
      go_ret2
      exact ⟨_, _, rfl, by rw [HL2.out]; unfold SlPi; rw [ofN_len]; exact HA.out.sl, by rw [HL2.out]; unfold SlLi; rw [ofN_len]; exact HB.out.sl, HA.out.new, HB.out.new, HK.out⟩
set_option maxHeartbeats 16000000 in
set_option maxRecDepth 100000 in
theorem of_true {w : World} {ao : Option Addr} {cap : Nat} {l : List One20} (hs : Sl w 4 (.slice ao l.length cap) l.length (l.flatMap encOne)) (hg : ∀ x ∈ l, goodOne20 x) (hl : l.length ≤ 1000000) :
    Calls Try.prog 20 #[.slice ao l.length cap, .bool true] w fun e w' => ∃ va vb, e = .returned (.tuple #[va, vb]) ∧ SlPi w' va (ofL true l) ∧ SlLi w' vb (ofL true l) ∧ (∀ k, va.ownBlock = some k → w.heap.size ≤ k) ∧ (∀ k, vb.ownBlock = some k → w.heap.size ≤ k) ∧ Keeps No w w' := by
  obtain ⟨m, hm⟩ : ∃ m, l.length = m := ⟨_, rfl⟩
  have HM := hid hm
  have HS : Hid (Sl w 4 (.slice ao m cap) m (l.flatMap encOne)) := hid (by rw [← hm]; exact hs)
  have HG := hid hg
  obtain ⟨i0, hi, hz0, hz1, hz2⟩ := info_parts info_light
  have HI := hid hi
  obtain ⟨i1, hj, hy0, hy1, hy2⟩ := info_parts info_mlight
  have HJ := hid hj
  rw [hm] at hl ⊢
  clear hs hm hg hi hj
  go_enter Try.func20, Try.ntmps20
  go_wp2_with fail
  go_loopw [6, 7, 8] (fun v6 v7 v8 wr => ∃ (i : Nat) (aa ba : Option Addr) (ac bc : Nat), i ≤ m ∧ i ≤ 20 ∧ v8 = .int .i64 i ∧ v6 = .slice aa i ac ∧ v7 = .slice ba i bc ∧ Hid (RowL 51 w wr (.slice aa i ac) i (ofN true l i)) ∧ Hid (RowL 75 w wr (.slice ba i bc) i (ofN true l i)) ∧ Hid (Apart (.slice aa i ac) (.slice ba i bc)) ∧ Hid (Keeps No w wr)) (fun _ _ v8 _ => 20 - (intOf v8).toNat)
  case atStart => exact ⟨0, none, none, 0, 0, Nat.zero_le _, Nat.zero_le _, rfl, rfl, rfl, hid ⟨World.ownsRow_nil _ _ _ _, fun k hk => by simp [Value.ownBlock] at hk⟩, hid ⟨World.ownsRow_nil _ _ _ _, fun k hk => by simp [Value.ownBlock] at hk⟩, hid (fun k hk => by simp [Value.ownBlock] at hk), hid (Keeps.refl _ _)⟩
  case round =>
    obtain ⟨i, aa, ba, ac, bc, hi, hi20, rfl, rfl, rfl, HA, HB, HAP, HK⟩ := hrel
    by_cases hlt : i < m
    · by_cases h20 : i < 20
      · have hil : i < l.length := by rw [HM.out]; exact hlt
        obtain ⟨x, hx⟩ : ∃ x, l[i] = x := ⟨_, rfl⟩
        have hgx := HG.out x (by rw [← hx]; exact List.getElem_mem hil)
        obtain ⟨g, off, ha, hgl, hc⟩ := Sl.itemC (enc := encOne) (size := 4) (fun _ => rfl) (by decide) (HS.out.keep HK.out (fun _ _ h => h)) (by rw [HM.out]; exact hlt) hx
        have c0 : wr.cell? ⟨g, off + i * 4, none⟩ = some (.int .u8 x.p) := hc 0 _ rfl
        have c1 := hc 1 _ rfl
        have c2 := hc 2 _ rfl
        have c3 := hc 3 _ rfl
        have HT : Hid (ofN true l (i + 1) = ofN true l i ++ [oneL true x i]) := hid (by rw [ofN_succ, List.getD_eq_getElem?_getD, List.getElem?_eq_getElem hil, hx]; rfl)
        subst ha
        obtain ⟨p, st, sg, since⟩ := x
        simp only at c0 c1 c2 c3
        obtain ⟨wp, wst, wsg, wsi⟩ := hgx
        obtain ⟨p0, p1⟩ := bounds_u8 wp
        obtain ⟨st0, st1⟩ := bounds_u8 wst
        obtain ⟨sg0, sg1⟩ := bounds_u8 wsg
        obtain ⟨si0, si1⟩ := bounds_u16 wsi
        simp only at p0 p1 st0 st1 sg0 sg1 si0 si1
        clear hx hil hc wp wst wsg wsi
        have t1 : p.tmod 3 = p % 3 := Int.tmod_eq_emod_of_nonneg p0
        have t2 : st.tmod 2 = st % 2 := Int.tmod_eq_emod_of_nonneg st0
        have t3 : st.tmod 4 = st % 4 := Int.tmod_eq_emod_of_nonneg st0
        have t4 : st.tmod 8 = st % 8 := Int.tmod_eq_emod_of_nonneg st0
        have t5 : sg.tmod 4 = sg % 4 := Int.tmod_eq_emod_of_nonneg sg0
        obtain ⟨on, hon⟩ : ∃ q, decide (st % 2 = 1) = q := ⟨_, rfl⟩
        obtain ⟨lit, hlit⟩ : ∃ q, decide (st % 4 > 0) = q := ⟨_, rfl⟩
        obtain ⟨ack, hack⟩ : ∃ q, decide (st % 8 > 4) = q := ⟨_, rfl⟩
        obtain ⟨stg, hstg⟩ : ∃ q, sg % 4 = q := ⟨_, rfl⟩
        obtain ⟨pri, hpri⟩ : ∃ q, 1 + p % 3 = q := ⟨_, rfl⟩
        obtain ⟨p3, hp3⟩ : ∃ q, p % 3 = q := ⟨_, rfl⟩
        obtain ⟨s2, hs2⟩ : ∃ q, st % 2 = q := ⟨_, rfl⟩
        obtain ⟨s4, hs4⟩ : ∃ q, st % 4 = q := ⟨_, rfl⟩
        obtain ⟨s8, hs8⟩ : ∃ q, st % 8 = q := ⟨_, rfl⟩
        have u1 : IntKind.u8.wrap p3 = p3 := by simp only [IntKind.wrap, IntKind.bits, IntKind.signed]; simp; omega
        have u2 : IntKind.u8.wrap s2 = s2 := by simp only [IntKind.wrap, IntKind.bits, IntKind.signed]; simp; omega
        have u3 : IntKind.u8.wrap s4 = s4 := by simp only [IntKind.wrap, IntKind.bits, IntKind.signed]; simp; omega
        have u4 : IntKind.u8.wrap s8 = s8 := by simp only [IntKind.wrap, IntKind.bits, IntKind.signed]; simp; omega
        have u5 : IntKind.u8.wrap stg = stg := by simp only [IntKind.wrap, IntKind.bits, IntKind.signed]; simp; omega
        have u6 : IntKind.u8.wrap (1 + p3) = pri := by rw [← hpri, ← hp3]; simp only [IntKind.wrap, IntKind.bits, IntKind.signed]; simp; omega
        have u7 : IntKind.i64.wrap since = since := by simp only [IntKind.wrap_i64]; omega
        have u8_ : IntKind.i64.wrap stg = stg := by simp only [IntKind.wrap_i64]; omega
        have e1 : (s2 == 1) = on := by rw [← hon, ← hs2]; by_cases h : st % 2 = 1 <;> simp [h]
        have e2 : decide (s4 > 0) = lit := by rw [← hlit, ← hs4]
        have e3 : decide (s8 > 4) = ack := by rw [← hack, ← hs8]
        obtain ⟨cond, hcond⟩ : ∃ q : Int, 40 - (i : Int) = q := ⟨_, rfl⟩
        have u9 : IntKind.i64.wrap (40 - (i : Int)) = 40 - (i : Int) := by simp only [IntKind.wrap_i64]; omega
        have HT2 : Hid (ofN true l (i + 1) = ofN true l i ++ [⟨cond, pri, ⟨on, lit, ack, since, stg⟩⟩]) := hid (by rw [HT.out]; unfold oneL; simp only [hon, hlit, hack, hstg, hpri]; rw [← hcond]; rfl)
        rw [hp3] at t1
        rw [hs2] at t2
        rw [hs4] at t3
        rw [hs8] at t4
        rw [hstg] at t5
        rw [hcond] at u9
        clear HT hon hlit hack hpri hp3 hs2 hs4 hs8 hstg
        clear HG
        go_upto_region 7 with fail
        obtain ⟨xb, hxb⟩ : ∃ q, wr.heap.size = q := ⟨_, rfl⟩
        obtain ⟨W, hW⟩ : ∃ W, wr.alloc (.cells #[.int .u8 p, .int .u8 st, .int .u8 sg, .int .u16 since] 72) = W := ⟨_, rfl⟩
        have HX : Hid (Bk W xb 72 [.int .u8 p, .int .u8 st, .int .u8 sg, .int .u16 since]) := hid (by rw [← hW]; exact Bk.new hxb _ _)
        have KW : Hid (Keeps No wr W) := hid (by rw [← hW]; exact (Keeps.refl No wr).alloc _)
        have HXB : Hid (wr.heap.size = xb) := hid hxb
        try rw [hxb]
        try rw [hW]
        clear hxb hW c0 c1 c2 c3
        have x0_0 := HX.out.cell 0 rfl
        have x0_1 := HX.out.cell 1 rfl
        have x0_2 := HX.out.cell 2 rfl
        have x0_3 := HX.out.cell 3 rfl
        go_upto_region 11 with fail
        obtain ⟨yb, hyb⟩ : ∃ q, W.heap.size = q := ⟨_, rfl⟩
        obtain ⟨W2, hW2⟩ : ∃ W2, W.alloc (.cells #[.bool on, .bool lit, .bool ack, .int .i64 since, .int .i64 stg] 73) = W2 := ⟨_, rfl⟩
        have HX2 : Hid (Bk W2 xb 72 [.int .u8 p, .int .u8 st, .int .u8 sg, .int .u16 since]) := hid (by rw [← hW2]; exact HX.out.alloc _)
        have HY2 : Hid (Bk W2 yb 73 [.bool on, .bool lit, .bool ack, .int .i64 since, .int .i64 stg]) := hid (by rw [← hW2]; exact Bk.new hyb _ _)
        have KW2 : Hid (Keeps No wr W2) := hid (by rw [← hW2]; exact KW.out.alloc _)
        have HA2 := hid (HA.out.keep KW2.out (fun _ _ h => h))
        have HB2 := hid (HB.out.keep KW2.out (fun _ _ h => h))
        have HYB : Hid (wr.heap.size ≤ yb) := hid (by have := KW.out.size; omega)
        try rw [hyb]
        try rw [hW2]
        clear hyb hW2 x0_0 x0_1 x0_2 x0_3
        have x0_0 := HX2.out.cell 0 rfl
        have x0_1 := HX2.out.cell 1 rfl
        have x0_2 := HX2.out.cell 2 rfl
        have x0_3 := HX2.out.cell 3 rfl
        have x1_0 := HY2.out.cell 0 rfl
        have x1_1 := HY2.out.cell 1 rfl
        have x1_2 := HY2.out.cell 2 rfl
        have x1_3 := HY2.out.cell 3 rfl
        have x1_4 := HY2.out.cell 4 rfl
        go_wp2_with (at_builtin; refine wpl_append rfl _ _ 36 rfl 75 i1 (.agg #[.int .i64 0, .int .u8 0, .bool false, .bool false, .bool false, .int .i64 0, .int .i64 0]) 7 40 Try.underlying36 HJ.out hy0 hy1 hy2 rfl (by decide) _ _ _ _ _ _ rfl rfl ((HB2.out.keep (show Keeps No _ _ from by repeat' (first | with_reducible exact Keeps.refl _ _ | with_reducible assumption | with_reducible refine Keeps.drewN ?_ _ | with_reducible refine Keeps.drew ?_ | with_reducible refine Keeps.alloc ?_ _)) (fun _ _ h => h)).own) (Sl.new _ _ _ 7 1 rfl (by decide)) ?c1 ?c2 ?c3 ?_)
        case c1 => exact ⟨rfl, rfl, rfl, rfl, rfl, rfl, rfl⟩
        case c2 => unfold maxLen; omega
        case c3 => omega
        intro u2 w4 hown2 hk2 hbl2
        obtain ⟨ma, mc, rfl⟩ := own_any hown2
        have hb3 : ∀ k, (Value.slice ma (i + 1) mc).ownBlock = some k → (Value.slice ba i bc).ownBlock = some k ∨ W2.heap.size ≤ k := fun k hk => by
          rcases hbl2 k hk with h | h
          · exact Or.inl h
          · exact Or.inr (by first | omega | (simp at h; omega))
        have K4 := hid (Keeps.trans (S := Bl (.slice ba i bc)) ((show Keeps No W2 _ from by repeat' (first | with_reducible exact Keeps.refl _ _ | with_reducible assumption | with_reducible refine Keeps.drewN ?_ _ | with_reducible refine Keeps.drew ?_ | with_reducible refine Keeps.alloc ?_ _)).no) hk2)
        have HSW : Hid (w.heap.size ≤ W2.heap.size) := hid (HK.out.trans KW2.out).size
        have HB4 := hid (RowL.app (w4 := w4) (v' := .slice ma (i + 1) mc) (W := W2) ⟨cond, pri, ⟨on, lit, ack, since, stg⟩⟩ HB2.out HSW.out (by simpa [encLi] using hown2) hb3)
        have HAP2 : Hid (Apart (.slice aa i ac) (.slice ma (i + 1) mc)) := hid (fun k h1 h2 => by
          rcases hb3 k h2 with h | h
          · exact HAP.out k h1 h
          · have := HA2.out.lt k h1; omega)
        have HA4 := hid (HA2.out.keep K4.out (fun k h1 h2 => HAP.out k h1 h2))
        have HX4 := hid (HX2.out.keep K4.out (fun h => by have h1 := HB.out.lt _ h; have h2 := HXB.out; omega))
        have HY4 := hid (HY2.out.keep K4.out (fun h => by have h1 := HB.out.lt _ h; have h2 := HYB.out; omega))
        have KALL : Hid (Keeps No w w4) := hid ((HK.out.trans KW2.out).trans' K4.out (fun _ _ h => h) (fun k hk h => by have := HB.out.new k h; omega))
        clear hown2 hk2 hbl2 hb3 x0_0 x0_1 x0_2 x0_3 x1_0 x1_1 x1_2 x1_3 x1_4
        go_upto_region 12 with fail
        have x0_0 := HX4.out.cell 0 rfl
        have x0_1 := HX4.out.cell 1 rfl
        have x0_2 := HX4.out.cell 2 rfl
        have x0_3 := HX4.out.cell 3 rfl
        have x1_0 := HY4.out.cell 0 rfl
        have x1_1 := HY4.out.cell 1 rfl
        have x1_2 := HY4.out.cell 2 rfl
        have x1_3 := HY4.out.cell 3 rfl
        have x1_4 := HY4.out.cell 4 rfl
        go_wp2_with (at_builtin; refine wpl_append rfl _ _ 35 rfl 51 i0 (.agg #[.int .i64 0, .int .u8 0, .bool false, .bool false, .bool false, .int .i64 0, .int .i64 0]) 7 40 Try.underlying35 HI.out hz0 hz1 hz2 rfl (by decide) _ _ _ _ _ _ rfl rfl ((HA4.out.keep (show Keeps No _ _ from by repeat' (first | with_reducible exact Keeps.refl _ _ | with_reducible assumption | with_reducible refine Keeps.drewN ?_ _ | with_reducible refine Keeps.drew ?_ | with_reducible refine Keeps.alloc ?_ _)) (fun _ _ h => h)).own) (Sl.new _ _ _ 7 1 rfl (by decide)) ?c1 ?c2 ?c3 ?_)
        case c1 => exact ⟨rfl, rfl, rfl, rfl, rfl, rfl, rfl⟩
        case c2 => unfold maxLen; omega
        case c3 => omega
        intro u3 w5 hown3 hk3 hbl3
        obtain ⟨na, nc, rfl⟩ := own_any hown3
        have hb5 : ∀ k, (Value.slice na (i + 1) nc).ownBlock = some k → (Value.slice aa i ac).ownBlock = some k ∨ w4.heap.size ≤ k := fun k hk => by
          rcases hbl3 k hk with h | h
          · exact Or.inl h
          · exact Or.inr (by first | omega | (simp at h; omega))
        have K5 := hid (Keeps.trans (S := Bl (.slice aa i ac)) ((show Keeps No w4 _ from by repeat' (first | with_reducible exact Keeps.refl _ _ | with_reducible assumption | with_reducible refine Keeps.drewN ?_ _ | with_reducible refine Keeps.drew ?_ | with_reducible refine Keeps.alloc ?_ _)).no) hk3)
        have HA5 := hid (RowL.app (w4 := w5) (v' := .slice na (i + 1) nc) (W := w4) ⟨cond, pri, ⟨on, lit, ack, since, stg⟩⟩ HA4.out KALL.out.size (by simpa [encLi] using hown3) hb5)
        have HAP3 : Hid (Apart (.slice na (i + 1) nc) (.slice ma (i + 1) mc)) := hid (fun k h1 h2 => by
          rcases hb5 k h1 with h | h
          · exact HAP2.out k h h2
          · have := HB4.out.lt k h2; omega)
        have HB5 := hid (HB4.out.keep K5.out (fun k h1 h2 => HAP2.out k h2 h1))
        have KALL5 : Hid (Keeps No w w5) := hid (KALL.out.trans' K5.out (fun _ _ h => h) (fun k hk h => by have := HA.out.new k h; omega))
        clear hown3 hk3 hbl3 hb5 x0_0 x0_1 x0_2 x0_3 x1_0 x1_1 x1_2 x1_3 x1_4
        go_wp2_with fail
        go_roundw
        case rel => exact ⟨i + 1, na, ma, nc, mc, by omega, by omega, by go_num, rfl, rfl, hid (by rw [HT2.out]; exact HA5.out), hid (by rw [HT2.out]; exact HB5.out), HAP3, KALL5⟩
        case measure => simp [intOf]; omega
      · obtain rfl : i = 20 := by omega
        have HL2 : Hid (ofL true l = ofN true l 20) := hid (by unfold ofL; rw [HM.out, Nat.min_eq_right (by omega)])
        go_wp2_with fail
        go_ret2
        exact ⟨_, _, rfl, by rw [HL2.out]; unfold SlPi; rw [ofN_len]; exact HA.out.sl, by rw [HL2.out]; unfold SlLi; rw [ofN_len]; exact HB.out.sl, HA.out.new, HB.out.new, HK.out⟩
    · obtain rfl : i = m := by omega
      have HL2 : Hid (ofL true l = ofN true l i) := hid (by unfold ofL; rw [HM.out, Nat.min_eq_left (by omega)])
      go_wp2_with fail
      go_ret2
      exact ⟨_, _, rfl, by rw [HL2.out]; unfold SlPi; rw [ofN_len]; exact HA.out.sl, by rw [HL2.out]; unfold SlLi; rw [ofN_len]; exact HB.out.sl, HA.out.new, HB.out.new, HK.out⟩
end Go.Proofs.Ytnmlaobiljmgaaa
