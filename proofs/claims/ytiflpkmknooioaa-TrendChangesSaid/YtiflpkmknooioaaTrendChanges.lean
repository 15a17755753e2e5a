/- Any values, any span: how much the last one differs from the first one within it. No conditions. -/
import Derived.Test.YtiflpkmknooioaaRows
import Derived.Test.YtiflpkmknooioaaArgs
import Derived.Test.YtiflpkmknooioaaTrendK
import Derived.Test.YtiflpkmknooioaaBlk
import Derived.ProofKit
import Derived.OpenShut
import Derived.Deep.DeepCutAuto
import Derived.Deep.CutBlock
import Derived.Test.YtiflpkmknooioaaCellP
import Derived.Deep.RegionHeld3
namespace Go.Proofs.Ytiflpkmknooioaa.trendChanges
open Go.ChangeShapes Go.WideShapes Go.ChangeAt Go.RowKit
open Go.ChangeMaps (open_string shut_string)
set_option linter.unusedVariables false

structure ComeE where
  behind : Int
  val : Int
  bad : Bool
def encComeE (x : ComeE) : List Value := [.int .u8 x.behind, .int .i32 x.val, .bool x.bad]
theorem encComeE_len (x : ComeE) : (encComeE x).length = 3 := rfl
def goodComeE (x : ComeE) : Prop := (Lit.int .u8 x.behind).wf = true ∧ (Lit.int .i32 x.val).wf = true

set_option maxRecDepth 100000 in
theorem decCome12 {H : Type} {enc : TypeId × Value → H} {W : World} {n : Nat} {cs : List Value} {x} (h : DataW.trod enc Try.prog W 0 (fun _ => true) true n 50 cs = some x) : ∃ y : ComeE, cs = encComeE y ∧ goodComeE y := by
  obtain ⟨xs, m, _, _, hl, hlen, hf⟩ := DataW.trod_struct Try.underlying50 h
  rw [show Try.prog.cellsOf 50 = 3 by kernel_rfl] at hl
  match cs, hl, xs, hlen with
  | [c0, c1, c2], _, [y0, y1, y2], _ =>
    have h0 : DataW.trod enc Try.prog W 0 (fun _ => true) true m 5 (([c0, c1, c2].drop 0).take (Try.prog.cellsOf 5)) = some y0 := hf 0 _ rfl
    have h1 : DataW.trod enc Try.prog W 0 (fun _ => true) true m 21 (([c0, c1, c2].drop 1).take (Try.prog.cellsOf 21)) = some y1 := hf 1 _ rfl
    have h2 : DataW.trod enc Try.prog W 0 (fun _ => true) true m 4 (([c0, c1, c2].drop 2).take (Try.prog.cellsOf 4)) = some y2 := hf 2 _ rfl
    rw [show Try.prog.cellsOf 5 = 1 by kernel_rfl] at h0
    rw [show Try.prog.cellsOf 21 = 1 by kernel_rfl] at h1
    rw [show Try.prog.cellsOf 4 = 1 by kernel_rfl] at h2
    obtain ⟨a0, e0, _, w0⟩ := DataW.trod_int Try.underlying5 h0
    obtain ⟨a1, e1, _, w1⟩ := DataW.trod_int Try.underlying21 h1
    obtain ⟨a2, e2, _⟩ := DataW.trod_bool Try.underlying4 h2
    simp at e0 e1 e2
    exact ⟨⟨a0, a1, a2⟩, by simp [e0, e1, e2, encComeE], w0, w1⟩

set_option maxHeartbeats 8000000 in
set_option maxRecDepth 100000 in
theorem walk (w : World) (s0 : Option Addr) (cap : Nat) (q : List ComeE) (hs : Sl w 3 (.slice s0 q.length cap) q.length (q.flatMap encComeE)) (hq : ∀ x ∈ q, goodComeE x) (sp : Int) (wsp : (Lit.int .u8 sp).wf = true) (lt : Int) (wlt : (Lit.int .u8 lt).wf = true) (sg : Int) (wsg : (Lit.int .u8 sg).wf = true) :
    Calls Try.prog 10 #[.slice s0 q.length cap, .int .u8 sp, .int .u8 lt, .int .u8 sg] w fun e w' => e = .returned (.bool true) ∧ Below w.heap.size w w' := by
  obtain ⟨N, hN⟩ : ∃ N, q.length = N := ⟨_, rfl⟩
  rw [hN] at hs ⊢
  have HS := hid hs
  have HQ := hid hq
  have HN := hid hN
  clear hs hq hN
  obtain ⟨p0, p1⟩ := bounds_u8 wsp
  obtain ⟨t0, t1⟩ := bounds_u8 wlt
  obtain ⟨g0, g1⟩ := bounds_u8 wsg
  clear wsp wlt wsg
  by_cases hbig : 60 < N
  · have hd : decide ((N : Int) > 60) = true := decide_eq_true (by omega)
    go_enter Try.func10, Try.ntmps10
    go_wp2_with fail
    refine (changes_true _).mono ?_
    rintro e w1 ⟨rfl, k1⟩
    have K1 := hid k1
    clear k1
    go_wp2_with fail
    refine (changes_true _).mono ?_
    rintro e w2 ⟨rfl, k2⟩
    have K2 := hid (K1.out.trans k2)
    clear k2
    go_wp2_with fail
    go_ret
    exact ⟨rfl, K2.out.toBelow⟩
  have hd : decide ((N : Int) > 60) = false := decide_eq_false (by omega)
  go_enter Try.func10, Try.ntmps10
  go_wp2_with fail
  refine (changes_true _).mono ?_
  rintro e w1 ⟨rfl, k1⟩
  have K1 := hid k1
  clear k1 hd
  go_wp2_with fail
  refine (cnew_any 2 _ ⟨by decide, by decide⟩).mono ?_
  rintro e w2 ⟨sb, F0, rfl, h2, k2, n2⟩
  have e1 : clampS 2 = 2 := rfl
  rw [e1] at h2
  have H2 := hid h2
  have K2 := hid (K1.out.trans k2)
  have N2 := hid (fun i hi => Nat.le_trans K1.out.size (n2 i hi))
  clear h2 k2 n2 e1
  obtain ⟨i0, hi, hy0, hy1, hy2⟩ := info_parts info_seen
  have HI := hid hi
  clear hi
  obtain ⟨gs, hgs⟩ : ∃ g : Int, sg % 2 = g := ⟨_, rfl⟩
  obtain ⟨ps, hps⟩ : ∃ p : Int, sp % 40 = p := ⟨_, rfl⟩
  obtain ⟨ts, hts⟩ : ∃ t : Int, lt % 20 = t := ⟨_, rfl⟩
  have HGS := hid hgs
  have HPS := hid hps
  have HTS := hid hts
  have gs0 : 0 ≤ gs := by omega
  have gs1 : gs < 2 := by omega
  have ps0 : 0 ≤ ps := by omega
  have ps1 : ps < 40 := by omega
  have ts0 : 0 ≤ ts := by omega
  have ts1 : ts < 20 := by omega
  clear hgs hps hts
  go_wp2_with fail
  go_loopw [10, 11, 12] (fun v10 v11 v12 wr => ∃ (i : Nat) (now : Int) (l : List SeenD) (a : Option Addr) (c : Nat) (F : Nat → Prop), i ≤ N ∧ 0 ≤ now ∧ now ≤ 8 * i ∧ v12 = .int .i64 i ∧ v11 = .int .i64 now ∧ v10 = .slice a i c ∧
    Hid (Sto wr sb F 2 l) ∧ Hid (wr.ownsRow 0 55 5 (.slice a i c) i (l.flatMap encSn)) ∧ Hid (Keeps No w wr) ∧ Hid (∀ j, F j → w.heap.size ≤ j) ∧ Hid (∀ b, (Value.slice a i c).ownBlock = some b → w.heap.size ≤ b ∧ ¬ F b) ∧ Hid (∀ y ∈ l, 0 ≤ y.at_ ∧ y.at_ ≤ now)) (fun _ _ v12 _ => N - (intOf v12).toNat)
  case atStart => exact ⟨0, 0, [], none, 0, F0, Nat.zero_le _, by omega, by omega, rfl, rfl, rfl, H2, hid (World.ownsRow_nil _ _ _ _), K2, N2, hid (fun b hb => by simp [Value.ownBlock] at hb), hid (fun y hy => by simp at hy)⟩
  case round =>
    clear H2 K2 N2
    obtain ⟨i, now, l, a, c, F, hi, hnow0, hnow1, rfl, rfl, rfl, HO, HR, HK, HF, HA, HT⟩ := hrel
    by_cases hlt : i < N
    · have hil : i < q.length := by rw [HN.out]; exact hlt
      obtain ⟨⟨bh, vl, bd⟩, hx⟩ : ∃ x, q[i] = x := ⟨_, rfl⟩
      have hgd := HQ.out _ (List.getElem_mem hil)
      rw [hx] at hgd
      obtain ⟨hb0, hb1⟩ := bounds_u8 (show (Lit.int .u8 bh).wf = true from hgd.1)
      obtain ⟨hv0, hv1⟩ := bounds_i32 (show (Lit.int .i32 vl).wf = true from hgd.2)
      obtain ⟨g, off, rfl, _, hc⟩ := Sl.itemC (enc := encComeE) (size := 3) (fun _ => rfl) (by decide) HS.out hil hx
      have c0 := HK.out.cell (fun h => h) (hc 0 _ rfl)
      have c1 := HK.out.cell (fun h => h) (hc 1 _ rfl)
      have c2 := HK.out.cell (fun h => h) (hc 2 _ rfl)
      simp only [Nat.add_zero] at c0
      obtain ⟨nw, hnw⟩ : ∃ nw : Int, now + bh % 8 = nw := ⟨_, rfl⟩
      have hnw0 : now ≤ nw := by omega
      have hnw1 : nw ≤ 8 * (i + 1) := by omega
      clear hc hx hil hgd
      go_upto_region 10 with fail
      clear hnw c0
      have hgs := HGS.out
      go_cut [13] from 44 to 58 (fun v13 wx => ∃ xb, v13 = .pointer (some ⟨xb, 0, none⟩) ∧ wr.heap.size ≤ xb ∧ Hid (Bk wx xb 52 [.int .i64 gs, .int .u8 0, .int .i64 vl, .bool bd]) ∧ Hid (Keeps No wr wx))
      case first =>
        go_region_held3 (fun w' => w'.cell? ⟨g, off + i * 3 + 1, none⟩ = some (.int .i32 vl) ∧ w'.cell? ⟨g, off + i * 3 + 2, none⟩ = some (.bool bd)) (first | with_reducible exact ⟨c1, c2⟩ | with_reducible exact ⟨cellA _ c1, cellA _ c2⟩ | with_reducible exact ⟨cellDr c1, cellDr c2⟩ | with_reducible exact ⟨cellA _ (cellDr c1), cellA _ (cellDr c2)⟩ | with_reducible exact ⟨cellDr (cellA _ c1), cellDr (cellA _ c2)⟩ | (go_keep; done)) (fail)
        all_goals
          have e1 : IntKind.i64.wrap (sg.tmod 2) = gs := by rw [Int.tmod_eq_emod_of_nonneg g0, hgs]; simp only [IntKind.wrap_i64]; omega
          have e2 : IntKind.i64.wrap vl = vl := by simp only [IntKind.wrap_i64]; omega
          go_wp2_with fail
          go_meet
          refine ⟨wr.heap.size, rfl, Nat.le_refl _, hid ?_, hid ?_⟩
          · try rw [e1, e2]
            first | exact Bk.new rfl _ _ | exact (Bk.new rfl _ _).drew
          · first | exact ((Keeps.refl _ _).alloc _) | exact ((Keeps.refl _ _).alloc _).drew
      case rest =>
      obtain ⟨xb, rfl, hxb, HB, KX⟩ := hcut
      obtain ⟨w3, rfl⟩ : ∃ y, y = wc := ⟨_, rfl⟩
      have HO3 := hid (HO.out.keep KX.out (fun _ _ h => h))
      have HR3 := hid (Keeps.own KX.out HR.out (fun _ _ h => h))
      have HK3 := hid (HK.out.trans KX.out)
      have HNX := hid (show ¬ F xb from fun h => by have := HO.out.lt xb h; omega)
      clear hgs c1 c2 HO HR HK KX hxb
      obtain ⟨x, hx⟩ : ∃ x : SeenD, (⟨nw, gs, 0, vl, bd⟩ : SeenD) = x := ⟨_, rfl⟩
      have hln : l.length = i := by have h1 := HR3.out.1; rw [length_flatMap_enc (size := 5) (fun _ => rfl)] at h1; omega
      have hrise : ∀ y ∈ l, y.at_ ≤ nw := fun y hy => Int.le_trans (HT.out y hy).2 hnw0
      have hput := cput_any HO3.out ⟨nw, gs, 0, vl, bd⟩ (by omega) ⟨by show -9223372036854775808 ≤ nw; omega, by show nw ≤ 9223372036854775807; omega⟩ hrise
      have htk : takes 2 ⟨nw, gs, 0, vl, bd⟩ = true := decide_eq_true ⟨gs0, gs1⟩
      rw [htk, if_pos rfl] at hput
      dsimp only at hput
      rw [hx] at hput
      have HPUT := hid hput
      have HX := hid hx
      have HT2 : Hid (∀ y ∈ l ++ [x], 0 ≤ y.at_ ∧ y.at_ ≤ nw) := hid (fun y hy => by
        rcases List.mem_append.1 hy with hy | hy
        · exact ⟨(HT.out y hy).1, hrise y hy⟩
        · simp at hy
          subst hy
          rw [← hx]
          exact ⟨by show 0 ≤ nw; omega, Int.le_refl _⟩)
      clear hput htk hx hrise hln HT
      have x0 := HB.out.cell 0 rfl
      have x1 := HB.out.cell 1 rfl
      have x2 := HB.out.cell 2 rfl
      have x3 := HB.out.cell 3 rfl
      go_wp2_with fail
      refine HPUT.out.mono ?_
      rintro e w7 ⟨rfl, F7, h7, u7⟩
      have HU := newUpd HF.out HK3.out u7
      have HF7 := hid HU.1
      have HK7 := hid HU.2
      have HO7 := hid h7
      have HR7 := hid (Keeps.own u7.keeps HR3.out (fun b hb e => (HA.out b hb).2 e))
      have HA7 : Hid (∀ b, (Value.slice a i c).ownBlock = some b → w.heap.size ≤ b ∧ ¬ F7 b) := hid (fun b hb => ⟨(HA.out b hb).1, u7.out (HR3.out.lt b hb).2 (HA.out b hb).2⟩)
      have HB7 := hid (HB.out.keep u7.keeps HNX.out)
      clear h7 u7 HU HO3 HR3 HK3 HF HA HB HNX HPUT x0 x1 x2 x3
      have x0 := HB7.out.cell 0 rfl
      have x1 := HB7.out.cell 1 rfl
      have x2 := HB7.out.cell 2 rfl
      have x3 := HB7.out.cell 3 rfl
      go_wp2_with (at_builtin; refine wpl_append rfl _ _ 48 rfl 55 i0 (.agg #[.int .i64 0, .int .i64 0, .int .u8 0, .int .i64 0, .bool false]) 5 40 Try.underlying48 HI.out hy0 hy1 hy2 rfl (by decide) _ _ _ _ _ _ rfl rfl (HR7.out.alloc _) (Sl.new _ _ _ 5 1 rfl (by decide)) (by intro u hu; simp at hu; rcases hu with rfl | rfl | rfl | rfl | rfl <;> rfl) ?c3 ?c4 ?_)
      case c3 => unfold maxLen; omega
      case c4 => omega
      intro v2 w8 ho2 kk hb2
      obtain ⟨a2, c2', rfl⟩ := own_any ho2
      have hz := HO7.out.lt
      have hz2 := HK7.out.size
      have hb3 : ∀ b, (Value.slice a2 (i + 1) c2').ownBlock = some b → w.heap.size ≤ b ∧ ¬ F7 b := fun b hb => by
        rcases hb2 b hb with h' | h'
        · exact HA7.out b h'
        · have h'' : w7.heap.size < b := h'
          exact ⟨by omega, fun hf => by have := hz b hf; omega⟩
      have k78 : Keeps (Bl (.slice a i c)) w7 w8 := (((Keeps.refl No w7).alloc _).no).trans kk
      have HO8 := hid (HO7.out.keep k78 (fun j hj e => (HA7.out j e).2 hj))
      have HK8 : Hid (Keeps No w w8) := hid (HK7.out.trans' k78 (fun _ _ h => h) (fun b hb e => by have := (HA7.out b e).1; omega))
      have HR8 : Hid (w8.ownsRow 0 55 5 (.slice a2 (i + 1) c2') (i + 1) ((l ++ [x]).flatMap encSn)) := hid (by rw [List.flatMap_append, ← HX.out]; simpa [encSn] using ho2)
      have HA8 := hid hb3
      clear ho2 kk hb2 hz hz2 hb3 k78 x0 x1 x2 x3 HO7 HR7 HK7 HA7 HB7 HX
      have hln : (l ++ [x]).length = i + 1 := by have h1 := HR8.out.1; rw [length_flatMap_enc (size := 5) (fun _ => rfl)] at h1; omega
      have HSL : Hid (Sl w8 5 (.slice a2 (i + 1) c2') (l ++ [x]).length ((l ++ [x]).flatMap encSn)) := hid (by rw [hln]; exact Sl.ofOwn HR8.out)
      have HLE : Hid ((l ++ [x]).length ≤ 100000) := hid (by omega)
      obtain ⟨L, hL⟩ : ∃ L, l ++ [x] = L := ⟨_, rfl⟩
      rw [hL] at HO8 HR8 HSL HLE HT2
      obtain ⟨tt, htt⟩ : ∃ t : Int, nw + ts = t := ⟨_, rfl⟩
      have HTI : Hid (I64 tt) := hid ⟨by omega, by omega⟩
      have HPI : Hid (I64 ps) := hid ⟨by omega, by omega⟩
      have hts := HTS.out
      clear hln hL
      go_upto_region 14 with fail
      clear hts htt
      have hps := HPS.out
      go_wp2_with fail
      go_loopw [15] (fun v15 wz => ∃ j : Nat, j ≤ 3 ∧ v15 = .int .i64 j ∧ Hid (Keeps No w8 wz)) (fun v15 _ => 3 - (intOf v15).toNat)
      case atStart => exact ⟨0, by omega, rfl, hid (Keeps.refl _ _)⟩
      case round =>
        obtain ⟨j, hj, rfl, HKZ⟩ := hrel
        obtain ⟨wz, rfl⟩ : ∃ y, y = wr := ⟨_, rfl⟩
        by_cases hj3 : j < 3
        · have hca := tchange_any (HO8.out.keep HKZ.out (fun _ _ h => h)) j tt ps HTI.out HPI.out
          have hcm := fun (w' : World) (k : Keeps No w8 w') => mchange_any (HSL.out.keep k (fun _ _ h => h)) j tt ps HLE.out HTI.out HPI.out
          obtain ⟨r, hr⟩ : ∃ r, changeD L j tt ps = r := ⟨_, rfl⟩
          rw [hr] at hca hcm
          obtain ⟨rv, rb, hrr⟩ : ∃ rv rb, ChangeA r = .tuple #[.int .i64 rv, .bool rb] := ⟨_, _, rfl⟩
          rw [hrr] at hca hcm
          have HCA := hid hca
          have HCM := hid hcm
          clear hca hcm hr hrr
          go_wp2_with fail
          refine HCA.out.mono ?_
          rintro e z1 ⟨rfl, k⟩
          have Z1 := hid (HKZ.out.trans k)
          clear k HCA
          go_wp2_with fail
          refine (HCM.out _ Z1.out).mono ?_
          rintro e z2 ⟨rfl, k⟩
          have Z2 := hid (Z1.out.trans k)
          have q1 : (rb == rb) = true := by simp
          have q2 : (rb != rb) = false := by simp
          clear k HCM Z1
          go_wp2_with fail
          go_roundw
          case rel => exact ⟨j + 1, by omega, by go_num, Z2⟩
          case measure => simp [intOf]; omega
        · obtain rfl : j = 3 := by omega
          go_wp2_with fail
          go_roundw
          case rel => exact ⟨i + 1, nw, L, a2, c2', F7, by omega, by omega, by omega, by go_num, rfl, rfl, hid (HO8.out.keep HKZ.out (fun _ _ h => h)), hid (Keeps.own HKZ.out HR8.out (fun _ _ h => h)), hid (HK8.out.trans HKZ.out), HF7, HA8, HT2⟩
          case measure => simp [intOf]; omega
    · obtain rfl : i = N := by omega
      go_wp2_with fail
      go_ret
      exact ⟨rfl, HK.out.toBelow⟩

theorem own : ownKnob Try.prog.godebug = none := by kernel_rfl
theorem laidOut : laidOutB Try.prog = true := by kernel_rfl
set_option maxRecDepth 100000 in
theorem lifted (os : Os) (started : os.Started) (H : Type) (enc : TypeId × Value → H) :
    ReturnsInHanded {} Try.checked os 10 .any (Rows.trendChangesSpec.pre6 enc Try.prog Try.f10 Rows.trendChangesRow.domain false) (Rows.trendChangesSpec.post enc Try.prog Try.f10 false true false false) := by
  refine returnsInHanded_of_change (C := Try.checked) own started (by kernel_rfl) Try.func10
    (ChangeSpec.witness6 (enc := enc) (C := Try.checked) false ⟨#[], #[.slice none 0 0, .int .u8 0, .int .u8 0, .int .u8 0], []⟩ 8 (by kernel_rfl) (by kernel_rfl) (by kernel_rfl) (by kernel_rfl)) ?_
  intro W base args ds gs before hval0 hW hcnd _
  have hval : ∀ (j : Nat) t v, Try.f10.params[j]? = some t → args[j]? = some v → Value.okWide Try.prog W .any base t v := hval0
  have hW' := hW
  obtain ⟨p, q, hA0, hV, rfl, hfz, hnd⟩ := hW
  have hA : DataW.TrodAll enc Try.prog W 0 (fun _ => true) true Try.f10.params.toList args.toList ds p := hA0
  rw [Try.params10] at hA hval
  obtain ⟨v0, vs0, d0, ds0, p0, q0, hargs, rfl, rfl, h0, r0⟩ := trodAll_cons hA
  obtain ⟨v1, vs1, d1, ds1, p1, q1, rfl, rfl, rfl, h1, r1⟩ := trodAll_cons r0
  obtain ⟨v2, vs2, d2, ds2, p2, q2, rfl, rfl, rfl, h2, r2⟩ := trodAll_cons r1
  obtain ⟨v3, vs3, d3, ds3, p3, q3, rfl, rfl, rfl, h3, r3⟩ := trodAll_cons r2
  obtain ⟨rfl, rfl, rfl⟩ := trodAll_nil r3
  obtain rfl : args = #[v0, v1, v2, v3] := by cases args; simp_all
  obtain ⟨rfl, rfl⟩ := trodVars_none hV
  have k0 := h0
  have lt0 : ∀ x ∈ p0, x.block < W.heap.size := by obtain ⟨m, hm⟩ := k0; exact DataW.trod_lt m _ _ _ hm
  have k1 := h1
  have lt1 : ∀ x ∈ p1, x.block < W.heap.size := by obtain ⟨m, hm⟩ := k1; exact DataW.trod_lt m _ _ _ hm
  have k2 := h2
  have lt2 : ∀ x ∈ p2, x.block < W.heap.size := by obtain ⟨m, hm⟩ := k2; exact DataW.trod_lt m _ _ _ hm
  have k3 := h3
  have lt3 : ∀ x ∈ p3, x.block < W.heap.size := by obtain ⟨m, hm⟩ := k3; exact DataW.trod_lt m _ _ _ hm
  obtain ⟨s0, len0, cap0, rfl⟩ := okWide_slice Try.underlying45 (hval 0 45 v0 rfl rfl)
  obtain ⟨l0, rfl, w0, b0⟩ := argSlice (encE := encComeE) (good := goodComeE) (size := 3) (fun _ => rfl) (by decide) Try.underlying45 (by kernel_rfl) (fun n cs x hx => decCome12 hx) h0
  obtain ⟨a1, rfl, rfl, rfl, w1⟩ := open_int Try.underlying5 (hval 1 5 v1 rfl rfl) h1
  obtain ⟨a2, rfl, rfl, rfl, w2⟩ := open_int Try.underlying5 (hval 2 5 v2 rfl rfl) h2
  obtain ⟨a3, rfl, rfl, rfl, w3⟩ := open_int Try.underlying5 (hval 3 5 v3 rfl rfl) h3
  clear hA0 hval0
  refine (walk W s0 cap0 l0 w0 b0 a1 w1 a2 w2 a3 w3).mono fun e W' ⟨he, bel⟩ => ?_
  subst he
  exact ⟨_, rfl, _, _, _, [], _, [], hW', trodAll_mk1 (shut_bool Try.underlying4 _), (trodAll_cons_mk (Below.trod laidOut (by kernel_rfl) (of_decide_eq_true (by kernel_rfl)) k0 bel lt0) (trodAll_cons_mk (Below.trod laidOut (by kernel_rfl) (of_decide_eq_true (by kernel_rfl)) k1 bel lt1) (trodAll_cons_mk (Below.trod laidOut (by kernel_rfl) (of_decide_eq_true (by kernel_rfl)) k2 bel lt2) (trodAll_cons_mk (Below.trod laidOut (by kernel_rfl) (of_decide_eq_true (by kernel_rfl)) k3 bel lt3) trodAll_mk0)))), rfl, bel.frame _, fun h => by cases h⟩

theorem over : Rows.trendChangesRow.holds Try.pinned (OpenSpec.ofChange Rows.trendChangesSpec) :=
  OpenClaim.holds_of_wide 10 Try.f10 rfl rfl rfl rfl rfl rfl rfl ⟨rfl, rfl, rfl, rfl, rfl⟩ rfl rfl rfl rfl rfl (by kernel_rfl) Try.func10 (by kernel_rfl)
    (of_decide_eq_true (by kernel_rfl)) (by unfold Func.isWrapper; first | (rw [if_pos (by decide +kernel)]; kernel_rfl) | (rw [if_neg (by decide +kernel)]; exact ⟨rfl, rfl⟩))
    (fun os started H enc _ => lifted os started H enc)

theorem proved : Rows.TrendChangesSaid := over
#print axioms proved
end Go.Proofs.Ytiflpkmknooioaa.trendChanges
