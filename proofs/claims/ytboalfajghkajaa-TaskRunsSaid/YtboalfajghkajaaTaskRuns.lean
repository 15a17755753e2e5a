/- A rule of any kind, looked at now and then, of any samples: what is observed, how far it is, whether it is on. No conditions. -/
import Derived.Test.YtboalfajghkajaaRows
import Derived.Test.YtboalfajghkajaaArgs
import Derived.Test.YtboalfajghkajaaTaskK
import Derived.Test.YtboalfajghkajaaBlk
import Derived.ProofKit
import Derived.OpenShut
import Derived.Deep.DeepCutAuto
import Derived.Deep.CutBlock
import Derived.Test.YtboalfajghkajaaTaskW
import Derived.Test.YtboalfajghkajaaGateK
import Derived.StillTailTactics
namespace Go.Proofs.Ytboalfajghkajaa.taskRuns
open Go.ChangeShapes Go.WideShapes Go.ChangeAt Go.RowKit
open Go.ChangeMaps (open_string shut_string)
set_option linter.unusedVariables false

set_option maxHeartbeats 8000000 in
set_option maxRecDepth 100000 in
theorem walk (w : World) (k : Int) (wk : (Lit.int .u8 k).wf = true) (sig : Int) (w1 : (Lit.int .u8 sig).wf = true) (lim : Int) (w2 : (Lit.int .i16 lim).wf = true) (back : Int) (w3 : (Lit.int .i16 back).wf = true) (de : Int) (w4 : (Lit.int .u8 de).wf = true) (sp : Int) (w5 : (Lit.int .u8 sp).wf = true) (s0 : Option Addr) (cap : Nat) (q : List ComeT) (hs : Sl w 5 (.slice s0 q.length cap) q.length (q.flatMap encComeT)) (hq : ∀ x ∈ q, goodComeT x) :
    Calls Try.prog 3 #[.int .u8 k, .int .u8 sig, .int .i16 lim, .int .i16 back, .int .u8 de, .int .u8 sp, .slice s0 q.length cap] w fun e w' => e = .returned (.bool true) ∧ Below w.heap.size w w' := by
  obtain ⟨N, hN⟩ : ∃ N, q.length = N := ⟨_, rfl⟩
  rw [hN] at hs ⊢
  have HS := hid hs
  have HQ := hid hq
  have HN := hid hN
  clear hs hq hN
  obtain ⟨k0, k1⟩ := bounds_u8 wk
  obtain ⟨g0, g1⟩ := bounds_u8 w1
  obtain ⟨l0, l1⟩ := bounds_i16 w2
  obtain ⟨b0, b1⟩ := bounds_i16 w3
  obtain ⟨d0, d1⟩ := bounds_u8 w4
  obtain ⟨p0, p1⟩ := bounds_u8 w5
  clear wk w1 w2 w3 w4 w5
  by_cases hbig : 60 < N
  · have hd : decide ((N : Int) > 60) = true := decide_eq_true (by omega)
    go_enter Try.func3, Try.ntmps3
    go_wp2_with fail
    refine (bad_true _).mono ?_
    rintro e w1 ⟨rfl, k1⟩
    have K1 := hid k1
    clear k1
    go_wp2_with fail
    refine (bad_true _).mono ?_
    rintro e w2 ⟨rfl, k2⟩
    have K2 := hid (K1.out.trans k2)
    clear k2
    go_wp2_with fail
    go_ret
    exact ⟨rfl, K2.out.toBelow⟩
  have hd : decide ((N : Int) > 60) = false := decide_eq_false (by omega)
  go_enter Try.func3, Try.ntmps3
  go_wp2_with fail
  refine (bad_true _).mono ?_
  rintro e w1 ⟨rfl, k1⟩
  have K1 := hid k1
  clear k1 hd
  go_wp2_with fail
  refine (rule_any k sig lim back de sp _ ⟨k0, k1⟩ ⟨g0, g1⟩ ⟨l0, l1⟩ ⟨b0, b1⟩ ⟨d0, d1⟩ ⟨p0, p1⟩).mono ?_
  rintro e w2 ⟨rfl, kp⟩
  have K2 := hid (K1.out.trans kp)
  obtain ⟨kk, hkk⟩ : ∃ y : Int, k % 8 = y := ⟨_, rfl⟩
  obtain ⟨sg, hsg⟩ : ∃ y : Int, sig % 3 = y := ⟨_, rfl⟩
  obtain ⟨dl, hdl⟩ : ∃ y : Int, de % 12 = y := ⟨_, rfl⟩
  obtain ⟨sp', hsp⟩ : ∃ y : Int, sp % 20 = y := ⟨_, rfl⟩
  have HSP : Hid (I64 sp') := hid ⟨by omega, by omega⟩
  rw [hkk, hsg, hdl, hsp]
  clear kp hkk hsg hdl hsp K1 k0 k1 g0 g1 l0 l1 b0 b1 d0 d1 p0 p1
  go_upto_region 4 with fail
  obtain ⟨rb, hrb⟩ : ∃ y, w2.heap.size = y := ⟨_, rfl⟩
  obtain ⟨W, hW⟩ : ∃ W, w2.alloc (.cells #[.int .u8 kk, .int .i64 sg, .int .i64 lim, .int .i64 back, .int .i64 dl, .int .i64 sp', .int .u8 0, .bool false, .slice none 0 0] 27) = W := ⟨_, rfl⟩
  have HR : Hid (Bk W rb 27 [.int .u8 kk, .int .i64 sg, .int .i64 lim, .int .i64 back, .int .i64 dl, .int .i64 sp', .int .u8 0, .bool false, .slice none 0 0]) := hid (by rw [← hW]; exact Bk.new hrb _ _)
  have HK : Hid (Keeps No w W) := hid (by rw [← hW]; exact K2.out.alloc _)
  rw [hrb, hW]
  clear hW hrb K2
  have x0_0 := HR.out.cell 0 rfl
  have x0_1 := HR.out.cell 1 rfl
  have x0_2 := HR.out.cell 2 rfl
  have x0_3 := HR.out.cell 3 rfl
  have x0_4 := HR.out.cell 4 rfl
  have x0_5 := HR.out.cell 5 rfl
  have x0_6 := HR.out.cell 6 rfl
  have x0_7 := HR.out.cell 7 rfl
  have x0_8 := HR.out.cell 8 rfl
  go_wp2_with fail
  refine (tnew_any kk sg lim back dl sp' _ _ _ _).mono ?_
  rintro e w3 ⟨tb, rfl, ht, hb, kp⟩
  have HT := hid hb
  have HTB := hid (Nat.le_trans HK.out.size ht)
  have H27 : Hid (rb < tb) := hid (Nat.lt_of_lt_of_le HR.out.lt ht)
  have HR3 := hid (HR.out.kept kp)
  have HK3 := hid (HK.out.trans kp)
  clear ht hb kp HR HK x0_0 x0_1 x0_2 x0_3 x0_4 x0_5 x0_6 x0_7 x0_8
  go_wp2_with fail
  refine (cnew_any 2 _ ⟨by decide, by decide⟩).mono ?_
  rintro e w4 ⟨sb, F, rfl, h4, k4, n4⟩
  have h4' : Sto w4 sb F 2 [] := h4
  have T4 : Hid (TSt w w4 sb tb F 2 [] kk sg lim back dl sp' (.int .u8 0) (.bool false) (.slice none 0 0) ⟨false, false, 0⟩) := hid ⟨h4', HT.out.kept k4, fun i hi => Nat.le_trans HK3.out.size (n4 i hi), HTB.out, fun h => by have := n4 _ h; have := HT.out.lt; omega, HK3.out.trans k4⟩
  have HR4 := hid (HR3.out.kept k4)
  have HFR : Hid (¬ F rb) := hid (fun h => by have := n4 _ h; have := HR3.out.lt; omega)
  clear h4 h4' k4 n4 HR3 HK3 HT
  go_upto_region 7 with fail
  obtain ⟨gb, hgb⟩ : ∃ y, w4.heap.size = y := ⟨_, rfl⟩
  obtain ⟨W5, hW⟩ : ∃ W, w4.alloc (.cells #[.bool false, .bool false, .int .i64 0] 35) = W := ⟨_, rfl⟩
  have kw : Keeps No w4 W5 := by rw [← hW]; exact (Keeps.refl _ _).alloc _
  have HS0 : Hid (RunSt w W5 sb tb rb gb F [] kk sg lim back dl sp' ⟨false, false, 0⟩ ⟨false, false, 0⟩ none 0 0) := hid
    ⟨T4.out.kept kw, HR4.out.kept kw, by rw [← hW]; exact Bk.new hgb _ _, World.ownsRow_nil _ _ _ _, by have := H27.out; omega, by have := T4.out.task.lt; omega, by have := HR4.out.lt; omega, HFR.out, fun h => by have := T4.out.sto.lt _ h; omega, by rw [← hgb]; exact T4.out.keeps.size, fun b hb => by simp [Value.ownBlock] at hb⟩
  rw [hgb, hW]
  clear hW hgb kw T4 HR4 HFR HTB H27
  obtain ⟨i0, hi, hy0, hy1, hy2⟩ := info_parts info_seen
  have HI := hid hi
  clear hi
  go_wp2_with fail
  go_loopw [18, 20, 21] (fun v18 v20 v21 wr => ∃ (i nm : Nat) (now : Int) (l : List SeenD) (a : Option Addr) (c : Nat) (F : Nat → Prop) (on hd : Bool) (s : Int), i ≤ N ∧ nm = i ∧ 1 ≤ now ∧ now ≤ 1 + 4 * i ∧ v21 = .int .i64 i ∧ v20 = .int .i64 now ∧ v18 = .slice a nm c ∧
    Hid (RunSt w wr sb tb rb gb F l kk sg lim back dl sp' ⟨on, hd, s⟩ ⟨on, hd, s⟩ a nm c) ∧ Hid (I64 s) ∧ Hid (∀ y ∈ l, 0 ≤ y.at_ ∧ y.at_ ≤ now)) (fun _ _ v21 _ => N - (intOf v21).toNat)
  case atStart => exact ⟨0, 0, 1, [], none, 0, F, false, false, 0, Nat.zero_le _, rfl, by omega, by omega, rfl, rfl, rfl, HS0, hid ⟨by decide, by decide⟩, hid (fun y hy => by simp at hy)⟩
  case round =>
    clear HS0
    obtain ⟨i, nm, now, l, a, c, F, on, hd, s, hi, rfl, hn0, hn1, rfl, rfl, rfl, ST, HSI, HT⟩ := hrel
    by_cases hlt : nm < N
    · have hil : nm < q.length := by rw [HN.out]; exact hlt
      obtain ⟨⟨bh, sg', vl, bd, lk⟩, hx⟩ : ∃ x, q[nm] = x := ⟨_, rfl⟩
      obtain ⟨wb1, wb2, wb3⟩ := (show goodComeT ⟨bh, sg', vl, bd, lk⟩ from by have := HQ.out _ (List.getElem_mem hil); rw [hx] at this; exact this)
      dsimp only at wb1 wb2 wb3
      obtain ⟨bh0, bh1⟩ := bounds_u8 wb1
      obtain ⟨sg0, sg1⟩ := bounds_u8 wb2
      obtain ⟨vl0, vl1⟩ := bounds_i16 wb3
      obtain ⟨g, off, rfl, _, hc⟩ := Sl.itemC (enc := encComeT) (size := 5) (fun _ => rfl) (by decide) HS.out hil hx
      have HC := hid hc
      have c0 := ST.out.ts.keeps.cell (fun h => h) (HC.out 0 _ rfl)
      have c1 := ST.out.ts.keeps.cell (fun h => h) (HC.out 1 _ rfl)
      have c2 := ST.out.ts.keeps.cell (fun h => h) (HC.out 2 _ rfl)
      have c3 := ST.out.ts.keeps.cell (fun h => h) (HC.out 3 _ rfl)
      simp only [Nat.add_zero] at c0
      dsimp only at c1 c2 c3
      clear hx hc hil wb1 wb2 wb3
      go_upto_region 12 with fail
      obtain ⟨nw, hnw⟩ : ∃ y : Int, now + bh % 5 = y := ⟨_, rfl⟩
      have hnw0 : now ≤ nw := by omega
      have hnw1 : nw ≤ 1 + 4 * ((nm : Int) + 1) := by omega
      rw [hnw]
      clear hnw
      obtain ⟨xb, hxb⟩ : ∃ x, wr.heap.size = x := ⟨_, rfl⟩
      obtain ⟨m2, hm2⟩ : ∃ y : Int, sg' % 2 = y := ⟨_, rfl⟩
      have hm20 : 0 ≤ m2 ∧ m2 < 2 := by omega
      have HM2 := hid hm2
      clear hm2
      go_cut [22] from 61 to 80 (fun v22 wx => v22 = .pointer (some ⟨xb, 0, none⟩) ∧ Hid (Bk wx xb 39 [.int .i64 m2, .int .u8 0, .int .i64 vl, .bool bd]) ∧ Hid (Keeps No wr wx))
      case first =>
        have e1 := cellA (.cells #[.int .i64 0, .int .u8 0, .int .i64 0, .bool false] 39) c1
        have e2 := cellA (.cells #[.int .i64 0, .int .u8 0, .int .i64 0, .bool false] 39) c2
        have e3 := cellA (.cells #[.int .i64 0, .int .u8 0, .int .i64 0, .bool false] 39) c3
        go_region
        all_goals
          go_wp2_with fail
          go_meet
          refine ⟨rfl, hid ?_, hid (((Keeps.refl _ _).alloc _).drew)⟩
          rw [HM2.out]
          exact (Bk.new hxb _ _).drew
      case rest =>
      obtain ⟨rfl, HX6, HK6⟩ := hcut
      obtain ⟨w6, rfl⟩ : ∃ y, y = wc := ⟨_, rfl⟩
      have ST6 := hid (ST.out.kept HK6.out)
      have HXF : Hid (¬ F xb) := hid (fun h => by have := ST.out.ts.sto.lt _ h; omega)
      have HXO : Hid (∀ b, (Value.slice a nm c).ownBlock = some b → b ≠ xb) := hid (fun b hb e => by have := (ST.out.row.lt b hb).2; omega)
      have HXS : Hid (xb ≠ tb ∧ xb ≠ rb ∧ xb ≠ gb) := hid ⟨fun e => by have := ST.out.ts.task.lt; omega, fun e => by have := ST.out.rule.lt; omega, fun e => by have := ST.out.gate.lt; omega⟩
      have HX0 : Hid (w.heap.size ≤ xb) := hid (by have := ST.out.ts.keeps.size; omega)
      have hnl : l.length = nm := by have h1 := ST.out.row.1; rw [length_flatMap_enc (size := 5) (fun _ => rfl)] at h1; omega
      have hrise : ∀ y ∈ l, y.at_ ≤ nw := fun y hy => Int.le_trans (HT.out y hy).2 hnw0
      obtain ⟨hm21, hm22⟩ := hm20
      have HP := hid (tsput_any ST6.out.ts ⟨nw, m2, 0, vl, bd⟩ (by omega) ⟨by show _ ≤ nw; omega, by show nw ≤ _; omega⟩ hrise)
      have HT7 : Hid (∀ y ∈ l ++ [(⟨nw, m2, 0, vl, bd⟩ : SeenD)], 0 ≤ y.at_ ∧ y.at_ ≤ nw) := hid (fun y hy => by
        rcases List.mem_append.1 hy with hy | hy
        · exact ⟨(HT.out y hy).1, hrise y hy⟩
        · simp at hy; subst hy; exact ⟨by show 0 ≤ nw; omega, Int.le_refl _⟩)
      clear hnl hrise hxb c0 c1 c2 c3 HT ST HK6 HM2
      have y0 := HX6.out.cell 0 rfl
      have y1 := HX6.out.cell 1 rfl
      have y2 := HX6.out.cell 2 rfl
      have y3 := HX6.out.cell 3 rfl
      go_wp2_with fail
      refine HP.out.mono ?_
      rintro e w7 ⟨rfl, F7, h7, u7⟩
      have et : takes 2 ⟨nw, m2, 0, vl, bd⟩ = true := decide_eq_true ⟨hm21, hm22⟩
      rw [et] at h7 ⊢
      rw [if_pos rfl] at h7
      have HX7 := hid (HX6.out.keep u7.keeps HXF.out)
      have HXF7 := hid (u7.out HX6.out.lt HXF.out)
      have ST7 := hid (ST6.out.put h7 u7)
      clear h7 u7 et HX6 HXF HP y0 y1 y2 y3
      have y0 := HX7.out.cell 0 rfl
      have y1 := HX7.out.cell 1 rfl
      have y2 := HX7.out.cell 2 rfl
      have y3 := HX7.out.cell 3 rfl
      have HROW := hid ST7.out.2.2.2.1
      have H27 := hid ST6.out.rt
      have H35 := hid ST6.out.gt
      have HRG := hid ST6.out.rg
      have HNG := hid ST6.out.ng
      clear ST6
      go_wp2_with (at_builtin; refine wpl_append rfl _ _ 33 rfl 42 i0 (.agg #[.int .i64 0, .int .i64 0, .int .u8 0, .int .i64 0, .bool false]) 5 40 Try.underlying33 HI.out hy0 hy1 hy2 rfl (by decide) _ _ _ _ _ _ rfl rfl (HROW.out.alloc _) (Sl.new _ _ _ 5 1 rfl (by decide)) (by intro u hu; simp at hu; rcases hu with rfl | rfl | rfl | rfl | rfl <;> rfl) ?c3 ?c4 ?_)
      case c3 => unfold maxLen; omega
      case c4 => omega
      intro v2 w8 ho2 kk2 hb2
      obtain ⟨a2, c2', rfl⟩ := own_any ho2
      have k78 : Keeps (Bl (.slice a nm c)) w7 w8 := (((Keeps.refl No w7).alloc _).no).trans kk2
      have hsz : ∀ b, (Value.slice a2 (nm + 1) c2').ownBlock = some b → (Value.slice a nm c).ownBlock = some b ∨ w7.heap.size < b := fun b hb => hb2 b hb
      have ST8 : Hid (RunSt w w8 sb tb rb gb F7 (l ++ [(⟨nw, m2, 0, vl, bd⟩ : SeenD)]) kk sg lim back dl sp' ⟨on, hd, s⟩ ⟨on, hd, s⟩ a2 (nm + 1) c2') := hid
        ⟨ST7.out.1.keep k78 (fun j hj e => (ST7.out.2.2.2.2.2.2 j e).2.1 hj) (fun e => (ST7.out.2.2.2.2.2.2 _ e).2.2.1 rfl) (fun j e => (ST7.out.2.2.2.2.2.2 j e).1),
         ST7.out.2.1.keep k78 (fun e => (ST7.out.2.2.2.2.2.2 _ e).2.2.2.2 rfl), ST7.out.2.2.1.keep k78 (fun e => (ST7.out.2.2.2.2.2.2 _ e).2.2.2.1 rfl),
         by rw [List.flatMap_append]; simpa [encSn] using ho2, H27.out, H35.out, HRG.out, ST7.out.2.2.2.2.1, ST7.out.2.2.2.2.2.1, HNG.out,
         fun b hb => by
          rcases hsz b hb with h' | h'
          · exact ST7.out.2.2.2.2.2.2 b h'
          · have t1 := ST7.out.1.keeps.size
            have t2 := ST7.out.1.task.lt
            have t3 := ST7.out.2.1.lt
            have t4 := ST7.out.2.2.1.lt
            exact ⟨by omega, fun hf => by have := ST7.out.1.sto.lt b hf; omega, by omega, by omega, by omega⟩⟩
      obtain ⟨l2, hl2⟩ : ∃ y, l ++ [(⟨nw, m2, 0, vl, bd⟩ : SeenD)] = y := ⟨_, rfl⟩
      rw [hl2] at ST8 HT7
      clear ho2 kk2 hb2 k78 hsz hl2 ST7 HROW HX7 HXF7 HXO HXS HX0 y0 y1 y2 y3 H27 H35 HRG HNG
      have HNW : Hid (I64 nw) := hid ⟨by omega, by omega⟩
      have hln : l2.length = nm + 1 := by have h1 := ST8.out.row.1; rw [length_flatMap_enc (size := 5) (fun _ => rfl)] at h1; omega
      have HLE : Hid (l2.length ≤ 100000) := hid (by omega)
      have HLN := hid hln
      have HAT : Hid (∀ y ∈ l2, I64 y.at_) := hid (fun y hy => by have h1 := HT7.out y hy; exact ⟨by omega, by omega⟩)
      obtain ⟨o1, o2, hoo⟩ : ∃ o1 o2, obsD kk sg lim back sp' l2 nw = (o1, o2) := ⟨_, _, rfl⟩
      have HOO := hid hoo
      clear hln hoo
      have x0_0 := ST8.out.rule.cell 0 rfl
      have x0_1 := ST8.out.rule.cell 1 rfl
      have x0_2 := ST8.out.rule.cell 2 rfl
      have x0_3 := ST8.out.rule.cell 3 rfl
      have x0_4 := ST8.out.rule.cell 4 rfl
      have x0_5 := ST8.out.rule.cell 5 rfl
      have x0_6 := ST8.out.rule.cell 6 rfl
      have x0_7 := ST8.out.rule.cell 7 rfl
      have x0_8 := ST8.out.rule.cell 8 rfl
      go_wp2_with fail
      refine (tobs_any ST8.out.ts.sto kk sg lim back dl sp' _ _ _ nw HNW.out HSP.out).mono ?_
      rintro e w9 ⟨rfl, kp⟩
      have ST9 := hid (ST8.out.kept kp)
      rw [HOO.out]
      unfold ObsA
      clear kp ST8 x0_0 x0_1 x0_2 x0_3 x0_4 x0_5 x0_6 x0_7 x0_8
      have x0_0 := ST9.out.rule.cell 0 rfl
      have x0_1 := ST9.out.rule.cell 1 rfl
      have x0_2 := ST9.out.rule.cell 2 rfl
      have x0_3 := ST9.out.rule.cell 3 rfl
      have x0_4 := ST9.out.rule.cell 4 rfl
      have x0_5 := ST9.out.rule.cell 5 rfl
      have x0_6 := ST9.out.rule.cell 6 rfl
      have x0_7 := ST9.out.rule.cell 7 rfl
      have x0_8 := ST9.out.rule.cell 8 rfl
      go_wp2_with fail
      refine (mobs_any (l := l2) (by rw [HLN.out]; exact Sl.ofOwn ST9.out.row) kk sg lim back dl sp' _ _ _ nw HLE.out HNW.out HSP.out HAT.out).mono ?_
      rintro e w10 ⟨rfl, kp⟩
      have ST10 := hid (ST9.out.kept kp)
      rw [HOO.out]
      unfold ObsA
      clear kp ST9 x0_0 x0_1 x0_2 x0_3 x0_4 x0_5 x0_6 x0_7 x0_8
      have q1 : (o1 != o1) = false := by simp
      have q2 : (o2 != o2) = false := by simp
      have c4 := ST10.out.ts.keeps.cell (fun h => h) (HC.out 4 _ rfl)
      dsimp only at c4
      go_upto_if 116 with fail
      go_cut [] from 116 to 131 (fun wx => ∃ on' hd' s', Hid (RunSt w wx sb tb rb gb F7 l2 kk sg lim back dl sp' ⟨on', hd', s'⟩ ⟨on', hd', s'⟩ a2 (nm + 1) c2') ∧ Hid (I64 s'))
      case first =>
        cases lk
        · go_wp2_with fail
          go_meet
          exact ⟨on, hd, s, ST10, HSI⟩
        · obtain ⟨on', hd', s', hst, hsi, hg⟩ := steps_same on hd s nw o1 o2 dl HNW.out HSI.out
          have HM := hid (msteps_same on hd s nw o1 o2 dl HNW.out HSI.out hst)
          have HST := hid hst
          have HSI' := hid hsi
          clear hst hsi hg q1 q2 c4
          have bg : Bk w10 gb 35 [.bool on, .bool hd, .int .i64 s] := ST10.out.gate
          have br := ST10.out.rule.cell 4 rfl
          have z0 := bg.cell 0 rfl
          have z1 := bg.cell 1 rfl
          have z2 := bg.cell 2 rfl
          clear bg
          go_wp2_with fail
          refine (HM.out _).mono ?_
          rintro e w11 ⟨rfl, kp⟩
          have ST11 := hid (ST10.out.kept kp)
          clear kp ST10 z0 z1 z2 br
          have bg : Bk w11 gb 35 [.bool on, .bool hd, .int .i64 s] := ST11.out.gate
          have z0 := bg.cell 0 rfl
          have z1 := bg.cell 1 rfl
          have z2 := bg.cell 2 rfl
          have f0 := bg.free 0
          have f1 := bg.free 1
          have f2 := bg.free 2
          obtain ⟨W12, hW⟩ : ∃ W, ((w11.setCell ⟨gb, 0, none⟩ (.bool on')).setCell ⟨gb, 1, none⟩ (.bool hd')).setCell ⟨gb, 2, none⟩ (.int .i64 s') = W := ⟨_, rfl⟩
          have ST12 : Hid (RunSt w W12 sb tb rb gb F7 l2 kk sg lim back dl sp' ⟨on, hd, s⟩ ⟨on', hd', s'⟩ a2 (nm + 1) c2') := hid (ST11.out.step (g2 := ⟨on', hd', s'⟩) (by rw [← hW]; exact ((bg.put 0 _ rfl).put 1 _ rfl).put 2 _ rfl) (by rw [← hW]; exact (Keeps.refl _ _).at.at.at))
          have HW12 := hid hW
          clear hW bg ST11 HM
          go_upto_region 21 with fail
          try rw [HW12.out]
          clear HW12 z0 z1 z2 f0 f1 f2
          have bg : Bk W12 gb 35 [.bool on', .bool hd', .int .i64 s'] := ST12.out.gate
          have z0 := bg.cell 0 rfl
          have qo : (on' != on') = false := by simp
          have HSTO : Hid (stepD ⟨on, hd, s⟩ nw (obsD kk sg lim back sp' l2 nw).1 (obsD kk sg lim back sp' l2 nw).2 dl = ⟨on', hd', s'⟩) := hid (by rw [HOO.out]; exact HST.out)
          clear bg HST
          first | go_region_held3 (fun w' => w'.cell? ⟨gb, 0, none⟩ = some (.bool on')) (first | with_reducible exact z0 | with_reducible exact cellDr z0 | (go_keep; done)) (first | (go_at_call 16; (with_reducible refine (tsrun_any (ST12.out.ts.kept (by repeat' (first | with_reducible exact Keeps.refl _ _ | with_reducible assumption | with_reducible refine Keeps.drewN ?_ _ | with_reducible refine Keeps.drew ?_ | with_reducible refine Keeps.alloc ?_ _))) nw HNW.out HSI.out HSP.out HSTO.out).mono ?_); rintro e w13 ⟨rfl, h9, k9⟩; have kk9 : Keeps (fun i => i = tb) W12 w13 := Keeps.trans (by repeat' (first | with_reducible exact Keeps.refl _ _ | with_reducible assumption | with_reducible refine Keeps.drewN ?_ _ | with_reducible refine Keeps.drew ?_ | with_reducible refine Keeps.alloc ?_ _)) k9; have ST13 := hid (ST12.out.run h9 kk9); have z0 := ST13.out.gate.cell 0 rfl; clear h9 k9 kk9)) | fail
          go_wp2_with fail
          go_meet
          exact ⟨on', hd', s', ST13, HSI'⟩
      case rest =>
      obtain ⟨on', hd', s', ST11, HSI'⟩ := hcut
      obtain ⟨w11, rfl⟩ : ∃ y, y = wc := ⟨_, rfl⟩
      clear ST10 HSI c4 q1 q2 HOO HLE HAT
      go_wp2_with fail
      refine (tsgate_any ST11.out.ts).mono ?_
      rintro e w12 ⟨rfl, h12, kp⟩
      have ST12 := hid (ST11.out.kept kp)
      clear h12 kp ST11
      go_upto_region 24 with fail
      obtain ⟨hb, hhb⟩ : ∃ y, w12.heap.size = y := ⟨_, rfl⟩
      obtain ⟨W13, hW⟩ : ∃ W, w12.alloc (.cells #[.bool on', .bool hd', .int .i64 s'] 48) = W := ⟨_, rfl⟩
      have BH : Hid (Bk W13 hb 48 [.bool on', .bool hd', .int .i64 s']) := hid (by rw [← hW]; exact Bk.new hhb _ _)
      have ST13 := hid (ST12.out.kept (w' := W13) (by rw [← hW]; exact (Keeps.refl _ _).alloc _))
      rw [hhb, hW]
      clear hW hhb ST12
      have bg : Bk W13 gb 35 [.bool on', .bool hd', .int .i64 s'] := ST13.out.gate
      have z0 := bg.cell 0 rfl
      have z1 := bg.cell 1 rfl
      have z2 := bg.cell 2 rfl
      have t0 := BH.out.cell 0 rfl
      have t1 := BH.out.cell 1 rfl
      have t2 := BH.out.cell 2 rfl
      have qo : (on' != on') = false := by simp
      have qh : (hd' != hd') = false := by simp
      have qs : (s' != s') = false := by simp
      clear bg
      first | go_region_held3 (fun w' => w'.cell? ⟨gb, 0, none⟩ = some (.bool on') ∧ w'.cell? ⟨gb, 1, none⟩ = some (.bool hd') ∧ w'.cell? ⟨gb, 2, none⟩ = some (.int .i64 s') ∧ w'.cell? ⟨hb, 0, none⟩ = some (.bool on') ∧ w'.cell? ⟨hb, 1, none⟩ = some (.bool hd') ∧ w'.cell? ⟨hb, 2, none⟩ = some (.int .i64 s')) (first | with_reducible exact ⟨z0, z1, z2, t0, t1, t2⟩ | with_reducible exact ⟨cellDr z0, cellDr z1, cellDr z2, cellDr t0, cellDr t1, cellDr t2⟩ | (go_keep; done)) (first | (go_at_call 18; (with_reducible refine (tson_any (ST13.out.ts.kept (by repeat' (first | with_reducible exact Keeps.refl _ _ | with_reducible assumption | with_reducible refine Keeps.drewN ?_ _ | with_reducible refine Keeps.drew ?_ | with_reducible refine Keeps.alloc ?_ _)))).mono ?_); rintro e w14 ⟨rfl, h9, k9⟩; have kk9 : Keeps No W13 w14 := Keeps.trans (by repeat' (first | with_reducible exact Keeps.refl _ _ | with_reducible assumption | with_reducible refine Keeps.drewN ?_ _ | with_reducible refine Keeps.drew ?_ | with_reducible refine Keeps.alloc ?_ _)) k9; have ST14 := hid (ST13.out.kept kk9); have z0 := ST14.out.gate.cell 0 rfl; have z1 := ST14.out.gate.cell 1 rfl; have z2 := ST14.out.gate.cell 2 rfl; have BH2 := hid (BH.out.kept kk9); have t0 := BH2.out.cell 0 rfl; have t1 := BH2.out.cell 1 rfl; have t2 := BH2.out.cell 2 rfl; clear h9 k9 kk9)) | fail
      go_wp2_with fail
      go_roundw
      case rel => exact ⟨nm + 1, nm + 1, nw, l2, a2, c2', F7, on', hd', s', by omega, rfl, by omega, by push_cast; omega, by go_num, rfl, rfl, ST14, HSI', HT7⟩
      case measure => simp [intOf]; omega
    · obtain rfl : nm = N := by omega
      go_wp2_with fail
      go_ret
      exact ⟨rfl, ST.out.ts.keeps.toBelow⟩

theorem own : ownKnob Try.prog.godebug = none := by kernel_rfl
theorem laidOut : laidOutB Try.prog = true := by kernel_rfl
set_option maxRecDepth 100000 in
theorem lifted (os : Os) (started : os.Started) (H : Type) (enc : TypeId × Value → H) :
    ReturnsInHanded {} Try.checked os 3 .any (Rows.taskRunsSpec.pre6 enc Try.prog Try.f3 Rows.taskRunsRow.domain false) (Rows.taskRunsSpec.post enc Try.prog Try.f3 false true false false) := by
  refine returnsInHanded_of_change (C := Try.checked) own started (by kernel_rfl) Try.func3
    (ChangeSpec.witness6 (enc := enc) (C := Try.checked) false ⟨#[], #[.int .u8 0, .int .u8 0, .int .i16 0, .int .i16 0, .int .u8 0, .int .u8 0, .slice none 0 0], []⟩ 8 (by kernel_rfl) (by kernel_rfl) (by kernel_rfl) (by kernel_rfl)) ?_
  intro W base args ds gs before hval0 hW hcnd _
  have hval : ∀ (j : Nat) t v, Try.f3.params[j]? = some t → args[j]? = some v → Value.okWide Try.prog W .any base t v := hval0
  have hW' := hW
  obtain ⟨p, q, hA0, hV, rfl, hfz, hnd⟩ := hW
  have hA : DataW.TrodAll enc Try.prog W 0 (fun _ => true) true Try.f3.params.toList args.toList ds p := hA0
  rw [Try.params3] at hA hval
  obtain ⟨v0, vs0, d0, ds0, p0, q0, hargs, rfl, rfl, h0, r0⟩ := trodAll_cons hA
  obtain ⟨v1, vs1, d1, ds1, p1, q1, rfl, rfl, rfl, h1, r1⟩ := trodAll_cons r0
  obtain ⟨v2, vs2, d2, ds2, p2, q2, rfl, rfl, rfl, h2, r2⟩ := trodAll_cons r1
  obtain ⟨v3, vs3, d3, ds3, p3, q3, rfl, rfl, rfl, h3, r3⟩ := trodAll_cons r2
  obtain ⟨v4, vs4, d4, ds4, p4, q4, rfl, rfl, rfl, h4, r4⟩ := trodAll_cons r3
  obtain ⟨v5, vs5, d5, ds5, p5, q5, rfl, rfl, rfl, h5, r5⟩ := trodAll_cons r4
  obtain ⟨v6, vs6, d6, ds6, p6, q6, rfl, rfl, rfl, h6, r6⟩ := trodAll_cons r5
  obtain ⟨rfl, rfl, rfl⟩ := trodAll_nil r6
  obtain rfl : args = #[v0, v1, v2, v3, v4, v5, v6] := by cases args; simp_all
  obtain ⟨rfl, rfl⟩ := trodVars_none hV
  have k0 := h0
  have lt0 : ∀ x ∈ p0, x.block < W.heap.size := by obtain ⟨m, hm⟩ := k0; exact DataW.trod_lt m _ _ _ hm
  have k1 := h1
  have lt1 : ∀ x ∈ p1, x.block < W.heap.size := by obtain ⟨m, hm⟩ := k1; exact DataW.trod_lt m _ _ _ hm
  have k2 := h2
  have lt2 : ∀ x ∈ p2, x.block < W.heap.size := by obtain ⟨m, hm⟩ := k2; exact DataW.trod_lt m _ _ _ hm
  have k3 := h3
  have lt3 : ∀ x ∈ p3, x.block < W.heap.size := by obtain ⟨m, hm⟩ := k3; exact DataW.trod_lt m _ _ _ hm
  have k4 := h4
  have lt4 : ∀ x ∈ p4, x.block < W.heap.size := by obtain ⟨m, hm⟩ := k4; exact DataW.trod_lt m _ _ _ hm
  have k5 := h5
  have lt5 : ∀ x ∈ p5, x.block < W.heap.size := by obtain ⟨m, hm⟩ := k5; exact DataW.trod_lt m _ _ _ hm
  have k6 := h6
  have lt6 : ∀ x ∈ p6, x.block < W.heap.size := by obtain ⟨m, hm⟩ := k6; exact DataW.trod_lt m _ _ _ hm
  obtain ⟨a0, rfl, rfl, rfl, w0⟩ := open_int Try.underlying5 (hval 0 5 v0 rfl rfl) h0
  obtain ⟨a1, rfl, rfl, rfl, w1⟩ := open_int Try.underlying5 (hval 1 5 v1 rfl rfl) h1
  obtain ⟨a2, rfl, rfl, rfl, w2⟩ := open_int Try.underlying22 (hval 2 22 v2 rfl rfl) h2
  obtain ⟨a3, rfl, rfl, rfl, w3⟩ := open_int Try.underlying22 (hval 3 22 v3 rfl rfl) h3
  obtain ⟨a4, rfl, rfl, rfl, w4⟩ := open_int Try.underlying5 (hval 4 5 v4 rfl rfl) h4
  obtain ⟨a5, rfl, rfl, rfl, w5⟩ := open_int Try.underlying5 (hval 5 5 v5 rfl rfl) h5
  obtain ⟨s6, len6, cap6, rfl⟩ := okWide_slice Try.underlying23 (hval 6 23 v6 rfl rfl)
  obtain ⟨l6, rfl, w6, b6⟩ := argSlice (encE := encComeT) (good := goodComeT) (size := 5) (fun _ => rfl) (by decide) Try.underlying23 (by kernel_rfl) (fun n cs x hx => decComeT hx) h6
  clear hA0 hval0
  refine (walk W a0 w0 a1 w1 a2 w2 a3 w3 a4 w4 a5 w5 s6 cap6 l6 w6 b6).mono fun e W' ⟨he, bel⟩ => ?_
  subst he
  exact ⟨_, rfl, _, _, _, [], _, [], hW', trodAll_mk1 (shut_bool Try.underlying4 _), (trodAll_cons_mk (Below.trod laidOut (by kernel_rfl) (of_decide_eq_true (by kernel_rfl)) k0 bel lt0) (trodAll_cons_mk (Below.trod laidOut (by kernel_rfl) (of_decide_eq_true (by kernel_rfl)) k1 bel lt1) (trodAll_cons_mk (Below.trod laidOut (by kernel_rfl) (of_decide_eq_true (by kernel_rfl)) k2 bel lt2) (trodAll_cons_mk (Below.trod laidOut (by kernel_rfl) (of_decide_eq_true (by kernel_rfl)) k3 bel lt3) (trodAll_cons_mk (Below.trod laidOut (by kernel_rfl) (of_decide_eq_true (by kernel_rfl)) k4 bel lt4) (trodAll_cons_mk (Below.trod laidOut (by kernel_rfl) (of_decide_eq_true (by kernel_rfl)) k5 bel lt5) (trodAll_cons_mk (Below.trod laidOut (by kernel_rfl) (of_decide_eq_true (by kernel_rfl)) k6 bel lt6) trodAll_mk0))))))), rfl, bel.frame _, fun h => by cases h⟩

theorem over : Rows.taskRunsRow.holds Try.pinned (OpenSpec.ofChange Rows.taskRunsSpec) :=
  OpenClaim.holds_of_wide 3 Try.f3 rfl rfl rfl rfl rfl rfl rfl ⟨rfl, rfl, rfl, rfl, rfl⟩ rfl rfl rfl rfl rfl (by kernel_rfl) Try.func3 (by kernel_rfl)
    (of_decide_eq_true (by kernel_rfl)) (by unfold Func.isWrapper; first | (rw [if_pos (by decide +kernel)]; kernel_rfl) | (rw [if_neg (by decide +kernel)]; exact ⟨rfl, rfl⟩))
    (fun os started H enc _ => lifted os started H enc)

theorem proved : Rows.TaskRunsSaid := over
#print axioms proved
end Go.Proofs.Ytboalfajghkajaa.taskRuns
