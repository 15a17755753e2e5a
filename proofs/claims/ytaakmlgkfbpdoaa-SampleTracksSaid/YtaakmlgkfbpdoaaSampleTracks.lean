/- Samples of any signals, in any order: how many were lost between, which came twice, as the document says. No conditions. -/
import Derived.Test.YtaakmlgkfbpdoaaRows
import Derived.Test.YtaakmlgkfbpdoaaSmp8
import Derived.ProofKit
import Derived.OpenShut
namespace Go.Proofs.Ytaakmlgkfbpdoaa.sampleTracks
open Go.ChangeShapes Go.WideShapes Go.ChangeAt Go.RowKit
open Go.ChangeMaps (open_string shut_string)
set_option linter.unusedVariables false

theorem info_smp : (Try.prog.info? 47).map (fun i => (i.zero, i.size, i.bytes)) = some (some (.agg #[.int .i64 0, .int .u8 0, .int .i64 0, .bool false]), 4, 32) := by kernel_rfl

set_option maxHeartbeats 8000000 in
set_option maxRecDepth 100000 in
theorem walk (w : World) (n : Int) (wn : (Lit.int .i64 n).wf = true) (s1 : Option Addr) (cap1 : Nat) (l : List S4) (hs1 : Sl w 4 (.slice s1 l.length cap1) l.length (l.flatMap encS)) (hb1 : ∀ y ∈ l, OkS y) (near : Bool) :
    Calls Try.prog 8 #[.int .i64 n, .slice s1 l.length cap1, .bool near] w fun e w' => e = .returned (.bool true) ∧ Below w.heap.size w w' := by
  have HS := hid hs1
  have HOK := hid hb1
  have hmx : l.length ≤ maxLen := hs1.2.1
  unfold maxLen at hmx
  clear hs1 hb1 wn
  by_cases hl : 80 < l.length
  · have hd : decide ((l.length : Int) > 80) = true := decide_eq_true (by omega)
    clear hl
    go_enter Try.func8, Try.ntmps8
    go_wp2_with fail
    with_reducible refine (gaps_true _).mono ?_
    rintro e w1 ⟨rfl, k⟩
    have K1 := hid (k)
    clear k
    go_wp2_with fail
    with_reducible refine (gaps_true _).mono ?_
    rintro e w2 ⟨rfl, k⟩
    have K2 := hid (K1.out.trans k)
    clear k
    go_wp2_with fail
    go_ret
    exact ⟨rfl, K2.out.toBelow⟩
  have hd : decide ((l.length : Int) > 80) = false := decide_eq_false (by omega)
  have hl8 : l.length ≤ 80 := by omega
  obtain ⟨N, hN⟩ : ∃ N, capN n = N := ⟨_, rfl⟩
  have hN8 : N ≤ 8 := by rw [← hN]; unfold capN; split; omega; split <;> omega
  have hcs : (n < 0 ∧ N = 0) ∨ (0 ≤ n ∧ 8 < n ∧ N = 8) ∨ (0 ≤ n ∧ n ≤ 8 ∧ n = N) := by
    unfold capN at hN
    split at hN
    · exact Or.inl ⟨by assumption, hN.symm⟩
    · split at hN
      · exact Or.inr (Or.inl ⟨by omega, by assumption, hN.symm⟩)
      · exact Or.inr (Or.inr ⟨by omega, by omega, by omega⟩)
  obtain ⟨i0, hi, hz0, hz1, hz2⟩ := info_parts info_smp
  have HI := hid hi
  have HN := hid hN
  have HCS := hid hcs
  clear hl hmx hN hi hcs
  go_enter Try.func8, Try.ntmps8
  go_wp2_with fail
  with_reducible refine (gaps_true _).mono ?_
  rintro e w1 ⟨rfl, k⟩
  have K1 := hid (k)
  clear k
  go_wp2_with fail
  with_reducible refine (tnew_any _ _).mono ?_
  rintro e w2 ⟨tb, g, rfl, ht, hk, h1, h2⟩
  rw [HN.out] at ht
  have hs1 := K1.out.size
  have h0 : TS w w2 tb g (List.replicate N (0, 0, 0)) (.slice none 0 0) [] := ⟨ht, World.ownsRow_nil _ _ _ _, fun k hk => by simp [Value.ownBlock] at hk, ⟨by omega, by omega⟩, fun k hk => by simp [Value.ownBlock] at hk, K1.out.trans hk⟩
  have HT0 := hid h0
  have h1 : w.heap.size ≤ tb := by omega
  have h2 : w.heap.size ≤ g := by omega
  clear ht hk hs1 h0 K1
  go_upto_if 31 with fail
  go_cut [0] from 31 to 31 (fun v0 wx => ∃ m : Int, v0 = .int .i64 m ∧ Hid (m = if n < 0 then 0 else n) ∧ Hid (w2 = wx))
  case first =>
    by_cases hn : n < 0
    · have d1 : decide (n < 0) = true := decide_eq_true hn
      go_wp2_with fail
      go_meet
      exact ⟨0, rfl, hid (by rw [if_pos hn]), hid rfl⟩
    · have d1 : decide (n < 0) = false := decide_eq_false hn
      go_wp2_with fail
      go_meet
      exact ⟨n, rfl, hid (by rw [if_neg (by omega)]), hid rfl⟩
  case rest =>
  obtain ⟨m, rfl, HM, HW⟩ := hcut
  have hw := HW.out
  subst hw
  clear HW
  go_upto_if 33 with fail
  go_cut [0] from 33 to 33 (fun v0 wx => v0 = .int .i64 N ∧ Hid (w2 = wx))
  case first =>
    by_cases hn : 8 < m
    · have d1 : decide (m > 8) = true := decide_eq_true hn
      have hN : 8 = N := by
        have := HM.out
        rcases HCS.out with ⟨a, b⟩ | ⟨a, b, c⟩ | ⟨a, b, c⟩
        · rw [if_pos a] at this; omega
        · exact c.symm
        · rw [if_neg (by omega)] at this; omega
      subst hN
      go_wp2_with fail
      go_meet
      exact ⟨rfl, hid rfl⟩
    · have d1 : decide (m > 8) = false := decide_eq_false hn
      have hN : m = N := by
        have := HM.out
        rcases HCS.out with ⟨a, b⟩ | ⟨a, b, c⟩ | ⟨a, b, c⟩
        · rw [if_pos a] at this; omega
        · rw [if_neg (by omega)] at this; omega
        · rw [if_neg (by omega)] at this; omega
      subst hN
      go_wp2_with fail
      go_meet
      exact ⟨rfl, hid rfl⟩
  case rest =>
  obtain ⟨rfl, HW⟩ := hcut
  have hw := HW.out
  subst hw
  clear HW HM HCS HN
  go_wp2_with fail
  go_loopw [8, 9] (fun v8 v9 wr => ∃ (i : Nat) (L : List (Int × Int × Int)) (came : List S4), i ≤ l.length ∧ v9 = .int .i64 i ∧ came.length ≤ i ∧ Hid (TrOk N L came.reverse) ∧ Hid (TS w wr tb g L v8 came)) (fun _ v9 _ => l.length - (intOf v9).toNat)
  case atStart => exact ⟨0, _, [], Nat.zero_le _, rfl, Nat.le_refl _, hid (TrOk.start N), HT0⟩
  case round =>
    obtain ⟨wo, hwo⟩ : ∃ x, x = wr := ⟨_, rfl⟩
    subst hwo
    obtain ⟨i, L, came, hi, rfl, hci, HR, HT⟩ := hrel
    clear HT0
    obtain ⟨ca, cc, rfl⟩ := own_any HT.out.own
    by_cases hlt : i < l.length
    · obtain ⟨⟨sg, sq, v, b⟩, hy⟩ : ∃ y, l[i] = y := ⟨_, rfl⟩
      have hok := HOK.out l[i] (List.getElem_mem hlt)
      rw [hy] at hok
      have hcell : ∀ k u, (encS ⟨sg, sq, v, b⟩)[k]? = some u → ∃ g off, s1 = some ⟨g, off, none⟩ ∧ wo.cell? ⟨g, off + i * 4 + k, none⟩ = some u := by
        intro k u hu
        have hk4 : k < 4 := (List.getElem?_eq_some_iff.1 hu).1
        obtain ⟨g', off, he, _, hc0⟩ := Sl.cellAt HS.out (j := i * 4 + k) (u := u) (by rw [getElem?_flatMap_enc (size := 4) (fun _ => rfl) l i k hk4 hlt, hy]; exact hu)
        exact ⟨g', off, he, by rw [Nat.add_assoc]; exact HT.out.old.cell (fun h => h) hc0⟩
      obtain ⟨ga, off, rfl, p0⟩ := hcell 0 _ rfl
      have hc2 : ∀ k u, (encS ⟨sg, sq, v, b⟩)[k]? = some u → wo.cell? ⟨ga, off + i * 4 + k, none⟩ = some u := by
        intro k u hu
        obtain ⟨g', off', he, hc⟩ := hcell k u hu
        simp only [Option.some.injEq, Addr.mk.injEq, and_true] at he
        obtain ⟨rfl, rfl⟩ := he
        exact hc
      have p1 := hc2 1 _ rfl
      have p2 := hc2 2 _ rfl
      have p3 := hc2 3 _ rfl
      simp only [Nat.add_zero] at p0
      obtain ⟨W1, hW1⟩ : ∃ W1, wo.alloc (.cells #[.int .i64 sg, .int .u8 sq, .int .i64 v, .bool b] 47) = W1 := ⟨_, rfl⟩
      have hk1 : Keeps No wo W1 := by rw [← hW1]; exact (Keeps.refl _ _).alloc _
      have hb1 : BlkL W1 wo.heap.size 47 (encS ⟨sg, sq, v, b⟩) := by rw [← hW1]; exact heap_alloc_new wo _
      have HWE := hid hW1
      have HK1 := hid hk1
      have HB1 := hid hb1
      have HOK1 := hid hok
      clear hy hcell hc2 hok hW1 hk1 hb1
      go_upto_region 13 with fail
      rw [HWE.out]
      go_upto_if 44 with fail
      clear p0 p1 p2 p3
      go_cut [] from 44 to 54 (fun wx => ∃ x : S4, OkS x ∧ Hid (BlkL wx wo.heap.size 47 (encS x)) ∧ Hid (Keeps No wo wx))
      case first =>
        cases near
        · go_wp2_with fail
          go_meet
          exact ⟨⟨sg, sq, v, b⟩, HOK1.out, HB1, HK1⟩
        · have x0 := HB1.out.cell (o := 0) rfl
          have x1 := HB1.out.cell (o := 1) rfl
          have u0 := HB1.out.free 0
          have u1 := HB1.out.free 1
          obtain ⟨s0, s1⟩ := HOK1.out
          simp only at s0 s1
          have ht : (IntKind.u64.wrap sg).tmod 4 = sg % 4 := by rw [IntKind.wrap_u64, Int.tmod_eq_emod_of_nonneg (by omega)]; omega
          obtain ⟨m, hm⟩ : ∃ m, sg % 4 = m := ⟨_, rfl⟩
          have hm0 : 0 ≤ m ∧ m ≤ 3 := by omega
          rw [hm] at ht
          obtain ⟨hm0, hm1⟩ := hm0
          clear hm
          go_wp2_with fail
          go_meet
          exact ⟨⟨m, sq % 4, v, b⟩, ⟨by simp only; omega, by simp only; omega⟩, hid ((HB1.out.put 0 _ rfl).put 1 _ rfl), hid ((HK1.out.setCell (p := ⟨wo.heap.size, 0, none⟩) (Or.inl (Nat.le_refl _)) _).setCell (p := ⟨wo.heap.size, 1, none⟩) (Or.inl (Nat.le_refl _)) _)⟩
      case rest =>
      clear HWE HK1 HB1 HOK1
      obtain ⟨⟨xg, xq, xv, xb⟩, hok, HBX, HKX⟩ := hcut
      have HOKX := hid hok
      have HTX := hid (HT.out.calm HKX.out)
      have hgt := HT.out.tk.row.lt
      have x0 := HBX.out.cell (o := 0) rfl
      have x1 := HBX.out.cell (o := 1) rfl
      have x2 := HBX.out.cell (o := 2) rfl
      have x3 := HBX.out.cell (o := 3) rfl
      have hrcl : came.reverse.length ≤ 100 := by rw [List.length_reverse]; omega
      clear hok HT HKX
      go_wp2_with fail
      refine (tnext_rc HTX.out HR.out hrcl xg xq xv xb HOKX.out).mono ?_
      rintro e w3 ⟨rfl, ⟨L', ht, hr⟩, hk⟩
      obtain ⟨⟨r1, r2⟩, hrr⟩ : ∃ r, resR N came.reverse ⟨xg, xq, xv, xb⟩ = r := ⟨_, rfl⟩
      rw [hrr] at hr ⊢
      have HB3 := hid (HBX.out.keep hk (fun e => by omega))
      have HT3 := hid ht
      have HR3 := hid hr
      have HRR := hid hrr
      clear ht hr hk hrr HTX HBX x0 x1 x2 x3
      have x0 := HB3.out.cell (o := 0) rfl
      have x1 := HB3.out.cell (o := 1) rfl
      have x2 := HB3.out.cell (o := 2) rfl
      have x3 := HB3.out.cell (o := 3) rfl
      go_wp2_with fail
      refine (rnext_any (l := came) (Sl.ofOwn HT3.out.own) (by omega) (fun x hx => HR.out.ok x (List.mem_reverse.2 hx)) xg xq xv xb HOKX.out).mono ?_
      rintro e w4 ⟨rfl, k⟩
      obtain ⟨⟨q1, q2⟩, hqq⟩ : ∃ r, nextR came.reverse ⟨xg, xq, xv, xb⟩ = r := ⟨_, rfl⟩
      rw [hqq]
      have HQQ := hid hqq
      have HT4 := hid (HT3.out.calm k)
      have HB4 := hid (HB3.out.keep k (fun h => h))
      clear k hqq HT3 HB3 x0 x1 x2 x3
      have x0 := HB4.out.cell (o := 0) rfl
      have x1 := HB4.out.cell (o := 1) rfl
      have x2 := HB4.out.cell (o := 2) rfl
      have x3 := HB4.out.cell (o := 3) rfl
      go_upto_region 17 with fail
      go_cut [75] from 67 to 75 (fun v75 wx => ∃ o : Bool, v75 = .bool o ∧ Hid (o = !decide (0 ≤ xg ∧ xg < (N : Int))) ∧ Hid (w4 = wx))
      case first =>
        by_cases h0 : xg < 0
        · have d1 : decide (xg < 0) = true := decide_eq_true h0
          go_wp2_with fail
          go_meet
          exact ⟨true, rfl, hid (by rw [decide_eq_false (by omega)]; rfl), hid rfl⟩
        · have d1 : decide (xg < 0) = false := decide_eq_false h0
          by_cases h1 : (N : Int) ≤ xg
          · have d2 : decide (xg ≥ (N : Int)) = true := decide_eq_true h1
            go_wp2_with fail
            go_meet
            exact ⟨true, rfl, hid (by rw [decide_eq_false (by omega)]; rfl), hid rfl⟩
          · have d2 : decide (xg ≥ (N : Int)) = false := decide_eq_false h1
            go_wp2_with fail
            go_meet
            exact ⟨false, rfl, hid (by rw [decide_eq_true (by omega)]; rfl), hid rfl⟩
      case rest =>
      obtain ⟨o, rfl, HO, HW⟩ := hcut
      have hw := HW.out
      subst hw
      clear HW
      go_upto_if 75 with fail
      go_cut [13, 14] from 75 to 75 (fun v13 v14 wx => v13 = .int .i64 r1 ∧ v14 = .bool r2 ∧ Hid (w4 = wx))
      case first =>
        have hrr := HRR.out
        unfold resR at hrr
        have ho := HO.out
        cases o
        · have hin : 0 ≤ xg ∧ xg < (N : Int) := by
            by_cases h : 0 ≤ xg ∧ xg < (N : Int)
            · exact h
            · rw [decide_eq_false h] at ho; simp at ho
          rw [if_pos hin, HQQ.out] at hrr
          injection hrr with e1 e2
          subst e1
          subst e2
          clear ho hin
          go_wp2_with fail
          go_meet
          exact ⟨rfl, rfl, hid rfl⟩
        · have hin : ¬ (0 ≤ xg ∧ xg < (N : Int)) := by
            intro h
            rw [decide_eq_true h] at ho; simp at ho
          rw [if_neg hin] at hrr
          injection hrr with e1 e2
          subst e1
          subst e2
          clear ho hin
          go_wp2_with fail
          go_meet
          exact ⟨rfl, rfl, hid rfl⟩
      case rest =>
      obtain ⟨rfl, rfl, HW⟩ := hcut
      have hw := HW.out
      subst hw
      clear HW HO HQQ HRR
      go_upto_if 84 with fail
      go_cut [8] from 84 to 88 (fun v8 wx => ∃ came' : List S4, came'.length ≤ i + 1 ∧ Hid (TrOk N L' came'.reverse) ∧ Hid (TS w wx tb g L' v8 came'))
      case first =>
        cases r2
        · go_wp2_with fail
          go_meet
          exact ⟨came, by omega, hid (by have := HR3.out; simpa using this), HT4⟩
        · have HO4 := hid HT4.out.own
          go_wp2_with (at_builtin; refine wpl_append rfl _ _ 57 rfl 47 i0 (.agg #[.int .i64 0, .int .u8 0, .int .i64 0, .bool false]) 4 32 Try.underlying57 HI.out hz0 hz1 hz2 rfl (by decide) _ _ _ _ _ _ rfl rfl (HO4.out.alloc _) (Sl.new _ _ _ 4 1 rfl (by decide)) ?c2 ?c3 ?c4 ?_)
          case c2 => first | rfl | (simp [Value.oneCell']; done) | (intro u hu; simp at hu; rcases hu with rfl | rfl | rfl | rfl <;> rfl)
          case c3 => unfold maxLen; omega
          case c4 => omega
          intro v2 w5 ho2 k2 hb2
          have HT5 : Hid (TS w w5 tb g L' v2 (came ++ [⟨xg, xq, xv, xb⟩])) := hid ((HT4.out.calm ((Keeps.refl _ _).alloc _)).app (came2 := came ++ [⟨xg, xq, xv, xb⟩]) (by rw [List.length_append, List.flatMap_append]; exact ho2) k2 (by simpa using hb2))
          clear ho2 k2 hb2 HO4
          go_wp2_with fail
          go_meet
          exact ⟨came ++ [⟨xg, xq, xv, xb⟩], by simp; omega, hid (by have := HR3.out; simpa using this), HT5⟩
      case rest =>
      obtain ⟨came', hcl, HR5, HT5⟩ := hcut
      clear HT4 HR3 HB4 x0 x1 x2 x3 HR hci hrcl HOKX
      obtain ⟨ca2, cc2, hv8⟩ := own_any HT5.out.own
      subst hv8
      have HT6 := HT5
      go_wp2_with fail
      go_loopw [15] (fun v15 wy => ∃ z : Nat, z ≤ 10 ∧ v15 = .int .i64 ((z : Int) - 1) ∧ Hid (TS w wy tb g L' (.slice ca2 came'.length cc2) came')) (fun v15 _ => (9 - intOf v15).toNat)
      case atStart => exact ⟨0, by omega, rfl, HT5⟩
      case round =>
        obtain ⟨wi, hwi⟩ : ∃ x, x = wr := ⟨_, rfl⟩
        subst hwi
        obtain ⟨z, hz, rfl, HT7⟩ := hrel
        clear HT5
        obtain ⟨y, hyz⟩ : ∃ y : Int, (z : Int) - 1 = y := ⟨_, rfl⟩
        rw [hyz]
        have hy0 : -1 ≤ y := by omega
        have hy9 : y ≤ 9 := by omega
        by_cases hz9 : y < 9
        · have d1 : decide (y < 9) = true := decide_eq_true hz9
          have HYZ := hid hyz
          have hbn := countR_bounds came'.reverse y
          clear hyz hbn
          go_wp2_with fail
          refine (tcount_rc HT7.out.tk HR5.out y).mono ?_
          rintro e w6 ⟨rfl, k⟩
          have HT8 := hid (HT7.out.calm k)
          clear k HT7
          go_wp2_with fail
          refine (rcount_any (l := came') (Sl.ofOwn HT8.out.own) (by omega) (fun x hx => HR5.out.ok x (List.mem_reverse.2 hx)) y).mono ?_
          rintro e w7 ⟨rfl, k⟩
          have HT9 := hid (HT8.out.calm k)
          clear k HT8
          go_wp2_with fail
          go_roundw
          case rel => exact ⟨z + 1, by have := HYZ.out; omega, by rw [show ((z + 1 : Nat) : Int) - 1 = y + 1 by have := HYZ.out; omega], HT9⟩
          case measure => simp [intOf]; omega
        · have d1 : decide (y < 9) = false := decide_eq_false hz9
          clear hyz
          go_wp2_with fail
          go_roundw
          case rel => exact ⟨i + 1, L', came', by omega, by go_num, hcl, HR5, HT7⟩
          case measure => simp [intOf]; omega
    · obtain rfl : i = l.length := by omega
      go_wp2_with fail
      go_ret
      exact ⟨rfl, HT.out.old.toBelow⟩

theorem own : ownKnob Try.prog.godebug = none := by kernel_rfl
theorem laidOut : laidOutB Try.prog = true := by kernel_rfl
set_option maxRecDepth 100000 in
theorem lifted (os : Os) (started : os.Started) (H : Type) (enc : TypeId × Value → H) :
    ReturnsInHanded {} Try.checked os 8 .any (Rows.sampleTracksSpec.pre6 enc Try.prog Try.f8 Rows.sampleTracksRow.domain false) (Rows.sampleTracksSpec.post enc Try.prog Try.f8 false true false false) := by
  refine returnsInHanded_of_change (C := Try.checked) own started (by kernel_rfl) Try.func8
    (ChangeSpec.witness6 (enc := enc) (C := Try.checked) false ⟨#[], #[.int .i64 0, .slice none 0 0, .bool false], []⟩ 8 (by kernel_rfl) (by kernel_rfl) (by kernel_rfl) (by kernel_rfl)) ?_
  intro W base args ds gs before hval0 hW hcnd _
  have hval : ∀ (j : Nat) t v, Try.f8.params[j]? = some t → args[j]? = some v → Value.okWide Try.prog W .any base t v := hval0
  have hW' := hW
  obtain ⟨p, q, hA0, hV, rfl, hfz, hnd⟩ := hW
  have hA : DataW.TrodAll enc Try.prog W 0 (fun _ => true) true Try.f8.params.toList args.toList ds p := hA0
  rw [Try.params8] at hA hval
  obtain ⟨v0, vs0, d0, ds0, p0, q0, hargs, rfl, rfl, h0, r0⟩ := trodAll_cons hA
  obtain ⟨v1, vs1, d1, ds1, p1, q1, rfl, rfl, rfl, h1, r1⟩ := trodAll_cons r0
  obtain ⟨v2, vs2, d2, ds2, p2, q2, rfl, rfl, rfl, h2, r2⟩ := trodAll_cons r1
  obtain ⟨rfl, rfl, rfl⟩ := trodAll_nil r2
  obtain rfl : args = #[v0, v1, v2] := by cases args; simp_all
  obtain ⟨rfl, rfl⟩ := trodVars_none hV
  have k0 := h0
  have lt0 : ∀ x ∈ p0, x.block < W.heap.size := by obtain ⟨m, hm⟩ := k0; exact DataW.trod_lt m _ _ _ hm
  have k1 := h1
  have lt1 : ∀ x ∈ p1, x.block < W.heap.size := by obtain ⟨m, hm⟩ := k1; exact DataW.trod_lt m _ _ _ hm
  have k2 := h2
  have lt2 : ∀ x ∈ p2, x.block < W.heap.size := by obtain ⟨m, hm⟩ := k2; exact DataW.trod_lt m _ _ _ hm
  obtain ⟨a0, rfl, rfl, rfl, w0⟩ := open_int Try.underlying3 (hval 0 3 v0 rfl rfl) h0
  obtain ⟨s1, len1, cap1, rfl⟩ := okWide_slice Try.underlying57 (hval 1 57 v1 rfl rfl)
  obtain ⟨l1, rfl, w1, b1⟩ := argSlice (encE := encS) (good := OkS) (size := 4) (fun _ => rfl) (by decide) Try.underlying57 (by kernel_rfl) (fun n cs x hx => decS hx) h1
  obtain ⟨a2, rfl, rfl, rfl⟩ := open_bool Try.underlying4 (hval 2 4 v2 rfl rfl) h2
  clear hA0 hval0
  refine (walk W a0 w0 s1 cap1 l1 w1 b1 a2).mono fun e W' ⟨he, bel⟩ => ?_
  subst he
  exact ⟨_, rfl, _, _, _, [], _, [], hW', trodAll_mk1 (shut_bool Try.underlying4 _), (trodAll_cons_mk (Below.trod laidOut (by kernel_rfl) (of_decide_eq_true (by kernel_rfl)) k0 bel lt0) (trodAll_cons_mk (Below.trod laidOut (by kernel_rfl) (of_decide_eq_true (by kernel_rfl)) k1 bel lt1) (trodAll_cons_mk (Below.trod laidOut (by kernel_rfl) (of_decide_eq_true (by kernel_rfl)) k2 bel lt2) trodAll_mk0))), rfl, bel.frame _, fun h => by cases h⟩

theorem over : Rows.sampleTracksRow.holds Try.pinned (OpenSpec.ofChange Rows.sampleTracksSpec) :=
  OpenClaim.holds_of_wide 8 Try.f8 rfl rfl rfl rfl rfl rfl rfl ⟨rfl, rfl, rfl, rfl, rfl⟩ rfl rfl rfl rfl rfl (by kernel_rfl) Try.func8 (by kernel_rfl)
    (of_decide_eq_true (by kernel_rfl)) (by unfold Func.isWrapper; first | (rw [if_pos (by decide +kernel)]; kernel_rfl) | (rw [if_neg (by decide +kernel)]; exact ⟨rfl, rfl⟩))
    (fun os started H enc _ => lifted os started H enc)

theorem proved : Rows.SampleTracksSaid := over
#print axioms proved
end Go.Proofs.Ytaakmlgkfbpdoaa.sampleTracks
