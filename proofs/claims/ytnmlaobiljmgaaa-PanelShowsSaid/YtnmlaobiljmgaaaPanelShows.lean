/- Tick by tick: what is shown and heard, and when a burst begins anew. No conditions. -/
import Derived.Test.YtnmlaobiljmgaaaRows
import Derived.Test.YtnmlaobiljmgaaaArgs
import Derived.ProofKit
import Derived.OpenShut
import Derived.Deep.DeepCutAuto
import Derived.Deep.CutBlock
import Derived.Deep.RegionHeld3
import Derived.Test.YtnmlaobiljmgaaaPanT
namespace Go.Proofs.Ytnmlaobiljmgaaa.panelShows
open Go.ChangeShapes Go.WideShapes Go.ChangeAt Go.RowKit
open Go.ChangeMaps (open_string shut_string)
set_option linter.unusedVariables false
set_option linter.unusedSimpArgs false

set_option maxHeartbeats 8000000 in
set_option maxRecDepth 100000 in
theorem walk (w : World) (s0 : Option Addr) (cap : Nat) (l : List Tick20) (hs : Sl w 4 (.slice s0 l.length cap) l.length (l.flatMap encT20)) (hg : ∀ x ∈ l, goodT20 w x) (fr : Int) (wf : (Lit.int .u16 fr).wf = true) :
    Calls Try.prog 9 #[.slice s0 l.length cap, .int .u16 fr] w fun e w' => e = .returned (.bool true) ∧ Below w.heap.size w w' := by
  obtain ⟨f0, f1⟩ := bounds_u16 wf
  have wfr : IntKind.i64.wrap fr = fr := by simp only [IntKind.wrap_i64]; omega
  clear wf
  obtain ⟨N, hN⟩ : ∃ N, l.length = N := ⟨_, rfl⟩
  have HN := hid hN
  have HS := hid hs
  have HG := hid hg
  clear hg hs
  rw [hN]
  by_cases hbig : 40 < N
  · have hd : decide ((N : Int) > 40) = true := decide_eq_true (by omega)
    clear hN
    go_enter Try.func9, Try.ntmps9
    go_wp2_with fail
    refine (dark_true _).mono ?_
    rintro e w1 ⟨rfl, k1⟩
    have K1 := hid (k1)
    clear k1
    go_wp2_with fail
    refine (dark_true _).mono ?_
    rintro e w2 ⟨rfl, k2⟩
    have K2 := hid (K1.out.trans k2)
    clear k2
    go_wp2_with fail
    go_ret
    exact ⟨rfl, K2.out.toBelow⟩
  have hd : decide ((N : Int) > 40) = false := decide_eq_false (by omega)
  go_enter Try.func9, Try.ntmps9
  go_wp2_with fail
  refine (dark_true _).mono ?_
  rintro e w1 ⟨rfl, k1⟩
  have K1 := hid (k1)
  clear k1
  go_wp2_with fail
  refine (pnew_any _).mono ?_
  rintro e w2 ⟨pb, rfl, hbn, hpb, kp⟩
  have HPN : Hid (w.heap.size ≤ pb) := hid (by have := K1.out.size; omega)
  have HP2 := hid hpb
  have K2 := hid (K1.out.trans kp)
  clear hbn hpb kp hN
  obtain ⟨qb, hqb⟩ : ∃ r, w2.heap.size = r := ⟨_, rfl⟩
  obtain ⟨W, hW⟩ : ∃ W, w2.alloc (.cells #[.int .u8 0, .int .i64 0] 58) = W := ⟨_, rfl⟩
  have HQW : Hid (Bk W qb 58 [.int .u8 0, .int .i64 0]) := hid (by rw [← hW]; exact Bk.new hqb _ _)
  have HPW : Hid (POb W pb ⟨0, 0⟩) := hid (by rw [← hW]; exact Bk.alloc HP2.out _)
  have HPQ : Hid (¬ pb = qb) := hid (by have := HP2.out.lt; omega)
  have HQN : Hid (w.heap.size ≤ qb) := hid (by have := K2.out.size; omega)
  have KW : Hid (Keeps No w W) := hid (by rw [← hW]; exact K2.out.alloc _)
  have HQH := hid hqb
  have HWH := hid hW
  clear hqb hW
  go_upto_region 4 with fail
  rw [HQH.out, HWH.out]
  clear HQH HWH
  go_wp2_with fail
  go_loopw [7, 8] (fun v7 v8 wr => ∃ (i : Nat) (now qa qc : Int), i ≤ N ∧ v8 = .int .i64 i ∧ v7 = .int .i64 now ∧ 10 ≤ now ∧ now ≤ 65545 + 3 * (i : Int) ∧ Hid (0 ≤ qc ∧ qc ≤ now) ∧ Hid (POb wr pb ⟨qa, qc⟩) ∧ Hid (Bk wr qb 58 [.int .u8 qa, .int .i64 qc]) ∧ Hid (Keeps No w wr)) (fun _ v8 _ => N - (intOf v8).toNat)
  case atStart => exact ⟨0, fr + 10, 0, 0, Nat.zero_le _, rfl, rfl, by omega, by omega, hid ⟨by omega, by omega⟩, HPW, HQW, KW⟩
  case round =>
    obtain ⟨i, now, qa, qc, hi, rfl, rfl, no0, no1, HQC, HP, HQ, HK⟩ := hrel
    by_cases hlt : i < N
    · have hil : i < l.length := by rw [HN.out]; exact hlt
      obtain ⟨x, hx⟩ : ∃ x, l[i] = x := ⟨_, rfl⟩
      have hgx := HG.out x (by rw [← hx]; exact List.getElem_mem hil)
      obtain ⟨g, off, ha, hgl, hc⟩ := Sl.itemC (enc := encT20) (size := 4) (fun _ => rfl) (by decide) (HS.out) hil hx
      obtain ⟨beh, xv, xl, p, oo⟩ := x
      obtain ⟨hxs, hxg, hbe, hp, ho⟩ := hgx
      simp only at hxs hxg hbe hp ho
      obtain ⟨xa, xc, rfl⟩ := hxs.any
      obtain ⟨xn, hxn⟩ : ∃ r, xl.length = r := ⟨_, rfl⟩
      have C0 : Hid (w.cell? ⟨g, off + i * 4, none⟩ = some (.int .u8 beh)) := hid (hc 0 _ rfl)
      have C1 : Hid (w.cell? ⟨g, off + i * 4 + 1, none⟩ = some (.slice xa xn xc)) := hid (by have h := hc 1 _ rfl; simp only at h; rw [hxn] at h; exact h)
      have C2 : Hid (w.cell? ⟨g, off + i * 4 + 2, none⟩ = some (.int .u8 p)) := hid (hc 2 _ rfl)
      have C3 : Hid (w.cell? ⟨g, off + i * 4 + 3, none⟩ = some (.int .u8 oo)) := hid (hc 3 _ rfl)
      have HXN := hid hxn
      have HXG := hid hxg
      have HXS : Hid (Sl w 4 (.slice xa xn xc) xn (xl.flatMap encOne)) := hid (by rw [← hxn]; exact hxs)
      subst ha
      clear hx hil hc hxs hxg hxn
      have hga : g < w.heap.size := hgl
      have c0 := HK.out.cell (fun h => h) C0.out
      have c1 := HK.out.cell (fun h => h) C1.out
      by_cases h20 : 20 < xn
      · have hd2 : decide ((xn : Int) > 20) = true := decide_eq_true (by omega)
        go_wp2_with fail
        go_ret
        exact ⟨rfl, HK.out.toBelow⟩
      · have hd2 : decide ((xn : Int) > 20) = false := decide_eq_false (by omega)
        obtain ⟨be0, be1⟩ := hbe
        obtain ⟨p0, p1⟩ := hp
        obtain ⟨o0, o1⟩ := ho
        have t1 : beh.tmod 3 = beh % 3 := Int.tmod_eq_emod_of_nonneg be0
        have t2 : p.tmod 5 = p % 5 := Int.tmod_eq_emod_of_nonneg p0
        have t3 : oo.tmod 7 = oo % 7 := Int.tmod_eq_emod_of_nonneg o0
        obtain ⟨b3, hb3⟩ : ∃ r, beh % 3 = r := ⟨_, rfl⟩
        obtain ⟨p5, hp5⟩ : ∃ r, p % 5 = r := ⟨_, rfl⟩
        obtain ⟨o7, ho7⟩ : ∃ r, oo % 7 = r := ⟨_, rfl⟩
        rw [hb3] at t1
        rw [hp5] at t2
        rw [ho7] at t3
        have hb39 : 0 ≤ b3 ∧ b3 ≤ 2 := by omega
        have hp59 : 0 ≤ p5 ∧ p5 ≤ 4 := by omega
        have ho79 : 0 ≤ o7 ∧ o7 ≤ 6 := by omega
        have u1 : IntKind.u8.wrap b3 = b3 := by simp only [IntKind.wrap, IntKind.bits, IntKind.signed]; simp; omega
        have u2 : IntKind.u8.wrap p5 = p5 := by simp only [IntKind.wrap, IntKind.bits, IntKind.signed]; simp; omega
        have u3 : IntKind.u8.wrap o7 = o7 := by simp only [IntKind.wrap, IntKind.bits, IntKind.signed]; simp; omega
        have u4 : IntKind.i64.wrap b3 = b3 := by simp only [IntKind.wrap_i64]; omega
        have u5 : IntKind.i64.wrap p5 = p5 := by simp only [IntKind.wrap_i64]; omega
        have u6 : IntKind.i64.wrap o7 = o7 := by simp only [IntKind.wrap_i64]; omega
        clear hb3 hp5 ho7
        obtain ⟨now2, hnow2⟩ : ∃ r, now + (1 + b3) = r := ⟨_, rfl⟩
        have n20 : 10 ≤ now2 := by omega
        have n23 : now ≤ now2 := by omega
        have n21 : now2 ≤ 65545 + 3 * ((i : Int) + 1) := by omega
        have n22 : now2 ≤ 70000 := by omega
        have w1_ : IntKind.i64.wrap (1 + b3) = 1 + b3 := by simp only [IntKind.wrap_i64]; omega
        have w2_ : IntKind.i64.wrap now2 = now2 := by simp only [IntKind.wrap_i64]; omega
        have w3_ : IntKind.i64.wrap (now2 - 3) = now2 - 3 := by simp only [IntKind.wrap_i64]; omega
        have w4_ : IntKind.i64.wrap (now2 - 5) = now2 - 5 := by simp only [IntKind.wrap_i64]; omega
        have w5_ : IntKind.i64.wrap (now2 - 3 + p5) = now2 - 3 + p5 := by simp only [IntKind.wrap_i64]; omega
        have w6_ : IntKind.i64.wrap (now2 - 5 + o7) = now2 - 5 + o7 := by simp only [IntKind.wrap_i64]; omega
        have HOF : Hid (∀ w', Keeps No w w' → Calls Try.prog 20 #[.slice xa xn xc, .bool false] w' fun e w'' => ∃ va vb, e = .returned (.tuple #[va, vb]) ∧ SlPi w'' va (ofL false xl) ∧ SlLi w'' vb (ofL false xl) ∧ (∀ k, va.ownBlock = some k → w'.heap.size ≤ k) ∧ (∀ k, vb.ownBlock = some k → w'.heap.size ≤ k) ∧ Keeps No w' w'') := hid (fun w' k => by
          have hlm : xl.length ≤ 1000000 := by rw [HXN.out]; omega
          have h := of_false (ao := xa) (cap := xc) (l := xl) (w := w') (by rw [HXN.out]; exact HXS.out.keep k (fun _ _ h => h)) HXG.out hlm
          rw [HXN.out] at h
          exact h)
        have HLL := hid (ofL_len false xl)
        have HPR := hid (ofL_pri false HXG.out)
        have HUN := hid (ofL_unlike false xl)
        obtain ⟨q, hq⟩ : ∃ q, ofL false xl = q := ⟨_, rfl⟩
        rw [hq] at HOF HLL HPR HUN
        clear hq
        have HB1000 : Hid (q.length ≤ 1000) := hid (by have := HLL.out; omega)
        have HPB : Hid (∀ x ∈ q, 0 ≤ x.pri ∧ x.pri ≤ 255) := hid (fun x hx => by have := HPR.out x hx; omega)
        go_upto_region 11 with fail
        try rw [hnow2]
        clear hnow2
        go_wp2_with fail
        refine (HOF.out _ HK.out).mono ?_
        rintro e w5 ⟨va, vb, rfl, hva, hvb, hna, hnb, k5⟩
        obtain ⟨aa, ac, rfl⟩ := hva.any
        obtain ⟨ba, bc, rfl⟩ := hvb.any
        obtain ⟨n, hn⟩ : ∃ n, q.length = n := ⟨_, rfl⟩
        have HQL := hid hn
        have HVA : Hid (SlPi w5 (.slice aa n ac) q) := hid (by rw [← hn]; exact hva)
        have HVB : Hid (SlLi w5 (.slice ba n bc) q) := hid (by rw [← hn]; exact hvb)
        have HNA : Hid (0 < q.length → ∀ k, (Value.slice aa n ac).ownBlock = some k → ¬ k = pb) := hid (fun h0 k hk e => by rw [← hn] at hk; have h1 := hna k hk; have h2 := HP.out.lt; omega)
        have HNQ : Hid (0 < q.length → ∀ k, (Value.slice aa n ac).ownBlock = some k → ¬ k = qb) := hid (fun h0 k hk e => by rw [← hn] at hk; have h1 := hna k hk; have h2 := HQ.out.lt; omega)
        have HP5 := hid (HP.out.keep k5 (fun h => h))
        have HQ5 := hid (HQ.out.kept k5)
        have K5 := hid (HK.out.trans k5)
        rw [hn]
        clear hva hvb hna hnb k5 hn c0 c1
        have c2 := K5.out.cell (fun h => h) C2.out
        have c3 := K5.out.cell (fun h => h) C3.out
        obtain ⟨ti, hti⟩ : ∃ r, now2 - 3 + p5 = r := ⟨_, rfl⟩
        obtain ⟨ho, hho⟩ : ∃ r, now2 - 5 + o7 = r := ⟨_, rfl⟩
        rw [hti] at w5_
        rw [hho] at w6_
        go_wp2_with fail
        first | go_region_held3 (fun w' => w'.cell? ⟨g, off + i * 4 + 2, none⟩ = some (.int .u8 p) ∧ w'.cell? ⟨g, off + i * 4 + 3, none⟩ = some (.int .u8 oo)) (first | with_reducible exact ⟨c2, c3⟩ | with_reducible exact ⟨cellDr c2, cellDr c3⟩ | with_reducible exact ⟨cellA _ c2, cellA _ c3⟩ | with_reducible exact ⟨cellDr (cellA _ c2), cellDr (cellA _ c3)⟩ | (go_keep; done)) (fail) | fail
        clear c2 c3
        obtain ⟨hb, hhb⟩ : ∃ r, w5.heap.size = r := ⟨_, rfl⟩
        obtain ⟨W6, hW6⟩ : ∃ r, (w5.alloc (.cells #[.int .i64 ti, .int .i64 ho, .int .u8 0] 62)).drew = r := ⟨_, rfl⟩
        rw [hhb, hW6]
        have HH6 : Hid (Bk W6 hb 62 [.int .i64 ti, .int .i64 ho, .int .u8 0]) := hid (by rw [← hW6]; exact Bk.drew (Bk.new hhb _ _))
        have HP6 : Hid (POb W6 pb ⟨qa, qc⟩) := hid (by rw [← hW6]; exact Bk.drew (Bk.alloc HP5.out _))
        have HQ6 : Hid (Bk W6 qb 58 [.int .u8 qa, .int .i64 qc]) := hid (by rw [← hW6]; exact (HQ5.out.alloc _).drew)
        have KH : Hid (Keeps No w5 W6) := hid (by rw [← hW6]; exact ((Keeps.refl No w5).alloc _).drew)
        have K6 := hid (K5.out.trans KH.out)
        have HHP : Hid (¬ hb = pb ∧ ¬ hb = qb) := hid ⟨by have := HP5.out.lt; omega, by have := HQ5.out.lt; omega⟩
        have HVA6 := hid (HVA.out.keep KH.out (fun _ _ h => h))
        have HVB6 := hid (HVB.out.keep KH.out (fun _ _ h => h))
        clear hhb hW6
        have hqI : I64 qc := by have := HQC.out; exact ⟨by omega, by omega⟩
        have hnI : I64 now2 := ⟨by omega, by omega⟩
        have HSHOW := hid (fun (w' : World) (k : Keeps No W6 w') => mshow_any (w := w') (l := q) (HVB6.out.keep k (fun _ _ h => h)) HB1000.out HPB.out qa qc now2 ti ho 0 hqI hnI)
        have HPSH := hid (fun (w' : World) (k : Keeps (fun i => i = qb) W6 w') => pshow_any (w := w') (l := q) (HVA6.out.keep' k (fun h0 i hi h' e => HNQ.out h0 i hi e)) HB1000.out HPB.out HUN.out (HP6.out.keep k (fun e => HPQ.out e)) now2 ti ho 0 hqI hnI HNA.out)
        have HBG : Hid (0 ≤ (showP ⟨qa, qc⟩ now2 q ⟨ti, ho, 0⟩).began ∧ (showP ⟨qa, qc⟩ now2 q ⟨ti, ho, 0⟩).began ≤ now2) := hid (showP_began (by have := HQC.out; simp only; omega) (by omega))
        unfold ShowPost at HSHOW
        obtain ⟨⟨ra, rb⟩, hr⟩ : ∃ r, showP ⟨qa, qc⟩ now2 q ⟨ti, ho, 0⟩ = r := ⟨_, rfl⟩
        obtain ⟨⟨tk, dl, au, so, pa9, of9⟩, hd⟩ : ∃ r, showD ⟨qa, qc⟩ now2 q ⟨ti, ho, 0⟩ = r := ⟨_, rfl⟩
        simp only [hr, hd] at HSHOW HPSH HBG
        simp only [PanelD.val, OutD.val] at HSHOW HPSH
        clear hr hd hqI hnI hti hho
        have h0 := HH6.out.cell 0 rfl
        have h1 := HH6.out.cell 1 rfl
        have h2 := HH6.out.cell 2 rfl
        have q0 := HQ6.out.cell 0 rfl
        have q1 := HQ6.out.cell 1 rfl
        go_wp2_with fail
        refine (HSHOW.out _ (Keeps.refl _ _)).mono ?_
        rintro e w7 ⟨mv, rfl, hmv, k7, hnm⟩
        obtain ⟨ma, mc, rfl⟩ := hmv.any
        have HNM : Hid (0 < (lampsD q).length → ∀ k, (Value.slice ma (lampsD q).length mc).ownBlock = some k → ¬ k = qb) := hid (fun h0 k hk e => by have h1 := hnm h0 k hk; have h2 := HQ6.out.lt; omega)
        have HNMP : Hid (0 < (lampsD q).length → ∀ k, (Value.slice ma (lampsD q).length mc).ownBlock = some k → ¬ k = pb) := hid (fun h0 k hk e => by have h1 := hnm h0 k hk; have h2 := HP6.out.lt; omega)
        clear hnm
        have HML := hid hmv
        have K7 := hid k7
        clear hmv k7 h0 h1 h2 q0 q1
        have HQ7 := hid (HQ6.out.kept K7.out)
        obtain ⟨kb, hkb⟩ : ∃ r, w7.heap.size = r := ⟨_, rfl⟩
        obtain ⟨W8, hW8⟩ : ∃ r, (w7.alloc (.cells #[.int .u8 ra, .int .i64 rb] 58)).alloc (.cells #[.int .i64 tk, .slice ma (lampsD q).length mc, .int .u8 au, .bool so, .bool pa9, .bool of9] 43) = r := ⟨_, rfl⟩
        have HKB8 : Hid (Bk W8 kb 58 [.int .u8 ra, .int .i64 rb]) := hid (by rw [← hW8]; exact (Bk.new hkb _ _).alloc _)
        have HWB8 : Hid (Bk W8 (kb + 1) 43 [.int .i64 tk, .slice ma (lampsD q).length mc, .int .u8 au, .bool so, .bool pa9, .bool of9]) := hid (by rw [← hW8]; exact Bk.new (by simp [hkb]) _ _)
        have K78 : Hid (Keeps No w7 W8) := hid (by rw [← hW8]; exact ((Keeps.refl No w7).alloc _).alloc _)
        have HNE : Hid (¬ hb = qb ∧ ¬ kb = qb ∧ ¬ kb + 1 = qb ∧ ¬ kb + 1 = pb) := hid ⟨HHP.out.2, by have := HQ7.out.lt; omega, by have := HQ7.out.lt; omega, by have h1 := HP6.out.lt; have h2 := K7.out.size; omega⟩
        have HKBH := hid hkb
        have HW8H := hid hW8
        clear hkb hW8
        go_upto_region 14 with fail
        rw [HKBH.out, HW8H.out]
        clear HKBH HW8H
        have HQ8 := hid (HQ7.out.kept K78.out)
        have q0 := HQ8.out.cell 0 rfl
        have q1 := HQ8.out.cell 1 rfl
        have qf0 := HQ8.out.free 0
        have qf1 := HQ8.out.free 1
        have r0 := HKB8.out.cell 0 rfl
        have r1 := HKB8.out.cell 1 rfl
        obtain ⟨W9, hW9⟩ : ∃ r, (W8.setCell ⟨qb, 0, none⟩ (.int .u8 ra)).setCell ⟨qb, 1, none⟩ (.int .i64 rb) = r := ⟨_, rfl⟩
        have HQ9 : Hid (Bk W9 qb 58 [.int .u8 ra, .int .i64 rb]) := hid (by rw [← hW9]; exact (HQ8.out.put 0 _ rfl).put 1 _ rfl)
        have K89 : Hid (Keeps (fun i => i = qb) W8 W9) := hid (by rw [← hW9]; exact ((Keeps.refl (fun i => i = qb) W8).setCell (p := ⟨qb, 0, none⟩) (Or.inr rfl) _).setCell (p := ⟨qb, 1, none⟩) (Or.inr rfl) _)
        have HW9H := hid hW9
        clear hW9
        go_upto_region 15 with fail
        rw [HW9H.out]
        clear HW9H q0 q1 qf0 qf1 r0 r1
        have K69 : Hid (Keeps (fun i => i = qb) W6 W9) := hid ((K7.out.trans K78.out).no.trans K89.out)
        have HH9 := hid (HH6.out.keep K69.out (fun e => HHP.out.2 e))
        have HWB9 := hid (HWB8.out.keep K89.out (fun e => HNE.out.2.2.1 e))
        have HML9 : Hid (SlLa W9 (.slice ma (lampsD q).length mc) (lampsD q)) := hid ((HML.out.keep K78.out (fun _ _ h => h)).keep' K89.out (fun h0 i hi h' e => by have h1 := Sl.lt HML.out h0 i hi; have h2 := HQ7.out.lt; exact HNM.out h0 i hi e))
        obtain ⟨ln, hln⟩ : ∃ r, (lampsD q).length = r := ⟨_, rfl⟩
        have HLN := hid hln
        have HL1000 : Hid ((lampsD q).length ≤ 1000) := hid (by have h1 := lampsD_len q; have h2 := HB1000.out; omega)
        have HPS9 : Hid (∀ (w' : World), Keeps No W9 w' → Calls Try.prog 29 #[.pointer (some ⟨pb, 0, none⟩), .int .i64 now2, .slice aa n ac, .agg #[.int .i64 ti, .int .i64 ho, .int .u8 0]] w' fun e w'' => ∃ la lc, e = .returned (.agg #[.int .i64 tk, .slice la ln lc, .int .u8 au, .bool so, .bool pa9, .bool of9]) ∧ SlLa w'' (.slice la ln lc) (lampsD q) ∧ POb w'' pb ⟨ra, rb⟩ ∧ Keeps (fun i => i = pb) w' w'') := hid (fun w' k => by
          refine (HPSH.out w' (K69.out.trans k.no)).mono ?_
          rintro e w'' ⟨lv, rfl, hsl, _, hb9, kk⟩
          obtain ⟨la, lc, rfl⟩ := hsl.any
          rw [hln] at hsl ⊢
          exact ⟨la, lc, rfl, hsl, hb9, kk⟩)
        rw [hln] at HWB9
        have HML9' : Hid (Sl W9 5 (.slice ma ln mc) ln ((lampsD q).flatMap encLa)) := hid (by have h := HML9.out; unfold SlLa at h; rw [hln] at h; exact h)
        rw [hln] at HNMP
        clear hln HML9
        have x0_0 := HH9.out.cell 0 rfl
        have x0_1 := HH9.out.cell 1 rfl
        have x0_2 := HH9.out.cell 2 rfl
        have x1_0 := HWB9.out.cell 0 rfl
        have x1_1 := HWB9.out.cell 1 rfl
        have x1_2 := HWB9.out.cell 2 rfl
        have x1_3 := HWB9.out.cell 3 rfl
        have x1_4 := HWB9.out.cell 4 rfl
        have x1_5 := HWB9.out.cell 5 rfl
        first | go_region_held3 (fun w' => w'.cell? ⟨hb, 0, none⟩ = some (.int .i64 ti) ∧ w'.cell? ⟨hb, 1, none⟩ = some (.int .i64 ho) ∧ w'.cell? ⟨hb, 2, none⟩ = some (.int .u8 0) ∧ w'.cell? ⟨(kb + 1), 0, none⟩ = some (.int .i64 tk) ∧ w'.cell? ⟨(kb + 1), 1, none⟩ = some (.slice ma ln mc) ∧ w'.cell? ⟨(kb + 1), 2, none⟩ = some (.int .u8 au) ∧ w'.cell? ⟨(kb + 1), 3, none⟩ = some (.bool so) ∧ w'.cell? ⟨(kb + 1), 4, none⟩ = some (.bool pa9) ∧ w'.cell? ⟨(kb + 1), 5, none⟩ = some (.bool of9)) (first | with_reducible exact ⟨x0_0, x0_1, x0_2, x1_0, x1_1, x1_2, x1_3, x1_4, x1_5⟩ | with_reducible exact ⟨cellDr x0_0, cellDr x0_1, cellDr x0_2, cellDr x1_0, cellDr x1_1, cellDr x1_2, cellDr x1_3, cellDr x1_4, cellDr x1_5⟩ | (go_keep; done)) (first | (go_at_call 29; (with_reducible refine (HPS9.out _ (by repeat' (first | with_reducible exact Keeps.refl _ _ | with_reducible assumption | with_reducible refine Keeps.drewN ?_ _ | with_reducible refine Keeps.drew ?_ | with_reducible refine Keeps.alloc ?_ _))).mono ?_); rintro e w9 ⟨la, lc, rfl, hsl, hb9, k⟩; have kk : Keeps (fun i => i = pb) W9 w9 := Keeps.trans (Keeps.no (by repeat' (first | with_reducible exact Keeps.refl _ _ | with_reducible assumption | with_reducible refine Keeps.drewN ?_ _ | with_reducible refine Keeps.drew ?_ | with_reducible refine Keeps.alloc ?_ _))) k; have HKK := hid kk; have HB9 := hid hb9; have HLV9 := hid hsl; have HWBA := hid (HWB9.out.keep kk (fun e => HNE.out.2.2.2 e)); have HHA := hid (HH9.out.keep kk (fun e => HHP.out.1 e)); have HMLA : Hid (SlLa w9 (.slice ma ln mc) (lampsD q)) := hid (by unfold SlLa; rw [HLN.out]; exact HML9'.out.keep' kk (fun h0 i hi h' e => HNMP.out h0 i hi e)); have HSAME := hid (fun (w' : World) (k : Keeps No w9 w') => msameO_true (HLV9.out.keep k (fun _ _ h => h)) (HMLA.out.keep k (fun _ _ h => h)) HL1000.out tk au so pa9 of9); have x0_0 := HHA.out.cell 0 rfl; have x0_1 := HHA.out.cell 1 rfl; have x0_2 := HHA.out.cell 2 rfl; have x1_0 := HWBA.out.cell 0 rfl; have x1_1 := HWBA.out.cell 1 rfl; have x1_2 := HWBA.out.cell 2 rfl; have x1_3 := HWBA.out.cell 3 rfl; have x1_4 := HWBA.out.cell 4 rfl; have x1_5 := HWBA.out.cell 5 rfl; clear k kk hsl hb9) | (go_at_call 21; (with_reducible refine (HSAME.out _ (by repeat' (first | with_reducible exact Keeps.refl _ _ | with_reducible assumption | with_reducible refine Keeps.drewN ?_ _ | with_reducible refine Keeps.drew ?_ | with_reducible refine Keeps.alloc ?_ _))).mono ?_); rintro e wz ⟨rfl, kz⟩; have HKZ : Hid (Keeps No w9 wz) := hid (Keeps.trans (by repeat' (first | with_reducible exact Keeps.refl _ _ | with_reducible assumption | with_reducible refine Keeps.drewN ?_ _ | with_reducible refine Keeps.drew ?_ | with_reducible refine Keeps.alloc ?_ _)) kz); have HHZ := hid (HHA.out.keep HKZ.out (fun h => h)); have HWBZ := hid (HWBA.out.keep HKZ.out (fun h => h)); have x0_0 := HHZ.out.cell 0 rfl; have x0_1 := HHZ.out.cell 1 rfl; have x0_2 := HHZ.out.cell 2 rfl; have x1_0 := HWBZ.out.cell 0 rfl; have x1_1 := HWBZ.out.cell 1 rfl; have x1_2 := HWBZ.out.cell 2 rfl; have x1_3 := HWBZ.out.cell 3 rfl; have x1_4 := HWBZ.out.cell 4 rfl; have x1_5 := HWBZ.out.cell 5 rfl; clear kz)) | fail
        all_goals
          go_wp2_with fail
          go_roundw
          case rel =>
            have KF : Keeps No w wz := ((K6.out.trans' K69.out (fun _ _ h => h) (fun i hi e => by have := HQN.out; omega)).trans' HKK.out (fun _ _ h => h) (fun i hi e => by have := HPN.out; omega)).trans HKZ.out
            exact ⟨i + 1, now2, ra, rb, by omega, by go_num, rfl, n20, by omega, HBG, hid (HB9.out.keep HKZ.out (fun h => h)), hid ((HQ9.out.keep HKK.out (fun e => HPQ.out e.symm)).kept HKZ.out), hid KF⟩
          case measure => simp [intOf]; omega
    · obtain rfl : i = N := by omega
      go_wp2_with fail
      go_ret
      exact ⟨rfl, HK.out.toBelow⟩

theorem own : ownKnob Try.prog.godebug = none := by kernel_rfl
theorem laidOut : laidOutB Try.prog = true := by kernel_rfl
set_option maxRecDepth 100000 in
theorem lifted (os : Os) (started : os.Started) (H : Type) (enc : TypeId × Value → H) :
    ReturnsInHanded {} Try.checked os 9 .any (Rows.panelShowsSpec.pre6 enc Try.prog Try.f9 Rows.panelShowsRow.domain false) (Rows.panelShowsSpec.post enc Try.prog Try.f9 false true false false) := by
  refine returnsInHanded_of_change (C := Try.checked) own started (by kernel_rfl) Try.func9
    (ChangeSpec.witness6 (enc := enc) (C := Try.checked) false ⟨#[], #[.slice none 0 0, .int .u16 0], []⟩ 8 (by kernel_rfl) (by kernel_rfl) (by kernel_rfl) (by kernel_rfl)) ?_
  intro W base args ds gs before hval0 hW hcnd _
  have hval : ∀ (j : Nat) t v, Try.f9.params[j]? = some t → args[j]? = some v → Value.okWide Try.prog W .any base t v := hval0
  have hW' := hW
  obtain ⟨p, q, hA0, hV, rfl, hfz, hnd⟩ := hW
  have hA : DataW.TrodAll enc Try.prog W 0 (fun _ => true) true Try.f9.params.toList args.toList ds p := hA0
  rw [Try.params9] at hA hval
  obtain ⟨v0, vs0, d0, ds0, p0, q0, hargs, rfl, rfl, h0, r0⟩ := trodAll_cons hA
  obtain ⟨v1, vs1, d1, ds1, p1, q1, rfl, rfl, rfl, h1, r1⟩ := trodAll_cons r0
  obtain ⟨rfl, rfl, rfl⟩ := trodAll_nil r1
  obtain rfl : args = #[v0, v1] := by cases args; simp_all
  obtain ⟨rfl, rfl⟩ := trodVars_none hV
  have k0 := h0
  have lt0 : ∀ x ∈ p0, x.block < W.heap.size := by obtain ⟨m, hm⟩ := k0; exact DataW.trod_lt m _ _ _ hm
  have k1 := h1
  have lt1 : ∀ x ∈ p1, x.block < W.heap.size := by obtain ⟨m, hm⟩ := k1; exact DataW.trod_lt m _ _ _ hm
  obtain ⟨s0, len0, cap0, rfl⟩ := okWide_slice Try.underlying53 (hval 0 53 v0 rfl rfl)
  obtain ⟨l0, rfl, w0, b0⟩ := argSlice (encE := encT20) (good := (goodT20 W)) (size := 4) (fun _ => rfl) (by decide) Try.underlying53 (by kernel_rfl) (fun n cs x hx => decT20 hx) h0
  obtain ⟨a1, rfl, rfl, rfl, w1⟩ := open_int Try.underlying54 (hval 1 54 v1 rfl rfl) h1
  clear hA0 hval0
  refine (walk W s0 cap0 l0 w0 b0 a1 w1).mono fun e W' ⟨he, bel⟩ => ?_
  subst he
  exact ⟨_, rfl, _, _, _, [], _, [], hW', trodAll_mk1 (shut_bool Try.underlying4 _), (trodAll_cons_mk (Below.trod laidOut (by kernel_rfl) (of_decide_eq_true (by kernel_rfl)) k0 bel lt0) (trodAll_cons_mk (Below.trod laidOut (by kernel_rfl) (of_decide_eq_true (by kernel_rfl)) k1 bel lt1) trodAll_mk0)), rfl, bel.frame _, fun h => by cases h⟩

theorem over : Rows.panelShowsRow.holds Try.pinned (OpenSpec.ofChange Rows.panelShowsSpec) :=
  OpenClaim.holds_of_wide 9 Try.f9 rfl rfl rfl rfl rfl rfl rfl ⟨rfl, rfl, rfl, rfl, rfl⟩ rfl rfl rfl rfl rfl (by kernel_rfl) Try.func9 (by kernel_rfl)
    (of_decide_eq_true (by kernel_rfl)) (by unfold Func.isWrapper; first | (rw [if_pos (by decide +kernel)]; kernel_rfl) | (rw [if_neg (by decide +kernel)]; exact ⟨rfl, rfl⟩))
    (fun os started H enc _ => lifted os started H enc)

theorem proved : Rows.PanelShowsSaid := over
#print axioms proved
end Go.Proofs.Ytnmlaobiljmgaaa.panelShows
