/-
  What is shown and heard: the document's.
-/
import Derived.Test.YtnmlaobiljmgaaaPanL
namespace Go.Proofs.Ytnmlaobiljmgaaa
open Go.RowKit
set_option linter.unusedVariables false

theorem imp3 {p q : Prop} (h : p) (k : p → q) : q := k h
def OutD.val (o : OutD) (lv : Value) : Value := .agg #[.int .i64 o.tick, lv, .int .u8 o.audio, .bool o.sound, .bool o.paused, .bool o.off]
def PanelD.val (p : PanelD) : Value := .agg #[.int .u8 p.audio, .int .i64 p.began]
def ShowPost (w w' : World) (e : Ending) (p : PanelD) (now : Int) (l : List LightD) (h : HushD) : Prop :=
  ∃ lv, e = .returned (.tuple #[(showP p now l h).val, (showD p now l h).val lv]) ∧ SlLa w' lv (lampsD l) ∧ Keeps No w w' ∧ (0 < (lampsD l).length → ∀ k, lv.ownBlock = some k → w.heap.size ≤ k)

set_option maxHeartbeats 16000000 in
set_option maxRecDepth 100000 in
theorem mshow_any {w : World} {v : Value} {l : List LightD} (h : SlLi w v l) (hl : l.length ≤ 1000) (hb : ∀ x ∈ l, 0 ≤ x.pri ∧ x.pri ≤ 255) (pa pb now ti ho hm : Int) (hpb : I64 pb) (hn : I64 now) :
    Calls Try.prog 28 #[.agg #[.int .u8 pa, .int .i64 pb], .int .i64 now, v, .agg #[.int .i64 ti, .int .i64 ho, .int .u8 hm]] w fun e w' => ShowPost w w' e ⟨pa, pb⟩ now l ⟨ti, ho, hm⟩ := by
  have HS := hid h
  have HB := hid hb
  obtain ⟨z, hz⟩ : ∃ z, w.heap.size = z := ⟨_, rfl⟩
  obtain ⟨W, hW⟩ : ∃ W, (((w.alloc (.cells #[.int .u8 pa, .int .i64 pb] 58)).alloc (.cells #[.int .i64 ti, .int .i64 ho, .int .u8 hm] 65)).alloc (.cells #[.int .u8 0, .int .i64 0] 58)).alloc (.cells #[.int .i64 0, .slice none 0 0, .int .u8 0, .bool false, .bool false, .bool false] 43) = W := ⟨_, rfl⟩
  have B0 : Hid (Bk W z 58 [.int .u8 pa, .int .i64 pb]) := hid (by rw [← hW]; exact (((Bk.new hz _ _).alloc _).alloc _).alloc _)
  have B1 : Hid (Bk W (z + 1) 65 [.int .i64 ti, .int .i64 ho, .int .u8 hm]) := hid (by rw [← hW]; exact ((Bk.new (by simp [hz]) _ _).alloc _).alloc _)
  have B2 : Hid (Bk W (z + 1 + 1) 58 [.int .u8 0, .int .i64 0]) := hid (by rw [← hW]; exact (Bk.new (by simp [hz]) _ _).alloc _)
  have B3 : Hid (Bk W (z + 1 + 1 + 1) 43 [.int .i64 0, .slice none 0 0, .int .u8 0, .bool false, .bool false, .bool false]) := hid (by rw [← hW]; exact Bk.new (by simp [hz]) _ _)
  have KW : Hid (Keeps No w W) := hid (by rw [← hW]; exact ((((Keeps.refl _ _).alloc _).alloc _).alloc _).alloc _)
  have hWs : W.heap.size = z + 4 := by rw [← hW]; simp [hz]
  have hzw : ¬ z + 1 = W.heap.size := by omega
  have HWS := hid hWs
  have HL : Hid (∀ (w' : World), Keeps No W w' → Calls Try.prog 23 #[v] w' fun e w'' => ∃ v', e = .returned v' ∧ SlLa w'' v' (lampsD l) ∧ Keeps No w' w'' ∧ (∀ k, v'.ownBlock = some k → w'.heap.size ≤ k) ∧ ∀ k, v'.ownBlock = some k → W.heap.size ≤ k) := hid (fun w' k => (mlamps_any (HS.out.keep (KW.out.trans k) (fun _ _ h => h)) hl).mono (fun e w'' h => by
    obtain ⟨v', h1, h2, h3, h4⟩ := h
    exact ⟨v', h1, h2, h3, h4, fun i hi => Nat.le_trans k.size (h4 i hi)⟩))
  obtain ⟨bp, hbp⟩ : ∃ q, decide (now < ti) = q := ⟨_, rfl⟩
  obtain ⟨bo, hbo⟩ : ∃ q, decide (now < ho) = q := ⟨_, rfl⟩
  have HBP := hid hbp
  have HBO := hid hbo
  have HN := hid hn
  have HZ := hid hz
  have HPB := hid hpb
  clear h hb hWs hn hpb
  go_enter Try.func28, Try.ntmps28
  go_upto_region 1 with fail
  try rw [hz]
  try rw [hW]
  clear hz hW
  have h0 := B1.out.cell 0 rfl
  have h1 := B1.out.cell 1 rfl
  go_cut [10] from 11 to 22 (fun v10 wx => ∃ ob la lc ln, v10 = .pointer (some ⟨ob, 0, none⟩) ∧ Hid (Bk wx ob 43 [.int .i64 now, .slice la ln lc, .int .u8 0, .bool false, .bool bp, .bool bo]) ∧ Hid (Keeps No W wx) ∧ Hid ((lampsD l).length = ln) ∧ Hid (Sl wx 5 (.slice la ln lc) ln ((lampsD l).flatMap encLa)) ∧ Hid (W.heap.size ≤ ob) ∧ Hid (0 < ln → ∀ k, (Value.slice la ln lc).ownBlock = some k → W.heap.size ≤ k ∧ ¬ k = ob))
  case first =>
    first | go_region_held3 (fun w' => w'.cell? ⟨z + 1, 0, none⟩ = some (.int .i64 ti) ∧ w'.cell? ⟨z + 1, 1, none⟩ = some (.int .i64 ho)) (first | with_reducible exact ⟨h0, h1⟩ | with_reducible exact ⟨cellDr h0, cellDr h1⟩ | with_reducible exact ⟨cellA _ h0, cellA _ h1⟩ | with_reducible exact ⟨cellDr (cellA _ h0), cellDr (cellA _ h1)⟩ | exact ⟨((((((Keeps.refl (fun i => i = W.heap.size) w9).at).at).at).at).at).at.cell (fun e => hzw e) h0, ((((((Keeps.refl (fun i => i = W.heap.size) w9).at).at).at).at).at).at.cell (fun e => hzw e) h1⟩ | (go_keep; done)) ((go_at_call 23; (with_reducible refine (HL.out _ (by repeat' (first | with_reducible exact Keeps.refl _ _ | with_reducible assumption | with_reducible refine Keeps.drewN ?_ _ | with_reducible refine Keeps.drew ?_ | with_reducible refine Keeps.alloc ?_ _))).mono ?_); rintro e w9 ⟨lv, rfl, hsl, kp, hnw, hnW⟩; obtain ⟨la, lc, rfl⟩ := hsl.any; have kk : Keeps No W w9 := Keeps.trans (by repeat' (first | with_reducible exact Keeps.refl _ _ | with_reducible assumption | with_reducible refine Keeps.drewN ?_ _ | with_reducible refine Keeps.drew ?_ | with_reducible refine Keeps.alloc ?_ _)) kp; have h0 := kk.cell (fun h => h) (B1.out.cell 0 rfl); have h1 := kk.cell (fun h => h) (B1.out.cell 1 rfl); have HSL := hid hsl; have HKK := hid kk; have HNW9 := hid hnW; first | (refine imp3 (p := Keeps No (W.alloc (.cells #[.int .i64 0, .slice none 0 0, .int .u8 0, .bool false, .bool false, .bool false] 43)) w9 ∧ ∀ k, (Value.slice la (lampsD l).length lc).ownBlock = some k → ¬ k = W.heap.size) ?_ ?_; (focus (refine ⟨?_, fun k hk => ?_⟩; (focus (refine Keeps.trans ?_ kp; (repeat' (first | with_reducible exact Keeps.refl _ _ | with_reducible assumption | with_reducible refine Keeps.drewN ?_ _ | with_reducible refine Keeps.drew ?_ | with_reducible refine Keeps.alloc ?_ _)); done)); (have h7 := hnw k hk; simp at h7; omega))); intro kz; have hnb := (show Bk (W.alloc (.cells #[.int .i64 0, .slice none 0 0, .int .u8 0, .bool false, .bool false, .bool false] 43)) W.heap.size 43 [.int .i64 0, .slice none 0 0, .int .u8 0, .bool false, .bool false, .bool false] from Bk.new rfl _ _).kept kz.1; have HNS := hid kz.2; have n0 := hnb.cell 0 rfl; have n1 := hnb.cell 1 rfl; have n2 := hnb.cell 2 rfl; have n3 := hnb.cell 3 rfl; have n4 := hnb.cell 4 rfl; have n5 := hnb.cell 5 rfl; have e0 := hnb.free 0; have e1 := hnb.free 1; have e2 := hnb.free 2; have e3 := hnb.free 3; have e4 := hnb.free 4; have e5 := hnb.free 5; have HNB := hid hnb; clear hnb kz) | skip; clear kp hsl kk hnw hnW)) | fail
    all_goals
      go_wp2_with fail
      go_meet
      first
        | (have b1 := (((((HNB.out.put 0 (.int .i64 now) rfl).put 1 (.slice la (lampsD l).length lc) rfl).put 2 (.int .u8 0) rfl).put 3 (.bool false) rfl).put 4 (.bool bp) rfl).put 5 (.bool bo) rfl
           have k1 := ((((((Keeps.refl (fun i => i = W.heap.size) w9).setCell (p := ⟨W.heap.size, 0, none⟩) (Or.inr rfl) (.int .i64 now)).setCell (p := ⟨W.heap.size, 1, none⟩) (Or.inr rfl) (.slice la (lampsD l).length lc)).setCell (p := ⟨W.heap.size, 2, none⟩) (Or.inr rfl) (.int .u8 0)).setCell (p := ⟨W.heap.size, 3, none⟩) (Or.inr rfl) (.bool false)).setCell (p := ⟨W.heap.size, 4, none⟩) (Or.inr rfl) (.bool bp)).setCell (p := ⟨W.heap.size, 5, none⟩) (Or.inr rfl) (.bool bo)
           have k2 := HKK.out.trans' k1 (T := No) (fun _ _ h => h.elim) (fun i hi e => by have e' : i = W.heap.size := e; omega)
           exact ⟨W.heap.size, la, lc, _, rfl, hid b1, hid k2, hid rfl, hid (Sl.keep HSL.out k1 (fun i hi e => HNS.out i hi e)), hid (Nat.le_refl _), hid (fun _ k hk => ⟨HNW9.out k hk, HNS.out k hk⟩)⟩)
        | (have b1 := Bk.new (w := w9) rfl [.int .i64 now, .slice la (lampsD l).length lc, .int .u8 0, .bool false, .bool bp, .bool bo] 43
           have k2 := HKK.out.alloc (.cells #[.int .i64 now, .slice la (lampsD l).length lc, .int .u8 0, .bool false, .bool bp, .bool bo] 43)
           exact ⟨w9.heap.size, la, lc, _, rfl, hid b1, hid k2, hid rfl, hid (Sl.alloc HSL.out _), hid HKK.out.size, hid (fun h0 k hk => ⟨HNW9.out k hk, fun e => by have := Sl.lt HSL.out h0 k hk; omega⟩)⟩)
  case rest =>
  obtain ⟨ob, la, lc, ln, rfl, HO, HK, HLN, HSL, HOB, HAP⟩ := hcut
  have hob : z + 4 ≤ ob := by have h1 := HOB.out; have h2 := HWS.out; omega
  have HB0 := hid (B0.out.kept HK.out)
  have HB2 := hid (B2.out.kept HK.out)
  have HB3 := hid (B3.out.kept HK.out)
  have HHI := hid (fun (w' : World) (k : Keeps No w w') => mhigh_any (HS.out.keep k (fun _ _ h => h)) hl HB.out true)
  rw [fL_loud] at HHI
  obtain ⟨au, hau⟩ : ∃ q, audioD now l ⟨ti, ho, hm⟩ = q := ⟨_, rfl⟩
  have HAU := hid hau
  have HAUD : Hid (au = if bp || bo then 0 else highD loudL l) := hid (by rw [← hau, ← HBP.out, ← HBO.out]; unfold audioD; simp only; by_cases q1 : now < ti <;> by_cases q2 : now < ho <;> simp [q1, q2])
  clear hau h0 h1 hbp hbo
  have x0 := HO.out.cell 0 rfl
  have x1 := HO.out.cell 1 rfl
  have x2 := HO.out.cell 2 rfl
  have x3 := HO.out.cell 3 rfl
  have x4 := HO.out.cell 4 rfl
  have x5 := HO.out.cell 5 rfl
  go_upto_region 2 with fail
  go_cut [30] from 23 to 30 (fun v30 wx => v30 = .bool (!(bp || bo)) ∧ Hid (wx = wc))
  case first =>
    cases bp <;> cases bo
    all_goals
      go_wp2_with fail
      go_meet
      exact ⟨rfl, hid rfl⟩
  case rest =>
  obtain ⟨rfl, HWC⟩ := hcut
  have hwc := HWC.out
  subst hwc
  clear HWC
  obtain ⟨qq, hqq⟩ : ∃ qq, (!(bp || bo)) = qq := ⟨_, rfl⟩
  rw [hqq]
  have HQQ := hid hqq
  clear hqq
  go_upto_if 30 with fail
  obtain ⟨w2, rfl⟩ : ∃ y, y = wc := ⟨_, rfl⟩
  go_cut [] from 31 to 33 (fun wx => Hid (Bk wx ob 43 [.int .i64 now, .slice la ln lc, .int .u8 au, .bool false, .bool bp, .bool bo]) ∧ Hid (Keeps (fun i => i = ob) w2 wx))
  case first =>
    cases qq
    · have HA2 : Hid (au = 0) := hid (by rw [HAUD.out]; have := HQQ.out; cases hq : (bp || bo) <;> rw [hq] at this <;> simp_all)
      go_wp2_with fail
      go_meet
      exact ⟨hid (by rw [HA2.out]; exact HO.out), hid (Keeps.refl _ _)⟩
    · have HA2 : Hid (highD loudL l = au) := hid (by rw [HAUD.out]; have := HQQ.out; cases hq : (bp || bo) <;> rw [hq] at this <;> simp_all)
      rw [HA2.out] at HHI
      go_wp2_with fail
      refine (HHI.out _ (KW.out.trans HK.out)).mono ?_
      rintro e w9 ⟨rfl, k9⟩
      have HO9 := hid (HO.out.kept k9)
      have K9 := hid k9
      have g2 := HO9.out.cell 2 rfl
      have f2 := HO9.out.free 2
      clear k9 x0 x1 x2 x3 x4 x5
      go_wp2_with fail
      go_meet
      exact ⟨hid (HO9.out.put 2 _ rfl), hid ((K9.out.no : Keeps (fun i => i = ob) w2 w9).setCell (p := ⟨ob, 2, none⟩) (Or.inr rfl) _)⟩
  case rest =>
  obtain ⟨HO1, HK1⟩ := hcut
  obtain ⟨w3, rfl⟩ : ∃ y, y = wc := ⟨_, rfl⟩
  have HP1 := hid (HB0.out.keep HK1.out (fun e => by omega))
  have HR2 := hid (HB2.out.keep HK1.out (fun e => by omega))
  have HR3 := hid (HB3.out.keep HK1.out (fun e => by omega))
  clear x0 x1 x2 x3 x4 x5
  obtain ⟨qa, qb, hq⟩ : ∃ qa qb, showP ⟨pa, pb⟩ now l ⟨ti, ho, hm⟩ = ⟨qa, qb⟩ := ⟨_, _, rfl⟩
  have HQ : Hid ((⟨qa, qb⟩ : PanelD) = if au = pa then ⟨pa, pb⟩ else ⟨au, now⟩) := hid (by rw [← hq, ← HAU.out]; rfl)
  have HQ0 := hid hq
  clear hq
  have x2 := HO1.out.cell 2 rfl
  have y0 := HP1.out.cell 0 rfl
  go_upto_region 4 with fail
  go_cut [38] from 34 to 38 (fun v38 wx => v38 = .bool (au != pa) ∧ Hid (wx = w3))
  case first =>
    go_wp2_with fail
    go_meet
    exact ⟨rfl, hid rfl⟩
  case rest =>
  obtain ⟨rfl, HWC⟩ := hcut
  have hwc := HWC.out
  subst hwc
  clear HWC
  obtain ⟨qq, hqq⟩ : ∃ qq, (au != pa) = qq := ⟨_, rfl⟩
  rw [hqq]
  have HQQ := hid hqq
  clear hqq
  go_upto_if 38 with fail
  obtain ⟨w3, rfl⟩ : ∃ y, y = wc := ⟨_, rfl⟩
  go_cut [] from 39 to 42 (fun wx => Hid (Bk wx z 58 [.int .u8 qa, .int .i64 qb]) ∧ Hid (Keeps (fun i => i = z) w3 wx))
  case first =>
    cases qq
    · have HA2 : Hid (qa = pa ∧ qb = pb) := hid (by have h1 := HQ.out; have h2 : au = pa := by simpa using HQQ.out
                                                    rw [if_pos h2] at h1; injection h1 with h3 h4; exact ⟨h3, h4⟩)
      go_wp2_with fail
      go_meet
      exact ⟨hid (by rw [HA2.out.1, HA2.out.2]; exact HP1.out), hid (Keeps.refl _ _)⟩
    · have HA2 : Hid (qa = au ∧ qb = now) := hid (by have h1 := HQ.out; have h2 : ¬ au = pa := by simpa using HQQ.out
                                                     rw [if_neg h2] at h1; injection h1 with h3 h4; exact ⟨h3, h4⟩)
      have f0 := HP1.out.free 0
      have f1 := HP1.out.free 1
      have y1 := HP1.out.cell 1 rfl
      go_wp2_with fail
      go_meet
      exact ⟨hid (by rw [HA2.out.1, HA2.out.2]; exact (HP1.out.put 0 _ rfl).put 1 _ rfl), hid (((Keeps.refl (fun i => i = z) w3).setCell (p := ⟨z, 0, none⟩) (Or.inr rfl) _).setCell (p := ⟨z, 1, none⟩) (Or.inr rfl) _)⟩
  case rest =>
  obtain ⟨HP2, HK2⟩ := hcut
  obtain ⟨w4, rfl⟩ : ∃ y, y = wc := ⟨_, rfl⟩
  have HO2 := hid (HO1.out.keep HK2.out (fun e => by omega))
  have HS2 := hid (HR2.out.keep HK2.out (fun e => by omega))
  have HS3 := hid (HR3.out.keep HK2.out (fun e => by omega))
  clear x2 y0
  have hqb : I64 qb := by
    have h1 := HQ.out
    split at h1
    · injection h1 with h3 h4; rw [h4]; exact HPB.out
    · injection h1 with h3 h4; rw [h4]; exact HN.out
  have HSI := hid (fun w' => msince_any now qb w' HN.out hqb)
  obtain ⟨ph, hph⟩ : ∃ q, held (now - qb) = q := ⟨_, rfl⟩
  have hphI : I64 ph := by rw [← hph]; have := held_bd (now - qb); exact ⟨by omega, by omega⟩
  have HPH := hid hph
  rw [hph] at HSI
  have HSO := hid (fun w' => msound_any au ph w' hphI)
  obtain ⟨so, hso⟩ : ∃ q, soundD au ph = q := ⟨_, rfl⟩
  have HSD := hid hso
  rw [hso] at HSO
  clear hph hso hqb hphI
  have x2 := HO2.out.cell 2 rfl
  have x3 := HO2.out.cell 3 rfl
  have f3 := HO2.out.free 3
  have y1 := HP2.out.cell 1 rfl
  have hne1 : (⟨ob, 3, none⟩ : Addr) ≠ ⟨ob, 2, none⟩ := by simp
  have hne2 : (⟨ob, 3, none⟩ : Addr) ≠ ⟨z, 1, none⟩ := by simp
  go_upto_region 6 with fail
  first | go_region_held3 (fun w' => w'.cell? ⟨ob, 2, none⟩ = some (.int .u8 au) ∧ w'.cell? ⟨z, 1, none⟩ = some (.int .i64 qb)) (first | with_reducible exact ⟨x2, y1⟩ | with_reducible exact ⟨cellDr x2, cellDr y1⟩ | exact ⟨cellS hne1 x2, cellS hne2 y1⟩ | (go_keep; done)) (first | (go_at_call 37; (with_reducible refine (HSI.out _).mono ?_); rintro e w9 ⟨rfl, rfl⟩) | (go_at_call 14; (with_reducible refine (HSO.out _).mono ?_); rintro e w9 ⟨rfl, k9⟩; have kk : Keeps No w4 w9 := Keeps.trans (by repeat' (first | with_reducible exact Keeps.refl _ _ | with_reducible assumption | with_reducible refine Keeps.drewN ?_ _ | with_reducible refine Keeps.drew ?_ | with_reducible refine Keeps.alloc ?_ _)) k9; have HO9 := hid (HO2.out.kept kk); have KK := hid kk; have x2 := HO9.out.cell 2 rfl; have x3 := HO9.out.cell 3 rfl; have f3 := HO9.out.free 3; have y1 := kk.cell (fun h => h) y1; clear kk k9)) | fail
  obtain ⟨W5, hW5⟩ : ∃ q, w9.setCell ⟨ob, 3, none⟩ (.bool so) = q := ⟨_, rfl⟩
  have HO5 : Hid (Bk W5 ob 43 [.int .i64 now, .slice la ln lc, .int .u8 au, .bool so, .bool bp, .bool bo]) := hid (by rw [← hW5]; exact HO9.out.put 3 _ rfl)
  have K5 : Hid (Keeps (fun i => i = ob) w4 W5) := hid (by rw [← hW5]; exact (KK.out.no : Keeps (fun i => i = ob) w4 w9).setCell (p := ⟨ob, 3, none⟩) (Or.inr rfl) _)
  have HP5 := hid (HP2.out.keep K5.out (fun e => by omega))
  have HS5 := hid (HS2.out.keep K5.out (fun e => by omega))
  have HT5 := hid (HS3.out.keep K5.out (fun e => by omega))
  clear x2 x3 f3 y1
  go_upto_region 7 with fail
  try rw [hW5]
  clear hW5
  have p0 := HP5.out.cell 0 rfl
  have p1 := HP5.out.cell 1 rfl
  have o0 := HO5.out.cell 0 rfl
  have o1 := HO5.out.cell 1 rfl
  have o2 := HO5.out.cell 2 rfl
  have o3 := HO5.out.cell 3 rfl
  have o4 := HO5.out.cell 4 rfl
  have o5 := HO5.out.cell 5 rfl
  have r0 := HS5.out.cell 0 rfl
  have fr0 := HS5.out.free 0
  have r1 := HS5.out.cell 1 rfl
  have fr1 := HS5.out.free 1
  have t0 := HT5.out.cell 0 rfl
  have ft0 := HT5.out.free 0
  have t1 := HT5.out.cell 1 rfl
  have ft1 := HT5.out.free 1
  have t2 := HT5.out.cell 2 rfl
  have ft2 := HT5.out.free 2
  have t3 := HT5.out.cell 3 rfl
  have ft3 := HT5.out.free 3
  have t4 := HT5.out.cell 4 rfl
  have ft4 := HT5.out.free 4
  have t5 := HT5.out.cell 5 rfl
  have ft5 := HT5.out.free 5
  go_region
  all_goals
    go_wp2_with fail
    have hz23 : ¬ z + 1 + 1 = z + 1 + 1 + 1 := by omega
    have hz32 : ¬ z + 1 + 1 + 1 = z + 1 + 1 := by omega
    have b2 := ((((((((HS5.out.put 0 (.int .u8 qa) rfl).put 1 (.int .i64 qb) rfl).other (p := ⟨z + 1 + 1 + 1, 0, none⟩) hz23 (.int .i64 now)).other (p := ⟨z + 1 + 1 + 1, 1, none⟩) hz23 (.slice la ln lc)).other (p := ⟨z + 1 + 1 + 1, 2, none⟩) hz23 (.int .u8 au)).other (p := ⟨z + 1 + 1 + 1, 3, none⟩) hz23 (.bool so)).other (p := ⟨z + 1 + 1 + 1, 4, none⟩) hz23 (.bool bp)).other (p := ⟨z + 1 + 1 + 1, 5, none⟩) hz23 (.bool bo))
    have b3 := ((((((((HT5.out.other (p := ⟨z + 1 + 1, 0, none⟩) hz32 (.int .u8 qa)).other (p := ⟨z + 1 + 1, 1, none⟩) hz32 (.int .i64 qb)).put 0 (.int .i64 now) rfl).put 1 (.slice la ln lc) rfl).put 2 (.int .u8 au) rfl).put 3 (.bool so) rfl).put 4 (.bool bp) rfl).put 5 (.bool bo) rfl)
    have k8 := (((((((((Keeps.refl (fun i => i = z + 1 + 1 ∨ i = z + 1 + 1 + 1) W5).setCell (p := ⟨z + 1 + 1, 0, none⟩) (Or.inr (Or.inl rfl)) (.int .u8 qa)).setCell (p := ⟨z + 1 + 1, 1, none⟩) (Or.inr (Or.inl rfl)) (.int .i64 qb)).setCell (p := ⟨z + 1 + 1 + 1, 0, none⟩) (Or.inr (Or.inr rfl)) (.int .i64 now)).setCell (p := ⟨z + 1 + 1 + 1, 1, none⟩) (Or.inr (Or.inr rfl)) (.slice la ln lc)).setCell (p := ⟨z + 1 + 1 + 1, 2, none⟩) (Or.inr (Or.inr rfl)) (.int .u8 au)).setCell (p := ⟨z + 1 + 1 + 1, 3, none⟩) (Or.inr (Or.inr rfl)) (.bool so)).setCell (p := ⟨z + 1 + 1 + 1, 4, none⟩) (Or.inr (Or.inr rfl)) (.bool bp)).setCell (p := ⟨z + 1 + 1 + 1, 5, none⟩) (Or.inr (Or.inr rfl)) (.bool bo))
    obtain ⟨W8, hW8⟩ : ∃ q, ((((((((W5.setCell ⟨z + 1 + 1, 0, none⟩ (.int .u8 qa)).setCell ⟨z + 1 + 1, 1, none⟩ (.int .i64 qb)).setCell ⟨z + 1 + 1 + 1, 0, none⟩ (.int .i64 now)).setCell ⟨z + 1 + 1 + 1, 1, none⟩ (.slice la ln lc)).setCell ⟨z + 1 + 1 + 1, 2, none⟩ (.int .u8 au)).setCell ⟨z + 1 + 1 + 1, 3, none⟩ (.bool so)).setCell ⟨z + 1 + 1 + 1, 4, none⟩ (.bool bp)).setCell ⟨z + 1 + 1 + 1, 5, none⟩ (.bool bo)) = q := ⟨_, rfl⟩
    rw [hW8] at b2 b3 k8 ⊢
    clear hW8
    have s0 := b2.cell 0 rfl
    have s1 := b2.cell 1 rfl
    have u0 := b3.cell 0 rfl
    have u1 := b3.cell 1 rfl
    have u2 := b3.cell 2 rfl
    have u3 := b3.cell 3 rfl
    have u4 := b3.cell 4 rfl
    have u5 := b3.cell 5 rfl
    refine bodyPost_ret (v := .tuple #[.agg #[.int .u8 qa, .int .i64 qb], .agg #[.int .i64 now, .slice la ln lc, .int .u8 au, .bool so, .bool bp, .bool bo]]) (by simp [results, Try.results28, go_sem, s0, s1, u0, u1, u2, u3, u4, u5]) rfl ?_
    have hz8 := HWS.out
    have hob8 := HOB.out
    have kAll : Keeps (fun i => i = ob ∨ i = z ∨ i = z + 1 + 1 ∨ i = z + 1 + 1 + 1) w2 W8 := (((HK1.out.mono (fun i _ e => Or.inl e)).trans (HK2.out.mono (fun i _ e => Or.inr (Or.inl e)))).trans (K5.out.mono (fun i _ e => Or.inl e))).trans (k8.mono (fun i _ e => Or.inr (Or.inr e)))
    refine ⟨.slice la ln lc, ?_, ?_, ?_, ?_⟩
    · unfold showD
      rw [HQ0.out, HAU.out]
      simp only [PanelD.val, OutD.val]
      rw [HPH.out, HSD.out, HBP.out, HBO.out]
    · show Sl _ 5 _ (lampsD l).length _
      rw [HLN.out]
      exact Sl.keep' HSL.out kAll.drew (fun h0 i hi _ e => by have h9 := HAP.out h0 i hi; omega)
    · exact (KW.out.trans HK.out).trans' kAll.drew (fun _ _ h => h.elim) (fun i hi e => by have h9 := KW.out.size; have h10 := HZ.out; omega)
    · intro h0 k hk
      rw [HLN.out] at h0
      have h9 := (HAP.out h0 k hk).1
      have h10 := KW.out.size
      omega

end Go.Proofs.Ytnmlaobiljmgaaa
