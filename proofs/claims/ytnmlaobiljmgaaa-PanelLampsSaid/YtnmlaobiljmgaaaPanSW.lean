/-
  What is shown and heard: the program's.
-/
import Derived.Test.YtnmlaobiljmgaaaPanSL
import Derived.Test.YtnmlaobiljmgaaaPanW
import Derived.Test.YtnmlaobiljmgaaaBurS
import Derived.Test.YtnmlaobiljmgaaaHushS
import Derived.Test.YtnmlaobiljmgaaaTimeS
namespace Go.Proofs.Ytnmlaobiljmgaaa
open Go.RowKit
set_option linter.unusedVariables false

/-- A panel: its block. -/
def POb (w : World) (b : Nat) (p : PanelD) : Prop := Bk w b 84 [.int .u8 p.audio, .int .i64 p.began]
theorem POb.keep {S : Nat → Prop} {w w' : World} {b : Nat} {p : PanelD} (h : POb w b p) (k : Keeps S w w') (hs : ¬ S b) : POb w' b p := Bk.keep h k hs
theorem POb.lt {w : World} {b : Nat} {p : PanelD} (h : POb w b p) : b < w.heap.size := Bk.lt h

theorem Keeps.sl {w w' : World} {size n : Nat} {v : Value} {xs : List Value} (k : Keeps No w w') (h : Sl w size v n xs) : Sl w' size v n xs := h.keep k (fun _ _ h => h)

set_option maxHeartbeats 1000000 in
set_option maxRecDepth 100000 in
theorem pnew_any (w : World) : Calls Try.prog 27 #[] w fun e w' => ∃ b, e = .returned (.pointer (some ⟨b, 0, none⟩)) ∧ w.heap.size ≤ b ∧ POb w' b ⟨0, 0⟩ ∧ Keeps No w w' := by
  go_enter Try.func27, Try.ntmps27
  go_wp2_with fail
  go_ret
  exact ⟨_, rfl, Nat.le_refl _, Bk.new rfl [.int .u8 0, .int .i64 0] _, (Keeps.refl _ _).alloc _⟩

set_option maxHeartbeats 2000000 in
set_option maxRecDepth 100000 in
theorem ptell_any {w : World} {b : Nat} {pa pb : Int} (h : POb w b ⟨pa, pb⟩) (now au : Int) :
    Calls Try.prog 38 #[.pointer (some ⟨b, 0, none⟩), .int .i64 now, .int .u8 au] w fun e w' => e = .returned (.tuple #[]) ∧ POb w' b (if au = pa then ⟨pa, pb⟩ else ⟨au, now⟩) ∧ Keeps (fun i => i = b) w w' := by
  have HB := hid h
  have x0 := Bk.cell h 0 rfl
  have f0 := Bk.free h 0
  have x1 := Bk.cell h 1 rfl
  have f1 := Bk.free h 1
  simp only at x0 x1
  clear h
  by_cases he : au = pa
  · subst he
    have d : (au != au) = false := by simp
    rw [if_pos rfl]
    go_enter Try.func38, Try.ntmps38
    go_wp2_with fail
    first | go_end0 | refine bodyPost_ret (results_none rfl _ _ _) rfl ?_
    exact ⟨rfl, HB.out, by repeat' (first | with_reducible exact Keeps.refl _ _ | with_reducible assumption | with_reducible refine Keeps.drewN ?_ _ | with_reducible refine Keeps.drew ?_ | with_reducible refine Keeps.alloc ?_ _)⟩
  · have d : (au != pa) = true := by simpa using he
    rw [if_neg he]
    clear he
    go_enter Try.func38, Try.ntmps38
    go_wp2_with fail
    first | go_end0 | refine bodyPost_ret (results_none rfl _ _ _) rfl ?_
    exact ⟨rfl, (Bk.put (Bk.put HB.out 0 (.int .u8 au) rfl) 1 (.int .i64 now) rfl : Bk _ b _ [.int .u8 au, .int .i64 now]), ((Keeps.refl (fun i => i = b) w).setCell (p := ⟨b, 0, none⟩) (Or.inr rfl) _).setCell (p := ⟨b, 1, none⟩) (Or.inr rfl) _⟩

set_option maxHeartbeats 2000000 in
set_option maxRecDepth 100000 in
theorem pheard_any {w : World} {v : Value} {l : List LightD} (h : SlPi w v l) (hl : l.length ≤ 1000) (hb : ∀ x ∈ l, 0 ≤ x.pri ∧ x.pri ≤ 255) (now ti ho hm : Int) :
    Calls Try.prog 39 #[.int .i64 now, v, .agg #[.int .i64 ti, .int .i64 ho, .int .u8 hm]] w fun e w' => e = .returned (.int .u8 (audioD now l ⟨ti, ho, hm⟩)) ∧ Keeps No w w' := by
  obtain ⟨W, hW⟩ : ∃ W, w.alloc (.cells #[.int .i64 ti, .int .i64 ho, .int .u8 hm] 62) = W := ⟨_, rfl⟩
  have KW : Hid (Keeps No w W) := hid (by rw [← hW]; exact (Keeps.refl No w).alloc _)
  obtain ⟨z, hz⟩ : ∃ z, w.heap.size = z := ⟨_, rfl⟩
  have HX : Hid (Bk W z 62 [.int .i64 ti, .int .i64 ho, .int .u8 hm]) := hid (by rw [← hW]; exact Bk.new hz _ _)
  have HL := hid (fun (w' : World) (k : Keeps No W w') => ploudest_any (w := w') (Sl.keep h (KW.out.trans k) (fun _ _ h => h)) hl hb)
  have HS := hid (fun w' => hsilent_any ti ho hm now w')
  have HAU : Hid (audioD now l ⟨ti, ho, hm⟩ = if (decide (now < ti) || decide (now < ho)) = true then 0 else highD loudL l) := hid (by unfold audioD; simp)
  obtain ⟨q, hq⟩ : ∃ q, highD loudL l = q := ⟨_, rfl⟩
  rw [hq] at HL HAU
  obtain ⟨r, hr⟩ : ∃ r, (decide (now < ti) || decide (now < ho)) = r := ⟨_, rfl⟩
  rw [hr] at HS HAU
  obtain ⟨ao, cap, rfl⟩ := h.any
  obtain ⟨m, hm_⟩ : ∃ m, l.length = m := ⟨_, rfl⟩
  rw [hm_] at HL
  rw [hm_]
  clear h hl hb hq hr hm_
  go_enter Try.func39, Try.ntmps39
  go_upto_region 1 with fail
  try rw [hz]
  try rw [hW]
  clear hz hW
  have x0 := HX.out.cell 0 rfl
  have x1 := HX.out.cell 1 rfl
  have x2 := HX.out.cell 2 rfl
  go_wp2_with fail
  refine (HS.out _).mono ?_
  rintro e w2 ⟨rfl, k2⟩
  have K2 := hid k2
  clear k2
  cases r
  · go_wp2_with fail
    refine (HL.out _ K2.out).mono ?_
    rintro e w3 ⟨rfl, k3⟩
    have K3 := hid (K2.out.trans k3)
    clear k3
    go_wp2_with fail
    go_ret
    exact ⟨by rw [HAU.out]; rfl, KW.out.trans K3.out⟩
  · go_wp2_with fail
    go_ret
    exact ⟨by rw [HAU.out]; rfl, KW.out.trans K2.out⟩

set_option maxHeartbeats 16000000 in
set_option maxRecDepth 100000 in
theorem pshow_any {w : World} {v : Value} {l : List LightD} (h : SlPi w v l) (hl : l.length ≤ 1000) (hb : ∀ x ∈ l, 0 ≤ x.pri ∧ x.pri ≤ 255) (hu : Unlike l) {b : Nat} {pa pb : Int} (hp : POb w b ⟨pa, pb⟩) (now ti ho hm : Int) (hpb : I64 pb) (hn : I64 now) (hvb : 0 < l.length → ∀ k, v.ownBlock = some k → ¬ k = b) :
    Calls Try.prog 29 #[.pointer (some ⟨b, 0, none⟩), .int .i64 now, v, .agg #[.int .i64 ti, .int .i64 ho, .int .u8 hm]] w fun e w' => ∃ lv, e = .returned ((showD ⟨pa, pb⟩ now l ⟨ti, ho, hm⟩).val lv) ∧ SlLa w' lv (lampsD l) ∧ (∀ k, lv.ownBlock = some k → w.heap.size ≤ k) ∧ POb w' b (showP ⟨pa, pb⟩ now l ⟨ti, ho, hm⟩) ∧ Keeps (fun i => i = b) w w' := by
  have HN := hid hn
  have HL := hid hl
  have HU := hid hu
  have HS : Hid (Sl w 7 v l.length (l.flatMap encLi)) := hid h
  have HBD := hid hb
  obtain ⟨va, vc, rfl⟩ := h.any
  obtain ⟨vn, hvn⟩ : ∃ q, l.length = q := ⟨_, rfl⟩
  have HVN := hid hvn
  obtain ⟨z, hz⟩ : ∃ z, w.heap.size = z := ⟨_, rfl⟩
  obtain ⟨W, hW⟩ : ∃ W, (w.alloc (.cells #[.int .i64 ti, .int .i64 ho, .int .u8 hm] 62)).alloc (.cells #[.int .i64 0, .slice none 0 0, .int .u8 0, .bool false, .bool false, .bool false] 43) = W := ⟨_, rfl⟩
  have HX : Hid (Bk W z 62 [.int .i64 ti, .int .i64 ho, .int .u8 hm]) := hid (by rw [← hW]; exact (Bk.new hz _ _).alloc _)
  have HO : Hid (Bk W (z + 1) 43 [.int .i64 0, .slice none 0 0, .int .u8 0, .bool false, .bool false, .bool false]) := hid (by rw [← hW]; exact Bk.new (by simp [hz]) _ _)
  have KW : Hid (Keeps No w W) := hid (by rw [← hW]; exact ((Keeps.refl No w).alloc _).alloc _)
  have HWZ : Hid (w.heap.size = z) := hid hz
  have HZS : Hid (W.heap.size = z + 2) := hid (by rw [← hW]; simp [hz])
  rw [hvn] at HS
  rw [hvn]
  clear h hl hu hb hn hvn
  have HBW := hid (hp.keep KW.out (fun h => h))
  have HBZ : Hid (¬ b = z + 1) := hid (by have := hp.lt; omega)
  have HBZ2 : Hid (¬ b = z) := hid (by have := hp.lt; omega)
  have HPB := hid hpb
  have HVB : Hid (0 < vn → ∀ k, (Value.slice va vn vc).ownBlock = some k → ¬ k = b) := hid (by rw [← HVN.out]; exact hvb)
  clear hp hpb hvb
  go_enter Try.func29, Try.ntmps29
  go_upto_region 3 with fail
  try rw [hz]
  try rw [hW]
  clear hz hW
  have x0 := HX.out.cell 0 rfl
  have x1 := HX.out.cell 1 rfl
  have x2 := HX.out.cell 2 rfl
  go_wp2_with fail
  refine (pheard_any (l := l) (by unfold SlPi; rw [HVN.out]; exact HS.out.keep KW.out (fun _ _ h => h)) HL.out HBD.out now ti ho hm).mono ?_
  rintro e w2 ⟨rfl, k2⟩
  have K2 := hid k2
  clear k2 x0 x1 x2
  obtain ⟨au, hau⟩ : ∃ q, audioD now l ⟨ti, ho, hm⟩ = q := ⟨_, rfl⟩
  have HAU := hid hau
  rw [hau]
  clear hau
  go_wp2_with fail
  refine (ptell_any (HBW.out.keep K2.out (fun h => h)) now au).mono ?_
  rintro e w3 ⟨rfl, hb3, k3⟩
  obtain ⟨⟨qa, qb⟩, hq⟩ : ∃ q : PanelD, (if au = pa then (⟨pa, pb⟩ : PanelD) else ⟨au, now⟩) = q := ⟨_, rfl⟩
  rw [hq] at hb3
  have HQ := hid hq
  have HB3 := hid hb3
  have K3 := hid k3
  clear hq hb3 k3
  have HQB : Hid (I64 qb) := hid (by
    have h1 := HQ.out
    split at h1
    · injection h1 with h3 h4; rw [← h4]; exact HPB.out
    · injection h1 with h3 h4; rw [← h4]; exact HN.out)
  have HX3 := hid ((HX.out.kept K2.out).keep K3.out (fun e => HBZ2.out e.symm))
  have HO3 := hid ((HO.out.kept K2.out).keep K3.out (fun e => HBZ.out e.symm))
  have HS3 : Hid (Sl w3 7 (.slice va vn vc) vn (l.flatMap encLi)) := hid ((HS.out.keep (KW.out.trans K2.out) (fun _ _ h => h)).keep' K3.out (fun h0 k hk _ => HVB.out h0 k hk))
  have hqbI : I64 qb := HQB.out
  have HLA : Hid (∀ (w' : World), Keeps No w3 w' → Calls Try.prog 22 #[.slice va vn vc] w' fun e w'' => ∃ v', e = .returned v' ∧ SlLa w'' v' (lampsD l) ∧ Keeps No w' w'' ∧ ∀ k, v'.ownBlock = some k → w3.heap.size ≤ k) := hid (fun w' k => (plamps_any (by unfold SlPi; rw [HVN.out]; exact HS3.out.keep k (fun _ _ h => h)) HL.out HU.out).mono (fun e w'' h => by
    obtain ⟨v', h1, h2, h3, h4⟩ := h
    exact ⟨v', h1, h2, h3, fun i hi => Nat.le_trans k.size (h4 i hi)⟩))
  have HSI := hid (fun w' => since_any now qb w' HN.out hqbI)
  obtain ⟨ph, hph⟩ : ∃ q, held (now - qb) = q := ⟨_, rfl⟩
  have hphI : I64 ph := by rw [← hph]; have := held_bd (now - qb); exact ⟨by omega, by omega⟩
  have HPH := hid hph
  rw [hph] at HSI
  have HSO := hid (fun w' => sound_any qa ph w' hphI)
  obtain ⟨so, hso⟩ : ∃ q, soundD qa ph = q := ⟨_, rfl⟩
  have HSD := hid hso
  rw [hso] at HSO
  have HPA := hid (fun w' => hpaused_any ti ho hm now w')
  have HIO := hid (fun w' => hisoff_any ti ho hm now w')
  obtain ⟨bp, hbp⟩ : ∃ q, decide (now < ti) = q := ⟨_, rfl⟩
  obtain ⟨bo, hbo⟩ : ∃ q, decide (now < ho) = q := ⟨_, rfl⟩
  have HBP := hid hbp
  have HBO := hid hbo
  rw [hbp] at HPA
  rw [hbo] at HIO
  obtain ⟨ln, hln⟩ : ∃ q, (lampsD l).length = q := ⟨_, rfl⟩
  have HLN := hid hln
  clear hph hso hbp hbo hphI hqbI
  have hbz := HBZ.out
  have hzz : ¬ z = z + 1 := by omega
  have x0_0 := HB3.out.cell 0 rfl
  have x0_1 := HB3.out.cell 1 rfl
  have x1_0 := HX3.out.cell 0 rfl
  have x1_1 := HX3.out.cell 1 rfl
  have x1_2 := HX3.out.cell 2 rfl
  go_upto_region 4 with fail
  clear hln
  first | go_region_held3 (fun w' => w'.cell? ⟨b, 0, none⟩ = some (.int .u8 qa) ∧ w'.cell? ⟨b, 1, none⟩ = some (.int .i64 qb) ∧ w'.cell? ⟨z, 0, none⟩ = some (.int .i64 ti) ∧ w'.cell? ⟨z, 1, none⟩ = some (.int .i64 ho) ∧ w'.cell? ⟨z, 2, none⟩ = some (.int .u8 hm)) (first | with_reducible exact ⟨x0_0, x0_1, x1_0, x1_1, x1_2⟩ | with_reducible exact ⟨cellDr x0_0, cellDr x0_1, cellDr x1_0, cellDr x1_1, cellDr x1_2⟩ | with_reducible exact ⟨cellDr (cellA _ x0_0), cellDr (cellA _ x0_1), cellDr (cellA _ x1_0), cellDr (cellA _ x1_1), cellDr (cellA _ x1_2)⟩ | exact ⟨((((((Keeps.refl (fun i => i = z + 1) w9).at).at).at).at).at).at.cell (fun e => hbz e) x0_0, ((((((Keeps.refl (fun i => i = z + 1) w9).at).at).at).at).at).at.cell (fun e => hbz e) x0_1, ((((((Keeps.refl (fun i => i = z + 1) w9).at).at).at).at).at).at.cell (fun e => hzz e) x1_0, ((((((Keeps.refl (fun i => i = z + 1) w9).at).at).at).at).at).at.cell (fun e => hzz e) x1_1, ((((((Keeps.refl (fun i => i = z + 1) w9).at).at).at).at).at).at.cell (fun e => hzz e) x1_2⟩ | (go_keep; done)) (first | (go_at_call 22; (with_reducible refine (HLA.out _ (by repeat' (first | with_reducible exact Keeps.refl _ _ | with_reducible assumption | with_reducible refine Keeps.drewN ?_ _ | with_reducible refine Keeps.drew ?_ | with_reducible refine Keeps.alloc ?_ _))).mono ?_); rintro e w9 ⟨lv, rfl, hsl, k, hnw⟩; have kk : Keeps No w3 w9 := Keeps.trans (by repeat' (first | with_reducible exact Keeps.refl _ _ | with_reducible assumption | with_reducible refine Keeps.drewN ?_ _ | with_reducible refine Keeps.drew ?_ | with_reducible refine Keeps.alloc ?_ _)) k; have g0 := HB3.out.keep kk (fun h => h); have g1 := HX3.out.keep kk (fun h => h); have x0_0 := Bk.cell g0 0 rfl; have x0_1 := Bk.cell g0 1 rfl; have x1_0 := g1.cell 0 rfl; have x1_1 := g1.cell 1 rfl; have x1_2 := g1.cell 2 rfl; clear g0 g1; obtain ⟨la, lc, rfl⟩ := hsl.any; have HSL := hid hsl; have HNW := hid hnw; clear hsl hnw; clear k) | (go_at_call 40; (with_reducible refine (HSI.out _).mono ?_); rintro e w9 ⟨rfl, rfl⟩) | (go_at_call 13; (with_reducible refine (HSO.out _).mono ?_); rintro e w9 ⟨rfl, k⟩; have kk : Keeps No w3 w9 := Keeps.trans (by repeat' (first | with_reducible exact Keeps.refl _ _ | with_reducible assumption | with_reducible refine Keeps.drewN ?_ _ | with_reducible refine Keeps.drew ?_ | with_reducible refine Keeps.alloc ?_ _)) k; have g0 := HB3.out.keep kk (fun h => h); have g1 := HX3.out.keep kk (fun h => h); have x0_0 := Bk.cell g0 0 rfl; have x0_1 := Bk.cell g0 1 rfl; have x1_0 := g1.cell 0 rfl; have x1_1 := g1.cell 1 rfl; have x1_2 := g1.cell 2 rfl; clear g0 g1; have HSL := hid (k.sl HSL.out); clear k) | (go_at_call 41; (with_reducible refine (HPA.out _).mono ?_); rintro e w9 ⟨rfl, k⟩; have kk : Keeps No w3 w9 := Keeps.trans (by repeat' (first | with_reducible exact Keeps.refl _ _ | with_reducible assumption | with_reducible refine Keeps.drewN ?_ _ | with_reducible refine Keeps.drew ?_ | with_reducible refine Keeps.alloc ?_ _)) k; have g0 := HB3.out.keep kk (fun h => h); have g1 := HX3.out.keep kk (fun h => h); have x0_0 := Bk.cell g0 0 rfl; have x0_1 := Bk.cell g0 1 rfl; have x1_0 := g1.cell 0 rfl; have x1_1 := g1.cell 1 rfl; have x1_2 := g1.cell 2 rfl; clear g0 g1; have HSL := hid (k.sl HSL.out); clear k) | (go_at_call 42; (with_reducible refine (HIO.out _).mono ?_); rintro e w9 ⟨rfl, k⟩; have kk : Keeps No w3 w9 := Keeps.trans (by repeat' (first | with_reducible exact Keeps.refl _ _ | with_reducible assumption | with_reducible refine Keeps.drewN ?_ _ | with_reducible refine Keeps.drew ?_ | with_reducible refine Keeps.alloc ?_ _)) k; have g0 := HB3.out.keep kk (fun h => h); have g1 := HX3.out.keep kk (fun h => h); have x0_0 := Bk.cell g0 0 rfl; have x0_1 := Bk.cell g0 1 rfl; have x1_0 := g1.cell 0 rfl; have x1_1 := g1.cell 1 rfl; have x1_2 := g1.cell 2 rfl; clear g0 g1; have HSL := hid (k.sl HSL.out); have HO9 := hid (HO3.out.keep kk (fun h => h)); have HB9 := hid (HB3.out.keep kk (fun h => h)); have KK9 := hid kk; have o0 := HO9.out.cell 0 rfl; have fo0 := HO9.out.free 0; have o1 := HO9.out.cell 1 rfl; have fo1 := HO9.out.free 1; have o2 := HO9.out.cell 2 rfl; have fo2 := HO9.out.free 2; have o3 := HO9.out.cell 3 rfl; have fo3 := HO9.out.free 3; have o4 := HO9.out.cell 4 rfl; have fo4 := HO9.out.free 4; have o5 := HO9.out.cell 5 rfl; have fo5 := HO9.out.free 5; clear k)) | fail
  all_goals
    obtain ⟨W8, hW8⟩ : ∃ q, (((((w9.setCell ⟨z + 1, 0, none⟩ (.int .i64 now)).setCell ⟨z + 1, 1, none⟩ (.slice la (lampsD l).length lc)).setCell ⟨z + 1, 2, none⟩ (.int .u8 qa)).setCell ⟨z + 1, 3, none⟩ (.bool so)).setCell ⟨z + 1, 4, none⟩ (.bool bp)).setCell ⟨z + 1, 5, none⟩ (.bool bo) = q := ⟨_, rfl⟩
    have b2 := (((((HO9.out.put 0 (.int .i64 now) rfl).put 1 (.slice la (lampsD l).length lc) rfl).put 2 (.int .u8 qa) rfl).put 3 (.bool so) rfl).put 4 (.bool bp) rfl).put 5 (.bool bo) rfl
    have k8 := ((((((Keeps.refl (fun i => i = z + 1) w9).setCell (p := ⟨z + 1, 0, none⟩) (Or.inr rfl) (.int .i64 now)).setCell (p := ⟨z + 1, 1, none⟩) (Or.inr rfl) (.slice la (lampsD l).length lc)).setCell (p := ⟨z + 1, 2, none⟩) (Or.inr rfl) (.int .u8 qa)).setCell (p := ⟨z + 1, 3, none⟩) (Or.inr rfl) (.bool so)).setCell (p := ⟨z + 1, 4, none⟩) (Or.inr rfl) (.bool bp)).setCell (p := ⟨z + 1, 5, none⟩) (Or.inr rfl) (.bool bo)
    rw [hW8] at b2 k8
    go_wp2_with fail
    try rw [hW8]
    clear hW8
    have s0 := b2.cell 0 rfl
    have s1 := b2.cell 1 rfl
    have s2 := b2.cell 2 rfl
    have s3 := b2.cell 3 rfl
    have s4 := b2.cell 4 rfl
    have s5 := b2.cell 5 rfl
    refine bodyPost_ret (v := .agg #[.int .i64 now, .slice la (lampsD l).length lc, .int .u8 qa, .bool so, .bool bp, .bool bo]) (by simp [results, Try.results29, go_sem, s0, s1, s2, s3, s4, s5]) rfl ?_
    have hz3 : z + 2 ≤ w3.heap.size := by have h1 := HZS.out; have h2 := K2.out.size; have h3 := K3.out.size; omega
    have hwz := HWZ.out
    have hqa : au = qa := by
      have h1 := HQ.out
      split at h1
      · rename_i h0; injection h1 with h3 h4; omega
      · injection h1 with h3 h4
    have hsp : showP ⟨pa, pb⟩ now l ⟨ti, ho, hm⟩ = ⟨qa, qb⟩ := by unfold showP; rw [HAU.out]; exact HQ.out
    refine ⟨.slice la (lampsD l).length lc, ?_, ?_, ?_, ?_, ?_⟩
    · unfold showD
      rw [hsp, HAU.out, hqa]
      simp only [OutD.val]
      rw [HPH.out, HSD.out, HBP.out, HBO.out]
    · exact Sl.keep HSL.out k8 (fun k hk e => by have := HNW.out k hk; omega)
    · intro k hk
      have := HNW.out k hk
      omega
    · rw [hsp]; exact HB9.out.keep k8 hbz
    · exact (((KW.out.trans K2.out).no.trans K3.out).trans KK9.out.no).trans' k8 (fun _ _ h => h) (fun i hi e => by omega)

set_option maxHeartbeats 16000000 in
set_option maxRecDepth 100000 in
theorem pshow_nil {w : World} {v : Value} {l : List LightD} (h : SlPi w v l) (hl : l.length ≤ 1000) (hb : ∀ x ∈ l, 0 ≤ x.pri ∧ x.pri ≤ 255) (hu : Unlike l) (now ti ho hm : Int) (hn : I64 now) :
    Calls Try.prog 29 #[.pointer none, .int .i64 now, v, .agg #[.int .i64 ti, .int .i64 ho, .int .u8 hm]] w fun e w' => ∃ lv, e = .returned ((showD ⟨0, 0⟩ now l ⟨ti, ho, hm⟩).val lv) ∧ SlLa w' lv (lampsD l) ∧ (∀ k, lv.ownBlock = some k → w.heap.size ≤ k) ∧ Keeps No w w' := by
  have HN := hid hn
  have HL := hid hl
  have HU := hid hu
  have HS : Hid (Sl w 7 v l.length (l.flatMap encLi)) := hid h
  have HBD := hid hb
  obtain ⟨va, vc, rfl⟩ := h.any
  obtain ⟨vn, hvn⟩ : ∃ q, l.length = q := ⟨_, rfl⟩
  have HVN := hid hvn
  obtain ⟨z, hz⟩ : ∃ z, w.heap.size = z := ⟨_, rfl⟩
  obtain ⟨W, hW⟩ : ∃ W, (w.alloc (.cells #[.int .i64 ti, .int .i64 ho, .int .u8 hm] 62)).alloc (.cells #[.int .i64 0, .slice none 0 0, .int .u8 0, .bool false, .bool false, .bool false] 43) = W := ⟨_, rfl⟩
  have HX : Hid (Bk W z 62 [.int .i64 ti, .int .i64 ho, .int .u8 hm]) := hid (by rw [← hW]; exact (Bk.new hz _ _).alloc _)
  have HO : Hid (Bk W (z + 1) 43 [.int .i64 0, .slice none 0 0, .int .u8 0, .bool false, .bool false, .bool false]) := hid (by rw [← hW]; exact Bk.new (by simp [hz]) _ _)
  have KW : Hid (Keeps No w W) := hid (by rw [← hW]; exact ((Keeps.refl No w).alloc _).alloc _)
  have HWZ : Hid (w.heap.size = z) := hid hz
  have HZS : Hid (W.heap.size = z + 2) := hid (by rw [← hW]; simp [hz])
  rw [hvn] at HS
  rw [hvn]
  clear h hl hu hb hn hvn
  go_enter Try.func29, Try.ntmps29
  go_upto_region 1 with fail
  try rw [hz]
  try rw [hW]
  clear hz hW
  go_wp2_with fail
  refine (pnew_any _).mono ?_
  rintro e w1 ⟨b, rfl, hbn, hb1, k1⟩
  have HBN : Hid (z + 2 ≤ b) := hid (by have := HZS.out; omega)
  have HB1 := hid hb1
  have K1 := hid k1
  have HX1 := hid (HX.out.kept k1)
  have HO1 := hid (HO.out.kept k1)
  have HBLT := hid hb1.lt
  clear hbn hb1 k1
  have HBZ : Hid (¬ b = z + 1) := hid (by have := HBN.out; omega)
  have HBZ2 : Hid (¬ b = z) := hid (by have := HBN.out; omega)
  have x0 := HX1.out.cell 0 rfl
  have x1 := HX1.out.cell 1 rfl
  have x2 := HX1.out.cell 2 rfl
  go_wp2_with fail
  refine (pheard_any (l := l) (by unfold SlPi; rw [HVN.out]; exact HS.out.keep (KW.out.trans K1.out) (fun _ _ h => h)) HL.out HBD.out now ti ho hm).mono ?_
  rintro e w2 ⟨rfl, k2⟩
  have K2 := hid (K1.out.trans k2)
  have HB2 := hid (HB1.out.keep k2 (fun h => h))
  clear k2 x0 x1 x2
  obtain ⟨au, hau⟩ : ∃ q, audioD now l ⟨ti, ho, hm⟩ = q := ⟨_, rfl⟩
  have HAU := hid hau
  rw [hau]
  clear hau
  go_wp2_with fail
  refine (ptell_any HB2.out now au).mono ?_
  rintro e w3 ⟨rfl, hb3, k3⟩
  obtain ⟨⟨qa, qb⟩, hq⟩ : ∃ q : PanelD, (if au = 0 then (⟨0, 0⟩ : PanelD) else ⟨au, now⟩) = q := ⟨_, rfl⟩
  rw [hq] at hb3
  have HQ := hid hq
  have HB3 := hid hb3
  have K3 := hid k3
  clear hq hb3 k3
  have HQB : Hid (I64 qb) := hid (by
    have h1 := HQ.out
    split at h1
    · injection h1 with h3 h4; rw [← h4]; exact ⟨by omega, by omega⟩
    · injection h1 with h3 h4; rw [← h4]; exact HN.out)
  have HX3 := hid ((HX.out.kept K2.out).keep K3.out (fun e => HBZ2.out e.symm))
  have HO3 := hid ((HO.out.kept K2.out).keep K3.out (fun e => HBZ.out e.symm))
  have HKA : Hid (Keeps No w w3) := hid ((KW.out.trans K2.out).trans' K3.out (fun _ _ h => h) (fun i hi e => by have h1 := HBN.out; have h2 := HWZ.out; omega))
  have HS3 : Hid (Sl w3 7 (.slice va vn vc) vn (l.flatMap encLi)) := hid (HS.out.keep HKA.out (fun _ _ h => h))
  have hqbI : I64 qb := HQB.out
  have HLA : Hid (∀ (w' : World), Keeps No w3 w' → Calls Try.prog 22 #[.slice va vn vc] w' fun e w'' => ∃ v', e = .returned v' ∧ SlLa w'' v' (lampsD l) ∧ Keeps No w' w'' ∧ ∀ k, v'.ownBlock = some k → w3.heap.size ≤ k) := hid (fun w' k => (plamps_any (by unfold SlPi; rw [HVN.out]; exact HS3.out.keep k (fun _ _ h => h)) HL.out HU.out).mono (fun e w'' h => by
    obtain ⟨v', h1, h2, h3, h4⟩ := h
    exact ⟨v', h1, h2, h3, fun i hi => Nat.le_trans k.size (h4 i hi)⟩))
  have HSI := hid (fun w' => since_any now qb w' HN.out hqbI)
  obtain ⟨ph, hph⟩ : ∃ q, held (now - qb) = q := ⟨_, rfl⟩
  have hphI : I64 ph := by rw [← hph]; have := held_bd (now - qb); exact ⟨by omega, by omega⟩
  have HPH := hid hph
  rw [hph] at HSI
  have HSO := hid (fun w' => sound_any qa ph w' hphI)
  obtain ⟨so, hso⟩ : ∃ q, soundD qa ph = q := ⟨_, rfl⟩
  have HSD := hid hso
  rw [hso] at HSO
  have HPA := hid (fun w' => hpaused_any ti ho hm now w')
  have HIO := hid (fun w' => hisoff_any ti ho hm now w')
  obtain ⟨bp, hbp⟩ : ∃ q, decide (now < ti) = q := ⟨_, rfl⟩
  obtain ⟨bo, hbo⟩ : ∃ q, decide (now < ho) = q := ⟨_, rfl⟩
  have HBP := hid hbp
  have HBO := hid hbo
  rw [hbp] at HPA
  rw [hbo] at HIO
  obtain ⟨ln, hln⟩ : ∃ q, (lampsD l).length = q := ⟨_, rfl⟩
  have HLN := hid hln
  clear hph hso hbp hbo hphI hqbI
  have hbz := HBZ.out
  have hzz : ¬ z = z + 1 := by omega
  have x0_0 := HB3.out.cell 0 rfl
  have x0_1 := HB3.out.cell 1 rfl
  have x1_0 := HX3.out.cell 0 rfl
  have x1_1 := HX3.out.cell 1 rfl
  have x1_2 := HX3.out.cell 2 rfl
  go_upto_region 4 with fail
  clear hln
  first | go_region_held3 (fun w' => w'.cell? ⟨b, 0, none⟩ = some (.int .u8 qa) ∧ w'.cell? ⟨b, 1, none⟩ = some (.int .i64 qb) ∧ w'.cell? ⟨z, 0, none⟩ = some (.int .i64 ti) ∧ w'.cell? ⟨z, 1, none⟩ = some (.int .i64 ho) ∧ w'.cell? ⟨z, 2, none⟩ = some (.int .u8 hm)) (first | with_reducible exact ⟨x0_0, x0_1, x1_0, x1_1, x1_2⟩ | with_reducible exact ⟨cellDr x0_0, cellDr x0_1, cellDr x1_0, cellDr x1_1, cellDr x1_2⟩ | with_reducible exact ⟨cellDr (cellA _ x0_0), cellDr (cellA _ x0_1), cellDr (cellA _ x1_0), cellDr (cellA _ x1_1), cellDr (cellA _ x1_2)⟩ | exact ⟨((((((Keeps.refl (fun i => i = z + 1) w9).at).at).at).at).at).at.cell (fun e => hbz e) x0_0, ((((((Keeps.refl (fun i => i = z + 1) w9).at).at).at).at).at).at.cell (fun e => hbz e) x0_1, ((((((Keeps.refl (fun i => i = z + 1) w9).at).at).at).at).at).at.cell (fun e => hzz e) x1_0, ((((((Keeps.refl (fun i => i = z + 1) w9).at).at).at).at).at).at.cell (fun e => hzz e) x1_1, ((((((Keeps.refl (fun i => i = z + 1) w9).at).at).at).at).at).at.cell (fun e => hzz e) x1_2⟩ | (go_keep; done)) (first | (go_at_call 22; (with_reducible refine (HLA.out _ (by repeat' (first | with_reducible exact Keeps.refl _ _ | with_reducible assumption | with_reducible refine Keeps.drewN ?_ _ | with_reducible refine Keeps.drew ?_ | with_reducible refine Keeps.alloc ?_ _))).mono ?_); rintro e w9 ⟨lv, rfl, hsl, k, hnw⟩; have kk : Keeps No w3 w9 := Keeps.trans (by repeat' (first | with_reducible exact Keeps.refl _ _ | with_reducible assumption | with_reducible refine Keeps.drewN ?_ _ | with_reducible refine Keeps.drew ?_ | with_reducible refine Keeps.alloc ?_ _)) k; have g0 := HB3.out.keep kk (fun h => h); have g1 := HX3.out.keep kk (fun h => h); have x0_0 := Bk.cell g0 0 rfl; have x0_1 := Bk.cell g0 1 rfl; have x1_0 := g1.cell 0 rfl; have x1_1 := g1.cell 1 rfl; have x1_2 := g1.cell 2 rfl; clear g0 g1; obtain ⟨la, lc, rfl⟩ := hsl.any; have HSL := hid hsl; have HNW := hid hnw; clear hsl hnw; clear k) | (go_at_call 40; (with_reducible refine (HSI.out _).mono ?_); rintro e w9 ⟨rfl, rfl⟩) | (go_at_call 13; (with_reducible refine (HSO.out _).mono ?_); rintro e w9 ⟨rfl, k⟩; have kk : Keeps No w3 w9 := Keeps.trans (by repeat' (first | with_reducible exact Keeps.refl _ _ | with_reducible assumption | with_reducible refine Keeps.drewN ?_ _ | with_reducible refine Keeps.drew ?_ | with_reducible refine Keeps.alloc ?_ _)) k; have g0 := HB3.out.keep kk (fun h => h); have g1 := HX3.out.keep kk (fun h => h); have x0_0 := Bk.cell g0 0 rfl; have x0_1 := Bk.cell g0 1 rfl; have x1_0 := g1.cell 0 rfl; have x1_1 := g1.cell 1 rfl; have x1_2 := g1.cell 2 rfl; clear g0 g1; have HSL := hid (k.sl HSL.out); clear k) | (go_at_call 41; (with_reducible refine (HPA.out _).mono ?_); rintro e w9 ⟨rfl, k⟩; have kk : Keeps No w3 w9 := Keeps.trans (by repeat' (first | with_reducible exact Keeps.refl _ _ | with_reducible assumption | with_reducible refine Keeps.drewN ?_ _ | with_reducible refine Keeps.drew ?_ | with_reducible refine Keeps.alloc ?_ _)) k; have g0 := HB3.out.keep kk (fun h => h); have g1 := HX3.out.keep kk (fun h => h); have x0_0 := Bk.cell g0 0 rfl; have x0_1 := Bk.cell g0 1 rfl; have x1_0 := g1.cell 0 rfl; have x1_1 := g1.cell 1 rfl; have x1_2 := g1.cell 2 rfl; clear g0 g1; have HSL := hid (k.sl HSL.out); clear k) | (go_at_call 42; (with_reducible refine (HIO.out _).mono ?_); rintro e w9 ⟨rfl, k⟩; have kk : Keeps No w3 w9 := Keeps.trans (by repeat' (first | with_reducible exact Keeps.refl _ _ | with_reducible assumption | with_reducible refine Keeps.drewN ?_ _ | with_reducible refine Keeps.drew ?_ | with_reducible refine Keeps.alloc ?_ _)) k; have g0 := HB3.out.keep kk (fun h => h); have g1 := HX3.out.keep kk (fun h => h); have x0_0 := Bk.cell g0 0 rfl; have x0_1 := Bk.cell g0 1 rfl; have x1_0 := g1.cell 0 rfl; have x1_1 := g1.cell 1 rfl; have x1_2 := g1.cell 2 rfl; clear g0 g1; have HSL := hid (k.sl HSL.out); have HO9 := hid (HO3.out.keep kk (fun h => h)); have HB9 := hid (HB3.out.keep kk (fun h => h)); have KK9 := hid kk; have o0 := HO9.out.cell 0 rfl; have fo0 := HO9.out.free 0; have o1 := HO9.out.cell 1 rfl; have fo1 := HO9.out.free 1; have o2 := HO9.out.cell 2 rfl; have fo2 := HO9.out.free 2; have o3 := HO9.out.cell 3 rfl; have fo3 := HO9.out.free 3; have o4 := HO9.out.cell 4 rfl; have fo4 := HO9.out.free 4; have o5 := HO9.out.cell 5 rfl; have fo5 := HO9.out.free 5; clear k)) | fail
  all_goals
    obtain ⟨W8, hW8⟩ : ∃ q, (((((w9.setCell ⟨z + 1, 0, none⟩ (.int .i64 now)).setCell ⟨z + 1, 1, none⟩ (.slice la (lampsD l).length lc)).setCell ⟨z + 1, 2, none⟩ (.int .u8 qa)).setCell ⟨z + 1, 3, none⟩ (.bool so)).setCell ⟨z + 1, 4, none⟩ (.bool bp)).setCell ⟨z + 1, 5, none⟩ (.bool bo) = q := ⟨_, rfl⟩
    have b2 := (((((HO9.out.put 0 (.int .i64 now) rfl).put 1 (.slice la (lampsD l).length lc) rfl).put 2 (.int .u8 qa) rfl).put 3 (.bool so) rfl).put 4 (.bool bp) rfl).put 5 (.bool bo) rfl
    have k8 := ((((((Keeps.refl (fun i => i = z + 1) w9).setCell (p := ⟨z + 1, 0, none⟩) (Or.inr rfl) (.int .i64 now)).setCell (p := ⟨z + 1, 1, none⟩) (Or.inr rfl) (.slice la (lampsD l).length lc)).setCell (p := ⟨z + 1, 2, none⟩) (Or.inr rfl) (.int .u8 qa)).setCell (p := ⟨z + 1, 3, none⟩) (Or.inr rfl) (.bool so)).setCell (p := ⟨z + 1, 4, none⟩) (Or.inr rfl) (.bool bp)).setCell (p := ⟨z + 1, 5, none⟩) (Or.inr rfl) (.bool bo)
    rw [hW8] at b2 k8
    go_wp2_with fail
    try rw [hW8]
    clear hW8
    have s0 := b2.cell 0 rfl
    have s1 := b2.cell 1 rfl
    have s2 := b2.cell 2 rfl
    have s3 := b2.cell 3 rfl
    have s4 := b2.cell 4 rfl
    have s5 := b2.cell 5 rfl
    refine bodyPost_ret (v := .agg #[.int .i64 now, .slice la (lampsD l).length lc, .int .u8 qa, .bool so, .bool bp, .bool bo]) (by simp [results, Try.results29, go_sem, s0, s1, s2, s3, s4, s5]) rfl ?_
    have hz3 : z + 2 ≤ w3.heap.size := by have h1 := HZS.out; have h2 := K2.out.size; have h3 := K3.out.size; omega
    have hwz := HWZ.out
    have hqa : au = qa := by
      have h1 := HQ.out
      split at h1
      · rename_i h0; injection h1 with h3 h4; omega
      · injection h1 with h3 h4
    have hsp : showP ⟨0, 0⟩ now l ⟨ti, ho, hm⟩ = ⟨qa, qb⟩ := by unfold showP; rw [HAU.out]; exact HQ.out
    refine ⟨.slice la (lampsD l).length lc, ?_, ?_, ?_, ?_⟩
    · unfold showD
      rw [hsp, HAU.out, hqa]
      simp only [OutD.val]
      rw [HPH.out, HSD.out, HBP.out, HBO.out]
    · exact Sl.keep HSL.out k8 (fun k hk e => by have := HNW.out k hk; omega)
    · intro k hk
      have := HNW.out k hk
      omega
    · exact (HKA.out.trans KK9.out).trans' k8 (fun _ _ h => h) (fun i hi e => by omega)

end Go.Proofs.Ytnmlaobiljmgaaa
