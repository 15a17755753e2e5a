/- Frames are told as they were made, one behind the other; none is lost, and nothing waits. No conditions. -/
import Derived.Test.YthfjihpfcollfaaRows
import Derived.Test.YthfjihpfcollfaaArgs
import Derived.Test.YthfjihpfcollfaaFr13
import Derived.ProofKit
import Derived.OpenShut
namespace Go.Proofs.Ythfjihpfcollfaa.frameThere
open Go.ChangeShapes Go.WideShapes Go.ChangeAt Go.RowKit
open Go.ChangeMaps (open_string shut_string)
set_option linter.unusedVariables false

set_option maxHeartbeats 8000000 in
set_option maxRecDepth 100000 in
theorem walk (w : World) (s : Option Addr) (cap : Nat) (l : List Prt) (hs : Sl w 4 (.slice s l.length cap) l.length (l.flatMap encP)) (hg : ∀ y ∈ l, goodP w y) :
    Calls Try.prog 3 #[.slice s l.length cap] w fun e w' => e = .returned (.bool true) ∧ Below w.heap.size w w' := by
  have HS := hid hs
  have HG := hid hg
  clear hs hg
  by_cases hl : l.length ≤ 12
  · obtain ⟨i0, hi, hz0, hz1, hz2⟩ := info_parts info_bytes
    have HI := hid hi
    clear hi
    go_enter Try.func3, Try.ntmps3
    go_wp2_with fail
    refine (told_true _).mono ?_
    rintro e w1 ⟨rfl, k1⟩
    have K1 := hid k1
    clear k1
    go_wp2_with fail
    refine (few_yes hl).mono ?_
    rintro e w' ⟨rfl, rfl⟩
    go_wp2_with fail
    go_loopw [3, 4, 5] (fun v3 v4 v5 wr => ∃ (i : Nat) (L : List (List Int)) (ws : List Value), i ≤ l.length ∧ L.length = i ∧ v5 = .int .i64 i ∧ Hid (ThL w wr L ws v3 v4)) (fun _ _ v5 _ => l.length - (intOf v5).toNat)
    case atStart => exact ⟨0, [], [], Nat.zero_le _, rfl, rfl, hid (ThL.start w _ K1.out)⟩
    case round =>
      obtain ⟨i, L, ws, hi, hLi, rfl, HT⟩ := hrel
      have hwl := HT.out.wrd.len
      obtain ⟨a3, c3, rfl⟩ := own_any HT.out.want
      obtain ⟨ST, hST⟩ : ∃ ST, L.flatMap frm = ST := ⟨_, rfl⟩
      have hstr := HT.out.str
      rw [hST] at hstr
      obtain ⟨a4, c4, rfl⟩ := own_any hstr
      have hwl2 : ws.length ≤ 12 := by omega
      have hstl : ST.length ≤ 444 := by have := HT.out.len; rw [hST] at this; omega
      have HST := hid hST
      clear hST hstr
      have HLI := hid hLi
      clear hwl hLi
      by_cases hlt : i < l.length
      · obtain ⟨g, off, rfl, x0, x1, x2, x3⟩ := prt_cells HS.out hlt
        obtain ⟨hsv, hbv, hkk, hka, hkt⟩ := HG.out l[i] (List.getElem_mem hlt)
        obtain ⟨y, hy⟩ : ∃ y, l[i] = y := ⟨_, rfl⟩
        rw [hy] at x0 x1 x2 x3 hsv hbv hkk hka hkt
        obtain ⟨kk, vv, pp, aa, tt⟩ := y
        dsimp only at x0 x1 x2 x3 hsv hbv hkk hka hkt
        obtain ⟨av, cv, rfl⟩ := hsv.any
        have x1 := HT.out.keep.cell (fun h => h) x1
        have x3 := HT.out.keep.cell (fun h => h) x3
        have HV := hid (hsv.keep HT.out.keep (fun _ _ h => h))
        have HVL : Hid (0 < pp.length → ∀ k, (Value.slice av pp.length cv).ownBlock = some k → k < w.heap.size) := hid (fun h => hsv.lt h)
        have HB := hid hbv
        have HT1 := hid hkt
        have hcapv := Sl.cap hsv
        clear hy hsv hbv hkt x0 x2 hkk hka
        by_cases hp0 : pp.length = 0
        · skip
          obtain rfl := List.length_eq_zero_iff.1 hp0
          obtain ⟨m, hm⟩ : ∃ m, [tt] = m := ⟨_, rfl⟩
          have hml : m.length = 1 := by rw [← hm]; rfl
          have HMB : Hid (Bytes m) := hid (by rw [← hm]; intro x hx; simp at hx; subst hx; exact HT1.out)
          have HM : Hid (Sl (wr.alloc (.cells #[.int .u8 tt] 5)) 1 (.slice (some ⟨wr.heap.size, 0, none⟩) 1 1) 1 (m.map (Value.int .u8))) := hid (by rw [← hm]; exact Sl.new wr #[.int .u8 tt] _ 1 1 rfl (by decide))
          have HMU : Hid (SlB (wr.alloc (.cells #[.int .u8 tt] 5)) (.slice (some ⟨wr.heap.size, 0, none⟩) 1 1) m) := hid (by unfold SlB; rw [hml]; exact HM.out)
          have HMS : Hid (∀ k, (Value.slice a3 ws.length c3).ownBlock = some k → (Value.slice (some ⟨wr.heap.size, 0, none⟩) 1 1).ownBlock ≠ some k) := hid (fun k hk h' => by
            have := own_lt HT.out.want k hk
            simp [Value.ownBlock] at h'
            omega)
          have m1 : 1 ≤ m.length := by omega
          have m2 : m.length ≤ 32 := by omega
          have HML := hid hml
          have HT5 : Hid (ThL w (wr.alloc (.cells #[.int .u8 tt] 5)) L ws (.slice a3 ws.length c3) (.slice a4 ST.length c4)) := hid (HT.out.calm ((Keeps.refl No wr).alloc _))
          clear hm hml HM
          go_wp2_with fail
          refine (frame_any (p := m) HMU.out HMB.out (by have := HML.out; omega)).mono ?_
          rintro e w5 ⟨v5, rfl, ho5, k5, f5⟩
          obtain ⟨a5, c5, rfl⟩ := own_any ho5
          have HFL := hid (frm_len m)
          obtain ⟨X, hX⟩ : ∃ X, frm m = X := ⟨_, rfl⟩
          rw [hX] at ho5 HFL f5
          have HX := hid hX
          have HF5 : Hid (SlB w5 (.slice a5 X.length c5) X) := hid (Sl.ofOwn ho5)
          have HF5N : Hid (∀ k, (Value.slice a5 X.length c5).ownBlock = some k → wr.heap.size ≤ k) := hid (fun k hk => Nat.le_trans (by simp) (f5 k hk))
          have HMU5 := hid (HMU.out.keep k5 (fun _ _ h => h))
          have HT6 := hid (HT5.out.calm k5)
          clear ho5 k5 f5 hX
          go_wp2_with fail
          refine (mframe_any (p := m) HMU5.out HMB.out (by have := HML.out; omega)).mono ?_
          rintro e w6 ⟨v6, rfl, ho6, k6, f6⟩
          obtain ⟨a6, c6, rfl⟩ := own_any ho6
          rw [HX.out] at ho6
          have HF6 : Hid (SlB w6 (.slice a6 X.length c6) X) := hid (Sl.ofOwn ho6)
          have HMU6 := hid (HMU5.out.keep k6 (fun _ _ h => h))
          have HF56 := hid (HF5.out.keep k6 (fun _ _ h => h))
          have HT7 := hid (HT6.out.calm k6)
          clear ho6 k6 f6
          rw [HX.out]
          go_wp2_with fail
          refine (mbytes_true (l := X) HF56.out HF6.out).mono ?_
          rintro e w7 ⟨rfl, k7⟩
          have HF7 := hid (HF56.out.keep k7 (fun _ _ h => h))
          have HMU7 := hid (HMU6.out.keep k7 (fun _ _ h => h))
          have HT8 := hid (HT7.out.calm k7)
          clear k7
          go_wp2_with (at_builtin; refine wpl_append rfl _ _ 25 rfl 26 i0 (.slice none 0 0) 1 24 Try.underlying25 HI.out hz0 hz1 hz2 rfl (by decide) _ _ _ _ _ _ rfl rfl (HT8.out.want.alloc _) (Sl.one _ _ _) ?c2 ?c3 ?c4 ?_)
          case c2 => intro x hx; simp at hx; subst hx; rfl
          case c3 => unfold maxLen; omega
          case c4 => omega
          intro v8 w8 ho8 k8 hb8
          have hput := HT8.out.put (m := m) HMU7.out (by have := HML.out; omega) HMS.out ho8 k8 (by simpa using hb8)
          have HF8 := hid (HF7.out.keep (((Keeps.refl No w7).alloc _).trans' k8 (T := Bl (.slice a3 ws.length c3)) (fun _ _ h => h.elim) (fun _ _ h => h)) (fun k hk hB => by have h1 := own_lt HT.out.want k hB; have h2 := HF5N.out k hk; omega))
          obtain ⟨ws', hws⟩ : ∃ ws', ws ++ [.slice (some ⟨wr.heap.size, 0, none⟩) 1 1] = ws' := ⟨_, rfl⟩
          rw [hws] at hput
          obtain ⟨a8, c8, rfl⟩ := own_any hput.1
          have HPUT := hid hput
          have HWL : Hid (ws'.length = ws.length + 1) := hid (by rw [← hws]; simp)
          clear ho8 k8 hb8 hput hws
          go_wp2_with fail
          have hst8 := HPUT.out.2.2.1
          rw [HST.out] at hst8
          have HST8 := hid (Sl.ofOwn hst8)
          clear hst8
          refine (mjoin_any (p := ST) HST8.out HF8.out (by have := HFL.out; have := HML.out; omega)).mono ?_
          rintro e w9 ⟨v9, rfl, ho9, k9, f9⟩
          obtain ⟨a9, c9, rfl⟩ := own_any ho9
          have ho9' : w9.ownsRow 0 5 1 (.slice a9 (ST.length + X.length) c9) ((L.flatMap frm).length + (frm m).length) ((L.flatMap frm ++ frm m).map (Value.int .u8)) := by rw [HX.out, HST.out]; exact ho9
          have ht9 := ThL.join HT.out.good HT.out.len HT.out.byt (m := m) (by have := HML.out; omega) (by have := HML.out; omega) HMB.out HPUT.out ho9' k9 f9
          have HT9 := hid ht9
          clear ho9 ho9' k9 f9 ht9
          go_wp2_with fail
          go_roundw
          case rel => exact ⟨i + 1, L ++ [m], ws', by omega, by rw [List.length_append, HLI.out]; rfl, by go_num, HT9⟩
          case measure => simp [intOf]; omega
        · by_cases hlong : 32 < pp.length
          · skip
            have hp32 : (pp.take 32).length = 32 := by rw [List.length_take]; omega
            have hd1 : decide ((pp.length : Int) > 32) = true := decide_eq_true (by omega)
            have hd2 : decide ((32 : Int) < (pp.length : Int)) = true := decide_eq_true (by omega)
            have HMU0 : Hid (SlB wr (.slice av 32 cv) (pp.take 32)) := hid (SlB.frontN HV.out (by omega))
            obtain ⟨m, hm⟩ : ∃ m, pp.take 32 = m := ⟨_, rfl⟩
            have HMB : Hid (Bytes m) := hid (hm ▸ HB.out.take 32)
            rw [hm] at hp32 HMU0
            have HMU := HMU0
            have HMS : Hid (∀ k, (Value.slice a3 ws.length c3).ownBlock = some k → (Value.slice av 32 cv).ownBlock ≠ some k) := hid (fun k hk h' => by
              have h1 := HT.out.wnew k hk
              have h2 := HVL.out (by omega) k ((own_any_len av 32 cv pp.length cv).symm.trans h')
              omega)
            have m1 : 1 ≤ m.length := by omega
            have m2 : m.length ≤ 32 := by omega
            have hcv : 32 ≤ cv := by omega
            have HML := hid hp32
            have HT5 := HT
            clear hm hp32 HMU0
            go_wp2_with fail
            refine (frame_any (p := m) HMU.out HMB.out (by have := HML.out; omega)).mono ?_
            rintro e w5 ⟨v5, rfl, ho5, k5, f5⟩
            obtain ⟨a5, c5, rfl⟩ := own_any ho5
            have HFL := hid (frm_len m)
            obtain ⟨X, hX⟩ : ∃ X, frm m = X := ⟨_, rfl⟩
            rw [hX] at ho5 HFL f5
            have HX := hid hX
            have HF5 : Hid (SlB w5 (.slice a5 X.length c5) X) := hid (Sl.ofOwn ho5)
            have HF5N : Hid (∀ k, (Value.slice a5 X.length c5).ownBlock = some k → wr.heap.size ≤ k) := hid (fun k hk => Nat.le_trans (by simp) (f5 k hk))
            have HMU5 := hid (HMU.out.keep k5 (fun _ _ h => h))
            have HT6 := hid (HT5.out.calm k5)
            clear ho5 k5 f5 hX
            go_wp2_with fail
            refine (mframe_any (p := m) HMU5.out HMB.out (by have := HML.out; omega)).mono ?_
            rintro e w6 ⟨v6, rfl, ho6, k6, f6⟩
            obtain ⟨a6, c6, rfl⟩ := own_any ho6
            rw [HX.out] at ho6
            have HF6 : Hid (SlB w6 (.slice a6 X.length c6) X) := hid (Sl.ofOwn ho6)
            have HMU6 := hid (HMU5.out.keep k6 (fun _ _ h => h))
            have HF56 := hid (HF5.out.keep k6 (fun _ _ h => h))
            have HT7 := hid (HT6.out.calm k6)
            clear ho6 k6 f6
            rw [HX.out]
            go_wp2_with fail
            refine (mbytes_true (l := X) HF56.out HF6.out).mono ?_
            rintro e w7 ⟨rfl, k7⟩
            have HF7 := hid (HF56.out.keep k7 (fun _ _ h => h))
            have HMU7 := hid (HMU6.out.keep k7 (fun _ _ h => h))
            have HT8 := hid (HT7.out.calm k7)
            clear k7
            go_wp2_with (at_builtin; refine wpl_append rfl _ _ 25 rfl 26 i0 (.slice none 0 0) 1 24 Try.underlying25 HI.out hz0 hz1 hz2 rfl (by decide) _ _ _ _ _ _ rfl rfl (HT8.out.want.alloc _) (Sl.one _ _ _) ?c2 ?c3 ?c4 ?_)
            case c2 => intro x hx; simp at hx; subst hx; rfl
            case c3 => unfold maxLen; omega
            case c4 => omega
            intro v8 w8 ho8 k8 hb8
            have hput := HT8.out.put (m := m) HMU7.out (by have := HML.out; omega) HMS.out ho8 k8 (by simpa using hb8)
            have HF8 := hid (HF7.out.keep (((Keeps.refl No w7).alloc _).trans' k8 (T := Bl (.slice a3 ws.length c3)) (fun _ _ h => h.elim) (fun _ _ h => h)) (fun k hk hB => by have h1 := own_lt HT.out.want k hB; have h2 := HF5N.out k hk; omega))
            obtain ⟨ws', hws⟩ : ∃ ws', ws ++ [.slice av 32 cv] = ws' := ⟨_, rfl⟩
            rw [hws] at hput
            obtain ⟨a8, c8, rfl⟩ := own_any hput.1
            have HPUT := hid hput
            have HWL : Hid (ws'.length = ws.length + 1) := hid (by rw [← hws]; simp)
            clear ho8 k8 hb8 hput hws
            go_wp2_with fail
            have hst8 := HPUT.out.2.2.1
            rw [HST.out] at hst8
            have HST8 := hid (Sl.ofOwn hst8)
            clear hst8
            refine (mjoin_any (p := ST) HST8.out HF8.out (by have := HFL.out; have := HML.out; omega)).mono ?_
            rintro e w9 ⟨v9, rfl, ho9, k9, f9⟩
            obtain ⟨a9, c9, rfl⟩ := own_any ho9
            have ho9' : w9.ownsRow 0 5 1 (.slice a9 (ST.length + X.length) c9) ((L.flatMap frm).length + (frm m).length) ((L.flatMap frm ++ frm m).map (Value.int .u8)) := by rw [HX.out, HST.out]; exact ho9
            have ht9 := ThL.join HT.out.good HT.out.len HT.out.byt (m := m) (by have := HML.out; omega) (by have := HML.out; omega) HMB.out HPUT.out ho9' k9 f9
            have HT9 := hid ht9
            clear ho9 ho9' k9 f9 ht9
            go_wp2_with fail
            go_roundw
            case rel => exact ⟨i + 1, L ++ [m], ws', by omega, by rw [List.length_append, HLI.out]; rfl, by go_num, HT9⟩
            case measure => simp [intOf]; omega
          · skip
            have hd1 : decide ((pp.length : Int) > 32) = false := decide_eq_false (by omega)
            have hd2 : decide ((32 : Int) < (pp.length : Int)) = false := decide_eq_false (by omega)
            have hd3 : ((pp.length : Int) == 0) = false := by simp; intro h; exact hp0 (by simp [h])
            have HMU := HV
            have HMB := HB
            have HMS : Hid (∀ k, (Value.slice a3 ws.length c3).ownBlock = some k → (Value.slice av pp.length cv).ownBlock ≠ some k) := hid (fun k hk h' => by
              have h1 := HT.out.wnew k hk
              have h2 := HVL.out (by omega) k h'
              omega)
            obtain ⟨N, hN⟩ : ∃ N, pp.length = N := ⟨_, rfl⟩
            have HMU : Hid (Sl wr 1 (.slice av N cv) N (pp.map (Value.int .u8))) := hid (hN ▸ HMU.out)
            have m1 : 1 ≤ N := by omega
            have m2 : N ≤ 32 := by omega
            rw [hN] at hlong hp0 hd1 hd2 hd3 x1 hcapv HMS
            obtain ⟨m, hm⟩ : ∃ m, pp = m := ⟨_, rfl⟩
            rw [hm] at HMU HMB hN
            have HML := hid hN
            have HMU : Hid (SlB wr (.slice av N cv) m) := hid (by unfold SlB; rw [HML.out]; exact HMU.out)
            have HT5 := HT
            clear hm hN
            go_wp2_with fail
            refine (frame_any (p := m) HMU.out HMB.out (by have := HML.out; omega)).mono ?_
            rintro e w5 ⟨v5, rfl, ho5, k5, f5⟩
            obtain ⟨a5, c5, rfl⟩ := own_any ho5
            have HFL := hid (frm_len m)
            obtain ⟨X, hX⟩ : ∃ X, frm m = X := ⟨_, rfl⟩
            rw [hX] at ho5 HFL f5
            have HX := hid hX
            have HF5 : Hid (SlB w5 (.slice a5 X.length c5) X) := hid (Sl.ofOwn ho5)
            have HF5N : Hid (∀ k, (Value.slice a5 X.length c5).ownBlock = some k → wr.heap.size ≤ k) := hid (fun k hk => Nat.le_trans (by simp) (f5 k hk))
            have HMU5 := hid (HMU.out.keep k5 (fun _ _ h => h))
            have HT6 := hid (HT5.out.calm k5)
            clear ho5 k5 f5 hX
            go_wp2_with fail
            refine (mframe_any (p := m) HMU5.out HMB.out (by have := HML.out; omega)).mono ?_
            rintro e w6 ⟨v6, rfl, ho6, k6, f6⟩
            obtain ⟨a6, c6, rfl⟩ := own_any ho6
            rw [HX.out] at ho6
            have HF6 : Hid (SlB w6 (.slice a6 X.length c6) X) := hid (Sl.ofOwn ho6)
            have HMU6 := hid (HMU5.out.keep k6 (fun _ _ h => h))
            have HF56 := hid (HF5.out.keep k6 (fun _ _ h => h))
            have HT7 := hid (HT6.out.calm k6)
            clear ho6 k6 f6
            rw [HX.out]
            go_wp2_with fail
            refine (mbytes_true (l := X) HF56.out HF6.out).mono ?_
            rintro e w7 ⟨rfl, k7⟩
            have HF7 := hid (HF56.out.keep k7 (fun _ _ h => h))
            have HMU7 := hid (HMU6.out.keep k7 (fun _ _ h => h))
            have HT8 := hid (HT7.out.calm k7)
            clear k7
            go_wp2_with (at_builtin; refine wpl_append rfl _ _ 25 rfl 26 i0 (.slice none 0 0) 1 24 Try.underlying25 HI.out hz0 hz1 hz2 rfl (by decide) _ _ _ _ _ _ rfl rfl (HT8.out.want.alloc _) (Sl.one _ _ _) ?c2 ?c3 ?c4 ?_)
            case c2 => intro x hx; simp at hx; subst hx; rfl
            case c3 => unfold maxLen; omega
            case c4 => omega
            intro v8 w8 ho8 k8 hb8
            have hput := HT8.out.put (m := m) HMU7.out (by have := HML.out; omega) HMS.out ho8 k8 (by simpa using hb8)
            have HF8 := hid (HF7.out.keep (((Keeps.refl No w7).alloc _).trans' k8 (T := Bl (.slice a3 ws.length c3)) (fun _ _ h => h.elim) (fun _ _ h => h)) (fun k hk hB => by have h1 := own_lt HT.out.want k hB; have h2 := HF5N.out k hk; omega))
            obtain ⟨ws', hws⟩ : ∃ ws', ws ++ [.slice av N cv] = ws' := ⟨_, rfl⟩
            rw [hws] at hput
            obtain ⟨a8, c8, rfl⟩ := own_any hput.1
            have HPUT := hid hput
            have HWL : Hid (ws'.length = ws.length + 1) := hid (by rw [← hws]; simp)
            clear ho8 k8 hb8 hput hws
            go_wp2_with fail
            have hst8 := HPUT.out.2.2.1
            rw [HST.out] at hst8
            have HST8 := hid (Sl.ofOwn hst8)
            clear hst8
            refine (mjoin_any (p := ST) HST8.out HF8.out (by have := HFL.out; have := HML.out; omega)).mono ?_
            rintro e w9 ⟨v9, rfl, ho9, k9, f9⟩
            obtain ⟨a9, c9, rfl⟩ := own_any ho9
            have ho9' : w9.ownsRow 0 5 1 (.slice a9 (ST.length + X.length) c9) ((L.flatMap frm).length + (frm m).length) ((L.flatMap frm ++ frm m).map (Value.int .u8)) := by rw [HX.out, HST.out]; exact ho9
            have ht9 := ThL.join HT.out.good HT.out.len HT.out.byt (m := m) (by have := HML.out; omega) (by have := HML.out; omega) HMB.out HPUT.out ho9' k9 f9
            have HT9 := hid ht9
            clear ho9 ho9' k9 f9 ht9
            go_wp2_with fail
            go_roundw
            case rel => exact ⟨i + 1, L ++ [m], ws', by omega, by rw [List.length_append, HLI.out]; rfl, by go_num, HT9⟩
            case measure => simp [intOf]; omega
      · have hLl : L.length = l.length := by have := HLI.out; omega
        go_wp2_with fail
        refine new_any.mono ?_
        rintro e w3 ⟨F, rfl, h3, k3, f3⟩
        have H3 := hid (OwnS.made HT.out.keep h3 k3 f3)
        have HT3 := hid (HT.out.calm k3)
        have hb3 := HT.out.wl
        have hw3 := own_lt HT.out.want
        have HNW : Hid (∀ k, (Value.slice a3 ws.length c3).ownBlock = some k → ¬ F k) := hid (fun k hk hF => by have h1 := f3 k hF; have h2 := hw3 k hk; omega)
        have HNU : Hid (∀ u ∈ ws, ∀ k, u.ownBlock = some k → ¬ F k) := hid (fun u hu k hk hF => by have h1 := f3 k hF; have h2 := hb3 u hu k hk; omega)
        clear h3 k3 f3 hb3 hw3
        have hst3 := HT3.out.str
        have hby3 := HT3.out.byt
        rw [HST.out] at hst3 hby3
        have hfeed := feed_any H3.out.sc (p := ST) (Sl.ofOwn hst3) hby3 (by simp only [List.length_nil]; omega) (by omega)
        rw [List.nil_append, ← HST.out, scan_frms L HT3.out.good, HST.out] at hfeed
        clear hst3 hby3
        have HFE := hid hfeed
        clear hfeed
        go_wp2_with fail
        refine HFE.out.mono ?_
        rintro e w4 ⟨tv, rfl, hf⟩
        obtain ⟨vs, F', hsc, hu, ho4, hr4, _⟩ := H3.out.fed hf
        have hwk := hu.keeps.own HT3.out.want HNW.out
        have hrk := RdAll.keep hu.keeps HT3.out.wrd HNU.out
        obtain ⟨a6, c6, rfl⟩ := own_any ho4
        have HO4 := hid (Sl.ofOwn ho4)
        have HR4 := hid hr4
        have HWK := hid (Sl.ofOwn hwk)
        have HRK := hid hrk
        have H4 : Hid (OwnS w w4 _ F' [] 0) := hid hsc
        clear hf hsc hu ho4 hr4 hwk hrk HFE
        go_wp2_with fail
        refine (same_true HO4.out HWK.out HR4.out HRK.out).mono ?_
        rintro e w5 ⟨rfl, k5⟩
        have H5 := hid (H4.out.calm k5)
        clear k5
        go_wp2_with fail
        refine (lost_any H5.out.sc).mono ?_
        rintro e w' ⟨rfl, rfl⟩
        go_wp2_with fail
        refine (held_any H5.out.sc).mono ?_
        rintro e w' ⟨rfl, rfl⟩
        go_wp2_with fail
        go_ret
        exact ⟨rfl, H5.out.keep.toBelow⟩
  · go_enter Try.func3, Try.ntmps3
    go_wp2_with fail
    refine (told_true _).mono ?_
    rintro e w1 ⟨rfl, k1⟩
    have K1 := hid k1
    clear k1
    go_wp2_with fail
    refine (few_no hl).mono ?_
    rintro e w' ⟨rfl, rfl⟩
    go_wp2_with fail
    refine (told_true _).mono ?_
    rintro e w2 ⟨rfl, k2⟩
    have K2 := hid (K1.out.trans k2)
    clear k2
    go_wp2_with fail
    go_ret
    exact ⟨rfl, K2.out.toBelow⟩

theorem own : ownKnob Try.prog.godebug = none := by kernel_rfl
theorem laidOut : laidOutB Try.prog = true := by kernel_rfl
set_option maxRecDepth 100000 in
theorem lifted (os : Os) (started : os.Started) (H : Type) (enc : TypeId × Value → H) :
    ReturnsInHanded {} Try.checked os 3 .any (Rows.frameThereSpec.pre6 enc Try.prog Try.f3 Rows.frameThereRow.domain false) (Rows.frameThereSpec.post enc Try.prog Try.f3 false true false false) := by
  refine returnsInHanded_of_change (C := Try.checked) own started (by kernel_rfl) Try.func3
    (ChangeSpec.witness6 (enc := enc) (C := Try.checked) false ⟨#[], #[.slice none 0 0], []⟩ 8 (by kernel_rfl) (by kernel_rfl) (by kernel_rfl) (by kernel_rfl)) ?_
  intro W base args ds gs before hval0 hW hcnd _
  have hval : ∀ (j : Nat) t v, Try.f3.params[j]? = some t → args[j]? = some v → Value.okWide Try.prog W .any base t v := hval0
  have hW' := hW
  obtain ⟨p, q, hA0, hV, rfl, hfz, hnd⟩ := hW
  have hA : DataW.TrodAll enc Try.prog W 0 (fun _ => true) true Try.f3.params.toList args.toList ds p := hA0
  rw [Try.params3] at hA hval
  obtain ⟨v0, vs0, d0, ds0, p0, q0, hargs, rfl, rfl, h0, r0⟩ := trodAll_cons hA
  obtain ⟨rfl, rfl, rfl⟩ := trodAll_nil r0
  obtain rfl : args = #[v0] := by cases args; simp_all
  obtain ⟨rfl, rfl⟩ := trodVars_none hV
  have k0 := h0
  have lt0 : ∀ x ∈ p0, x.block < W.heap.size := by obtain ⟨m, hm⟩ := k0; exact DataW.trod_lt m _ _ _ hm
  obtain ⟨s0, len0, cap0, rfl⟩ := okWide_slice Try.underlying22 (hval 0 22 v0 rfl rfl)
  obtain ⟨l0, rfl, w0, b0⟩ := argSlice (encE := encP) (good := (goodP W)) (size := 4) (fun _ => rfl) (by decide) Try.underlying22 (by kernel_rfl) (fun n cs x hx => decP hx) h0
  clear hA0 hval0
  refine (walk W s0 cap0 l0 w0 b0).mono fun e W' ⟨he, bel⟩ => ?_
  subst he
  exact ⟨_, rfl, _, _, _, [], _, [], hW', trodAll_mk1 (shut_bool Try.underlying4 _), (trodAll_cons_mk (Below.trod laidOut (by kernel_rfl) (of_decide_eq_true (by kernel_rfl)) k0 bel lt0) trodAll_mk0), rfl, bel.frame _, fun h => by cases h⟩

theorem over : Rows.frameThereRow.holds Try.pinned (OpenSpec.ofChange Rows.frameThereSpec) :=
  OpenClaim.holds_of_wide 3 Try.f3 rfl rfl rfl rfl rfl rfl rfl ⟨rfl, rfl, rfl, rfl, rfl⟩ rfl rfl rfl rfl rfl (by kernel_rfl) Try.func3 (by kernel_rfl)
    (of_decide_eq_true (by kernel_rfl)) (by unfold Func.isWrapper; first | (rw [if_pos (by decide +kernel)]; kernel_rfl) | (rw [if_neg (by decide +kernel)]; exact ⟨rfl, rfl⟩))
    (fun os started H enc _ => lifted os started H enc)

theorem proved : Rows.FrameThereSaid := over
#print axioms proved
end Go.Proofs.Ythfjihpfcollfaa.frameThere
