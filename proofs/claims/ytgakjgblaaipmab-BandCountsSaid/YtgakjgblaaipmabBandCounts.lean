/- Of rules that come once each no event is lost, and none is told twice: what was put and does not wait was taken. No conditions. -/
import Derived.Test.YtgakjgblaaipmabRows
import Derived.Test.YtgakjgblaaipmabArgs2
import Derived.Test.YtgakjgblaaipmabBandPlain3
import Derived.ProofKit
import Derived.OpenShut
namespace Go.Proofs.Ytgakjgblaaipmab.bandCounts
open Go.ChangeShapes Go.WideShapes Go.ChangeAt Go.RowKit
open Go.ChangeMaps (open_string shut_string)
set_option linter.unusedVariables false

theorem info_int : (Try.prog.info? 3).map (fun i => (i.zero, i.size, i.bytes)) = some (some (.int .i64 0), 1, 8) := by kernel_rfl

set_option maxHeartbeats 16000000 in
set_option maxRecDepth 100000 in
theorem walk (w : World) (s : Option Addr) (cap : Nat) (l : List Int) (hs : Sl w 1 (.slice s l.length cap) l.length (l.map (Value.int .u8))) (hb : ∀ n ∈ l, (Lit.int .u8 n).wf = true) (ev : Int) (wev : (Lit.int .u8 ev).wf = true) :
    Calls Try.prog 7 #[.slice s l.length cap, .int .u8 ev] w fun e w' => e = .returned (.bool true) ∧ Below w.heap.size w w' := by
  have HSL := hid hs
  have HB := hid hb
  obtain ⟨hev0, hev1⟩ := bounds_u8 wev
  clear hs hb wev
  by_cases hl : 100 < l.length
  · have hd : decide ((100 : Int) < l.length) = true := by simp; omega
    go_enter Try.func7, Try.ntmps7
    go_wp2_with fail
    refine (first_true _).mono ?_
    rintro e w1 ⟨rfl, k1⟩
    have K1 := hid k1
    clear k1
    go_wp2_with fail
    refine (first_true _).mono ?_
    rintro e w2 ⟨rfl, k2⟩
    have K2 := hid k2
    clear k2
    go_wp2_with fail
    go_ret
    exact ⟨rfl, (K1.out.trans K2.out).toBelow⟩
  · have hd : decide ((100 : Int) < l.length) = false := by simp; omega
    obtain ⟨c, hc⟩ : ∃ c : Nat, ev % 5 = (c : Int) := ⟨(ev % 5).toNat, by omega⟩
    have hc5 : c < 5 := by omega
    obtain ⟨N, hN⟩ : ∃ N : Nat, (2 + (c : Int)) * (l.length : Int) = (N : Int) := ⟨(2 + c) * l.length, by push_cast; rfl⟩
    have hNN : N = (2 + c) * l.length := by
      have : ((2 + c : Nat) : Int) * (l.length : Int) = (N : Int) := by push_cast; exact hN
      exact_mod_cast this.symm
    have hN1 : 2 * l.length ≤ N := by rw [hNN]; exact Nat.mul_le_mul_right _ (by omega)
    have hN2 : N ≤ 600 := by rw [hNN]; exact Nat.le_trans (Nat.mul_le_mul (show 2 + c ≤ 6 by omega) (show l.length ≤ 100 by omega)) (by omega)
    clear hNN
    obtain ⟨i0, hi, hz0, hz1, hz2⟩ := info_parts info_int
    have HI := hid hi
    clear hi
    go_enter Try.func7, Try.ntmps7
    go_wp2_with fail
    refine (first_true _).mono ?_
    rintro e w1 ⟨rfl, k1⟩
    have K1 := hid k1
    clear k1
    go_wp2_with fail
    refine (qnew_any 200 200 200 _).mono ?_
    rintro e w2 ⟨qb, rfl, F2, h2, f2, k2⟩
    have hR : ∀ i : Nat, roomOf (if i = 1 then 200 else if i = 2 then 200 else 200) = 200 := fun i => by split <;> (try split) <;> rfl
    simp only [hR] at h2
    have H2 := hid h2
    have O2 := hid (And.intro (fun i hi => Nat.le_trans K1.out.size (f2 i hi)) (K1.out.trans k2))
    clear h2 f2 k2 hR
    go_wp2_with (at_make; refine wpList_make_full _ rfl _ _ 53 rfl 0 3 i0 (.int .i64 0) 1 Try.underlying53 HI.out hz0 hz1 _ _ _ _ l.length rfl rfl rfl rfl ?c1 ?c2 ?c3 ?_)
    case c1 => rw [hz2]; omega
    case c2 => unfold maxLen; omega
    case c3 => omega
    intro w3 hown hgrow
    have k3 : Keeps No w2 w3 := (Keeps.refl _ _).grown hgrow (fun k h => by cases h)
    rw [toList_madeCells_one] at hown
    have hrow : w3.ownsRow 0 3 1 (.slice (some ⟨w2.heap.size, 0, none⟩) l.length l.length) l.length ((List.replicate l.length (0 : Int)).map (Value.int .i64)) := by
      rw [List.map_replicate]; exact hown
    have hF3 : ¬ F2 w2.heap.size := fun h => by have := H2.out.lt h; omega
    obtain ⟨sb, hsbe⟩ : ∃ sb, sb = w2.heap.size := ⟨_, rfl⟩
    have hsb : w.heap.size ≤ sb := by rw [hsbe]; exact O2.out.2.size
    rw [← hsbe] at hrow hF3 ⊢
    have H3 := hid (H2.out.keep k3 (fun _ _ h => h))
    have O3 := hid (And.intro O2.out.1 (O2.out.2.trans k3))
    have HR3 := hid hrow
    clear hown hgrow k3 hrow hsbe H2 O2 hz0 hz1 hz2 HI i0
    go_wp2_with fail
    clear hc
    go_loopw [8] (fun v8 wr => ∃ (i : Nat) (F : Nat → Prop) (L : Nat → List Ev) (s : List Int), i ≤ l.length + N ∧ v8 = .int .i64 i ∧ Hid (QueueE wr qb F (fun _ => 200) L) ∧ Hid ((∀ i, F i → w.heap.size ≤ i) ∧ Keeps No w wr) ∧ Hid (Counted l.length (min i l.length) s L) ∧
      Hid (wr.ownsRow 0 3 1 (.slice (some ⟨sb, 0, none⟩) l.length l.length) l.length (s.map (Value.int .i64))) ∧ Hid (¬ F sb) ∧ Hid ((tag L).length ≤ min i l.length - (i - l.length))) (fun v8 _ => l.length + N - (intOf v8).toNat)
    case atStart => exact ⟨0, F2, _, _, Nat.zero_le _, rfl, H3, O3, hid (by rw [Nat.zero_min]; exact Counted.start _), HR3, hid hF3, hid (by simp [tag])⟩
    case round =>
      obtain ⟨i, FX, LX, s, hi, rfl, HQ, HO, HC, HS, HF, HL⟩ := hrel
      clear H3 O3 HR3 hF3
      by_cases hlt : i < l.length + N
      · have e9 : decide ((i : Int) < (l.length : Int) + (N : Int)) = true := by simp; omega
        by_cases hin : i < l.length
        · rw [show min i l.length = i by omega] at HC
          have e0 : decide (i < l.length) = true := by simpa using hin
          have e2 : decide (l.length ≤ i) = false := by simp; omega
          obtain ⟨g, off, rfl, _, hcw⟩ := Sl.cellAt HSL.out (show (l.map (Value.int .u8))[i]? = some (.int .u8 l[i]) by simp [hin])
          have hcc := HO.out.2.cell (fun h => h) hcw
          have hbd := bounds_u8 (HB.out l[i] (List.getElem_mem hin))
          obtain ⟨x, hx⟩ : ∃ x, l[i] = x := ⟨_, rfl⟩
          rw [hx] at hcc hbd
          obtain ⟨hb0, hb1⟩ := hbd
          have hbo := bandOf_bd x
          have hlX : (tag LX).length ≤ i := by have := HL.out; omega
          have hlb := band_le_tag LX hbo.1 hbo.2
          clear hx hcw
          by_cases hmod : (i : Int) % (2 + (c : Int)) = 0
          · have e1 : ((i : Int) % (2 + (c : Int)) == 0) = true := by simpa using hmod
            clear hmod
            go_wp2_with fail
            refine (qput_new HQ.out (bandOf_int x).symm hbo.1 hbo.2 ⟨i, true, 0⟩ (fun y hy => HC.out.new hbo.1 hbo.2 hy) (by omega)).mono ?_
            rintro e w5 ⟨rfl, F5, h5, u5⟩
            have HQ5 := hid h5
            have HO5 := hid (newUpd HO.out.1 HO.out.2 u5)
            have HC5 := hid (HC.out.put hin hbo.1 hbo.2)
            have HS5 := hid (u5.keeps.own HS.out (fun k hk => by simp [Value.ownBlock] at hk; subst hk; exact HF.out))
            have HF5 : Hid (¬ F5 sb) := hid (u5.out (HS.out.lt sb rfl).2 HF.out)
            have HL5 : Hid ((tag (upd LX (bandOf x) (LX (bandOf x) ++ [⟨i, true, 0⟩]))).length ≤ i + 1) := hid (by rw [(tag_put LX hbo.1 hbo.2 ⟨i, true, 0⟩).length_eq]; simp; omega)
            obtain ⟨L5, hL5⟩ : ∃ L5, upd LX (bandOf x) (LX (bandOf x) ++ [⟨i, true, 0⟩]) = L5 := ⟨_, rfl⟩
            rw [hL5] at HQ5 HC5 HL5
            clear h5 u5 hcc HQ HO HC HS HF HL hL5 hlX hlb
            rcases hT : tag L5 with _ | ⟨⟨p, y⟩, rest⟩
            · have htk := qtake_none HQ5.out (tag_nil hT)
              simp only [Ev.val, Ev.zero] at htk
              have HT := hid hT
              clear hT
              go_wp2_with fail
              refine htk.mono ?_
              rintro e w6 ⟨rfl, k6⟩
              have K6 := hid k6
              clear k6 htk
              go_wp2_with fail
              go_roundw
              case rel => exact ⟨i + 1, F5, L5, s, by omega, by go_num, hid (HQ5.out.keep (K6.out.alloc _) (fun _ _ h => h)), hid ⟨HO5.out.1, HO5.out.2.trans (K6.out.alloc _)⟩, hid (by rw [show min (i + 1) l.length = i + 1 by omega]; exact HC5.out), hid ((K6.out.alloc _).own HS5.out (fun _ _ h => h)), HF5, hid (by rw [HT.out]; simp)⟩
              case measure => simp [intOf]; omega
            · obtain ⟨hp1, hp3, t, hLp, hno, hrest⟩ := tag_cons hT
              obtain ⟨r, hrn, hrm, rfl, hsr⟩ := HC5.out.head hT
              have htk := qtake_ok HQ5.out hp1 hp3 hLp hno
              simp only [Ev.val] at htk
              have HC2 := hid (Counted.take (L' := upd L5 p t) HC5.out hrn hrm (by rw [hrest]; exact hT))
              have HL2 : Hid ((tag (upd L5 p t)).length + 1 = (tag L5).length) := hid (by rw [hrest, hT]; simp)
              have e4 : decide ((r : Int) < 0) = false := by simp
              have e5 : decide (l.length ≤ r) = false := by simp; omega
              have HSR := hid hsr
              clear hT hLp hno hrest hsr
              go_wp2_with fail
              refine htk.mono ?_
              rintro e w6 ⟨rfl, F6, h6, u6⟩
              have ho6 := u6.keeps.own HS5.out (fun k hk => by simp [Value.ownBlock] at hk; subst hk; exact HF5.out)
              have hc6 : w6.cell? ⟨sb, r, none⟩ = some (.int .i64 0) := by rw [ho6.cellAt r (by omega)]; simp [HSR.out]
              have hf6 := ho6.frozenAt r
              have hl6 : sb < w6.heap.size := World.block_lt_of_cell? w6 _ hc6
              have hF6 : ¬ F6 sb := u6.out (HS5.out.lt sb rfl).2 HF5.out
              have O6 := hid (newUpd HO5.out.1 HO5.out.2 u6)
              have H6 := hid h6
              have HO6 := hid ho6
              have hne6 : ¬ sb = w6.heap.size := by omega
              clear h6 u6 ho6 htk
              go_wp2_with fail
              go_roundw
              case rel =>
                refine ⟨i + 1, F6, upd L5 p t, s.set r 1, by omega, by go_num, hid (QueueE.keep (S := fun k => k = sb) H6.out (((Keeps.refl (fun k => k = sb) w6).setCell (p := ⟨sb, r, none⟩) (Or.inr rfl) _).alloc _) (fun k hk e => hF6 (e ▸ hk))), hid ⟨O6.out.1, (O6.out.2.setCell (p := ⟨sb, r, none⟩) (Or.inl hsb) _).alloc _⟩, hid (by rw [show min (i + 1) l.length = i + 1 by omega]; exact HC2.out), hid ?_, hid hF6, hid (by have h1 := HL2.out; have h2 := HL5.out; omega)⟩
                have h1 := (HO6.out.stored r (.int .i64 1)).1.alloc (.cells #[.int .i64 r, .bool true, .int .i64 0] 31)
                rw [← List.map_set] at h1
                exact h1
              case measure => simp [intOf]; omega
          · have e1 : ((i : Int) % (2 + (c : Int)) == 0) = false := by simpa using hmod
            clear hmod
            go_wp2_with fail
            refine (qput_new HQ.out (bandOf_int x).symm hbo.1 hbo.2 ⟨i, true, 0⟩ (fun y hy => HC.out.new hbo.1 hbo.2 hy) (by omega)).mono ?_
            rintro e w5 ⟨rfl, F5, h5, u5⟩
            have HQ5 := hid h5
            have HO5 := hid (newUpd HO.out.1 HO.out.2 u5)
            have HC5 := hid (HC.out.put hin hbo.1 hbo.2)
            have HS5 := hid (u5.keeps.own HS.out (fun k hk => by simp [Value.ownBlock] at hk; subst hk; exact HF.out))
            have HF5 : Hid (¬ F5 sb) := hid (u5.out (HS.out.lt sb rfl).2 HF.out)
            have HL5 : Hid ((tag (upd LX (bandOf x) (LX (bandOf x) ++ [⟨i, true, 0⟩]))).length ≤ i + 1) := hid (by rw [(tag_put LX hbo.1 hbo.2 ⟨i, true, 0⟩).length_eq]; simp; omega)
            clear h5 u5 hcc
            go_wp2_with fail
            go_roundw
            case rel => exact ⟨i + 1, F5, _, s, by omega, by go_num, HQ5, HO5, hid (by rw [show min (i + 1) l.length = i + 1 by omega]; exact HC5.out), HS5, HF5, hid (by have := HL5.out; omega)⟩
            case measure => simp [intOf]; omega
        · rw [show min i l.length = l.length by omega] at HC HL
          have e0 : decide (i < l.length) = false := by simpa using hin
          have e2 : decide (l.length ≤ i) = true := by simp; omega
          by_cases hmod : (i : Int) % (2 + (c : Int)) = 0
          · have e1 : ((i : Int) % (2 + (c : Int)) == 0) = true := by simpa using hmod
            clear hmod
            rcases hT : tag LX with _ | ⟨⟨p, y⟩, rest⟩
            · have htk := qtake_none HQ.out (tag_nil hT)
              simp only [Ev.val, Ev.zero] at htk
              have HT := hid hT
              clear hT
              go_wp2_with fail
              refine htk.mono ?_
              rintro e w6 ⟨rfl, k6⟩
              have K6 := hid k6
              clear k6 htk
              go_wp2_with fail
              go_roundw
              case rel => exact ⟨i + 1, FX, LX, s, by omega, by go_num, hid (HQ.out.keep (K6.out.alloc _) (fun _ _ h => h)), hid ⟨HO.out.1, HO.out.2.trans (K6.out.alloc _)⟩, hid (by rw [show min (i + 1) l.length = l.length by omega]; exact HC.out), hid ((K6.out.alloc _).own HS.out (fun _ _ h => h)), HF, hid (by rw [HT.out]; simp)⟩
              case measure => simp [intOf]; omega
            · obtain ⟨hp1, hp3, t, hLp, hno, hrest⟩ := tag_cons hT
              obtain ⟨r, hrn, hrm, rfl, hsr⟩ := HC.out.head hT
              have htk := qtake_ok HQ.out hp1 hp3 hLp hno
              simp only [Ev.val] at htk
              have HC2 := hid (Counted.take (L' := upd LX p t) HC.out hrn hrm (by rw [hrest]; exact hT))
              have HL2 : Hid ((tag (upd LX p t)).length + 1 = (tag LX).length) := hid (by rw [hrest, hT]; simp)
              have e4 : decide ((r : Int) < 0) = false := by simp
              have e5 : decide (l.length ≤ r) = false := by simp; omega
              have HSR := hid hsr
              clear hT hLp hno hrest hsr
              go_wp2_with fail
              refine htk.mono ?_
              rintro e w6 ⟨rfl, F6, h6, u6⟩
              have ho6 := u6.keeps.own HS.out (fun k hk => by simp [Value.ownBlock] at hk; subst hk; exact HF.out)
              have hc6 : w6.cell? ⟨sb, r, none⟩ = some (.int .i64 0) := by rw [ho6.cellAt r (by omega)]; simp [HSR.out]
              have hf6 := ho6.frozenAt r
              have hl6 : sb < w6.heap.size := World.block_lt_of_cell? w6 _ hc6
              have hF6 : ¬ F6 sb := u6.out (HS.out.lt sb rfl).2 HF.out
              have O6 := hid (newUpd HO.out.1 HO.out.2 u6)
              have H6 := hid h6
              have HO6 := hid ho6
              have hne6 : ¬ sb = w6.heap.size := by omega
              clear h6 u6 ho6 htk
              go_wp2_with fail
              go_roundw
              case rel =>
                refine ⟨i + 1, F6, upd LX p t, s.set r 1, by omega, by go_num, hid (QueueE.keep (S := fun k => k = sb) H6.out (((Keeps.refl (fun k => k = sb) w6).setCell (p := ⟨sb, r, none⟩) (Or.inr rfl) _).alloc _) (fun k hk e => hF6 (e ▸ hk))), hid ⟨O6.out.1, (O6.out.2.setCell (p := ⟨sb, r, none⟩) (Or.inl hsb) _).alloc _⟩, hid (by rw [show min (i + 1) l.length = l.length by omega]; exact HC2.out), hid ?_, hid hF6, hid (by have h1 := HL2.out; have h2 := HL.out; omega)⟩
                have h1 := (HO6.out.stored r (.int .i64 1)).1.alloc (.cells #[.int .i64 r, .bool true, .int .i64 0] 31)
                rw [← List.map_set] at h1
                exact h1
              case measure => simp [intOf]; omega
          · have e1 : ((i : Int) % (2 + (c : Int)) == 0) = false := by simpa using hmod
            clear hmod
            rcases hT : tag LX with _ | ⟨⟨p, y⟩, rest⟩
            · have htk := qtake_none HQ.out (tag_nil hT)
              simp only [Ev.val, Ev.zero] at htk
              have HT := hid hT
              clear hT
              go_wp2_with fail
              refine htk.mono ?_
              rintro e w6 ⟨rfl, k6⟩
              have K6 := hid k6
              clear k6 htk
              go_wp2_with fail
              go_roundw
              case rel => exact ⟨i + 1, FX, LX, s, by omega, by go_num, hid (HQ.out.keep (K6.out.alloc _) (fun _ _ h => h)), hid ⟨HO.out.1, HO.out.2.trans (K6.out.alloc _)⟩, hid (by rw [show min (i + 1) l.length = l.length by omega]; exact HC.out), hid ((K6.out.alloc _).own HS.out (fun _ _ h => h)), HF, hid (by rw [HT.out]; simp)⟩
              case measure => simp [intOf]; omega
            · obtain ⟨hp1, hp3, t, hLp, hno, hrest⟩ := tag_cons hT
              obtain ⟨r, hrn, hrm, rfl, hsr⟩ := HC.out.head hT
              have htk := qtake_ok HQ.out hp1 hp3 hLp hno
              simp only [Ev.val] at htk
              have HC2 := hid (Counted.take (L' := upd LX p t) HC.out hrn hrm (by rw [hrest]; exact hT))
              have HL2 : Hid ((tag (upd LX p t)).length + 1 = (tag LX).length) := hid (by rw [hrest, hT]; simp)
              have e4 : decide ((r : Int) < 0) = false := by simp
              have e5 : decide (l.length ≤ r) = false := by simp; omega
              have HSR := hid hsr
              clear hT hLp hno hrest hsr
              go_wp2_with fail
              refine htk.mono ?_
              rintro e w6 ⟨rfl, F6, h6, u6⟩
              have ho6 := u6.keeps.own HS.out (fun k hk => by simp [Value.ownBlock] at hk; subst hk; exact HF.out)
              have hc6 : w6.cell? ⟨sb, r, none⟩ = some (.int .i64 0) := by rw [ho6.cellAt r (by omega)]; simp [HSR.out]
              have hf6 := ho6.frozenAt r
              have hl6 : sb < w6.heap.size := World.block_lt_of_cell? w6 _ hc6
              have hF6 : ¬ F6 sb := u6.out (HS.out.lt sb rfl).2 HF.out
              have O6 := hid (newUpd HO.out.1 HO.out.2 u6)
              have H6 := hid h6
              have HO6 := hid ho6
              have hne6 : ¬ sb = w6.heap.size := by omega
              clear h6 u6 ho6 htk
              go_wp2_with fail
              go_roundw
              case rel =>
                refine ⟨i + 1, F6, upd LX p t, s.set r 1, by omega, by go_num, hid (QueueE.keep (S := fun k => k = sb) H6.out (((Keeps.refl (fun k => k = sb) w6).setCell (p := ⟨sb, r, none⟩) (Or.inr rfl) _).alloc _) (fun k hk e => hF6 (e ▸ hk))), hid ⟨O6.out.1, (O6.out.2.setCell (p := ⟨sb, r, none⟩) (Or.inl hsb) _).alloc _⟩, hid (by rw [show min (i + 1) l.length = l.length by omega]; exact HC2.out), hid ?_, hid hF6, hid (by have h1 := HL2.out; have h2 := HL.out; omega)⟩
                have h1 := (HO6.out.stored r (.int .i64 1)).1.alloc (.cells #[.int .i64 r, .bool true, .int .i64 0] 31)
                rw [← List.map_set] at h1
                exact h1
              case measure => simp [intOf]; omega
      · obtain rfl : i = l.length + N := by omega
        have e9 : decide ((l.length : Int) + (N : Int) < (l.length : Int) + (N : Int)) = false := by simp
        have hT : tag LX = [] := List.length_eq_zero_iff.1 (by have := HL.out; omega)
        rw [show min (l.length + N) l.length = l.length by omega] at HC
        have hlen := qlen_any HQ.out
        rw [← length_tag, hT] at hlen
        have HT := hid hT
        clear hT HL
        go_wp2_with fail
        go_loop [12] (fun v12 => ∃ (k : Nat), k ≤ l.length ∧ v12 = .int .i64 k) (fun v12 => l.length - (intOf v12).toNat)
        case atStart => exact ⟨0, Nat.zero_le _, rfl⟩
        case round =>
          obtain ⟨k, hk, rfl⟩ := hrel
          by_cases hkl : k < l.length
          · have hc1 : wr.cell? ⟨sb, k, none⟩ = some (.int .i64 1) := by rw [HS.out.cellAt k (by omega)]; simp [HC.out.all HT.out hkl]
            clear hlen
            go_wp2_with fail
            go_round
            case rel => exact ⟨k + 1, by omega, by go_num⟩
            case measure => simp [intOf]; omega
          · obtain rfl : k = l.length := by omega
            go_wp2_with fail
            refine hlen.mono ?_
            rintro e w4 ⟨rfl, rfl⟩
            go_wp2_with fail
            go_ret
            exact ⟨rfl, HO.out.2.toBelow⟩

theorem own : ownKnob Try.prog.godebug = none := by kernel_rfl
theorem laidOut : laidOutB Try.prog = true := by kernel_rfl
set_option maxRecDepth 100000 in
theorem lifted (os : Os) (started : os.Started) (H : Type) (enc : TypeId × Value → H) :
    ReturnsInHanded {} Try.checked os 7 .any (Rows.bandCountsSpec.pre6 enc Try.prog Try.f7 Rows.bandCountsRow.domain false) (Rows.bandCountsSpec.post enc Try.prog Try.f7 false true false false) := by
  refine returnsInHanded_of_change (C := Try.checked) own started (by kernel_rfl) Try.func7
    (ChangeSpec.witness6 (enc := enc) (C := Try.checked) false ⟨#[], #[.slice none 0 0, .int .u8 0], []⟩ 8 (by kernel_rfl) (by kernel_rfl) (by kernel_rfl) (by kernel_rfl)) ?_
  intro W base args ds gs before hval0 hW hcnd _
  have hval : ∀ (j : Nat) t v, Try.f7.params[j]? = some t → args[j]? = some v → Value.okWide Try.prog W .any base t v := hval0
  have hW' := hW
  obtain ⟨p, q, hA0, hV, rfl, hfz, hnd⟩ := hW
  have hA : DataW.TrodAll enc Try.prog W 0 (fun _ => true) true Try.f7.params.toList args.toList ds p := hA0
  rw [Try.params7] at hA hval
  obtain ⟨v0, vs0, d0, ds0, p0, q0, hargs, rfl, rfl, h0, r0⟩ := trodAll_cons hA
  obtain ⟨v1, vs1, d1, ds1, p1, q1, rfl, rfl, rfl, h1, r1⟩ := trodAll_cons r0
  obtain ⟨rfl, rfl, rfl⟩ := trodAll_nil r1
  obtain rfl : args = #[v0, v1] := by cases args; simp_all
  obtain ⟨rfl, rfl⟩ := trodVars_none hV
  have k0 := h0
  have lt0 : ∀ x ∈ p0, x.block < W.heap.size := by obtain ⟨m, hm⟩ := k0; exact DataW.trod_lt m _ _ _ hm
  have k1 := h1
  have lt1 : ∀ x ∈ p1, x.block < W.heap.size := by obtain ⟨m, hm⟩ := k1; exact DataW.trod_lt m _ _ _ hm
  obtain ⟨s0, len0, cap0, rfl⟩ := okWide_slice Try.underlying48 (hval 0 48 v0 rfl rfl)
  obtain ⟨l0, rfl, w0, b0⟩ := argInts .u8 Try.underlying48 Try.underlying5 (by kernel_rfl) h0
  obtain ⟨a1, rfl, rfl, rfl, w1⟩ := open_int Try.underlying5 (hval 1 5 v1 rfl rfl) h1
  clear hA0 hval0
  refine (walk W s0 cap0 l0 w0 b0 a1 w1).mono fun e W' ⟨he, bel⟩ => ?_
  subst he
  exact ⟨_, rfl, _, _, _, [], _, [], hW', trodAll_mk1 (shut_bool Try.underlying4 _), (trodAll_cons_mk (Below.trod laidOut (by kernel_rfl) (of_decide_eq_true (by kernel_rfl)) k0 bel lt0) (trodAll_cons_mk (Below.trod laidOut (by kernel_rfl) (of_decide_eq_true (by kernel_rfl)) k1 bel lt1) trodAll_mk0)), rfl, bel.frame _, fun h => by cases h⟩

theorem over : Rows.bandCountsRow.holds Try.pinned (OpenSpec.ofChange Rows.bandCountsSpec) :=
  OpenClaim.holds_of_wide 7 Try.f7 rfl rfl rfl rfl rfl rfl rfl ⟨rfl, rfl, rfl, rfl, rfl⟩ rfl rfl rfl rfl rfl (by kernel_rfl) Try.func7 (by kernel_rfl)
    (of_decide_eq_true (by kernel_rfl)) (by unfold Func.isWrapper; first | (rw [if_pos (by decide +kernel)]; kernel_rfl) | (rw [if_neg (by decide +kernel)]; exact ⟨rfl, rfl⟩))
    (fun os started H enc _ => lifted os started H enc)

theorem proved : Rows.BandCountsSaid := over
#print axioms proved
end Go.Proofs.Ytgakjgblaaipmab.bandCounts
