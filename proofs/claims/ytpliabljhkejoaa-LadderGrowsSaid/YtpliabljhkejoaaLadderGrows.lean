/- Tick by tick it never falls; acknowledged it stays where it is. No conditions. -/
import Derived.Test.YtpliabljhkejoaaRows
import Derived.Test.YtpliabljhkejoaaArgs
import Derived.Test.YtpliabljhkejoaaLadK
import Derived.Test.YtpliabljhkejoaaLadX
import Derived.ProofKit
import Derived.OpenShut
import Derived.Deep.RegionHeld3
import Derived.Deep.DeepCutAuto
import Derived.Deep.CutBlock
import Derived.Test.YtpliabljhkejoaaLadD
import Derived.Test.YtpliabljhkejoaaTake
namespace Go.Proofs.Ytpliabljhkejoaa.ladderGrows
open Go.ChangeShapes Go.WideShapes Go.ChangeAt Go.RowKit
open Go.ChangeMaps (open_string shut_string)
set_option linter.unusedVariables false
set_option linter.unusedSimpArgs false

theorem info_u16L : (Try.prog.info? 40).map (fun i => (i.zero, i.size, i.bytes)) = some (some (.int .u16 0), 1, 2) := by kernel_rfl
set_option maxHeartbeats 8000000 in
set_option maxRecDepth 100000 in
theorem walk (w : World) (p : Int) (wp : (Lit.int .u8 p).wf = true) (s0 : Option Addr) (cap : Nat) (q : List Int) (hs : Sl w 1 (.slice s0 q.length cap) q.length (q.map (.int .u16 ·))) (hq : ∀ x ∈ q, (Lit.int .u16 x).wf = true) (ak : Int) (wk : (Lit.int .u8 ak).wf = true) :
    Calls Try.prog 7 #[.int .u8 p, .slice s0 q.length cap, .int .u8 ak] w fun e w' => e = .returned (.bool true) ∧ Below w.heap.size w w' := by
  obtain ⟨p0_, p1_⟩ := bounds_u8 wp
  obtain ⟨N, hN⟩ : ∃ N, q.length = N := ⟨_, rfl⟩
  have hqb : ∀ x ∈ q, 0 ≤ x ∧ x ≤ 65535 := fun x hx => bounds_u16 (hq x hx)
  rw [hN] at hs ⊢
  have HS := hid hs
  have HQ := hid hqb
  have HN := hid hN
  clear hs hq hN wp hqb
  obtain ⟨k0_, k1_⟩ : 0 ≤ ak ∧ ak ≤ 255 := bounds_u8 wk
  clear wk
  by_cases hbig : 8 < N
  · have hd : decide ((N : Int) > 8) = true := decide_eq_true (by omega)
    go_enter Try.func7, Try.ntmps7
    go_wp2_with fail
    refine (steps_true _).mono ?_
    rintro e w1 ⟨rfl, k1⟩
    have K1 := hid k1
    clear k1
    go_wp2_with fail
    refine (steps_true _).mono ?_
    rintro e w2 ⟨rfl, k2⟩
    have K2 := hid (K1.out.trans k2)
    clear k2
    go_wp2_with fail
    go_ret
    exact ⟨rfl, K2.out.toBelow⟩
  have hd : decide ((N : Int) > 8) = false := decide_eq_false (by omega)
  go_enter Try.func7, Try.ntmps7
  go_wp2_with fail
  refine (steps_true _).mono ?_
  rintro e w1 ⟨rfl, k1⟩
  have K1 := hid k1
  clear k1
  obtain ⟨i0, hi0, hz0, hz1, hz2⟩ := info_parts info_u16L
  have HI := hid hi0
  clear hi0
  go_upto_region 3 with fail
  go_wp2_with fail
  go_loopw [7, 8] (fun v7 v8 wr => ∃ (i c : Nat) (a : Option Addr) (l : List Int), i ≤ N ∧ v8 = .int .i64 i ∧ v7 = .slice a i c ∧ Hid (l.length = i) ∧ Hid (∀ x ∈ l, 0 ≤ x ∧ x ≤ 65535) ∧ Hid (wr.ownsRow 0 40 1 (.slice a i c) i (l.map (.int .u16 ·))) ∧ Hid (Keeps No w wr) ∧ Hid (∀ b, Bl (.slice a i c) b → w.heap.size ≤ b)) (fun _ v8 _ => N - (intOf v8).toNat)
  case atStart => exact ⟨0, 0, none, [], Nat.zero_le _, rfl, rfl, hid rfl, hid (fun x hx => by simp at hx), hid (World.ownsRow_nil _ _ _ _), K1, hid (fun b hb => by simp [Bl, Value.ownBlock] at hb)⟩
  case round =>
    clear K1
    obtain ⟨i, c, a, l, hi, rfl, rfl, HLM, HLQ, HOWN, HK, HNEW⟩ := hrel
    by_cases hlt : i < N
    · have hil : i < q.length := by rw [HN.out]; exact hlt
      obtain ⟨x, hx⟩ : ∃ x, q[i] = x := ⟨_, rfl⟩
      have hxb := HQ.out _ (List.getElem_mem hil)
      rw [hx] at hxb
      obtain ⟨x0, x1⟩ := hxb
      obtain ⟨g, off, rfl, _, hc⟩ := Sl.cellAt (u := .int .u16 x) HS.out (by rw [List.getElem?_map, List.getElem?_eq_getElem hil, hx]; rfl)
      have c0 := HK.out.cell (fun h => h) hc
      clear hc hx hil
      go_wp2_with (at_builtin; refine wpl_append rfl _ _ 22 rfl 40 i0 (.int .u16 0) 1 2 Try.underlying22 HI.out hz0 hz1 hz2 rfl (by decide) _ _ _ _ _ _ rfl rfl (HOWN.out.alloc _) (Sl.one _ _ _) ?c1 ?c2 ?c3 ?_)
      case c1 => first | rfl | (intro u hu; simp at hu; subst hu; rfl)
      case c2 => unfold maxLen; omega
      case c3 => omega
      intro v2 w2 ho2 k2 hb2
      obtain ⟨a2, c2, rfl⟩ := own_any ho2
      obtain ⟨y, hy⟩ : ∃ y : Int, x % 9 = y := ⟨_, rfl⟩
      have HO2 := hid ho2
      have HKB := hid k2
      have HB2 := hid hb2
      clear ho2 k2 hb2 c0
      go_wp2_with fail
      go_roundw
      case rel => exact ⟨i + 1, c2, a2, l ++ [x % 9], by omega, by go_num, rfl, hid (by rw [List.length_append, HLM.out]; rfl), hid (fun z hz => by
          rcases List.mem_append.1 hz with h | h
          · exact HLQ.out z h
          · have := List.mem_singleton.1 h; omega), hid (by rw [List.map_append]; exact HO2.out), hid ((HK.out.alloc _).trans' HKB.out (fun _ _ h => h) (fun b hb e => by have := HNEW.out b e; omega)), hid (fun b hb => by
          rcases HB2.out b hb with h | h
          · exact HNEW.out b h
          · have := HK.out.size; first | omega | (simp at h; omega))⟩
      case measure => simp [intOf]; omega
    · obtain rfl : i = N := by omega
      clear HNEW
      go_wp2_with fail
      refine (lrule_any p ⟨p0_, p1_⟩ HLM.out (by have := Sl.ofOwn HOWN.out; exact this) HLQ.out (by omega)).mono ?_
      rintro e w2 ⟨ls, v, rfl, hsl, hok, hlen, kp⟩
      obtain ⟨sa, sc, rfl⟩ := Sl.any hsl
      obtain ⟨p0, hp0⟩ : ∃ y, 1 + p % 3 = y := ⟨_, rfl⟩
      rw [hp0] at hok ⊢
      have HOK := hid hok
      have HSM : Hid (SmallSt ls) := hid (hok.small (by omega))
      have HLEN := hid hlen
      have HSL := hid hsl
      have K2 := hid (HK.out.trans kp)
      clear hsl hok hlen kp hp0 HK
      go_upto_region 10 with fail
      obtain ⟨rb, hrb⟩ : ∃ y, w2.heap.size = y := ⟨_, rfl⟩
      obtain ⟨lb, hlb⟩ : ∃ y, rb + 1 = y := ⟨_, rfl⟩
      obtain ⟨W, hW⟩ : ∃ W, (w2.alloc (.cells #[.int .u8 0, .int .i64 0, .int .i64 0, .int .i64 0, .int .i64 0, .int .i64 0, .int .u8 p0, .bool false, .slice sa ls.length sc] 26)).alloc (.cells #[.bool true, .bool true, .bool false, .int .i64 1, .int .i64 0] 35) = W := ⟨_, rfl⟩
      have HR : Hid (Bk W rb 26 [.int .u8 0, .int .i64 0, .int .i64 0, .int .i64 0, .int .i64 0, .int .i64 0, .int .u8 p0, .bool false, .slice sa ls.length sc]) := hid (by rw [← hW]; exact (Bk.new hrb _ _).alloc _)
      have HL : Hid (Bk W lb 35 [.bool true, .bool true, .bool false, .int .i64 1, .int .i64 0]) := hid (by rw [← hW, ← hlb]; exact Bk.new (by simp [hrb]) _ _)
      have KW : Hid (Keeps No w W) := hid (by rw [← hW]; exact (K2.out.alloc _).alloc _)
      have hrl : ¬ rb = lb := by omega
      have hlr : ¬ lb = rb := by omega
      have HGB := hid (show w.heap.size ≤ lb by have := K2.out.size; omega)
      have HSK := hid (fun (w' : World) (kw : Keeps (fun x => x = lb) W w') => (Sl.keep' (Sl.keep HSL.out (by rw [← hW]; exact ((Keeps.refl No _).alloc _).alloc _) (fun _ _ h => h)) kw (fun h0 b hb hlt e => by have := Sl.lt HSL.out h0 b hb; omega) : SlS w' (.slice sa ls.length sc) ls))
      rw [hrb, hlb, hW]
      clear hW hrb hlb K2 HSL
      go_wp2_with fail
      clear hd
      go_loopw [11, 12] (fun v11 v12 wr => ∃ (now : Int) (st : Nat) (ack : Bool), 1 ≤ now ∧ now ≤ 60 ∧ v12 = .int .i64 now ∧ v11 = .int .i64 (st : Int) ∧ Hid (ack = false → st ≤ reachedD ls (now - 1)) ∧ Hid (Bk wr lb 35 [.bool true, .bool true, .bool ack, .int .i64 1, .int .i64 (st : Int)]) ∧ Hid (Bk wr rb 26 [.int .u8 0, .int .i64 0, .int .i64 0, .int .i64 0, .int .i64 0, .int .i64 0, .int .u8 p0, .bool false, .slice sa ls.length sc]) ∧ Hid (Keeps (fun x => x = lb) W wr)) (fun _ v12 _ => 60 - (intOf v12).toNat)
      case atStart => exact ⟨1, 0, false, by omega, by omega, rfl, rfl, hid (fun _ => Nat.zero_le _), HL, HR, hid (Keeps.refl _ _)⟩
      case round =>
        clear HL HR
        obtain ⟨now, st, ack, hn1, hn60, rfl, rfl, HINV, HL, HR, HK⟩ := hrel
        by_cases hlt : now < 60
        · have d1 : decide (now < 60) = true := decide_eq_true hlt
          have ACKS := hid (fun (w' : World) => lack_any true true ack 1 st w')
          go_upto_if 47 with fail
          go_cut [] from 47 to 49 (fun wx => ∃ a1 : Bool, Hid (a1 = false → ack = false) ∧ Hid (Bk wx lb 35 [.bool true, .bool true, .bool a1, .int .i64 1, .int .i64 (st : Int)]) ∧ Hid (Bk wx rb 26 [.int .u8 0, .int .i64 0, .int .i64 0, .int .i64 0, .int .i64 0, .int .i64 0, .int .u8 p0, .bool false, .slice sa ls.length sc]) ∧ Hid (Keeps (fun x => x = lb) W wx))
          case first =>
            by_cases hk : now = ak % 70
            · have d2 : (now == ak % 70) = true := by simp [hk]
              have d3 : decide (now = ak % 70) = true := decide_eq_true hk
              have x1_0 := HL.out.cell 0 rfl
              have f0 := HL.out.free 0
              have x1_1 := HL.out.cell 1 rfl
              have f1 := HL.out.free 1
              have x1_2 := HL.out.cell 2 rfl
              have f2 := HL.out.free 2
              have x1_3 := HL.out.cell 3 rfl
              have f3 := HL.out.free 3
              have x1_4 := HL.out.cell 4 rfl
              have f4 := HL.out.free 4
              go_wp2_with fail
              refine (ACKS.out _).mono ?_
              rintro e w4 ⟨rfl, k4⟩
              have HL4 := hid (HL.out.kept k4)
              have HR4 := hid (HR.out.kept k4)
              have HK4 := hid (HK.out.trans k4.no)
              rw [show (ackD ⟨true, true, ack, 1, (st : Int)⟩).val = .agg #[.bool true, .bool true, .bool true, .int .i64 1, .int .i64 (st : Int)] from rfl]
              clear k4 hk x1_0 f0 x1_1 f1 x1_2 f2 x1_3 f3 x1_4 f4
              have x1_0 := HL4.out.cell 0 rfl
              have f0 := HL4.out.free 0
              have x1_1 := HL4.out.cell 1 rfl
              have f1 := HL4.out.free 1
              have x1_2 := HL4.out.cell 2 rfl
              have f2 := HL4.out.free 2
              have x1_3 := HL4.out.cell 3 rfl
              have f3 := HL4.out.free 3
              have x1_4 := HL4.out.cell 4 rfl
              have f4 := HL4.out.free 4
              go_wp2_with fail
              go_meet
              exact ⟨true, hid (fun h => by cases h), hid (Bk.put5 HL4.out), hid (Bk.other5 hrl HR4.out), hid HK4.out.at.at.at.at.at⟩
            · have d2 : (now == ak % 70) = false := by simp [hk]
              have d3 : decide (now = ak % 70) = false := decide_eq_false hk
              go_wp2_with fail
              go_meet
              exact ⟨ack, hid (fun h => h), HL, HR, HK⟩
          case rest =>
          clear HL HR HK ACKS
          obtain ⟨a1, HA1, HL5, HR5, HK5⟩ := hcut
          obtain ⟨w5, rfl⟩ : ∃ y, y = wc := ⟨_, rfl⟩
          have hcl := fun (w' : World) (kw : Keeps No w5 w') => lclimb_any (Sl.keep (HSK.out _ HK5.out) kw (fun _ _ h => h)) HSM.out (.int .u8 0) (.int .i64 0) (.int .i64 0) (.int .i64 0) (.int .i64 0) (.int .i64 0) (.int .u8 p0) (.bool false) true true a1 1 st now ⟨by omega, by omega⟩ ⟨by omega, by omega⟩
          rw [held_mid (show 0 ≤ now - 1 by omega) (show now - 1 ≤ 1099511627776 by omega)] at hcl
          obtain ⟨r0, hr0⟩ : ∃ r, reachedD ls (now - 1) = r := ⟨_, rfl⟩
          rw [hr0] at hcl
          cases a1
          · have hst := HINV.out (HA1.out rfl)
            rw [hr0] at hst
            obtain ⟨r, hr⟩ : ∃ r : Nat, r = r0 := ⟨_, rfl⟩
            subst hr
            have HRE0 := hid hr0
            have HRS := hid hst
            have HCL : Hid (∀ w', Keeps No w5 w' → Calls Try.prog 16 #[.agg #[.int .u8 0, .int .i64 0, .int .i64 0, .int .i64 0, .int .i64 0, .int .i64 0, .int .u8 p0, .bool false, .slice sa ls.length sc], .agg #[.bool true, .bool true, .bool false, .int .i64 1, .int .i64 (st : Int)], .int .i64 now] w' fun e w'' => e = .returned (.agg #[.bool true, .bool true, .bool false, .int .i64 1, .int .i64 (r : Int)]) ∧ Keeps No w' w'') := hid (fun w' kw => by
              have h := hcl w' kw
              rw [show (if true && !false then (if (r : Int) > (st : Int) then (r : Int) else (st : Int)) else (st : Int)) = (r : Int) by simp only [Bool.not_false, Bool.and_self, if_true]; split <;> omega] at h
              exact h)
            clear hcl hr0 hst HINV HA1
            have q1 : decide ((r : Int) < (st : Int)) = false := decide_eq_false (by have := HRS.out; omega)
            have q1' : decide (r < st) = false := decide_eq_false (by have := HRS.out; omega)
            have q1n : ¬ (r < st) := by have := HRS.out; omega
            have q2 : ((r : Int) != (r : Int)) = false := by simp
            have x0_0 := HR5.out.cell 0 rfl
            have x0_1 := HR5.out.cell 1 rfl
            have x0_2 := HR5.out.cell 2 rfl
            have x0_3 := HR5.out.cell 3 rfl
            have x0_4 := HR5.out.cell 4 rfl
            have x0_5 := HR5.out.cell 5 rfl
            have x0_6 := HR5.out.cell 6 rfl
            have x0_7 := HR5.out.cell 7 rfl
            have x0_8 := HR5.out.cell 8 rfl
            have x1_0 := HL5.out.cell 0 rfl
            have x1_1 := HL5.out.cell 1 rfl
            have x1_2 := HL5.out.cell 2 rfl
            have x1_3 := HL5.out.cell 3 rfl
            have x1_4 := HL5.out.cell 4 rfl
            go_wp2_with fail
            refine (HCL.out _ (Keeps.refl _ _)).mono ?_
            rintro e w6 ⟨rfl, k6⟩
            have HL6 := hid (HL5.out.kept k6)
            have HR6 := hid (HR5.out.kept k6)
            have HK6 := hid (HK5.out.trans k6.no)
            clear k6 HCL x0_0 x0_1 x0_2 x0_3 x0_4 x0_5 x0_6 x0_7 x0_8 x1_0 x1_1 x1_2 x1_3 x1_4
            have x0 := HL6.out.cell 0 rfl
            have f0 := HL6.out.free 0
            have x1 := HL6.out.cell 1 rfl
            have f1 := HL6.out.free 1
            have x2 := HL6.out.cell 2 rfl
            have f2 := HL6.out.free 2
            have x3 := HL6.out.cell 3 rfl
            have f3 := HL6.out.free 3
            have x4 := HL6.out.cell 4 rfl
            have f4 := HL6.out.free 4
            go_upto_region 17 with fail
            obtain ⟨W7, hW⟩ : ∃ W, (((((w6.setCell ⟨lb, 0, none⟩ (.bool true)).setCell ⟨lb, 1, none⟩ (.bool true)).setCell ⟨lb, 2, none⟩ (.bool false)).setCell ⟨lb, 3, none⟩ (.int .i64 1)).setCell ⟨lb, 4, none⟩ (.int .i64 (r : Int))) = W := ⟨_, rfl⟩
            have HL7 : Hid (Bk W7 lb 35 [.bool true, .bool true, .bool false, .int .i64 1, .int .i64 (r : Int)]) := hid (by rw [← hW]; exact Bk.put5 HL6.out)
            have HR7 : Hid (Bk W7 rb 26 [.int .u8 0, .int .i64 0, .int .i64 0, .int .i64 0, .int .i64 0, .int .i64 0, .int .u8 p0, .bool false, .slice sa ls.length sc]) := hid (by rw [← hW]; exact Bk.other5 hrl HR6.out)
            have HK7 : Hid (Keeps (fun x => x = lb) W W7) := hid (by rw [← hW]; exact HK6.out.at.at.at.at.at)
            rw [hW]
            clear hW HL6 HR6 HK6 HL5 HR5 HK5 x0 f0 x1 f1 x2 f2 x3 f3 x4 f4
            have y2 := HL7.out.cell 2 rfl
            have y4 := HL7.out.cell 4 rfl
            have z8 := HR7.out.cell 8 rfl
            have HRE : Hid (∀ d, d = now - 1 → ∀ w', Keeps No W7 w' → Calls Try.prog 13 #[.slice sa ls.length sc, .int .i64 d] w' fun e w'' => e = .returned (.int .i64 (r : Int)) ∧ Keeps No w' w'') := hid (fun d hd w' kw => by
              subst hd
              have h := mreached_any (Sl.keep (HSK.out _ HK7.out) kw (fun _ _ h => h)) HSM.out (now - 1)
              rw [HRE0.out] at h
              exact h)
            have HWN : Hid (IntKind.i64.wrap (now - 1) = now - 1) := hid (by rw [IntKind.wrap_i64]; omega)
            refine wp_region_held_drew (S := (fun w' => w'.cell? ⟨lb, 2, none⟩ = some (.bool false) ∧ w'.cell? ⟨lb, 4, none⟩ = some (.int .i64 (r : Int)) ∧ w'.cell? ⟨rb, 8, none⟩ = some (.slice sa ls.length sc))) (by kernel_rfl) ?_ (fun hHeld => ?_)
            focus ((try dsimp only); first | with_reducible exact ⟨y2, y4, z8⟩ | with_reducible exact ⟨cellDr y2, cellDr y4, cellDr z8⟩)
            refine takeOn (i := 0) (v := ?_) rfl (by kernel_rfl) (by kernel_rfl) (by kernel_rfl) (fun _ _ _ h => h) (by rfl) ?_ (by assumption) ?_
            rotate_left
            focus (intro w hSw; (try dsimp only at hSw); go_simp; (try with_reducible rfl))
            try simp only [Act.put, List.setIfInBounds_toArray, List.set_cons_zero, List.set_cons_succ, List.getElem_toArray, List.getElem_cons_succ, List.getElem_cons_zero]
            refine takeOn (i := 1) (v := ?_) rfl (by kernel_rfl) (by kernel_rfl) (by kernel_rfl) (fun _ _ _ h => h) (by rfl) ?_ (by assumption) ?_
            rotate_left
            focus (intro w hSw; (try dsimp only at hSw); go_simp; (try with_reducible rfl))
            try simp only [Act.put, List.setIfInBounds_toArray, List.set_cons_zero, List.set_cons_succ, List.getElem_toArray, List.getElem_cons_succ, List.getElem_cons_zero]
            refine takeOn (i := 2) (v := ?_) rfl (by kernel_rfl) (by kernel_rfl) (by kernel_rfl) (fun _ _ _ h => h) (by rfl) ?_ (by assumption) ?_
            rotate_left
            focus (intro w hSw; (try dsimp only at hSw); go_simp; (try with_reducible rfl))
            try simp only [Act.put, List.setIfInBounds_toArray, List.set_cons_zero, List.set_cons_succ, List.getElem_toArray, List.getElem_cons_succ, List.getElem_cons_zero]
            refine takeOn (i := 3) (v := ?_) rfl (by kernel_rfl) (by kernel_rfl) (by kernel_rfl) (fun _ _ _ h => h) (by rfl) ?_ (by assumption) ?_
            rotate_left
            focus (intro w hSw; (try dsimp only at hSw); go_simp; (try with_reducible rfl))
            try simp only [Act.put, List.setIfInBounds_toArray, List.set_cons_zero, List.set_cons_succ, List.getElem_toArray, List.getElem_cons_succ, List.getElem_cons_zero]
            refine takeOn (i := 4) (v := ?_) rfl (by kernel_rfl) (by kernel_rfl) (by kernel_rfl) (fun _ _ _ h => h) (by rfl) ?_ (by assumption) ?_
            rotate_left
            focus (intro w hSw; (try dsimp only at hSw); go_simp; (try with_reducible rfl))
            try simp only [Act.put, List.setIfInBounds_toArray, List.set_cons_zero, List.set_cons_succ, List.getElem_toArray, List.getElem_cons_succ, List.getElem_cons_zero]
            refine takeOn (i := 5) (v := ?_) rfl (by kernel_rfl) (by kernel_rfl) (by kernel_rfl) (fun _ _ _ h => h) (by rfl) ?_ (by assumption) ?_
            rotate_left
            focus (intro w hSw; (try dsimp only at hSw); go_simp; (try with_reducible rfl))
            try simp only [Act.put, List.setIfInBounds_toArray, List.set_cons_zero, List.set_cons_succ, List.getElem_toArray, List.getElem_cons_succ, List.getElem_cons_zero]
            refine takeOn (i := 6) (v := ?_) rfl (by kernel_rfl) (by kernel_rfl) (by kernel_rfl) (fun _ _ _ h => h) (by rfl) ?_ (by assumption) ?_
            rotate_left
            focus (intro w hSw; (try dsimp only at hSw); go_simp; (try with_reducible rfl))
            try simp only [Act.put, List.setIfInBounds_toArray, List.set_cons_zero, List.set_cons_succ, List.getElem_toArray, List.getElem_cons_succ, List.getElem_cons_zero]
            refine takeOn (i := 7) (v := ?_) rfl (by kernel_rfl) (by kernel_rfl) (by kernel_rfl) (fun _ _ _ h => h) (by rfl) ?_ (by assumption) ?_
            rotate_left
            focus (intro w hSw; (try dsimp only at hSw); go_simp; (try with_reducible rfl))
            try simp only [Act.put, List.setIfInBounds_toArray, List.set_cons_zero, List.set_cons_succ, List.getElem_toArray, List.getElem_cons_succ, List.getElem_cons_zero]
            refine takeOff (i := 8) rfl (by kernel_rfl) (by kernel_rfl) (by kernel_rfl) (fun _ _ _ h => h) (by rfl) (by assumption) ?_
            try simp only [Act.put, List.setIfInBounds_toArray, List.set_cons_zero, List.set_cons_succ, List.getElem_toArray, List.getElem_cons_succ, List.getElem_cons_zero]
            refine takeOff (i := 9) rfl (by kernel_rfl) (by kernel_rfl) (by kernel_rfl) (fun _ _ _ h => h) (by rfl) (by assumption) ?_
            try simp only [Act.put, List.setIfInBounds_toArray, List.set_cons_zero, List.set_cons_succ, List.getElem_toArray, List.getElem_cons_succ, List.getElem_cons_zero]
            refine takeOff (i := 10) rfl (by kernel_rfl) (by kernel_rfl) (by kernel_rfl) (fun _ _ _ h => h) (by rfl) (by assumption) ?_
            try simp only [Act.put, List.setIfInBounds_toArray, List.set_cons_zero, List.set_cons_succ, List.getElem_toArray, List.getElem_cons_succ, List.getElem_cons_zero]
            refine takeOff (i := 11) rfl (by kernel_rfl) (by kernel_rfl) (by kernel_rfl) (fun _ _ _ h => h) (by rfl) (by assumption) ?_
            try simp only [Act.put, List.setIfInBounds_toArray, List.set_cons_zero, List.set_cons_succ, List.getElem_toArray, List.getElem_cons_succ, List.getElem_cons_zero]
            refine takeOn (i := 12) (v := ?_) rfl (by kernel_rfl) (by kernel_rfl) (by kernel_rfl) (fun _ _ _ h => h) (by rfl) ?_ (by assumption) ?_
            rotate_left
            focus (intro w hSw; (try dsimp only at hSw); go_simp; (try with_reducible rfl))
            try simp only [Act.put, List.setIfInBounds_toArray, List.set_cons_zero, List.set_cons_succ, List.getElem_toArray, List.getElem_cons_succ, List.getElem_cons_zero]
            refine takeOn (i := 13) (v := ?_) rfl (by kernel_rfl) (by kernel_rfl) (by kernel_rfl) (fun _ _ _ h => h) (by rfl) ?_ (by assumption) ?_
            rotate_left
            focus (intro w hSw; (try dsimp only at hSw); go_simp; (try with_reducible rfl))
            try simp only [Act.put, List.setIfInBounds_toArray, List.set_cons_zero, List.set_cons_succ, List.getElem_toArray, List.getElem_cons_succ, List.getElem_cons_zero]
            refine takeOn (i := 14) (v := ?_) rfl (by kernel_rfl) (by kernel_rfl) (by kernel_rfl) (fun _ _ _ h => h) (by rfl) ?_ (by assumption) ?_
            rotate_left
            focus (intro w hSw; (try dsimp only at hSw); go_simp; (try with_reducible rfl))
            try simp only [Act.put, List.setIfInBounds_toArray, List.set_cons_zero, List.set_cons_succ, List.getElem_toArray, List.getElem_cons_succ, List.getElem_cons_zero]
            refine takeOn (i := 15) (v := ?_) rfl (by kernel_rfl) (by kernel_rfl) (by kernel_rfl) (fun _ _ _ h => h) (by rfl) ?_ (by assumption) ?_
            rotate_left
            focus (intro w hSw; (try dsimp only at hSw); go_simp; (try with_reducible rfl))
            try simp only [Act.put, List.setIfInBounds_toArray, List.set_cons_zero, List.set_cons_succ, List.getElem_toArray, List.getElem_cons_succ, List.getElem_cons_zero]
            refine takeOn (i := 16) (v := ?_) rfl (by kernel_rfl) (by kernel_rfl) (by kernel_rfl) (fun _ _ _ h => h) (by rfl) ?_ (by assumption) ?_
            rotate_left
            focus (intro w hSw; (try dsimp only at hSw); go_simp; (try with_reducible rfl))
            try simp only [Act.put, List.setIfInBounds_toArray, List.set_cons_zero, List.set_cons_succ, List.getElem_toArray, List.getElem_cons_succ, List.getElem_cons_zero]
            refine takeOn (i := 17) (v := ?_) rfl (by kernel_rfl) (by kernel_rfl) (by kernel_rfl) (fun _ _ _ h => h) (by rfl) ?_ (by assumption) ?_
            rotate_left
            focus (intro w hSw; (try dsimp only at hSw); go_simp; (try with_reducible rfl))
            try simp only [Act.put, List.setIfInBounds_toArray, List.set_cons_zero, List.set_cons_succ, List.getElem_toArray, List.getElem_cons_succ, List.getElem_cons_zero]
            refine takeOn (i := 18) (v := ?_) rfl (by kernel_rfl) (by kernel_rfl) (by kernel_rfl) (fun _ _ _ h => h) (by rfl) ?_ (by assumption) ?_
            rotate_left
            focus (intro w hSw; (try dsimp only at hSw); go_simp; (try with_reducible rfl))
            try simp only [Act.put, List.setIfInBounds_toArray, List.set_cons_zero, List.set_cons_succ, List.getElem_toArray, List.getElem_cons_succ, List.getElem_cons_zero]
            refine takeOn (i := 19) (v := ?_) rfl (by kernel_rfl) (by kernel_rfl) (by kernel_rfl) (fun _ _ _ h => h) (by rfl) ?_ (by assumption) ?_
            rotate_left
            focus (intro w hSw; (try dsimp only at hSw); go_simp; (try with_reducible rfl))
            try simp only [Act.put, List.setIfInBounds_toArray, List.set_cons_zero, List.set_cons_succ, List.getElem_toArray, List.getElem_cons_succ, List.getElem_cons_zero]
            refine takeOn (i := 20) (v := ?_) rfl (by kernel_rfl) (by kernel_rfl) (by kernel_rfl) (fun _ _ _ h => h) (by rfl) ?_ (by assumption) ?_
            rotate_left
            focus (intro w hSw; (try dsimp only at hSw); go_simp; (try with_reducible rfl))
            try simp only [Act.put, List.setIfInBounds_toArray, List.set_cons_zero, List.set_cons_succ, List.getElem_toArray, List.getElem_cons_succ, List.getElem_cons_zero]
            refine takeOn (i := 21) (v := ?_) rfl (by kernel_rfl) (by kernel_rfl) (by kernel_rfl) (fun _ _ _ h => h) (by rfl) ?_ (by assumption) ?_
            rotate_left
            focus (intro w hSw; (try dsimp only at hSw); go_simp; (try with_reducible rfl))
            try simp only [Act.put, List.setIfInBounds_toArray, List.set_cons_zero, List.set_cons_succ, List.getElem_toArray, List.getElem_cons_succ, List.getElem_cons_zero]
            refine takeOn (i := 22) (v := ?_) rfl (by kernel_rfl) (by kernel_rfl) (by kernel_rfl) (fun _ _ _ h => h) (by rfl) ?_ (by assumption) ?_
            rotate_left
            focus (intro w hSw; (try dsimp only at hSw); go_simp; (try with_reducible rfl))
            try simp only [Act.put, List.setIfInBounds_toArray, List.set_cons_zero, List.set_cons_succ, List.getElem_toArray, List.getElem_cons_succ, List.getElem_cons_zero]
            refine takeOn (i := 23) (v := ?_) rfl (by kernel_rfl) (by kernel_rfl) (by kernel_rfl) (fun _ _ _ h => h) (by rfl) ?_ (by assumption) ?_
            rotate_left
            focus (intro w hSw; (try dsimp only at hSw); go_simp; (try with_reducible rfl))
            try simp only [Act.put, List.setIfInBounds_toArray, List.set_cons_zero, List.set_cons_succ, List.getElem_toArray, List.getElem_cons_succ, List.getElem_cons_zero]
            refine takeOn (i := 24) (v := ?_) rfl (by kernel_rfl) (by kernel_rfl) (by kernel_rfl) (fun _ _ _ h => h) (by rfl) ?_ (by assumption) ?_
            rotate_left
            focus (intro w hSw; (try dsimp only at hSw); go_simp; (try with_reducible rfl))
            try simp only [Act.put, List.setIfInBounds_toArray, List.set_cons_zero, List.set_cons_succ, List.getElem_toArray, List.getElem_cons_succ, List.getElem_cons_zero]
            refine wpAnyH_ready (rs := [25]) (by kernel_rfl) (by simp) ?_
            refine AllReadyH.cons rfl (fun K hK => ?_) AllReadyH.nil
            go_simp
            (go_at_call 13; (with_reducible refine (HRE.out _ ?hd _ ?hk).mono ?_); (case hd => first | exact HWN.out | rfl); (case hk => exact (Keeps.refl No W7).drew); rintro e w9 ⟨rfl, k⟩; have kk : Keeps No W7 w9 := Keeps.trans (Keeps.refl No W7).drew k; have y2 := HL7.out.kept kk |>.cell 2 rfl; have y4 := HL7.out.kept kk |>.cell 4 rfl; have z8 := HR7.out.kept kk |>.cell 8 rfl; clear k)
            go_wp2_with fail
            refine hK.out _ _ ?_ (fun hHeld => ?_)
            focus ((try dsimp only); first | with_reducible exact ⟨y2, y4, z8⟩ | with_reducible exact ⟨cellDr y2, cellDr y4, cellDr z8⟩)
            clear hK K
            try simp only [Act.put, List.setIfInBounds_toArray, List.set_cons_zero, List.set_cons_succ, List.getElem_toArray, List.getElem_cons_succ, List.getElem_cons_zero]
            refine takeOn (i := 26) (v := ?_) rfl (by kernel_rfl) (by kernel_rfl) (by kernel_rfl) (fun _ _ _ h => h) (by rfl) ?_ (by assumption) ?_
            rotate_left
            focus (intro w hSw; (try dsimp only at hSw); go_simp; (try with_reducible rfl))
            try simp only [Act.put, List.setIfInBounds_toArray, List.set_cons_zero, List.set_cons_succ, List.getElem_toArray, List.getElem_cons_succ, List.getElem_cons_zero]
            refine takeOn (i := 27) (v := ?_) rfl (by kernel_rfl) (by kernel_rfl) (by kernel_rfl) (fun _ _ _ h => h) (by rfl) ?_ (by assumption) ?_
            rotate_left
            focus (intro w hSw; (try dsimp only at hSw); go_simp; (try with_reducible rfl))
            try simp only [Act.put, List.setIfInBounds_toArray, List.set_cons_zero, List.set_cons_succ, List.getElem_toArray, List.getElem_cons_succ, List.getElem_cons_zero]
            refine takeOn (i := 28) (v := ?_) rfl (by kernel_rfl) (by kernel_rfl) (by kernel_rfl) (fun _ _ _ h => h) (by rfl) ?_ (by assumption) ?_
            rotate_left
            focus (intro w hSw; (try dsimp only at hSw); go_simp; (try with_reducible rfl))
            try simp only [Act.put, List.setIfInBounds_toArray, List.set_cons_zero, List.set_cons_succ, List.getElem_toArray, List.getElem_cons_succ, List.getElem_cons_zero]
            refine wpAnyH_done (by kernel_rfl) ?_ _
            have HL8 := hid (HL7.out.kept kk)
            have HR8 := hid (HR7.out.kept kk)
            have HK8 := hid (HK7.out.trans kk.no)
            clear kk y2 y4 z8
            have x1_4 := HL8.out.cell 4 rfl
            go_wp2_with fail
            go_roundw
            case rel => exact ⟨now + 1, r, false, by omega, by omega, rfl, rfl, hid (fun _ => by have h := reached_mono ls (show now - 1 ≤ now + 1 - 1 by omega); rw [HRE0.out] at h; exact h), HL8, HR8, HK8⟩
            case measure => simp [intOf]; omega
          · have HCL : Hid (∀ w', Keeps No w5 w' → Calls Try.prog 16 #[.agg #[.int .u8 0, .int .i64 0, .int .i64 0, .int .i64 0, .int .i64 0, .int .i64 0, .int .u8 p0, .bool false, .slice sa ls.length sc], .agg #[.bool true, .bool true, .bool true, .int .i64 1, .int .i64 (st : Int)], .int .i64 now] w' fun e w'' => e = .returned (.agg #[.bool true, .bool true, .bool true, .int .i64 1, .int .i64 (st : Int)]) ∧ Keeps No w' w'') := hid (fun w' kw => by
              have h := hcl w' kw
              simp only [Bool.not_true, Bool.and_false, Bool.false_eq_true, if_false] at h
              exact h)
            clear hcl hr0 HINV HA1
            have q1 : decide ((st : Int) < (st : Int)) = false := by simp
            have x0_0 := HR5.out.cell 0 rfl
            have x0_1 := HR5.out.cell 1 rfl
            have x0_2 := HR5.out.cell 2 rfl
            have x0_3 := HR5.out.cell 3 rfl
            have x0_4 := HR5.out.cell 4 rfl
            have x0_5 := HR5.out.cell 5 rfl
            have x0_6 := HR5.out.cell 6 rfl
            have x0_7 := HR5.out.cell 7 rfl
            have x0_8 := HR5.out.cell 8 rfl
            have x1_0 := HL5.out.cell 0 rfl
            have x1_1 := HL5.out.cell 1 rfl
            have x1_2 := HL5.out.cell 2 rfl
            have x1_3 := HL5.out.cell 3 rfl
            have x1_4 := HL5.out.cell 4 rfl
            go_wp2_with fail
            refine (HCL.out _ (Keeps.refl _ _)).mono ?_
            rintro e w6 ⟨rfl, k6⟩
            have HL6 := hid (HL5.out.kept k6)
            have HR6 := hid (HR5.out.kept k6)
            have HK6 := hid (HK5.out.trans k6.no)
            clear k6 HCL x0_0 x0_1 x0_2 x0_3 x0_4 x0_5 x0_6 x0_7 x0_8 x1_0 x1_1 x1_2 x1_3 x1_4
            have x0 := HL6.out.cell 0 rfl
            have f0 := HL6.out.free 0
            have x1 := HL6.out.cell 1 rfl
            have f1 := HL6.out.free 1
            have x2 := HL6.out.cell 2 rfl
            have f2 := HL6.out.free 2
            have x3 := HL6.out.cell 3 rfl
            have f3 := HL6.out.free 3
            have x4 := HL6.out.cell 4 rfl
            have f4 := HL6.out.free 4
            go_upto_region 17 with fail
            obtain ⟨W7, hW⟩ : ∃ W, (((((w6.setCell ⟨lb, 0, none⟩ (.bool true)).setCell ⟨lb, 1, none⟩ (.bool true)).setCell ⟨lb, 2, none⟩ (.bool true)).setCell ⟨lb, 3, none⟩ (.int .i64 1)).setCell ⟨lb, 4, none⟩ (.int .i64 (st : Int))) = W := ⟨_, rfl⟩
            have HL7 : Hid (Bk W7 lb 35 [.bool true, .bool true, .bool true, .int .i64 1, .int .i64 (st : Int)]) := hid (by rw [← hW]; exact Bk.put5 HL6.out)
            have HR7 : Hid (Bk W7 rb 26 [.int .u8 0, .int .i64 0, .int .i64 0, .int .i64 0, .int .i64 0, .int .i64 0, .int .u8 p0, .bool false, .slice sa ls.length sc]) := hid (by rw [← hW]; exact Bk.other5 hrl HR6.out)
            have HK7 : Hid (Keeps (fun x => x = lb) W W7) := hid (by rw [← hW]; exact HK6.out.at.at.at.at.at)
            rw [hW]
            clear hW HL6 HR6 HK6 HL5 HR5 HK5 x0 f0 x1 f1 x2 f2 x3 f3 x4 f4
            have y2 := HL7.out.cell 2 rfl
            have y4 := HL7.out.cell 4 rfl
            have z8 := HR7.out.cell 8 rfl
            refine wp_region_held_drew (S := (fun w' => w'.cell? ⟨lb, 2, none⟩ = some (.bool true) ∧ w'.cell? ⟨lb, 4, none⟩ = some (.int .i64 (st : Int)) ∧ w'.cell? ⟨rb, 8, none⟩ = some (.slice sa ls.length sc))) (by kernel_rfl) ?_ (fun hHeld => ?_)
            focus ((try dsimp only); first | with_reducible exact ⟨y2, y4, z8⟩ | with_reducible exact ⟨cellDr y2, cellDr y4, cellDr z8⟩)
            refine takeOn (i := 0) (v := ?_) rfl (by kernel_rfl) (by kernel_rfl) (by kernel_rfl) (fun _ _ _ h => h) (by rfl) ?_ (by assumption) ?_
            rotate_left
            focus (intro w hSw; (try dsimp only at hSw); go_simp; (try with_reducible rfl))
            try simp only [Act.put, List.setIfInBounds_toArray, List.set_cons_zero, List.set_cons_succ, List.getElem_toArray, List.getElem_cons_succ, List.getElem_cons_zero]
            refine takeOn (i := 1) (v := ?_) rfl (by kernel_rfl) (by kernel_rfl) (by kernel_rfl) (fun _ _ _ h => h) (by rfl) ?_ (by assumption) ?_
            rotate_left
            focus (intro w hSw; (try dsimp only at hSw); go_simp; (try with_reducible rfl))
            try simp only [Act.put, List.setIfInBounds_toArray, List.set_cons_zero, List.set_cons_succ, List.getElem_toArray, List.getElem_cons_succ, List.getElem_cons_zero]
            refine takeOn (i := 2) (v := ?_) rfl (by kernel_rfl) (by kernel_rfl) (by kernel_rfl) (fun _ _ _ h => h) (by rfl) ?_ (by assumption) ?_
            rotate_left
            focus (intro w hSw; (try dsimp only at hSw); go_simp; (try with_reducible rfl))
            try simp only [Act.put, List.setIfInBounds_toArray, List.set_cons_zero, List.set_cons_succ, List.getElem_toArray, List.getElem_cons_succ, List.getElem_cons_zero]
            refine takeOn (i := 3) (v := ?_) rfl (by kernel_rfl) (by kernel_rfl) (by kernel_rfl) (fun _ _ _ h => h) (by rfl) ?_ (by assumption) ?_
            rotate_left
            focus (intro w hSw; (try dsimp only at hSw); go_simp; (try with_reducible rfl))
            try simp only [Act.put, List.setIfInBounds_toArray, List.set_cons_zero, List.set_cons_succ, List.getElem_toArray, List.getElem_cons_succ, List.getElem_cons_zero]
            refine takeOn (i := 4) (v := ?_) rfl (by kernel_rfl) (by kernel_rfl) (by kernel_rfl) (fun _ _ _ h => h) (by rfl) ?_ (by assumption) ?_
            rotate_left
            focus (intro w hSw; (try dsimp only at hSw); go_simp; (try with_reducible rfl))
            try simp only [Act.put, List.setIfInBounds_toArray, List.set_cons_zero, List.set_cons_succ, List.getElem_toArray, List.getElem_cons_succ, List.getElem_cons_zero]
            refine takeOn (i := 5) (v := ?_) rfl (by kernel_rfl) (by kernel_rfl) (by kernel_rfl) (fun _ _ _ h => h) (by rfl) ?_ (by assumption) ?_
            rotate_left
            focus (intro w hSw; (try dsimp only at hSw); go_simp; (try with_reducible rfl))
            try simp only [Act.put, List.setIfInBounds_toArray, List.set_cons_zero, List.set_cons_succ, List.getElem_toArray, List.getElem_cons_succ, List.getElem_cons_zero]
            refine takeOn (i := 6) (v := ?_) rfl (by kernel_rfl) (by kernel_rfl) (by kernel_rfl) (fun _ _ _ h => h) (by rfl) ?_ (by assumption) ?_
            rotate_left
            focus (intro w hSw; (try dsimp only at hSw); go_simp; (try with_reducible rfl))
            try simp only [Act.put, List.setIfInBounds_toArray, List.set_cons_zero, List.set_cons_succ, List.getElem_toArray, List.getElem_cons_succ, List.getElem_cons_zero]
            refine takeOn (i := 7) (v := ?_) rfl (by kernel_rfl) (by kernel_rfl) (by kernel_rfl) (fun _ _ _ h => h) (by rfl) ?_ (by assumption) ?_
            rotate_left
            focus (intro w hSw; (try dsimp only at hSw); go_simp; (try with_reducible rfl))
            try simp only [Act.put, List.setIfInBounds_toArray, List.set_cons_zero, List.set_cons_succ, List.getElem_toArray, List.getElem_cons_succ, List.getElem_cons_zero]
            refine takeOn (i := 8) (v := ?_) rfl (by kernel_rfl) (by kernel_rfl) (by kernel_rfl) (fun _ _ _ h => h) (by rfl) ?_ (by assumption) ?_
            rotate_left
            focus (intro w hSw; (try dsimp only at hSw); go_simp; (try with_reducible rfl))
            try simp only [Act.put, List.setIfInBounds_toArray, List.set_cons_zero, List.set_cons_succ, List.getElem_toArray, List.getElem_cons_succ, List.getElem_cons_zero]
            refine takeOn (i := 9) (v := ?_) rfl (by kernel_rfl) (by kernel_rfl) (by kernel_rfl) (fun _ _ _ h => h) (by rfl) ?_ (by assumption) ?_
            rotate_left
            focus (intro w hSw; (try dsimp only at hSw); go_simp; (try with_reducible rfl))
            try simp only [Act.put, List.setIfInBounds_toArray, List.set_cons_zero, List.set_cons_succ, List.getElem_toArray, List.getElem_cons_succ, List.getElem_cons_zero]
            refine takeOn (i := 10) (v := ?_) rfl (by kernel_rfl) (by kernel_rfl) (by kernel_rfl) (fun _ _ _ h => h) (by rfl) ?_ (by assumption) ?_
            rotate_left
            focus (intro w hSw; (try dsimp only at hSw); go_simp; (try with_reducible rfl))
            try simp only [Act.put, List.setIfInBounds_toArray, List.set_cons_zero, List.set_cons_succ, List.getElem_toArray, List.getElem_cons_succ, List.getElem_cons_zero]
            refine takeOn (i := 11) (v := ?_) rfl (by kernel_rfl) (by kernel_rfl) (by kernel_rfl) (fun _ _ _ h => h) (by rfl) ?_ (by assumption) ?_
            rotate_left
            focus (intro w hSw; (try dsimp only at hSw); go_simp; (try with_reducible rfl))
            try simp only [Act.put, List.setIfInBounds_toArray, List.set_cons_zero, List.set_cons_succ, List.getElem_toArray, List.getElem_cons_succ, List.getElem_cons_zero]
            refine takeOn (i := 12) (v := ?_) rfl (by kernel_rfl) (by kernel_rfl) (by kernel_rfl) (fun _ _ _ h => h) (by rfl) ?_ (by assumption) ?_
            rotate_left
            focus (intro w hSw; (try dsimp only at hSw); go_simp; (try with_reducible rfl))
            try simp only [Act.put, List.setIfInBounds_toArray, List.set_cons_zero, List.set_cons_succ, List.getElem_toArray, List.getElem_cons_succ, List.getElem_cons_zero]
            refine takeOn (i := 13) (v := ?_) rfl (by kernel_rfl) (by kernel_rfl) (by kernel_rfl) (fun _ _ _ h => h) (by rfl) ?_ (by assumption) ?_
            rotate_left
            focus (intro w hSw; (try dsimp only at hSw); go_simp; (try with_reducible rfl))
            try simp only [Act.put, List.setIfInBounds_toArray, List.set_cons_zero, List.set_cons_succ, List.getElem_toArray, List.getElem_cons_succ, List.getElem_cons_zero]
            refine takeOn (i := 14) (v := ?_) rfl (by kernel_rfl) (by kernel_rfl) (by kernel_rfl) (fun _ _ _ h => h) (by rfl) ?_ (by assumption) ?_
            rotate_left
            focus (intro w hSw; (try dsimp only at hSw); go_simp; (try with_reducible rfl))
            try simp only [Act.put, List.setIfInBounds_toArray, List.set_cons_zero, List.set_cons_succ, List.getElem_toArray, List.getElem_cons_succ, List.getElem_cons_zero]
            refine takeOn (i := 15) (v := ?_) rfl (by kernel_rfl) (by kernel_rfl) (by kernel_rfl) (fun _ _ _ h => h) (by rfl) ?_ (by assumption) ?_
            rotate_left
            focus (intro w hSw; (try dsimp only at hSw); go_simp; (try with_reducible rfl))
            try simp only [Act.put, List.setIfInBounds_toArray, List.set_cons_zero, List.set_cons_succ, List.getElem_toArray, List.getElem_cons_succ, List.getElem_cons_zero]
            refine takeOn (i := 16) (v := ?_) rfl (by kernel_rfl) (by kernel_rfl) (by kernel_rfl) (fun _ _ _ h => h) (by rfl) ?_ (by assumption) ?_
            rotate_left
            focus (intro w hSw; (try dsimp only at hSw); go_simp; (try with_reducible rfl))
            try simp only [Act.put, List.setIfInBounds_toArray, List.set_cons_zero, List.set_cons_succ, List.getElem_toArray, List.getElem_cons_succ, List.getElem_cons_zero]
            refine takeOn (i := 17) (v := ?_) rfl (by kernel_rfl) (by kernel_rfl) (by kernel_rfl) (fun _ _ _ h => h) (by rfl) ?_ (by assumption) ?_
            rotate_left
            focus (intro w hSw; (try dsimp only at hSw); go_simp; (try with_reducible rfl))
            try simp only [Act.put, List.setIfInBounds_toArray, List.set_cons_zero, List.set_cons_succ, List.getElem_toArray, List.getElem_cons_succ, List.getElem_cons_zero]
            refine takeOn (i := 18) (v := ?_) rfl (by kernel_rfl) (by kernel_rfl) (by kernel_rfl) (fun _ _ _ h => h) (by rfl) ?_ (by assumption) ?_
            rotate_left
            focus (intro w hSw; (try dsimp only at hSw); go_simp; (try with_reducible rfl))
            try simp only [Act.put, List.setIfInBounds_toArray, List.set_cons_zero, List.set_cons_succ, List.getElem_toArray, List.getElem_cons_succ, List.getElem_cons_zero]
            refine takeOff (i := 19) rfl (by kernel_rfl) (by kernel_rfl) (by kernel_rfl) (fun _ _ _ h => h) (by rfl) (by assumption) ?_
            try simp only [Act.put, List.setIfInBounds_toArray, List.set_cons_zero, List.set_cons_succ, List.getElem_toArray, List.getElem_cons_succ, List.getElem_cons_zero]
            refine takeOff (i := 20) rfl (by kernel_rfl) (by kernel_rfl) (by kernel_rfl) (fun _ _ _ h => h) (by rfl) (by assumption) ?_
            try simp only [Act.put, List.setIfInBounds_toArray, List.set_cons_zero, List.set_cons_succ, List.getElem_toArray, List.getElem_cons_succ, List.getElem_cons_zero]
            refine takeOff (i := 21) rfl (by kernel_rfl) (by kernel_rfl) (by kernel_rfl) (fun _ _ _ h => h) (by rfl) (by assumption) ?_
            try simp only [Act.put, List.setIfInBounds_toArray, List.set_cons_zero, List.set_cons_succ, List.getElem_toArray, List.getElem_cons_succ, List.getElem_cons_zero]
            refine takeOff (i := 22) rfl (by kernel_rfl) (by kernel_rfl) (by kernel_rfl) (fun _ _ _ h => h) (by rfl) (by assumption) ?_
            try simp only [Act.put, List.setIfInBounds_toArray, List.set_cons_zero, List.set_cons_succ, List.getElem_toArray, List.getElem_cons_succ, List.getElem_cons_zero]
            refine takeOff (i := 23) rfl (by kernel_rfl) (by kernel_rfl) (by kernel_rfl) (fun _ _ _ h => h) (by rfl) (by assumption) ?_
            try simp only [Act.put, List.setIfInBounds_toArray, List.set_cons_zero, List.set_cons_succ, List.getElem_toArray, List.getElem_cons_succ, List.getElem_cons_zero]
            refine takeOff (i := 24) rfl (by kernel_rfl) (by kernel_rfl) (by kernel_rfl) (fun _ _ _ h => h) (by rfl) (by assumption) ?_
            try simp only [Act.put, List.setIfInBounds_toArray, List.set_cons_zero, List.set_cons_succ, List.getElem_toArray, List.getElem_cons_succ, List.getElem_cons_zero]
            refine takeOff (i := 25) rfl (by kernel_rfl) (by kernel_rfl) (by kernel_rfl) (fun _ _ _ h => h) (by rfl) (by assumption) ?_
            try simp only [Act.put, List.setIfInBounds_toArray, List.set_cons_zero, List.set_cons_succ, List.getElem_toArray, List.getElem_cons_succ, List.getElem_cons_zero]
            refine takeOff (i := 26) rfl (by kernel_rfl) (by kernel_rfl) (by kernel_rfl) (fun _ _ _ h => h) (by rfl) (by assumption) ?_
            try simp only [Act.put, List.setIfInBounds_toArray, List.set_cons_zero, List.set_cons_succ, List.getElem_toArray, List.getElem_cons_succ, List.getElem_cons_zero]
            refine takeOn (i := 27) (v := ?_) rfl (by kernel_rfl) (by kernel_rfl) (by kernel_rfl) (fun _ _ _ h => h) (by rfl) ?_ (by assumption) ?_
            rotate_left
            focus (intro w hSw; (try dsimp only at hSw); go_simp; (try with_reducible rfl))
            try simp only [Act.put, List.setIfInBounds_toArray, List.set_cons_zero, List.set_cons_succ, List.getElem_toArray, List.getElem_cons_succ, List.getElem_cons_zero]
            refine takeOn (i := 28) (v := ?_) rfl (by kernel_rfl) (by kernel_rfl) (by kernel_rfl) (fun _ _ _ h => h) (by rfl) ?_ (by assumption) ?_
            rotate_left
            focus (intro w hSw; (try dsimp only at hSw); go_simp; (try with_reducible rfl))
            try simp only [Act.put, List.setIfInBounds_toArray, List.set_cons_zero, List.set_cons_succ, List.getElem_toArray, List.getElem_cons_succ, List.getElem_cons_zero]
            refine wpAnyH_done (by kernel_rfl) ?_ _
            have kk : Keeps No W7 W7.drew := (Keeps.refl No W7).drew
            have HL8 := hid (HL7.out.kept kk)
            have HR8 := hid (HR7.out.kept kk)
            have HK8 := hid (HK7.out.trans kk.no)
            clear kk y2 y4 z8
            have x1_4 := HL8.out.cell 4 rfl
            go_wp2_with fail
            go_roundw
            case rel => exact ⟨now + 1, st, true, by omega, by omega, rfl, rfl, hid (fun h => by cases h), HL8, HR8, HK8⟩
            case measure => simp [intOf]; omega
        · have d1 : decide (now < 60) = false := decide_eq_false hlt
          go_wp2_with fail
          go_ret
          exact ⟨rfl, (KW.out.trans' HK.out (T := No) (fun _ _ h => h) (fun i hi e => by have := HGB.out; omega)).toBelow⟩

theorem own : ownKnob Try.prog.godebug = none := by kernel_rfl
theorem laidOut : laidOutB Try.prog = true := by kernel_rfl
set_option maxRecDepth 100000 in
theorem lifted (os : Os) (started : os.Started) (H : Type) (enc : TypeId × Value → H) :
    ReturnsInHanded {} Try.checked os 7 .any (Rows.ladderGrowsSpec.pre6 enc Try.prog Try.f7 Rows.ladderGrowsRow.domain false) (Rows.ladderGrowsSpec.post enc Try.prog Try.f7 false true false false) := by
  refine returnsInHanded_of_change (C := Try.checked) own started (by kernel_rfl) Try.func7
    (ChangeSpec.witness6 (enc := enc) (C := Try.checked) false ⟨#[], #[.int .u8 0, .slice none 0 0, .int .u8 0], []⟩ 8 (by kernel_rfl) (by kernel_rfl) (by kernel_rfl) (by kernel_rfl)) ?_
  intro W base args ds gs before hval0 hW hcnd _
  have hval : ∀ (j : Nat) t v, Try.f7.params[j]? = some t → args[j]? = some v → Value.okWide Try.prog W .any base t v := hval0
  have hW' := hW
  obtain ⟨p, q, hA0, hV, rfl, hfz, hnd⟩ := hW
  have hA : DataW.TrodAll enc Try.prog W 0 (fun _ => true) true Try.f7.params.toList args.toList ds p := hA0
  rw [Try.params7] at hA hval
  obtain ⟨v0, vs0, d0, ds0, p0, q0, hargs, rfl, rfl, h0, r0⟩ := trodAll_cons hA
  obtain ⟨v1, vs1, d1, ds1, p1, q1, rfl, rfl, rfl, h1, r1⟩ := trodAll_cons r0
  obtain ⟨v2, vs2, d2, ds2, p2, q2, rfl, rfl, rfl, h2, r2⟩ := trodAll_cons r1
  obtain ⟨rfl, rfl, rfl⟩ := trodAll_nil r2
  obtain rfl : args = #[v0, v1, v2] := by cases args; simp_all
  obtain ⟨rfl, rfl⟩ := trodVars_none hV
  have k0 := h0
  have lt0 : ∀ x ∈ p0, x.block < W.heap.size := by obtain ⟨m, hm⟩ := k0; exact DataW.trod_lt m _ _ _ hm
  have k1 := h1
  have lt1 : ∀ x ∈ p1, x.block < W.heap.size := by obtain ⟨m, hm⟩ := k1; exact DataW.trod_lt m _ _ _ hm
  have k2 := h2
  have lt2 : ∀ x ∈ p2, x.block < W.heap.size := by obtain ⟨m, hm⟩ := k2; exact DataW.trod_lt m _ _ _ hm
  obtain ⟨a0, rfl, rfl, rfl, w0⟩ := open_int Try.underlying5 (hval 0 5 v0 rfl rfl) h0
  obtain ⟨s1, len1, cap1, rfl⟩ := okWide_slice Try.underlying22 (hval 1 22 v1 rfl rfl)
  obtain ⟨l1, rfl, w1, b1⟩ := argInts .u16 Try.underlying22 Try.underlying40 (by kernel_rfl) h1
  obtain ⟨a2, rfl, rfl, rfl, w2⟩ := open_int Try.underlying5 (hval 2 5 v2 rfl rfl) h2
  clear hA0 hval0
  refine (walk W a0 w0 s1 cap1 l1 w1 b1 a2 w2).mono fun e W' ⟨he, bel⟩ => ?_
  subst he
  exact ⟨_, rfl, _, _, _, [], _, [], hW', trodAll_mk1 (shut_bool Try.underlying4 _), (trodAll_cons_mk (Below.trod laidOut (by kernel_rfl) (of_decide_eq_true (by kernel_rfl)) k0 bel lt0) (trodAll_cons_mk (Below.trod laidOut (by kernel_rfl) (of_decide_eq_true (by kernel_rfl)) k1 bel lt1) (trodAll_cons_mk (Below.trod laidOut (by kernel_rfl) (of_decide_eq_true (by kernel_rfl)) k2 bel lt2) trodAll_mk0))), rfl, bel.frame _, fun h => by cases h⟩

theorem over : Rows.ladderGrowsRow.holds Try.pinned (OpenSpec.ofChange Rows.ladderGrowsSpec) :=
  OpenClaim.holds_of_wide 7 Try.f7 rfl rfl rfl rfl rfl rfl rfl ⟨rfl, rfl, rfl, rfl, rfl⟩ rfl rfl rfl rfl rfl (by kernel_rfl) Try.func7 (by kernel_rfl)
    (of_decide_eq_true (by kernel_rfl)) (by unfold Func.isWrapper; first | (rw [if_pos (by decide +kernel)]; kernel_rfl) | (rw [if_neg (by decide +kernel)]; exact ⟨rfl, rfl⟩))
    (fun os started H enc _ => lifted os started H enc)

theorem proved : Rows.LadderGrowsSaid := over
#print axioms proved
end Go.Proofs.Ytpliabljhkejoaa.ladderGrows
