/- Whatever is done: until when there is no sound. No conditions. -/
import Derived.Test.YtgdkpnfonnafaaaRows
import Derived.Test.YtgdkpnfonnafaaaArgs
import Derived.Test.YtgdkpnfonnafaaaHushK
import Derived.Test.YtgdkpnfonnafaaaCellP
import Derived.ProofKit
import Derived.OpenShut
import Derived.Deep.DeepCutAuto
import Derived.Deep.CutBlock
import Derived.Deep.RegionHeld3
import Derived.Deep.RegionWith
namespace Go.Proofs.Ytgdkpnfonnafaaa.hushPlays
open Go.ChangeShapes Go.WideShapes Go.ChangeAt Go.RowKit
open Go.ChangeMaps (open_string shut_string)
set_option linter.unusedVariables false
set_option linter.unusedSimpArgs false

structure ActH where
  do_ : Int
  behind : Int
  mark : Int
  t : Int
def encActH (x : ActH) : List Value := [.int .u8 x.do_, .int .u8 x.behind, .int .u8 x.mark, .int .i16 x.t]
theorem encActH_len (x : ActH) : (encActH x).length = 4 := rfl
def goodActH (x : ActH) : Prop := (Lit.int .u8 x.do_).wf = true ∧ (Lit.int .u8 x.behind).wf = true ∧ (Lit.int .u8 x.mark).wf = true ∧ (Lit.int .i16 x.t).wf = true

set_option maxRecDepth 100000 in
theorem decAct17 {H : Type} {enc : TypeId × Value → H} {W : World} {n : Nat} {cs : List Value} {x} (h : DataW.trod enc Try.prog W 0 (fun _ => true) true n 29 cs = some x) : ∃ y : ActH, cs = encActH y ∧ goodActH y := by
  obtain ⟨xs, m, _, _, hl, hlen, hf⟩ := DataW.trod_struct Try.underlying29 h
  rw [show Try.prog.cellsOf 29 = 4 by kernel_rfl] at hl
  match cs, hl, xs, hlen with
  | [c0, c1, c2, c3], _, [y0, y1, y2, y3], _ =>
    have h0 : DataW.trod enc Try.prog W 0 (fun _ => true) true m 5 (([c0, c1, c2, c3].drop 0).take (Try.prog.cellsOf 5)) = some y0 := hf 0 _ rfl
    have h1 : DataW.trod enc Try.prog W 0 (fun _ => true) true m 5 (([c0, c1, c2, c3].drop 1).take (Try.prog.cellsOf 5)) = some y1 := hf 1 _ rfl
    have h2 : DataW.trod enc Try.prog W 0 (fun _ => true) true m 5 (([c0, c1, c2, c3].drop 2).take (Try.prog.cellsOf 5)) = some y2 := hf 2 _ rfl
    have h3 : DataW.trod enc Try.prog W 0 (fun _ => true) true m 27 (([c0, c1, c2, c3].drop 3).take (Try.prog.cellsOf 27)) = some y3 := hf 3 _ rfl
    rw [show Try.prog.cellsOf 5 = 1 by kernel_rfl] at h0 h1 h2
    rw [show Try.prog.cellsOf 27 = 1 by kernel_rfl] at h3
    obtain ⟨a0, e0, _, w0⟩ := DataW.trod_int Try.underlying5 h0
    obtain ⟨a1, e1, _, w1⟩ := DataW.trod_int Try.underlying5 h1
    obtain ⟨a2, e2, _, w2⟩ := DataW.trod_int Try.underlying5 h2
    obtain ⟨a3, e3, _, w3⟩ := DataW.trod_int Try.underlying27 h3
    simp at e0 e1 e2 e3
    exact ⟨⟨a0, a1, a2, a3⟩, by simp [e0, e1, e2, e3, encActH], w0, w1, w2, w3⟩

set_option maxHeartbeats 8000000 in
set_option maxRecDepth 100000 in
theorem walk (w : World) (s0 : Option Addr) (cap : Nat) (q : List ActH) (hs : Sl w 4 (.slice s0 q.length cap) q.length (q.flatMap encActH)) (hq : ∀ x ∈ q, goodActH x) (kk : Int) (wkk : (Lit.int .u8 kk).wf = true) :
    Calls Try.prog 3 #[.slice s0 q.length cap, .int .u8 kk] w fun e w' => e = .returned (.bool true) ∧ Below w.heap.size w w' := by
  obtain ⟨k0, k1⟩ : 0 ≤ kk ∧ kk ≤ 255 := bounds_u8 wkk
  clear wkk
  obtain ⟨N, hN⟩ : ∃ N, q.length = N := ⟨_, rfl⟩
  rw [hN] at hs ⊢
  have HS := hid hs
  have HQ := hid hq
  have HN := hid hN
  clear hs hq hN
  by_cases hbig : 100 < N
  · have hd : decide ((N : Int) > 100) = true := decide_eq_true (by omega)
    go_enter Try.func3, Try.ntmps3
    go_wp2_with fail
    refine (ends_true _).mono ?_
    rintro e w1 ⟨rfl, k1⟩
    have K1 := hid k1
    clear k1
    go_wp2_with fail
    refine (ends_true _).mono ?_
    rintro e w2 ⟨rfl, k2⟩
    have K2 := hid (K1.out.trans k2)
    clear k2
    go_wp2_with fail
    go_ret
    exact ⟨rfl, K2.out.toBelow⟩
  have hd : decide ((N : Int) > 100) = false := decide_eq_false (by omega)
  go_enter Try.func3, Try.ntmps3
  go_wp2_with fail
  refine (ends_true _).mono ?_
  rintro e w1 ⟨rfl, k1⟩
  have K1 := hid k1
  clear k1 hd
  go_upto_region 5 with fail
  obtain ⟨lb, hlb⟩ : ∃ b, w1.heap.size = b := ⟨_, rfl⟩
  obtain ⟨mb, hmb⟩ : ∃ b, lb + 1 = b := ⟨_, rfl⟩
  obtain ⟨W, hW⟩ : ∃ W, (w1.alloc (.cells #[.int .i64 0, .int .i64 0, .int .u8 0] 25)).alloc (.cells #[.int .i64 0, .int .i64 0, .int .u8 0] 26) = W := ⟨_, rfl⟩
  have HB : Hid (Bk W lb 25 [.int .i64 0, .int .i64 0, .int .u8 0]) := hid (by rw [← hW]; exact (Bk.new hlb _ _).alloc _)
  have HC : Hid (Bk W mb 26 [.int .i64 0, .int .i64 0, .int .u8 0]) := hid (by rw [← hW, ← hmb]; exact Bk.new (by simp [hlb]) _ _)
  have HK : Hid (Keeps No w W) := hid (by rw [← hW]; exact (K1.out.alloc _).alloc _)
  have HGB := hid (show w.heap.size ≤ lb ∧ lb + 1 = mb from ⟨by have := K1.out.size; omega, hmb⟩)
  rw [hlb, hmb, hW]
  have hab : ¬ lb = mb := by omega
  have hab' : ¬ mb = lb := by omega
  clear hW hlb hmb K1
  have ekk : IntKind.i64.wrap kk = kk := by rw [IntKind.wrap_i64]; omega
  go_wp2_with fail
  clear ekk
  go_loopw [7, 9] (fun v7 v9 wr => ∃ (i : Nat) (now : Int) (u o m : Int), i ≤ N ∧ 1 ≤ now ∧ now ≤ 1 + 9 * i ∧ v9 = .int .i64 i ∧ v7 = .int .i64 now ∧ Hid (Bk wr lb 25 [.int .i64 u, .int .i64 o, .int .u8 m]) ∧ Hid (Bk wr mb 26 [.int .i64 u, .int .i64 o, .int .u8 m]) ∧ Hid (Keeps No w wr)) (fun _ v9 _ => N - (intOf v9).toNat)
  case atStart => exact ⟨0, 1, 0, 0, 0, Nat.zero_le _, by omega, by omega, rfl, rfl, HB, HC, HK⟩
  case round =>
    clear HB HC HK
    obtain ⟨i, now, u, o, m, hi, hn0, hn1, rfl, rfl, HB, HC, HK⟩ := hrel
    by_cases hlt : i < N
    · have hil : i < q.length := by rw [HN.out]; exact hlt
      obtain ⟨⟨dd, bh, mk, tv⟩, hx⟩ : ∃ x, q[i] = x := ⟨_, rfl⟩
      have hgd := HQ.out _ (List.getElem_mem hil)
      rw [hx] at hgd
      obtain ⟨hd0, hd1⟩ : 0 ≤ dd ∧ dd ≤ 255 := bounds_u8 (show (Lit.int .u8 dd).wf = true from hgd.1)
      obtain ⟨hb0, hb1⟩ : 0 ≤ bh ∧ bh ≤ 255 := bounds_u8 (show (Lit.int .u8 bh).wf = true from hgd.2.1)
      obtain ⟨hm0, hm1⟩ : 0 ≤ mk ∧ mk ≤ 255 := bounds_u8 (show (Lit.int .u8 mk).wf = true from hgd.2.2.1)
      obtain ⟨ht0, ht1⟩ : -32768 ≤ tv ∧ tv ≤ 32767 := bounds_i16 (show (Lit.int .i16 tv).wf = true from hgd.2.2.2)
      obtain ⟨g, off, rfl, _, hc⟩ := Sl.itemC (enc := encActH) (size := 4) (fun _ => rfl) (by decide) HS.out hil hx
      have c0 := HK.out.cell (fun h => h) (hc 0 _ rfl)
      have c1 := HK.out.cell (fun h => h) (hc 1 _ rfl)
      have c2 := HK.out.cell (fun h => h) (hc 2 _ rfl)
      have c3 := HK.out.cell (fun h => h) (hc 3 _ rfl)
      simp only [Nat.add_zero] at c0
      obtain ⟨nw, hnw⟩ : ∃ nw : Int, now + bh % 9 = nw := ⟨_, rfl⟩
      have hnw0 : 1 ≤ nw := by omega
      have hnw1 : nw ≤ 1 + 9 * (i + 1) := by omega
      obtain ⟨mk4, hmk4⟩ : ∃ k : Int, mk % 4 = k := ⟨_, rfl⟩
      have HM4 := hid hmk4
      have HMT : Hid (mk.tmod 4 = mk4) := hid (by rw [Int.tmod_eq_emod_of_nonneg hm0]; exact hmk4)
      have hmk40 : 0 ≤ mk4 ∧ mk4 ≤ 3 := by omega
      have HM4B := hid hmk40
      have hd3 : dd % 3 = 0 ∨ dd % 3 = 1 ∨ dd % 3 = 2 := by omega
      have HD3 := hid hd3
      clear hc hx hil hgd hd3 hmk4 hmk40
      go_upto_region 11 with fail
      obtain ⟨ab, hab0⟩ : ∃ b, wr.heap.size = b := ⟨_, rfl⟩
      obtain ⟨W1, hW⟩ : ∃ W1, wr.alloc (.cells #[.int .u8 dd, .int .u8 bh, .int .u8 mk, .int .i16 tv] 29) = W1 := ⟨_, rfl⟩
      have HA1 : Hid (Bk W1 ab 29 [.int .u8 dd, .int .u8 bh, .int .u8 mk, .int .i16 tv]) := hid (by rw [← hW]; exact Bk.new hab0 _ _)
      have HB1 : Hid (Bk W1 lb 25 [.int .i64 u, .int .i64 o, .int .u8 m]) := hid (by rw [← hW]; exact HB.out.alloc _)
      have HC1 : Hid (Bk W1 mb 26 [.int .i64 u, .int .i64 o, .int .u8 m]) := hid (by rw [← hW]; exact HC.out.alloc _)
      have HK1 : Hid (Keeps No w W1) := hid (by rw [← hW]; exact HK.out.alloc _)
      have hla : ¬ lb = ab := by have := HB.out.lt; omega
      have hma : ¬ mb = ab := by have := HC.out.lt; omega
      have hla' : ¬ ab = lb := fun h => hla h.symm
      have hma' : ¬ ab = mb := fun h => hma h.symm
      rw [hab0, hW]
      clear hW hab0 c0 c1 c2 c3 HB HC HK
      have x0_0 := HA1.out.cell 0 rfl
      have x0_1 := HA1.out.cell 1 rfl
      go_upto_block 2 with fail
      clear x0_0 x0_1 hnw
      have x0_2 := HA1.out.cell 2 rfl
      have x0_3 := HA1.out.cell 3 rfl
      go_cut [] from 40 to 90 (fun wx => ∃ u o m, Hid (Bk wx lb 25 [.int .i64 u, .int .i64 o, .int .u8 m]) ∧ Hid (Bk wx mb 26 [.int .i64 u, .int .i64 o, .int .u8 m]) ∧ Hid (Keeps No w wx))
      case first =>
        rcases HD3.out with hd | hd | hd
        · have e0 : ((dd % 3) == 0) = true := by rw [hd]; rfl
          have e1 : ((dd % 3) == 1) = false := by rw [hd]; rfl
          clear hd HD3
          obtain ⟨⟨u1, o1, m1⟩, h1⟩ : ∃ q, pauseD ⟨u, o, m⟩ nw tv kk mk4 = q := ⟨_, rfl⟩
          have HE : Hid (∀ t k, t = tv → k = mk4 → ∀ w, Calls Try.prog 10 #[.agg #[.int .i64 u, .int .i64 o, .int .u8 m], .int .i64 nw, .int .i64 t, .int .i64 kk, .int .u8 k] w fun e w' => e = .returned (.agg #[.int .i64 u1, .int .i64 o1, .int .u8 m1]) ∧ Keeps No w w') := hid (fun t k ht hk w => by
            subst ht
            subst hk
            have h := hpause_any u o m nw t kk k w ⟨by omega, by omega⟩ ⟨by omega, by omega⟩ ⟨by omega, by omega⟩
            rw [h1] at h
            exact h)
          have HM : Hid (∀ t k, t = tv → k = mk4 → ∀ w, Calls Try.prog 11 #[.agg #[.int .i64 u, .int .i64 o, .int .u8 m], .int .i64 nw, .int .i64 t, .int .i64 kk, .int .u8 k] w fun e w' => e = .returned (.agg #[.int .i64 u1, .int .i64 o1, .int .u8 m1]) ∧ Keeps No w w') := hid (fun t k ht hk w => by
            subst ht
            subst hk
            have h := mpause_any u o m nw t kk k w ⟨by omega, by omega⟩ ⟨by omega, by omega⟩ ⟨by omega, by omega⟩
            rw [h1] at h
            exact h)
          clear h1
          go_upto_region 15 with fail
          have etv : IntKind.i64.wrap tv = tv := by rw [IntKind.wrap_i64]; omega
          have hmk4 := HM4.out
          have bA := HA1.out
          have bB := HB1.out
          have bC := HC1.out
          have b0 := bB.cell 0 rfl
          have fb0 := bB.free 0
          have c0 := bC.cell 0 rfl
          have fc0 := bC.free 0
          have b1 := bB.cell 1 rfl
          have fb1 := bB.free 1
          have c1 := bC.cell 1 rfl
          have fc1 := bC.free 1
          have b2 := bB.cell 2 rfl
          have fb2 := bB.free 2
          have c2 := bC.cell 2 rfl
          have fc2 := bC.free 2
          refine wp_region_held_drew (S := (fun w' => w'.cell? ⟨ab, 2, none⟩ = some (.int .u8 mk) ∧ w'.cell? ⟨ab, 3, none⟩ = some (.int .i16 tv))) (by kernel_rfl) ?_ (fun hHeld => ?_)
          focus ((try dsimp only); first | with_reducible exact ⟨x0_2, x0_3⟩ | with_reducible exact ⟨cellDr x0_2, cellDr x0_3⟩ | (refine ⟨Bk.cell (T := 29) (xs := [.int .u8 dd, .int .u8 bh, .int .u8 mk, .int .i16 tv]) ?_ 2 rfl, Bk.cell (T := 29) (xs := [.int .u8 dd, .int .u8 bh, .int .u8 mk, .int .i16 tv]) ?_ 3 rfl⟩ <;> ((repeat' (first | with_reducible assumption | with_reducible refine Bk.drew ?_ | with_reducible refine Bk.other3 hla' ?_ | with_reducible refine Bk.other3 hma' ?_)); done)))
          refine takeOn (i := 1) (v := ?_) rfl (by kernel_rfl) (by kernel_rfl) (by kernel_rfl) (fun _ _ _ h => h) (by rfl) ?_ (by assumption) ?_
          rotate_left
          focus (intro w hSw; (try dsimp only at hSw); go_simp; (try with_reducible rfl))
          try simp only [Act.put, List.setIfInBounds_toArray, List.set_cons_zero, List.set_cons_succ, List.getElem_toArray, List.getElem_cons_succ, List.getElem_cons_zero]
          refine takeOn (i := 2) (v := ?_) rfl (by kernel_rfl) (by kernel_rfl) (by kernel_rfl) (fun _ _ _ h => h) (by rfl) ?_ (by assumption) ?_
          rotate_left
          focus (intro w hSw; (try dsimp only at hSw); go_simp; (try with_reducible rfl))
          try simp only [Act.put, List.setIfInBounds_toArray, List.set_cons_zero, List.set_cons_succ, List.getElem_toArray, List.getElem_cons_succ, List.getElem_cons_zero]
          refine takeOn (i := 3) (v := ?_) rfl (by kernel_rfl) (by kernel_rfl) (by kernel_rfl) (fun _ _ _ h => h) (by rfl) ?_ (by assumption) ?_
          rotate_left
          focus (intro w hSw; (try dsimp only at hSw); go_simp; (try with_reducible rfl))
          try simp only [Act.put, List.setIfInBounds_toArray, List.set_cons_zero, List.set_cons_succ, List.getElem_toArray, List.getElem_cons_succ, List.getElem_cons_zero]
          refine takeOn (i := 4) (v := ?_) rfl (by kernel_rfl) (by kernel_rfl) (by kernel_rfl) (fun _ _ _ h => h) (by rfl) ?_ (by assumption) ?_
          rotate_left
          focus (intro w hSw; (try dsimp only at hSw); go_simp; (try with_reducible rfl))
          try simp only [Act.put, List.setIfInBounds_toArray, List.set_cons_zero, List.set_cons_succ, List.getElem_toArray, List.getElem_cons_succ, List.getElem_cons_zero]
          refine takeOn (i := 5) (v := ?_) rfl (by kernel_rfl) (by kernel_rfl) (by kernel_rfl) (fun _ _ _ h => h) (by rfl) ?_ (by assumption) ?_
          rotate_left
          focus (intro w hSw; (try dsimp only at hSw); go_simp; (try with_reducible rfl))
          try simp only [Act.put, List.setIfInBounds_toArray, List.set_cons_zero, List.set_cons_succ, List.getElem_toArray, List.getElem_cons_succ, List.getElem_cons_zero]
          refine takeOn (i := 6) (v := ?_) rfl (by kernel_rfl) (by kernel_rfl) (by kernel_rfl) (fun _ _ _ h => h) (by rfl) ?_ (by assumption) ?_
          rotate_left
          focus (intro w hSw; (try dsimp only at hSw); go_simp; (try with_reducible rfl))
          try simp only [Act.put, List.setIfInBounds_toArray, List.set_cons_zero, List.set_cons_succ, List.getElem_toArray, List.getElem_cons_succ, List.getElem_cons_zero]
          refine takeOn (i := 7) (v := ?_) rfl (by kernel_rfl) (by kernel_rfl) (by kernel_rfl) (fun _ _ _ h => h) (by rfl) ?_ (by assumption) ?_
          rotate_left
          focus (intro w hSw; (try dsimp only at hSw); go_simp; (try with_reducible rfl))
          try simp only [Act.put, List.setIfInBounds_toArray, List.set_cons_zero, List.set_cons_succ, List.getElem_toArray, List.getElem_cons_succ, List.getElem_cons_zero]
          refine takeOn (i := 8) (v := ?_) rfl (by kernel_rfl) (by kernel_rfl) (by kernel_rfl) (fun _ _ _ h => h) (by rfl) ?_ (by assumption) ?_
          rotate_left
          focus (intro w hSw; (try dsimp only at hSw); go_simp; (try with_reducible rfl))
          try simp only [Act.put, List.setIfInBounds_toArray, List.set_cons_zero, List.set_cons_succ, List.getElem_toArray, List.getElem_cons_succ, List.getElem_cons_zero]
          refine takeOn (i := 11) (v := ?_) rfl (by kernel_rfl) (by kernel_rfl) (by kernel_rfl) (fun _ _ _ h => h) (by rfl) ?_ (by assumption) ?_
          rotate_left
          focus (intro w hSw; (try dsimp only at hSw); go_simp; (try with_reducible rfl))
          try simp only [Act.put, List.setIfInBounds_toArray, List.set_cons_zero, List.set_cons_succ, List.getElem_toArray, List.getElem_cons_succ, List.getElem_cons_zero]
          refine takeOn (i := 12) (v := ?_) rfl (by kernel_rfl) (by kernel_rfl) (by kernel_rfl) (fun _ _ _ h => h) (by rfl) ?_ (by assumption) ?_
          rotate_left
          focus (intro w hSw; (try dsimp only at hSw); go_simp; (try with_reducible rfl))
          try simp only [Act.put, List.setIfInBounds_toArray, List.set_cons_zero, List.set_cons_succ, List.getElem_toArray, List.getElem_cons_succ, List.getElem_cons_zero]
          refine takeOn (i := 13) (v := ?_) rfl (by kernel_rfl) (by kernel_rfl) (by kernel_rfl) (fun _ _ _ h => h) (by rfl) ?_ (by assumption) ?_
          rotate_left
          focus (intro w hSw; (try dsimp only at hSw); go_simp; (try with_reducible rfl))
          try simp only [Act.put, List.setIfInBounds_toArray, List.set_cons_zero, List.set_cons_succ, List.getElem_toArray, List.getElem_cons_succ, List.getElem_cons_zero]
          refine takeOn (i := 14) (v := ?_) rfl (by kernel_rfl) (by kernel_rfl) (by kernel_rfl) (fun _ _ _ h => h) (by rfl) ?_ (by assumption) ?_
          rotate_left
          focus (intro w hSw; (try dsimp only at hSw); go_simp; (try with_reducible rfl))
          try simp only [Act.put, List.setIfInBounds_toArray, List.set_cons_zero, List.set_cons_succ, List.getElem_toArray, List.getElem_cons_succ, List.getElem_cons_zero]
          refine takeOn (i := 15) (v := ?_) rfl (by kernel_rfl) (by kernel_rfl) (by kernel_rfl) (fun _ _ _ h => h) (by rfl) ?_ (by assumption) ?_
          rotate_left
          focus (intro w hSw; (try dsimp only at hSw); go_simp; (try with_reducible rfl))
          try simp only [Act.put, List.setIfInBounds_toArray, List.set_cons_zero, List.set_cons_succ, List.getElem_toArray, List.getElem_cons_succ, List.getElem_cons_zero]
          refine takeOn (i := 16) (v := ?_) rfl (by kernel_rfl) (by kernel_rfl) (by kernel_rfl) (fun _ _ _ h => h) (by rfl) ?_ (by assumption) ?_
          rotate_left
          focus (intro w hSw; (try dsimp only at hSw); go_simp; (try with_reducible rfl))
          try simp only [Act.put, List.setIfInBounds_toArray, List.set_cons_zero, List.set_cons_succ, List.getElem_toArray, List.getElem_cons_succ, List.getElem_cons_zero]
          refine takeOn (i := 17) (v := ?_) rfl (by kernel_rfl) (by kernel_rfl) (by kernel_rfl) (fun _ _ _ h => h) (by rfl) ?_ (by assumption) ?_
          rotate_left
          focus (intro w hSw; (try dsimp only at hSw); go_simp; (try with_reducible rfl))
          try simp only [Act.put, List.setIfInBounds_toArray, List.set_cons_zero, List.set_cons_succ, List.getElem_toArray, List.getElem_cons_succ, List.getElem_cons_zero]
          refine takeOn (i := 18) (v := ?_) rfl (by kernel_rfl) (by kernel_rfl) (by kernel_rfl) (fun _ _ _ h => h) (by rfl) ?_ (by assumption) ?_
          rotate_left
          focus (intro w hSw; (try dsimp only at hSw); go_simp; (try with_reducible rfl))
          try simp only [Act.put, List.setIfInBounds_toArray, List.set_cons_zero, List.set_cons_succ, List.getElem_toArray, List.getElem_cons_succ, List.getElem_cons_zero]
          refine wpAnyH_ready (rs := [0, 10]) (by kernel_rfl) (by simp) ?_
          refine AllReadyH.cons rfl (fun K hK => ?_) ?_
          focus
            go_simp
            refine hK.out _ _ ?_ (fun hHeld => ?_)
            focus ((try dsimp only); first | with_reducible exact ⟨x0_2, x0_3⟩ | with_reducible exact ⟨cellDr x0_2, cellDr x0_3⟩ | (refine ⟨Bk.cell (T := 29) (xs := [.int .u8 dd, .int .u8 bh, .int .u8 mk, .int .i16 tv]) ?_ 2 rfl, Bk.cell (T := 29) (xs := [.int .u8 dd, .int .u8 bh, .int .u8 mk, .int .i16 tv]) ?_ 3 rfl⟩ <;> ((repeat' (first | with_reducible assumption | with_reducible refine Bk.drew ?_ | with_reducible refine Bk.other3 hla' ?_ | with_reducible refine Bk.other3 hma' ?_)); done)))
            clear hK K
            try simp only [Act.put, List.setIfInBounds_toArray, List.set_cons_zero, List.set_cons_succ, List.getElem_toArray, List.getElem_cons_succ, List.getElem_cons_zero]
            refine wpAnyH_ready (rs := [9, 10]) (by kernel_rfl) (by simp) ?_
            refine AllReadyH.cons rfl (fun K hK => ?_) ?_
            focus
              go_simp
              go_at_call 10
              with_reducible refine (HE.out _ _ ?ht ?hk _).mono ?_
              case ht => first | exact etv | rfl
              case hk => first | exact HMT.out | exact HM4.out | rfl
              rintro e w9 ⟨rfl, k⟩
              have kk : Keeps (fun i => i = lb ∨ i = mb) W1 w9 := Keeps.trans (by repeat' (first | with_reducible exact Keeps.refl _ _ | with_reducible assumption | with_reducible refine Keeps.drewN ?_ _ | with_reducible refine Keeps.drew ?_ | with_reducible refine Keeps.setCell ?_ ?_ _ | exact Or.inr (Or.inl rfl) | exact Or.inr (Or.inr rfl))) k.no
              have bA : Bk w9 ab 29 [.int .u8 dd, .int .u8 bh, .int .u8 mk, .int .i16 tv] := Bk.kept (by (repeat' (first | with_reducible assumption | with_reducible refine Bk.drew ?_ | with_reducible refine Bk.other3 hla' ?_ | with_reducible refine Bk.other3 hma' ?_))) k
              have bB : Bk w9 lb 25 [.int .i64 u, .int .i64 o, .int .u8 m] := Bk.kept (by (repeat' (first | with_reducible assumption | with_reducible refine Bk.drew ?_ | with_reducible refine Bk.other3 hab ?_ | with_reducible refine Bk.put3 (u0 := .int .i64 u) (u1 := .int .i64 o) (u2 := .int .u8 m) ?_))) k
              have bC : Bk w9 mb 26 [.int .i64 u, .int .i64 o, .int .u8 m] := Bk.kept (by (repeat' (first | with_reducible assumption | with_reducible refine Bk.drew ?_ | with_reducible refine Bk.other3 hab' ?_ | with_reducible refine Bk.put3 (u0 := .int .i64 u) (u1 := .int .i64 o) (u2 := .int .u8 m) ?_))) k
              have x0_2 := bA.cell 2 rfl
              have x0_3 := bA.cell 3 rfl
              have b0 := bB.cell 0 rfl
              have fb0 := bB.free 0
              have c0 := bC.cell 0 rfl
              have fc0 := bC.free 0
              have b1 := bB.cell 1 rfl
              have fb1 := bB.free 1
              have c1 := bC.cell 1 rfl
              have fc1 := bC.free 1
              have b2 := bB.cell 2 rfl
              have fb2 := bB.free 2
              have c2 := bC.cell 2 rfl
              have fc2 := bC.free 2
              clear k
              go_wp2_with fail
              refine hK.out _ _ ?_ (fun hHeld => ?_)
              focus ((try dsimp only); first | with_reducible exact ⟨x0_2, x0_3⟩ | with_reducible exact ⟨cellDr x0_2, cellDr x0_3⟩ | (refine ⟨Bk.cell (T := 29) (xs := [.int .u8 dd, .int .u8 bh, .int .u8 mk, .int .i16 tv]) ?_ 2 rfl, Bk.cell (T := 29) (xs := [.int .u8 dd, .int .u8 bh, .int .u8 mk, .int .i16 tv]) ?_ 3 rfl⟩ <;> ((repeat' (first | with_reducible assumption | with_reducible refine Bk.drew ?_ | with_reducible refine Bk.other3 hla' ?_ | with_reducible refine Bk.other3 hma' ?_)); done)))
              clear hK K
              try simp only [Act.put, List.setIfInBounds_toArray, List.set_cons_zero, List.set_cons_succ, List.getElem_toArray, List.getElem_cons_succ, List.getElem_cons_zero]
              refine wpAnyH_ready (rs := [10]) (by kernel_rfl) (by simp) ?_
              refine AllReadyH.cons rfl (fun K hK => ?_) AllReadyH.nil
              go_simp
              refine hK.out _ _ ?_ (fun hHeld => ?_)
              focus ((try dsimp only); first | with_reducible exact ⟨x0_2, x0_3⟩ | with_reducible exact ⟨cellDr x0_2, cellDr x0_3⟩ | (refine ⟨Bk.cell (T := 29) (xs := [.int .u8 dd, .int .u8 bh, .int .u8 mk, .int .i16 tv]) ?_ 2 rfl, Bk.cell (T := 29) (xs := [.int .u8 dd, .int .u8 bh, .int .u8 mk, .int .i16 tv]) ?_ 3 rfl⟩ <;> ((repeat' (first | with_reducible assumption | with_reducible refine Bk.drew ?_ | with_reducible refine Bk.other3 hla' ?_ | with_reducible refine Bk.other3 hma' ?_)); done)))
              clear hK K
              try simp only [Act.put, List.setIfInBounds_toArray, List.set_cons_zero, List.set_cons_succ, List.getElem_toArray, List.getElem_cons_succ, List.getElem_cons_zero]
              refine wpAnyH_ready (rs := [19]) (by kernel_rfl) (by simp) ?_
              refine AllReadyH.cons rfl (fun K hK => ?_) AllReadyH.nil
              go_simp
              go_at_call 11
              with_reducible refine (HM.out _ _ ?ht ?hk _).mono ?_
              case ht => first | exact etv | rfl
              case hk => first | exact HMT.out | exact HM4.out | rfl
              rintro e w9 ⟨rfl, k⟩
              have kk : Keeps (fun i => i = lb ∨ i = mb) W1 w9 := Keeps.trans (by repeat' (first | with_reducible exact Keeps.refl _ _ | with_reducible assumption | with_reducible refine Keeps.drewN ?_ _ | with_reducible refine Keeps.drew ?_ | with_reducible refine Keeps.setCell ?_ ?_ _ | exact Or.inr (Or.inl rfl) | exact Or.inr (Or.inr rfl))) k.no
              have bA : Bk w9 ab 29 [.int .u8 dd, .int .u8 bh, .int .u8 mk, .int .i16 tv] := Bk.kept (by (repeat' (first | with_reducible assumption | with_reducible refine Bk.drew ?_ | with_reducible refine Bk.other3 hla' ?_ | with_reducible refine Bk.other3 hma' ?_))) k
              have bB : Bk w9 lb 25 [.int .i64 u, .int .i64 o, .int .u8 m] := Bk.kept (by (repeat' (first | with_reducible assumption | with_reducible refine Bk.drew ?_ | with_reducible refine Bk.other3 hab ?_ | with_reducible refine Bk.put3 (u0 := .int .i64 u) (u1 := .int .i64 o) (u2 := .int .u8 m) ?_))) k
              have bC : Bk w9 mb 26 [.int .i64 u, .int .i64 o, .int .u8 m] := Bk.kept (by (repeat' (first | with_reducible assumption | with_reducible refine Bk.drew ?_ | with_reducible refine Bk.other3 hab' ?_ | with_reducible refine Bk.put3 (u0 := .int .i64 u) (u1 := .int .i64 o) (u2 := .int .u8 m) ?_))) k
              have x0_2 := bA.cell 2 rfl
              have x0_3 := bA.cell 3 rfl
              have b0 := bB.cell 0 rfl
              have fb0 := bB.free 0
              have c0 := bC.cell 0 rfl
              have fc0 := bC.free 0
              have b1 := bB.cell 1 rfl
              have fb1 := bB.free 1
              have c1 := bC.cell 1 rfl
              have fc1 := bC.free 1
              have b2 := bB.cell 2 rfl
              have fb2 := bB.free 2
              have c2 := bC.cell 2 rfl
              have fc2 := bC.free 2
              clear k
              go_wp2_with fail
              refine hK.out _ _ ?_ (fun hHeld => ?_)
              focus ((try dsimp only); first | with_reducible exact ⟨x0_2, x0_3⟩ | with_reducible exact ⟨cellDr x0_2, cellDr x0_3⟩ | (refine ⟨Bk.cell (T := 29) (xs := [.int .u8 dd, .int .u8 bh, .int .u8 mk, .int .i16 tv]) ?_ 2 rfl, Bk.cell (T := 29) (xs := [.int .u8 dd, .int .u8 bh, .int .u8 mk, .int .i16 tv]) ?_ 3 rfl⟩ <;> ((repeat' (first | with_reducible assumption | with_reducible refine Bk.drew ?_ | with_reducible refine Bk.other3 hla' ?_ | with_reducible refine Bk.other3 hma' ?_)); done)))
              clear hK K
              try simp only [Act.put, List.setIfInBounds_toArray, List.set_cons_zero, List.set_cons_succ, List.getElem_toArray, List.getElem_cons_succ, List.getElem_cons_zero]
              refine wpAnyH_ready (rs := [20]) (by kernel_rfl) (by simp) ?_
              refine AllReadyH.cons rfl (fun K hK => ?_) AllReadyH.nil
              go_simp
              refine hK.out _ _ ?_ (fun hHeld => ?_)
              focus ((try dsimp only); first | with_reducible exact ⟨x0_2, x0_3⟩ | with_reducible exact ⟨cellDr x0_2, cellDr x0_3⟩ | (refine ⟨Bk.cell (T := 29) (xs := [.int .u8 dd, .int .u8 bh, .int .u8 mk, .int .i16 tv]) ?_ 2 rfl, Bk.cell (T := 29) (xs := [.int .u8 dd, .int .u8 bh, .int .u8 mk, .int .i16 tv]) ?_ 3 rfl⟩ <;> ((repeat' (first | with_reducible assumption | with_reducible refine Bk.drew ?_ | with_reducible refine Bk.other3 hla' ?_ | with_reducible refine Bk.other3 hma' ?_)); done)))
              clear hK K
              try simp only [Act.put, List.setIfInBounds_toArray, List.set_cons_zero, List.set_cons_succ, List.getElem_toArray, List.getElem_cons_succ, List.getElem_cons_zero]
              refine wpAnyH_ready (rs := [21]) (by kernel_rfl) (by simp) ?_
              refine AllReadyH.cons rfl (fun K hK => ?_) AllReadyH.nil
              go_simp
              refine hK.out _ _ ?_ (fun hHeld => ?_)
              focus ((try dsimp only); first | with_reducible exact ⟨x0_2, x0_3⟩ | with_reducible exact ⟨cellDr x0_2, cellDr x0_3⟩ | (refine ⟨Bk.cell (T := 29) (xs := [.int .u8 dd, .int .u8 bh, .int .u8 mk, .int .i16 tv]) ?_ 2 rfl, Bk.cell (T := 29) (xs := [.int .u8 dd, .int .u8 bh, .int .u8 mk, .int .i16 tv]) ?_ 3 rfl⟩ <;> ((repeat' (first | with_reducible assumption | with_reducible refine Bk.drew ?_ | with_reducible refine Bk.other3 hla' ?_ | with_reducible refine Bk.other3 hma' ?_)); done)))
              clear hK K
              try simp only [Act.put, List.setIfInBounds_toArray, List.set_cons_zero, List.set_cons_succ, List.getElem_toArray, List.getElem_cons_succ, List.getElem_cons_zero]
              refine wpAnyH_done (by kernel_rfl) ?_ _
              go_wp2_with fail
              go_meet
              refine ⟨u1, o1, m1, hid ?_, hid ?_, hid ?_⟩
              focus ((repeat' (first | with_reducible assumption | with_reducible refine Bk.drew ?_ | with_reducible refine Bk.other3 hab ?_ | with_reducible refine Bk.put3 (u0 := .int .i64 u) (u1 := .int .i64 o) (u2 := .int .u8 m) ?_)); done)
              focus ((repeat' (first | with_reducible assumption | with_reducible refine Bk.drew ?_ | with_reducible refine Bk.other3 hab' ?_ | with_reducible refine Bk.put3 (u0 := .int .i64 u) (u1 := .int .i64 o) (u2 := .int .u8 m) ?_)); done)
              exact HK1.out.trans' (show Keeps (fun i => i = lb ∨ i = mb) W1 _ from by repeat' (first | with_reducible exact Keeps.refl _ _ | with_reducible assumption | with_reducible refine Keeps.drewN ?_ _ | with_reducible refine Keeps.drew ?_ | with_reducible refine Keeps.setCell ?_ ?_ _ | exact Or.inr (Or.inl rfl) | exact Or.inr (Or.inr rfl))) (fun _ _ h => h) (fun i hi e => by have := HGB.out; rcases e with e | e <;> omega)
            refine AllReadyH.cons rfl (fun K hK => ?_) AllReadyH.nil
            go_simp
            refine hK.out _ _ ?_ (fun hHeld => ?_)
            focus ((try dsimp only); first | with_reducible exact ⟨x0_2, x0_3⟩ | with_reducible exact ⟨cellDr x0_2, cellDr x0_3⟩ | (refine ⟨Bk.cell (T := 29) (xs := [.int .u8 dd, .int .u8 bh, .int .u8 mk, .int .i16 tv]) ?_ 2 rfl, Bk.cell (T := 29) (xs := [.int .u8 dd, .int .u8 bh, .int .u8 mk, .int .i16 tv]) ?_ 3 rfl⟩ <;> ((repeat' (first | with_reducible assumption | with_reducible refine Bk.drew ?_ | with_reducible refine Bk.other3 hla' ?_ | with_reducible refine Bk.other3 hma' ?_)); done)))
            clear hK K
            try simp only [Act.put, List.setIfInBounds_toArray, List.set_cons_zero, List.set_cons_succ, List.getElem_toArray, List.getElem_cons_succ, List.getElem_cons_zero]
            refine wpAnyH_ready (rs := [9]) (by kernel_rfl) (by simp) ?_
            refine AllReadyH.cons rfl (fun K hK => ?_) AllReadyH.nil
            go_simp
            go_at_call 10
            with_reducible refine (HE.out _ _ ?ht ?hk _).mono ?_
            case ht => first | exact etv | rfl
            case hk => first | exact HMT.out | exact HM4.out | rfl
            rintro e w9 ⟨rfl, k⟩
            have kk : Keeps (fun i => i = lb ∨ i = mb) W1 w9 := Keeps.trans (by repeat' (first | with_reducible exact Keeps.refl _ _ | with_reducible assumption | with_reducible refine Keeps.drewN ?_ _ | with_reducible refine Keeps.drew ?_ | with_reducible refine Keeps.setCell ?_ ?_ _ | exact Or.inr (Or.inl rfl) | exact Or.inr (Or.inr rfl))) k.no
            have bA : Bk w9 ab 29 [.int .u8 dd, .int .u8 bh, .int .u8 mk, .int .i16 tv] := Bk.kept (by (repeat' (first | with_reducible assumption | with_reducible refine Bk.drew ?_ | with_reducible refine Bk.other3 hla' ?_ | with_reducible refine Bk.other3 hma' ?_))) k
            have bB : Bk w9 lb 25 [.int .i64 u, .int .i64 o, .int .u8 m] := Bk.kept (by (repeat' (first | with_reducible assumption | with_reducible refine Bk.drew ?_ | with_reducible refine Bk.other3 hab ?_ | with_reducible refine Bk.put3 (u0 := .int .i64 u) (u1 := .int .i64 o) (u2 := .int .u8 m) ?_))) k
            have bC : Bk w9 mb 26 [.int .i64 u, .int .i64 o, .int .u8 m] := Bk.kept (by (repeat' (first | with_reducible assumption | with_reducible refine Bk.drew ?_ | with_reducible refine Bk.other3 hab' ?_ | with_reducible refine Bk.put3 (u0 := .int .i64 u) (u1 := .int .i64 o) (u2 := .int .u8 m) ?_))) k
            have x0_2 := bA.cell 2 rfl
            have x0_3 := bA.cell 3 rfl
            have b0 := bB.cell 0 rfl
            have fb0 := bB.free 0
            have c0 := bC.cell 0 rfl
            have fc0 := bC.free 0
            have b1 := bB.cell 1 rfl
            have fb1 := bB.free 1
            have c1 := bC.cell 1 rfl
            have fc1 := bC.free 1
            have b2 := bB.cell 2 rfl
            have fb2 := bB.free 2
            have c2 := bC.cell 2 rfl
            have fc2 := bC.free 2
            clear k
            go_wp2_with fail
            refine hK.out _ _ ?_ (fun hHeld => ?_)
            focus ((try dsimp only); first | with_reducible exact ⟨x0_2, x0_3⟩ | with_reducible exact ⟨cellDr x0_2, cellDr x0_3⟩ | (refine ⟨Bk.cell (T := 29) (xs := [.int .u8 dd, .int .u8 bh, .int .u8 mk, .int .i16 tv]) ?_ 2 rfl, Bk.cell (T := 29) (xs := [.int .u8 dd, .int .u8 bh, .int .u8 mk, .int .i16 tv]) ?_ 3 rfl⟩ <;> ((repeat' (first | with_reducible assumption | with_reducible refine Bk.drew ?_ | with_reducible refine Bk.other3 hla' ?_ | with_reducible refine Bk.other3 hma' ?_)); done)))
            clear hK K
            try simp only [Act.put, List.setIfInBounds_toArray, List.set_cons_zero, List.set_cons_succ, List.getElem_toArray, List.getElem_cons_succ, List.getElem_cons_zero]
            refine wpAnyH_ready (rs := [19]) (by kernel_rfl) (by simp) ?_
            refine AllReadyH.cons rfl (fun K hK => ?_) AllReadyH.nil
            go_simp
            go_at_call 11
            with_reducible refine (HM.out _ _ ?ht ?hk _).mono ?_
            case ht => first | exact etv | rfl
            case hk => first | exact HMT.out | exact HM4.out | rfl
            rintro e w9 ⟨rfl, k⟩
            have kk : Keeps (fun i => i = lb ∨ i = mb) W1 w9 := Keeps.trans (by repeat' (first | with_reducible exact Keeps.refl _ _ | with_reducible assumption | with_reducible refine Keeps.drewN ?_ _ | with_reducible refine Keeps.drew ?_ | with_reducible refine Keeps.setCell ?_ ?_ _ | exact Or.inr (Or.inl rfl) | exact Or.inr (Or.inr rfl))) k.no
            have bA : Bk w9 ab 29 [.int .u8 dd, .int .u8 bh, .int .u8 mk, .int .i16 tv] := Bk.kept (by (repeat' (first | with_reducible assumption | with_reducible refine Bk.drew ?_ | with_reducible refine Bk.other3 hla' ?_ | with_reducible refine Bk.other3 hma' ?_))) k
            have bB : Bk w9 lb 25 [.int .i64 u, .int .i64 o, .int .u8 m] := Bk.kept (by (repeat' (first | with_reducible assumption | with_reducible refine Bk.drew ?_ | with_reducible refine Bk.other3 hab ?_ | with_reducible refine Bk.put3 (u0 := .int .i64 u) (u1 := .int .i64 o) (u2 := .int .u8 m) ?_))) k
            have bC : Bk w9 mb 26 [.int .i64 u, .int .i64 o, .int .u8 m] := Bk.kept (by (repeat' (first | with_reducible assumption | with_reducible refine Bk.drew ?_ | with_reducible refine Bk.other3 hab' ?_ | with_reducible refine Bk.put3 (u0 := .int .i64 u) (u1 := .int .i64 o) (u2 := .int .u8 m) ?_))) k
            have x0_2 := bA.cell 2 rfl
            have x0_3 := bA.cell 3 rfl
            have b0 := bB.cell 0 rfl
            have fb0 := bB.free 0
            have c0 := bC.cell 0 rfl
            have fc0 := bC.free 0
            have b1 := bB.cell 1 rfl
            have fb1 := bB.free 1
            have c1 := bC.cell 1 rfl
            have fc1 := bC.free 1
            have b2 := bB.cell 2 rfl
            have fb2 := bB.free 2
            have c2 := bC.cell 2 rfl
            have fc2 := bC.free 2
            clear k
            go_wp2_with fail
            refine hK.out _ _ ?_ (fun hHeld => ?_)
            focus ((try dsimp only); first | with_reducible exact ⟨x0_2, x0_3⟩ | with_reducible exact ⟨cellDr x0_2, cellDr x0_3⟩ | (refine ⟨Bk.cell (T := 29) (xs := [.int .u8 dd, .int .u8 bh, .int .u8 mk, .int .i16 tv]) ?_ 2 rfl, Bk.cell (T := 29) (xs := [.int .u8 dd, .int .u8 bh, .int .u8 mk, .int .i16 tv]) ?_ 3 rfl⟩ <;> ((repeat' (first | with_reducible assumption | with_reducible refine Bk.drew ?_ | with_reducible refine Bk.other3 hla' ?_ | with_reducible refine Bk.other3 hma' ?_)); done)))
            clear hK K
            try simp only [Act.put, List.setIfInBounds_toArray, List.set_cons_zero, List.set_cons_succ, List.getElem_toArray, List.getElem_cons_succ, List.getElem_cons_zero]
            refine wpAnyH_ready (rs := [20]) (by kernel_rfl) (by simp) ?_
            refine AllReadyH.cons rfl (fun K hK => ?_) AllReadyH.nil
            go_simp
            refine hK.out _ _ ?_ (fun hHeld => ?_)
            focus ((try dsimp only); first | with_reducible exact ⟨x0_2, x0_3⟩ | with_reducible exact ⟨cellDr x0_2, cellDr x0_3⟩ | (refine ⟨Bk.cell (T := 29) (xs := [.int .u8 dd, .int .u8 bh, .int .u8 mk, .int .i16 tv]) ?_ 2 rfl, Bk.cell (T := 29) (xs := [.int .u8 dd, .int .u8 bh, .int .u8 mk, .int .i16 tv]) ?_ 3 rfl⟩ <;> ((repeat' (first | with_reducible assumption | with_reducible refine Bk.drew ?_ | with_reducible refine Bk.other3 hla' ?_ | with_reducible refine Bk.other3 hma' ?_)); done)))
            clear hK K
            try simp only [Act.put, List.setIfInBounds_toArray, List.set_cons_zero, List.set_cons_succ, List.getElem_toArray, List.getElem_cons_succ, List.getElem_cons_zero]
            refine wpAnyH_ready (rs := [21]) (by kernel_rfl) (by simp) ?_
            refine AllReadyH.cons rfl (fun K hK => ?_) AllReadyH.nil
            go_simp
            refine hK.out _ _ ?_ (fun hHeld => ?_)
            focus ((try dsimp only); first | with_reducible exact ⟨x0_2, x0_3⟩ | with_reducible exact ⟨cellDr x0_2, cellDr x0_3⟩ | (refine ⟨Bk.cell (T := 29) (xs := [.int .u8 dd, .int .u8 bh, .int .u8 mk, .int .i16 tv]) ?_ 2 rfl, Bk.cell (T := 29) (xs := [.int .u8 dd, .int .u8 bh, .int .u8 mk, .int .i16 tv]) ?_ 3 rfl⟩ <;> ((repeat' (first | with_reducible assumption | with_reducible refine Bk.drew ?_ | with_reducible refine Bk.other3 hla' ?_ | with_reducible refine Bk.other3 hma' ?_)); done)))
            clear hK K
            try simp only [Act.put, List.setIfInBounds_toArray, List.set_cons_zero, List.set_cons_succ, List.getElem_toArray, List.getElem_cons_succ, List.getElem_cons_zero]
            refine wpAnyH_done (by kernel_rfl) ?_ _
            go_wp2_with fail
            go_meet
            refine ⟨u1, o1, m1, hid ?_, hid ?_, hid ?_⟩
            focus ((repeat' (first | with_reducible assumption | with_reducible refine Bk.drew ?_ | with_reducible refine Bk.other3 hab ?_ | with_reducible refine Bk.put3 (u0 := .int .i64 u) (u1 := .int .i64 o) (u2 := .int .u8 m) ?_)); done)
            focus ((repeat' (first | with_reducible assumption | with_reducible refine Bk.drew ?_ | with_reducible refine Bk.other3 hab' ?_ | with_reducible refine Bk.put3 (u0 := .int .i64 u) (u1 := .int .i64 o) (u2 := .int .u8 m) ?_)); done)
            exact HK1.out.trans' (show Keeps (fun i => i = lb ∨ i = mb) W1 _ from by repeat' (first | with_reducible exact Keeps.refl _ _ | with_reducible assumption | with_reducible refine Keeps.drewN ?_ _ | with_reducible refine Keeps.drew ?_ | with_reducible refine Keeps.setCell ?_ ?_ _ | exact Or.inr (Or.inl rfl) | exact Or.inr (Or.inr rfl))) (fun _ _ h => h) (fun i hi e => by have := HGB.out; rcases e with e | e <;> omega)
          refine AllReadyH.cons rfl (fun K hK => ?_) AllReadyH.nil
          go_simp
          refine hK.out _ _ ?_ (fun hHeld => ?_)
          focus ((try dsimp only); first | with_reducible exact ⟨x0_2, x0_3⟩ | with_reducible exact ⟨cellDr x0_2, cellDr x0_3⟩ | (refine ⟨Bk.cell (T := 29) (xs := [.int .u8 dd, .int .u8 bh, .int .u8 mk, .int .i16 tv]) ?_ 2 rfl, Bk.cell (T := 29) (xs := [.int .u8 dd, .int .u8 bh, .int .u8 mk, .int .i16 tv]) ?_ 3 rfl⟩ <;> ((repeat' (first | with_reducible assumption | with_reducible refine Bk.drew ?_ | with_reducible refine Bk.other3 hla' ?_ | with_reducible refine Bk.other3 hma' ?_)); done)))
          clear hK K
          try simp only [Act.put, List.setIfInBounds_toArray, List.set_cons_zero, List.set_cons_succ, List.getElem_toArray, List.getElem_cons_succ, List.getElem_cons_zero]
          refine wpAnyH_ready (rs := [0]) (by kernel_rfl) (by simp) ?_
          refine AllReadyH.cons rfl (fun K hK => ?_) AllReadyH.nil
          go_simp
          refine hK.out _ _ ?_ (fun hHeld => ?_)
          focus ((try dsimp only); first | with_reducible exact ⟨x0_2, x0_3⟩ | with_reducible exact ⟨cellDr x0_2, cellDr x0_3⟩ | (refine ⟨Bk.cell (T := 29) (xs := [.int .u8 dd, .int .u8 bh, .int .u8 mk, .int .i16 tv]) ?_ 2 rfl, Bk.cell (T := 29) (xs := [.int .u8 dd, .int .u8 bh, .int .u8 mk, .int .i16 tv]) ?_ 3 rfl⟩ <;> ((repeat' (first | with_reducible assumption | with_reducible refine Bk.drew ?_ | with_reducible refine Bk.other3 hla' ?_ | with_reducible refine Bk.other3 hma' ?_)); done)))
          clear hK K
          try simp only [Act.put, List.setIfInBounds_toArray, List.set_cons_zero, List.set_cons_succ, List.getElem_toArray, List.getElem_cons_succ, List.getElem_cons_zero]
          refine wpAnyH_ready (rs := [9]) (by kernel_rfl) (by simp) ?_
          refine AllReadyH.cons rfl (fun K hK => ?_) AllReadyH.nil
          go_simp
          go_at_call 10
          with_reducible refine (HE.out _ _ ?ht ?hk _).mono ?_
          case ht => first | exact etv | rfl
          case hk => first | exact HMT.out | exact HM4.out | rfl
          rintro e w9 ⟨rfl, k⟩
          have kk : Keeps (fun i => i = lb ∨ i = mb) W1 w9 := Keeps.trans (by repeat' (first | with_reducible exact Keeps.refl _ _ | with_reducible assumption | with_reducible refine Keeps.drewN ?_ _ | with_reducible refine Keeps.drew ?_ | with_reducible refine Keeps.setCell ?_ ?_ _ | exact Or.inr (Or.inl rfl) | exact Or.inr (Or.inr rfl))) k.no
          have bA : Bk w9 ab 29 [.int .u8 dd, .int .u8 bh, .int .u8 mk, .int .i16 tv] := Bk.kept (by (repeat' (first | with_reducible assumption | with_reducible refine Bk.drew ?_ | with_reducible refine Bk.other3 hla' ?_ | with_reducible refine Bk.other3 hma' ?_))) k
          have bB : Bk w9 lb 25 [.int .i64 u, .int .i64 o, .int .u8 m] := Bk.kept (by (repeat' (first | with_reducible assumption | with_reducible refine Bk.drew ?_ | with_reducible refine Bk.other3 hab ?_ | with_reducible refine Bk.put3 (u0 := .int .i64 u) (u1 := .int .i64 o) (u2 := .int .u8 m) ?_))) k
          have bC : Bk w9 mb 26 [.int .i64 u, .int .i64 o, .int .u8 m] := Bk.kept (by (repeat' (first | with_reducible assumption | with_reducible refine Bk.drew ?_ | with_reducible refine Bk.other3 hab' ?_ | with_reducible refine Bk.put3 (u0 := .int .i64 u) (u1 := .int .i64 o) (u2 := .int .u8 m) ?_))) k
          have x0_2 := bA.cell 2 rfl
          have x0_3 := bA.cell 3 rfl
          have b0 := bB.cell 0 rfl
          have fb0 := bB.free 0
          have c0 := bC.cell 0 rfl
          have fc0 := bC.free 0
          have b1 := bB.cell 1 rfl
          have fb1 := bB.free 1
          have c1 := bC.cell 1 rfl
          have fc1 := bC.free 1
          have b2 := bB.cell 2 rfl
          have fb2 := bB.free 2
          have c2 := bC.cell 2 rfl
          have fc2 := bC.free 2
          clear k
          go_wp2_with fail
          refine hK.out _ _ ?_ (fun hHeld => ?_)
          focus ((try dsimp only); first | with_reducible exact ⟨x0_2, x0_3⟩ | with_reducible exact ⟨cellDr x0_2, cellDr x0_3⟩ | (refine ⟨Bk.cell (T := 29) (xs := [.int .u8 dd, .int .u8 bh, .int .u8 mk, .int .i16 tv]) ?_ 2 rfl, Bk.cell (T := 29) (xs := [.int .u8 dd, .int .u8 bh, .int .u8 mk, .int .i16 tv]) ?_ 3 rfl⟩ <;> ((repeat' (first | with_reducible assumption | with_reducible refine Bk.drew ?_ | with_reducible refine Bk.other3 hla' ?_ | with_reducible refine Bk.other3 hma' ?_)); done)))
          clear hK K
          try simp only [Act.put, List.setIfInBounds_toArray, List.set_cons_zero, List.set_cons_succ, List.getElem_toArray, List.getElem_cons_succ, List.getElem_cons_zero]
          refine wpAnyH_ready (rs := [19]) (by kernel_rfl) (by simp) ?_
          refine AllReadyH.cons rfl (fun K hK => ?_) AllReadyH.nil
          go_simp
          go_at_call 11
          with_reducible refine (HM.out _ _ ?ht ?hk _).mono ?_
          case ht => first | exact etv | rfl
          case hk => first | exact HMT.out | exact HM4.out | rfl
          rintro e w9 ⟨rfl, k⟩
          have kk : Keeps (fun i => i = lb ∨ i = mb) W1 w9 := Keeps.trans (by repeat' (first | with_reducible exact Keeps.refl _ _ | with_reducible assumption | with_reducible refine Keeps.drewN ?_ _ | with_reducible refine Keeps.drew ?_ | with_reducible refine Keeps.setCell ?_ ?_ _ | exact Or.inr (Or.inl rfl) | exact Or.inr (Or.inr rfl))) k.no
          have bA : Bk w9 ab 29 [.int .u8 dd, .int .u8 bh, .int .u8 mk, .int .i16 tv] := Bk.kept (by (repeat' (first | with_reducible assumption | with_reducible refine Bk.drew ?_ | with_reducible refine Bk.other3 hla' ?_ | with_reducible refine Bk.other3 hma' ?_))) k
          have bB : Bk w9 lb 25 [.int .i64 u, .int .i64 o, .int .u8 m] := Bk.kept (by (repeat' (first | with_reducible assumption | with_reducible refine Bk.drew ?_ | with_reducible refine Bk.other3 hab ?_ | with_reducible refine Bk.put3 (u0 := .int .i64 u) (u1 := .int .i64 o) (u2 := .int .u8 m) ?_))) k
          have bC : Bk w9 mb 26 [.int .i64 u, .int .i64 o, .int .u8 m] := Bk.kept (by (repeat' (first | with_reducible assumption | with_reducible refine Bk.drew ?_ | with_reducible refine Bk.other3 hab' ?_ | with_reducible refine Bk.put3 (u0 := .int .i64 u) (u1 := .int .i64 o) (u2 := .int .u8 m) ?_))) k
          have x0_2 := bA.cell 2 rfl
          have x0_3 := bA.cell 3 rfl
          have b0 := bB.cell 0 rfl
          have fb0 := bB.free 0
          have c0 := bC.cell 0 rfl
          have fc0 := bC.free 0
          have b1 := bB.cell 1 rfl
          have fb1 := bB.free 1
          have c1 := bC.cell 1 rfl
          have fc1 := bC.free 1
          have b2 := bB.cell 2 rfl
          have fb2 := bB.free 2
          have c2 := bC.cell 2 rfl
          have fc2 := bC.free 2
          clear k
          go_wp2_with fail
          refine hK.out _ _ ?_ (fun hHeld => ?_)
          focus ((try dsimp only); first | with_reducible exact ⟨x0_2, x0_3⟩ | with_reducible exact ⟨cellDr x0_2, cellDr x0_3⟩ | (refine ⟨Bk.cell (T := 29) (xs := [.int .u8 dd, .int .u8 bh, .int .u8 mk, .int .i16 tv]) ?_ 2 rfl, Bk.cell (T := 29) (xs := [.int .u8 dd, .int .u8 bh, .int .u8 mk, .int .i16 tv]) ?_ 3 rfl⟩ <;> ((repeat' (first | with_reducible assumption | with_reducible refine Bk.drew ?_ | with_reducible refine Bk.other3 hla' ?_ | with_reducible refine Bk.other3 hma' ?_)); done)))
          clear hK K
          try simp only [Act.put, List.setIfInBounds_toArray, List.set_cons_zero, List.set_cons_succ, List.getElem_toArray, List.getElem_cons_succ, List.getElem_cons_zero]
          refine wpAnyH_ready (rs := [20]) (by kernel_rfl) (by simp) ?_
          refine AllReadyH.cons rfl (fun K hK => ?_) AllReadyH.nil
          go_simp
          refine hK.out _ _ ?_ (fun hHeld => ?_)
          focus ((try dsimp only); first | with_reducible exact ⟨x0_2, x0_3⟩ | with_reducible exact ⟨cellDr x0_2, cellDr x0_3⟩ | (refine ⟨Bk.cell (T := 29) (xs := [.int .u8 dd, .int .u8 bh, .int .u8 mk, .int .i16 tv]) ?_ 2 rfl, Bk.cell (T := 29) (xs := [.int .u8 dd, .int .u8 bh, .int .u8 mk, .int .i16 tv]) ?_ 3 rfl⟩ <;> ((repeat' (first | with_reducible assumption | with_reducible refine Bk.drew ?_ | with_reducible refine Bk.other3 hla' ?_ | with_reducible refine Bk.other3 hma' ?_)); done)))
          clear hK K
          try simp only [Act.put, List.setIfInBounds_toArray, List.set_cons_zero, List.set_cons_succ, List.getElem_toArray, List.getElem_cons_succ, List.getElem_cons_zero]
          refine wpAnyH_ready (rs := [21]) (by kernel_rfl) (by simp) ?_
          refine AllReadyH.cons rfl (fun K hK => ?_) AllReadyH.nil
          go_simp
          refine hK.out _ _ ?_ (fun hHeld => ?_)
          focus ((try dsimp only); first | with_reducible exact ⟨x0_2, x0_3⟩ | with_reducible exact ⟨cellDr x0_2, cellDr x0_3⟩ | (refine ⟨Bk.cell (T := 29) (xs := [.int .u8 dd, .int .u8 bh, .int .u8 mk, .int .i16 tv]) ?_ 2 rfl, Bk.cell (T := 29) (xs := [.int .u8 dd, .int .u8 bh, .int .u8 mk, .int .i16 tv]) ?_ 3 rfl⟩ <;> ((repeat' (first | with_reducible assumption | with_reducible refine Bk.drew ?_ | with_reducible refine Bk.other3 hla' ?_ | with_reducible refine Bk.other3 hma' ?_)); done)))
          clear hK K
          try simp only [Act.put, List.setIfInBounds_toArray, List.set_cons_zero, List.set_cons_succ, List.getElem_toArray, List.getElem_cons_succ, List.getElem_cons_zero]
          refine wpAnyH_done (by kernel_rfl) ?_ _
          go_wp2_with fail
          go_meet
          refine ⟨u1, o1, m1, hid ?_, hid ?_, hid ?_⟩
          focus ((repeat' (first | with_reducible assumption | with_reducible refine Bk.drew ?_ | with_reducible refine Bk.other3 hab ?_ | with_reducible refine Bk.put3 (u0 := .int .i64 u) (u1 := .int .i64 o) (u2 := .int .u8 m) ?_)); done)
          focus ((repeat' (first | with_reducible assumption | with_reducible refine Bk.drew ?_ | with_reducible refine Bk.other3 hab' ?_ | with_reducible refine Bk.put3 (u0 := .int .i64 u) (u1 := .int .i64 o) (u2 := .int .u8 m) ?_)); done)
          exact HK1.out.trans' (show Keeps (fun i => i = lb ∨ i = mb) W1 _ from by repeat' (first | with_reducible exact Keeps.refl _ _ | with_reducible assumption | with_reducible refine Keeps.drewN ?_ _ | with_reducible refine Keeps.drew ?_ | with_reducible refine Keeps.setCell ?_ ?_ _ | exact Or.inr (Or.inl rfl) | exact Or.inr (Or.inr rfl))) (fun _ _ h => h) (fun i hi e => by have := HGB.out; rcases e with e | e <;> omega)
        · have e0 : ((dd % 3) == 0) = false := by rw [hd]; rfl
          have e1 : ((dd % 3) == 1) = true := by rw [hd]; rfl
          clear hd HD3
          obtain ⟨⟨u1, o1, m1⟩, h1⟩ : ∃ q, silenceD ⟨u, o, m⟩ nw tv kk = q := ⟨_, rfl⟩
          have HE : Hid (∀ t k, t = tv → k = mk4 → ∀ w, Calls Try.prog 12 #[.agg #[.int .i64 u, .int .i64 o, .int .u8 m], .int .i64 nw, .int .i64 t, .int .i64 kk] w fun e w' => e = .returned (.agg #[.int .i64 u1, .int .i64 o1, .int .u8 m1]) ∧ Keeps No w w') := hid (fun t k ht hk w => by
            subst ht
            subst hk
            have h := hsilence_any u o m nw t kk w ⟨by omega, by omega⟩ ⟨by omega, by omega⟩ ⟨by omega, by omega⟩
            rw [h1] at h
            exact h)
          have HM : Hid (∀ t k, t = tv → k = mk4 → ∀ w, Calls Try.prog 13 #[.agg #[.int .i64 u, .int .i64 o, .int .u8 m], .int .i64 nw, .int .i64 t, .int .i64 kk] w fun e w' => e = .returned (.agg #[.int .i64 u1, .int .i64 o1, .int .u8 m1]) ∧ Keeps No w w') := hid (fun t k ht hk w => by
            subst ht
            subst hk
            have h := msilence_any u o m nw t kk w ⟨by omega, by omega⟩ ⟨by omega, by omega⟩ ⟨by omega, by omega⟩
            rw [h1] at h
            exact h)
          clear h1
          go_upto_region 17 with fail
          have etv : IntKind.i64.wrap tv = tv := by rw [IntKind.wrap_i64]; omega
          have hmk4 := HM4.out
          have bA := HA1.out
          have bB := HB1.out
          have bC := HC1.out
          have b0 := bB.cell 0 rfl
          have fb0 := bB.free 0
          have c0 := bC.cell 0 rfl
          have fc0 := bC.free 0
          have b1 := bB.cell 1 rfl
          have fb1 := bB.free 1
          have c1 := bC.cell 1 rfl
          have fc1 := bC.free 1
          have b2 := bB.cell 2 rfl
          have fb2 := bB.free 2
          have c2 := bC.cell 2 rfl
          have fc2 := bC.free 2
          refine wp_region_held_drew (S := (fun w' => w'.cell? ⟨ab, 2, none⟩ = some (.int .u8 mk) ∧ w'.cell? ⟨ab, 3, none⟩ = some (.int .i16 tv))) (by kernel_rfl) ?_ (fun hHeld => ?_)
          focus ((try dsimp only); first | with_reducible exact ⟨x0_2, x0_3⟩ | with_reducible exact ⟨cellDr x0_2, cellDr x0_3⟩ | (refine ⟨Bk.cell (T := 29) (xs := [.int .u8 dd, .int .u8 bh, .int .u8 mk, .int .i16 tv]) ?_ 2 rfl, Bk.cell (T := 29) (xs := [.int .u8 dd, .int .u8 bh, .int .u8 mk, .int .i16 tv]) ?_ 3 rfl⟩ <;> ((repeat' (first | with_reducible assumption | with_reducible refine Bk.drew ?_ | with_reducible refine Bk.other3 hla' ?_ | with_reducible refine Bk.other3 hma' ?_)); done)))
          refine takeOn (i := 1) (v := ?_) rfl (by kernel_rfl) (by kernel_rfl) (by kernel_rfl) (fun _ _ _ h => h) (by rfl) ?_ (by assumption) ?_
          rotate_left
          focus (intro w hSw; (try dsimp only at hSw); go_simp; (try with_reducible rfl))
          try simp only [Act.put, List.setIfInBounds_toArray, List.set_cons_zero, List.set_cons_succ, List.getElem_toArray, List.getElem_cons_succ, List.getElem_cons_zero]
          refine takeOn (i := 2) (v := ?_) rfl (by kernel_rfl) (by kernel_rfl) (by kernel_rfl) (fun _ _ _ h => h) (by rfl) ?_ (by assumption) ?_
          rotate_left
          focus (intro w hSw; (try dsimp only at hSw); go_simp; (try with_reducible rfl))
          try simp only [Act.put, List.setIfInBounds_toArray, List.set_cons_zero, List.set_cons_succ, List.getElem_toArray, List.getElem_cons_succ, List.getElem_cons_zero]
          refine takeOn (i := 3) (v := ?_) rfl (by kernel_rfl) (by kernel_rfl) (by kernel_rfl) (fun _ _ _ h => h) (by rfl) ?_ (by assumption) ?_
          rotate_left
          focus (intro w hSw; (try dsimp only at hSw); go_simp; (try with_reducible rfl))
          try simp only [Act.put, List.setIfInBounds_toArray, List.set_cons_zero, List.set_cons_succ, List.getElem_toArray, List.getElem_cons_succ, List.getElem_cons_zero]
          refine takeOn (i := 4) (v := ?_) rfl (by kernel_rfl) (by kernel_rfl) (by kernel_rfl) (fun _ _ _ h => h) (by rfl) ?_ (by assumption) ?_
          rotate_left
          focus (intro w hSw; (try dsimp only at hSw); go_simp; (try with_reducible rfl))
          try simp only [Act.put, List.setIfInBounds_toArray, List.set_cons_zero, List.set_cons_succ, List.getElem_toArray, List.getElem_cons_succ, List.getElem_cons_zero]
          refine takeOn (i := 5) (v := ?_) rfl (by kernel_rfl) (by kernel_rfl) (by kernel_rfl) (fun _ _ _ h => h) (by rfl) ?_ (by assumption) ?_
          rotate_left
          focus (intro w hSw; (try dsimp only at hSw); go_simp; (try with_reducible rfl))
          try simp only [Act.put, List.setIfInBounds_toArray, List.set_cons_zero, List.set_cons_succ, List.getElem_toArray, List.getElem_cons_succ, List.getElem_cons_zero]
          refine takeOn (i := 8) (v := ?_) rfl (by kernel_rfl) (by kernel_rfl) (by kernel_rfl) (fun _ _ _ h => h) (by rfl) ?_ (by assumption) ?_
          rotate_left
          focus (intro w hSw; (try dsimp only at hSw); go_simp; (try with_reducible rfl))
          try simp only [Act.put, List.setIfInBounds_toArray, List.set_cons_zero, List.set_cons_succ, List.getElem_toArray, List.getElem_cons_succ, List.getElem_cons_zero]
          refine takeOn (i := 9) (v := ?_) rfl (by kernel_rfl) (by kernel_rfl) (by kernel_rfl) (fun _ _ _ h => h) (by rfl) ?_ (by assumption) ?_
          rotate_left
          focus (intro w hSw; (try dsimp only at hSw); go_simp; (try with_reducible rfl))
          try simp only [Act.put, List.setIfInBounds_toArray, List.set_cons_zero, List.set_cons_succ, List.getElem_toArray, List.getElem_cons_succ, List.getElem_cons_zero]
          refine takeOn (i := 10) (v := ?_) rfl (by kernel_rfl) (by kernel_rfl) (by kernel_rfl) (fun _ _ _ h => h) (by rfl) ?_ (by assumption) ?_
          rotate_left
          focus (intro w hSw; (try dsimp only at hSw); go_simp; (try with_reducible rfl))
          try simp only [Act.put, List.setIfInBounds_toArray, List.set_cons_zero, List.set_cons_succ, List.getElem_toArray, List.getElem_cons_succ, List.getElem_cons_zero]
          refine takeOn (i := 11) (v := ?_) rfl (by kernel_rfl) (by kernel_rfl) (by kernel_rfl) (fun _ _ _ h => h) (by rfl) ?_ (by assumption) ?_
          rotate_left
          focus (intro w hSw; (try dsimp only at hSw); go_simp; (try with_reducible rfl))
          try simp only [Act.put, List.setIfInBounds_toArray, List.set_cons_zero, List.set_cons_succ, List.getElem_toArray, List.getElem_cons_succ, List.getElem_cons_zero]
          refine takeOn (i := 12) (v := ?_) rfl (by kernel_rfl) (by kernel_rfl) (by kernel_rfl) (fun _ _ _ h => h) (by rfl) ?_ (by assumption) ?_
          rotate_left
          focus (intro w hSw; (try dsimp only at hSw); go_simp; (try with_reducible rfl))
          try simp only [Act.put, List.setIfInBounds_toArray, List.set_cons_zero, List.set_cons_succ, List.getElem_toArray, List.getElem_cons_succ, List.getElem_cons_zero]
          refine wpAnyH_ready (rs := [0, 7]) (by kernel_rfl) (by simp) ?_
          refine AllReadyH.cons rfl (fun K hK => ?_) ?_
          focus
            go_simp
            refine hK.out _ _ ?_ (fun hHeld => ?_)
            focus ((try dsimp only); first | with_reducible exact ⟨x0_2, x0_3⟩ | with_reducible exact ⟨cellDr x0_2, cellDr x0_3⟩ | (refine ⟨Bk.cell (T := 29) (xs := [.int .u8 dd, .int .u8 bh, .int .u8 mk, .int .i16 tv]) ?_ 2 rfl, Bk.cell (T := 29) (xs := [.int .u8 dd, .int .u8 bh, .int .u8 mk, .int .i16 tv]) ?_ 3 rfl⟩ <;> ((repeat' (first | with_reducible assumption | with_reducible refine Bk.drew ?_ | with_reducible refine Bk.other3 hla' ?_ | with_reducible refine Bk.other3 hma' ?_)); done)))
            clear hK K
            try simp only [Act.put, List.setIfInBounds_toArray, List.set_cons_zero, List.set_cons_succ, List.getElem_toArray, List.getElem_cons_succ, List.getElem_cons_zero]
            refine wpAnyH_ready (rs := [6, 7]) (by kernel_rfl) (by simp) ?_
            refine AllReadyH.cons rfl (fun K hK => ?_) ?_
            focus
              go_simp
              go_at_call 12
              with_reducible refine (HE.out _ mk4 ?ht rfl _).mono ?_
              case ht => first | exact etv | rfl
              rintro e w9 ⟨rfl, k⟩
              have kk : Keeps (fun i => i = lb ∨ i = mb) W1 w9 := Keeps.trans (by repeat' (first | with_reducible exact Keeps.refl _ _ | with_reducible assumption | with_reducible refine Keeps.drewN ?_ _ | with_reducible refine Keeps.drew ?_ | with_reducible refine Keeps.setCell ?_ ?_ _ | exact Or.inr (Or.inl rfl) | exact Or.inr (Or.inr rfl))) k.no
              have bA : Bk w9 ab 29 [.int .u8 dd, .int .u8 bh, .int .u8 mk, .int .i16 tv] := Bk.kept (by (repeat' (first | with_reducible assumption | with_reducible refine Bk.drew ?_ | with_reducible refine Bk.other3 hla' ?_ | with_reducible refine Bk.other3 hma' ?_))) k
              have bB : Bk w9 lb 25 [.int .i64 u, .int .i64 o, .int .u8 m] := Bk.kept (by (repeat' (first | with_reducible assumption | with_reducible refine Bk.drew ?_ | with_reducible refine Bk.other3 hab ?_ | with_reducible refine Bk.put3 (u0 := .int .i64 u) (u1 := .int .i64 o) (u2 := .int .u8 m) ?_))) k
              have bC : Bk w9 mb 26 [.int .i64 u, .int .i64 o, .int .u8 m] := Bk.kept (by (repeat' (first | with_reducible assumption | with_reducible refine Bk.drew ?_ | with_reducible refine Bk.other3 hab' ?_ | with_reducible refine Bk.put3 (u0 := .int .i64 u) (u1 := .int .i64 o) (u2 := .int .u8 m) ?_))) k
              have x0_2 := bA.cell 2 rfl
              have x0_3 := bA.cell 3 rfl
              have b0 := bB.cell 0 rfl
              have fb0 := bB.free 0
              have c0 := bC.cell 0 rfl
              have fc0 := bC.free 0
              have b1 := bB.cell 1 rfl
              have fb1 := bB.free 1
              have c1 := bC.cell 1 rfl
              have fc1 := bC.free 1
              have b2 := bB.cell 2 rfl
              have fb2 := bB.free 2
              have c2 := bC.cell 2 rfl
              have fc2 := bC.free 2
              clear k
              go_wp2_with fail
              refine hK.out _ _ ?_ (fun hHeld => ?_)
              focus ((try dsimp only); first | with_reducible exact ⟨x0_2, x0_3⟩ | with_reducible exact ⟨cellDr x0_2, cellDr x0_3⟩ | (refine ⟨Bk.cell (T := 29) (xs := [.int .u8 dd, .int .u8 bh, .int .u8 mk, .int .i16 tv]) ?_ 2 rfl, Bk.cell (T := 29) (xs := [.int .u8 dd, .int .u8 bh, .int .u8 mk, .int .i16 tv]) ?_ 3 rfl⟩ <;> ((repeat' (first | with_reducible assumption | with_reducible refine Bk.drew ?_ | with_reducible refine Bk.other3 hla' ?_ | with_reducible refine Bk.other3 hma' ?_)); done)))
              clear hK K
              try simp only [Act.put, List.setIfInBounds_toArray, List.set_cons_zero, List.set_cons_succ, List.getElem_toArray, List.getElem_cons_succ, List.getElem_cons_zero]
              refine wpAnyH_ready (rs := [7]) (by kernel_rfl) (by simp) ?_
              refine AllReadyH.cons rfl (fun K hK => ?_) AllReadyH.nil
              go_simp
              refine hK.out _ _ ?_ (fun hHeld => ?_)
              focus ((try dsimp only); first | with_reducible exact ⟨x0_2, x0_3⟩ | with_reducible exact ⟨cellDr x0_2, cellDr x0_3⟩ | (refine ⟨Bk.cell (T := 29) (xs := [.int .u8 dd, .int .u8 bh, .int .u8 mk, .int .i16 tv]) ?_ 2 rfl, Bk.cell (T := 29) (xs := [.int .u8 dd, .int .u8 bh, .int .u8 mk, .int .i16 tv]) ?_ 3 rfl⟩ <;> ((repeat' (first | with_reducible assumption | with_reducible refine Bk.drew ?_ | with_reducible refine Bk.other3 hla' ?_ | with_reducible refine Bk.other3 hma' ?_)); done)))
              clear hK K
              try simp only [Act.put, List.setIfInBounds_toArray, List.set_cons_zero, List.set_cons_succ, List.getElem_toArray, List.getElem_cons_succ, List.getElem_cons_zero]
              refine wpAnyH_ready (rs := [13]) (by kernel_rfl) (by simp) ?_
              refine AllReadyH.cons rfl (fun K hK => ?_) AllReadyH.nil
              go_simp
              go_at_call 13
              with_reducible refine (HM.out _ mk4 ?ht rfl _).mono ?_
              case ht => first | exact etv | rfl
              rintro e w9 ⟨rfl, k⟩
              have kk : Keeps (fun i => i = lb ∨ i = mb) W1 w9 := Keeps.trans (by repeat' (first | with_reducible exact Keeps.refl _ _ | with_reducible assumption | with_reducible refine Keeps.drewN ?_ _ | with_reducible refine Keeps.drew ?_ | with_reducible refine Keeps.setCell ?_ ?_ _ | exact Or.inr (Or.inl rfl) | exact Or.inr (Or.inr rfl))) k.no
              have bA : Bk w9 ab 29 [.int .u8 dd, .int .u8 bh, .int .u8 mk, .int .i16 tv] := Bk.kept (by (repeat' (first | with_reducible assumption | with_reducible refine Bk.drew ?_ | with_reducible refine Bk.other3 hla' ?_ | with_reducible refine Bk.other3 hma' ?_))) k
              have bB : Bk w9 lb 25 [.int .i64 u, .int .i64 o, .int .u8 m] := Bk.kept (by (repeat' (first | with_reducible assumption | with_reducible refine Bk.drew ?_ | with_reducible refine Bk.other3 hab ?_ | with_reducible refine Bk.put3 (u0 := .int .i64 u) (u1 := .int .i64 o) (u2 := .int .u8 m) ?_))) k
              have bC : Bk w9 mb 26 [.int .i64 u, .int .i64 o, .int .u8 m] := Bk.kept (by (repeat' (first | with_reducible assumption | with_reducible refine Bk.drew ?_ | with_reducible refine Bk.other3 hab' ?_ | with_reducible refine Bk.put3 (u0 := .int .i64 u) (u1 := .int .i64 o) (u2 := .int .u8 m) ?_))) k
              have x0_2 := bA.cell 2 rfl
              have x0_3 := bA.cell 3 rfl
              have b0 := bB.cell 0 rfl
              have fb0 := bB.free 0
              have c0 := bC.cell 0 rfl
              have fc0 := bC.free 0
              have b1 := bB.cell 1 rfl
              have fb1 := bB.free 1
              have c1 := bC.cell 1 rfl
              have fc1 := bC.free 1
              have b2 := bB.cell 2 rfl
              have fb2 := bB.free 2
              have c2 := bC.cell 2 rfl
              have fc2 := bC.free 2
              clear k
              go_wp2_with fail
              refine hK.out _ _ ?_ (fun hHeld => ?_)
              focus ((try dsimp only); first | with_reducible exact ⟨x0_2, x0_3⟩ | with_reducible exact ⟨cellDr x0_2, cellDr x0_3⟩ | (refine ⟨Bk.cell (T := 29) (xs := [.int .u8 dd, .int .u8 bh, .int .u8 mk, .int .i16 tv]) ?_ 2 rfl, Bk.cell (T := 29) (xs := [.int .u8 dd, .int .u8 bh, .int .u8 mk, .int .i16 tv]) ?_ 3 rfl⟩ <;> ((repeat' (first | with_reducible assumption | with_reducible refine Bk.drew ?_ | with_reducible refine Bk.other3 hla' ?_ | with_reducible refine Bk.other3 hma' ?_)); done)))
              clear hK K
              try simp only [Act.put, List.setIfInBounds_toArray, List.set_cons_zero, List.set_cons_succ, List.getElem_toArray, List.getElem_cons_succ, List.getElem_cons_zero]
              refine wpAnyH_ready (rs := [14]) (by kernel_rfl) (by simp) ?_
              refine AllReadyH.cons rfl (fun K hK => ?_) AllReadyH.nil
              go_simp
              refine hK.out _ _ ?_ (fun hHeld => ?_)
              focus ((try dsimp only); first | with_reducible exact ⟨x0_2, x0_3⟩ | with_reducible exact ⟨cellDr x0_2, cellDr x0_3⟩ | (refine ⟨Bk.cell (T := 29) (xs := [.int .u8 dd, .int .u8 bh, .int .u8 mk, .int .i16 tv]) ?_ 2 rfl, Bk.cell (T := 29) (xs := [.int .u8 dd, .int .u8 bh, .int .u8 mk, .int .i16 tv]) ?_ 3 rfl⟩ <;> ((repeat' (first | with_reducible assumption | with_reducible refine Bk.drew ?_ | with_reducible refine Bk.other3 hla' ?_ | with_reducible refine Bk.other3 hma' ?_)); done)))
              clear hK K
              try simp only [Act.put, List.setIfInBounds_toArray, List.set_cons_zero, List.set_cons_succ, List.getElem_toArray, List.getElem_cons_succ, List.getElem_cons_zero]
              refine wpAnyH_ready (rs := [15]) (by kernel_rfl) (by simp) ?_
              refine AllReadyH.cons rfl (fun K hK => ?_) AllReadyH.nil
              go_simp
              refine hK.out _ _ ?_ (fun hHeld => ?_)
              focus ((try dsimp only); first | with_reducible exact ⟨x0_2, x0_3⟩ | with_reducible exact ⟨cellDr x0_2, cellDr x0_3⟩ | (refine ⟨Bk.cell (T := 29) (xs := [.int .u8 dd, .int .u8 bh, .int .u8 mk, .int .i16 tv]) ?_ 2 rfl, Bk.cell (T := 29) (xs := [.int .u8 dd, .int .u8 bh, .int .u8 mk, .int .i16 tv]) ?_ 3 rfl⟩ <;> ((repeat' (first | with_reducible assumption | with_reducible refine Bk.drew ?_ | with_reducible refine Bk.other3 hla' ?_ | with_reducible refine Bk.other3 hma' ?_)); done)))
              clear hK K
              try simp only [Act.put, List.setIfInBounds_toArray, List.set_cons_zero, List.set_cons_succ, List.getElem_toArray, List.getElem_cons_succ, List.getElem_cons_zero]
              refine wpAnyH_done (by kernel_rfl) ?_ _
              go_wp2_with fail
              go_meet
              refine ⟨u1, o1, m1, hid ?_, hid ?_, hid ?_⟩
              focus ((repeat' (first | with_reducible assumption | with_reducible refine Bk.drew ?_ | with_reducible refine Bk.other3 hab ?_ | with_reducible refine Bk.put3 (u0 := .int .i64 u) (u1 := .int .i64 o) (u2 := .int .u8 m) ?_)); done)
              focus ((repeat' (first | with_reducible assumption | with_reducible refine Bk.drew ?_ | with_reducible refine Bk.other3 hab' ?_ | with_reducible refine Bk.put3 (u0 := .int .i64 u) (u1 := .int .i64 o) (u2 := .int .u8 m) ?_)); done)
              exact HK1.out.trans' (show Keeps (fun i => i = lb ∨ i = mb) W1 _ from by repeat' (first | with_reducible exact Keeps.refl _ _ | with_reducible assumption | with_reducible refine Keeps.drewN ?_ _ | with_reducible refine Keeps.drew ?_ | with_reducible refine Keeps.setCell ?_ ?_ _ | exact Or.inr (Or.inl rfl) | exact Or.inr (Or.inr rfl))) (fun _ _ h => h) (fun i hi e => by have := HGB.out; rcases e with e | e <;> omega)
            refine AllReadyH.cons rfl (fun K hK => ?_) AllReadyH.nil
            go_simp
            refine hK.out _ _ ?_ (fun hHeld => ?_)
            focus ((try dsimp only); first | with_reducible exact ⟨x0_2, x0_3⟩ | with_reducible exact ⟨cellDr x0_2, cellDr x0_3⟩ | (refine ⟨Bk.cell (T := 29) (xs := [.int .u8 dd, .int .u8 bh, .int .u8 mk, .int .i16 tv]) ?_ 2 rfl, Bk.cell (T := 29) (xs := [.int .u8 dd, .int .u8 bh, .int .u8 mk, .int .i16 tv]) ?_ 3 rfl⟩ <;> ((repeat' (first | with_reducible assumption | with_reducible refine Bk.drew ?_ | with_reducible refine Bk.other3 hla' ?_ | with_reducible refine Bk.other3 hma' ?_)); done)))
            clear hK K
            try simp only [Act.put, List.setIfInBounds_toArray, List.set_cons_zero, List.set_cons_succ, List.getElem_toArray, List.getElem_cons_succ, List.getElem_cons_zero]
            refine wpAnyH_ready (rs := [6]) (by kernel_rfl) (by simp) ?_
            refine AllReadyH.cons rfl (fun K hK => ?_) AllReadyH.nil
            go_simp
            go_at_call 12
            with_reducible refine (HE.out _ mk4 ?ht rfl _).mono ?_
            case ht => first | exact etv | rfl
            rintro e w9 ⟨rfl, k⟩
            have kk : Keeps (fun i => i = lb ∨ i = mb) W1 w9 := Keeps.trans (by repeat' (first | with_reducible exact Keeps.refl _ _ | with_reducible assumption | with_reducible refine Keeps.drewN ?_ _ | with_reducible refine Keeps.drew ?_ | with_reducible refine Keeps.setCell ?_ ?_ _ | exact Or.inr (Or.inl rfl) | exact Or.inr (Or.inr rfl))) k.no
            have bA : Bk w9 ab 29 [.int .u8 dd, .int .u8 bh, .int .u8 mk, .int .i16 tv] := Bk.kept (by (repeat' (first | with_reducible assumption | with_reducible refine Bk.drew ?_ | with_reducible refine Bk.other3 hla' ?_ | with_reducible refine Bk.other3 hma' ?_))) k
            have bB : Bk w9 lb 25 [.int .i64 u, .int .i64 o, .int .u8 m] := Bk.kept (by (repeat' (first | with_reducible assumption | with_reducible refine Bk.drew ?_ | with_reducible refine Bk.other3 hab ?_ | with_reducible refine Bk.put3 (u0 := .int .i64 u) (u1 := .int .i64 o) (u2 := .int .u8 m) ?_))) k
            have bC : Bk w9 mb 26 [.int .i64 u, .int .i64 o, .int .u8 m] := Bk.kept (by (repeat' (first | with_reducible assumption | with_reducible refine Bk.drew ?_ | with_reducible refine Bk.other3 hab' ?_ | with_reducible refine Bk.put3 (u0 := .int .i64 u) (u1 := .int .i64 o) (u2 := .int .u8 m) ?_))) k
            have x0_2 := bA.cell 2 rfl
            have x0_3 := bA.cell 3 rfl
            have b0 := bB.cell 0 rfl
            have fb0 := bB.free 0
            have c0 := bC.cell 0 rfl
            have fc0 := bC.free 0
            have b1 := bB.cell 1 rfl
            have fb1 := bB.free 1
            have c1 := bC.cell 1 rfl
            have fc1 := bC.free 1
            have b2 := bB.cell 2 rfl
            have fb2 := bB.free 2
            have c2 := bC.cell 2 rfl
            have fc2 := bC.free 2
            clear k
            go_wp2_with fail
            refine hK.out _ _ ?_ (fun hHeld => ?_)
            focus ((try dsimp only); first | with_reducible exact ⟨x0_2, x0_3⟩ | with_reducible exact ⟨cellDr x0_2, cellDr x0_3⟩ | (refine ⟨Bk.cell (T := 29) (xs := [.int .u8 dd, .int .u8 bh, .int .u8 mk, .int .i16 tv]) ?_ 2 rfl, Bk.cell (T := 29) (xs := [.int .u8 dd, .int .u8 bh, .int .u8 mk, .int .i16 tv]) ?_ 3 rfl⟩ <;> ((repeat' (first | with_reducible assumption | with_reducible refine Bk.drew ?_ | with_reducible refine Bk.other3 hla' ?_ | with_reducible refine Bk.other3 hma' ?_)); done)))
            clear hK K
            try simp only [Act.put, List.setIfInBounds_toArray, List.set_cons_zero, List.set_cons_succ, List.getElem_toArray, List.getElem_cons_succ, List.getElem_cons_zero]
            refine wpAnyH_ready (rs := [13]) (by kernel_rfl) (by simp) ?_
            refine AllReadyH.cons rfl (fun K hK => ?_) AllReadyH.nil
            go_simp
            go_at_call 13
            with_reducible refine (HM.out _ mk4 ?ht rfl _).mono ?_
            case ht => first | exact etv | rfl
            rintro e w9 ⟨rfl, k⟩
            have kk : Keeps (fun i => i = lb ∨ i = mb) W1 w9 := Keeps.trans (by repeat' (first | with_reducible exact Keeps.refl _ _ | with_reducible assumption | with_reducible refine Keeps.drewN ?_ _ | with_reducible refine Keeps.drew ?_ | with_reducible refine Keeps.setCell ?_ ?_ _ | exact Or.inr (Or.inl rfl) | exact Or.inr (Or.inr rfl))) k.no
            have bA : Bk w9 ab 29 [.int .u8 dd, .int .u8 bh, .int .u8 mk, .int .i16 tv] := Bk.kept (by (repeat' (first | with_reducible assumption | with_reducible refine Bk.drew ?_ | with_reducible refine Bk.other3 hla' ?_ | with_reducible refine Bk.other3 hma' ?_))) k
            have bB : Bk w9 lb 25 [.int .i64 u, .int .i64 o, .int .u8 m] := Bk.kept (by (repeat' (first | with_reducible assumption | with_reducible refine Bk.drew ?_ | with_reducible refine Bk.other3 hab ?_ | with_reducible refine Bk.put3 (u0 := .int .i64 u) (u1 := .int .i64 o) (u2 := .int .u8 m) ?_))) k
            have bC : Bk w9 mb 26 [.int .i64 u, .int .i64 o, .int .u8 m] := Bk.kept (by (repeat' (first | with_reducible assumption | with_reducible refine Bk.drew ?_ | with_reducible refine Bk.other3 hab' ?_ | with_reducible refine Bk.put3 (u0 := .int .i64 u) (u1 := .int .i64 o) (u2 := .int .u8 m) ?_))) k
            have x0_2 := bA.cell 2 rfl
            have x0_3 := bA.cell 3 rfl
            have b0 := bB.cell 0 rfl
            have fb0 := bB.free 0
            have c0 := bC.cell 0 rfl
            have fc0 := bC.free 0
            have b1 := bB.cell 1 rfl
            have fb1 := bB.free 1
            have c1 := bC.cell 1 rfl
            have fc1 := bC.free 1
            have b2 := bB.cell 2 rfl
            have fb2 := bB.free 2
            have c2 := bC.cell 2 rfl
            have fc2 := bC.free 2
            clear k
            go_wp2_with fail
            refine hK.out _ _ ?_ (fun hHeld => ?_)
            focus ((try dsimp only); first | with_reducible exact ⟨x0_2, x0_3⟩ | with_reducible exact ⟨cellDr x0_2, cellDr x0_3⟩ | (refine ⟨Bk.cell (T := 29) (xs := [.int .u8 dd, .int .u8 bh, .int .u8 mk, .int .i16 tv]) ?_ 2 rfl, Bk.cell (T := 29) (xs := [.int .u8 dd, .int .u8 bh, .int .u8 mk, .int .i16 tv]) ?_ 3 rfl⟩ <;> ((repeat' (first | with_reducible assumption | with_reducible refine Bk.drew ?_ | with_reducible refine Bk.other3 hla' ?_ | with_reducible refine Bk.other3 hma' ?_)); done)))
            clear hK K
            try simp only [Act.put, List.setIfInBounds_toArray, List.set_cons_zero, List.set_cons_succ, List.getElem_toArray, List.getElem_cons_succ, List.getElem_cons_zero]
            refine wpAnyH_ready (rs := [14]) (by kernel_rfl) (by simp) ?_
            refine AllReadyH.cons rfl (fun K hK => ?_) AllReadyH.nil
            go_simp
            refine hK.out _ _ ?_ (fun hHeld => ?_)
            focus ((try dsimp only); first | with_reducible exact ⟨x0_2, x0_3⟩ | with_reducible exact ⟨cellDr x0_2, cellDr x0_3⟩ | (refine ⟨Bk.cell (T := 29) (xs := [.int .u8 dd, .int .u8 bh, .int .u8 mk, .int .i16 tv]) ?_ 2 rfl, Bk.cell (T := 29) (xs := [.int .u8 dd, .int .u8 bh, .int .u8 mk, .int .i16 tv]) ?_ 3 rfl⟩ <;> ((repeat' (first | with_reducible assumption | with_reducible refine Bk.drew ?_ | with_reducible refine Bk.other3 hla' ?_ | with_reducible refine Bk.other3 hma' ?_)); done)))
            clear hK K
            try simp only [Act.put, List.setIfInBounds_toArray, List.set_cons_zero, List.set_cons_succ, List.getElem_toArray, List.getElem_cons_succ, List.getElem_cons_zero]
            refine wpAnyH_ready (rs := [15]) (by kernel_rfl) (by simp) ?_
            refine AllReadyH.cons rfl (fun K hK => ?_) AllReadyH.nil
            go_simp
            refine hK.out _ _ ?_ (fun hHeld => ?_)
            focus ((try dsimp only); first | with_reducible exact ⟨x0_2, x0_3⟩ | with_reducible exact ⟨cellDr x0_2, cellDr x0_3⟩ | (refine ⟨Bk.cell (T := 29) (xs := [.int .u8 dd, .int .u8 bh, .int .u8 mk, .int .i16 tv]) ?_ 2 rfl, Bk.cell (T := 29) (xs := [.int .u8 dd, .int .u8 bh, .int .u8 mk, .int .i16 tv]) ?_ 3 rfl⟩ <;> ((repeat' (first | with_reducible assumption | with_reducible refine Bk.drew ?_ | with_reducible refine Bk.other3 hla' ?_ | with_reducible refine Bk.other3 hma' ?_)); done)))
            clear hK K
            try simp only [Act.put, List.setIfInBounds_toArray, List.set_cons_zero, List.set_cons_succ, List.getElem_toArray, List.getElem_cons_succ, List.getElem_cons_zero]
            refine wpAnyH_done (by kernel_rfl) ?_ _
            go_wp2_with fail
            go_meet
            refine ⟨u1, o1, m1, hid ?_, hid ?_, hid ?_⟩
            focus ((repeat' (first | with_reducible assumption | with_reducible refine Bk.drew ?_ | with_reducible refine Bk.other3 hab ?_ | with_reducible refine Bk.put3 (u0 := .int .i64 u) (u1 := .int .i64 o) (u2 := .int .u8 m) ?_)); done)
            focus ((repeat' (first | with_reducible assumption | with_reducible refine Bk.drew ?_ | with_reducible refine Bk.other3 hab' ?_ | with_reducible refine Bk.put3 (u0 := .int .i64 u) (u1 := .int .i64 o) (u2 := .int .u8 m) ?_)); done)
            exact HK1.out.trans' (show Keeps (fun i => i = lb ∨ i = mb) W1 _ from by repeat' (first | with_reducible exact Keeps.refl _ _ | with_reducible assumption | with_reducible refine Keeps.drewN ?_ _ | with_reducible refine Keeps.drew ?_ | with_reducible refine Keeps.setCell ?_ ?_ _ | exact Or.inr (Or.inl rfl) | exact Or.inr (Or.inr rfl))) (fun _ _ h => h) (fun i hi e => by have := HGB.out; rcases e with e | e <;> omega)
          refine AllReadyH.cons rfl (fun K hK => ?_) AllReadyH.nil
          go_simp
          refine hK.out _ _ ?_ (fun hHeld => ?_)
          focus ((try dsimp only); first | with_reducible exact ⟨x0_2, x0_3⟩ | with_reducible exact ⟨cellDr x0_2, cellDr x0_3⟩ | (refine ⟨Bk.cell (T := 29) (xs := [.int .u8 dd, .int .u8 bh, .int .u8 mk, .int .i16 tv]) ?_ 2 rfl, Bk.cell (T := 29) (xs := [.int .u8 dd, .int .u8 bh, .int .u8 mk, .int .i16 tv]) ?_ 3 rfl⟩ <;> ((repeat' (first | with_reducible assumption | with_reducible refine Bk.drew ?_ | with_reducible refine Bk.other3 hla' ?_ | with_reducible refine Bk.other3 hma' ?_)); done)))
          clear hK K
          try simp only [Act.put, List.setIfInBounds_toArray, List.set_cons_zero, List.set_cons_succ, List.getElem_toArray, List.getElem_cons_succ, List.getElem_cons_zero]
          refine wpAnyH_ready (rs := [0]) (by kernel_rfl) (by simp) ?_
          refine AllReadyH.cons rfl (fun K hK => ?_) AllReadyH.nil
          go_simp
          refine hK.out _ _ ?_ (fun hHeld => ?_)
          focus ((try dsimp only); first | with_reducible exact ⟨x0_2, x0_3⟩ | with_reducible exact ⟨cellDr x0_2, cellDr x0_3⟩ | (refine ⟨Bk.cell (T := 29) (xs := [.int .u8 dd, .int .u8 bh, .int .u8 mk, .int .i16 tv]) ?_ 2 rfl, Bk.cell (T := 29) (xs := [.int .u8 dd, .int .u8 bh, .int .u8 mk, .int .i16 tv]) ?_ 3 rfl⟩ <;> ((repeat' (first | with_reducible assumption | with_reducible refine Bk.drew ?_ | with_reducible refine Bk.other3 hla' ?_ | with_reducible refine Bk.other3 hma' ?_)); done)))
          clear hK K
          try simp only [Act.put, List.setIfInBounds_toArray, List.set_cons_zero, List.set_cons_succ, List.getElem_toArray, List.getElem_cons_succ, List.getElem_cons_zero]
          refine wpAnyH_ready (rs := [6]) (by kernel_rfl) (by simp) ?_
          refine AllReadyH.cons rfl (fun K hK => ?_) AllReadyH.nil
          go_simp
          go_at_call 12
          with_reducible refine (HE.out _ mk4 ?ht rfl _).mono ?_
          case ht => first | exact etv | rfl
          rintro e w9 ⟨rfl, k⟩
          have kk : Keeps (fun i => i = lb ∨ i = mb) W1 w9 := Keeps.trans (by repeat' (first | with_reducible exact Keeps.refl _ _ | with_reducible assumption | with_reducible refine Keeps.drewN ?_ _ | with_reducible refine Keeps.drew ?_ | with_reducible refine Keeps.setCell ?_ ?_ _ | exact Or.inr (Or.inl rfl) | exact Or.inr (Or.inr rfl))) k.no
          have bA : Bk w9 ab 29 [.int .u8 dd, .int .u8 bh, .int .u8 mk, .int .i16 tv] := Bk.kept (by (repeat' (first | with_reducible assumption | with_reducible refine Bk.drew ?_ | with_reducible refine Bk.other3 hla' ?_ | with_reducible refine Bk.other3 hma' ?_))) k
          have bB : Bk w9 lb 25 [.int .i64 u, .int .i64 o, .int .u8 m] := Bk.kept (by (repeat' (first | with_reducible assumption | with_reducible refine Bk.drew ?_ | with_reducible refine Bk.other3 hab ?_ | with_reducible refine Bk.put3 (u0 := .int .i64 u) (u1 := .int .i64 o) (u2 := .int .u8 m) ?_))) k
          have bC : Bk w9 mb 26 [.int .i64 u, .int .i64 o, .int .u8 m] := Bk.kept (by (repeat' (first | with_reducible assumption | with_reducible refine Bk.drew ?_ | with_reducible refine Bk.other3 hab' ?_ | with_reducible refine Bk.put3 (u0 := .int .i64 u) (u1 := .int .i64 o) (u2 := .int .u8 m) ?_))) k
          have x0_2 := bA.cell 2 rfl
          have x0_3 := bA.cell 3 rfl
          have b0 := bB.cell 0 rfl
          have fb0 := bB.free 0
          have c0 := bC.cell 0 rfl
          have fc0 := bC.free 0
          have b1 := bB.cell 1 rfl
          have fb1 := bB.free 1
          have c1 := bC.cell 1 rfl
          have fc1 := bC.free 1
          have b2 := bB.cell 2 rfl
          have fb2 := bB.free 2
          have c2 := bC.cell 2 rfl
          have fc2 := bC.free 2
          clear k
          go_wp2_with fail
          refine hK.out _ _ ?_ (fun hHeld => ?_)
          focus ((try dsimp only); first | with_reducible exact ⟨x0_2, x0_3⟩ | with_reducible exact ⟨cellDr x0_2, cellDr x0_3⟩ | (refine ⟨Bk.cell (T := 29) (xs := [.int .u8 dd, .int .u8 bh, .int .u8 mk, .int .i16 tv]) ?_ 2 rfl, Bk.cell (T := 29) (xs := [.int .u8 dd, .int .u8 bh, .int .u8 mk, .int .i16 tv]) ?_ 3 rfl⟩ <;> ((repeat' (first | with_reducible assumption | with_reducible refine Bk.drew ?_ | with_reducible refine Bk.other3 hla' ?_ | with_reducible refine Bk.other3 hma' ?_)); done)))
          clear hK K
          try simp only [Act.put, List.setIfInBounds_toArray, List.set_cons_zero, List.set_cons_succ, List.getElem_toArray, List.getElem_cons_succ, List.getElem_cons_zero]
          refine wpAnyH_ready (rs := [13]) (by kernel_rfl) (by simp) ?_
          refine AllReadyH.cons rfl (fun K hK => ?_) AllReadyH.nil
          go_simp
          go_at_call 13
          with_reducible refine (HM.out _ mk4 ?ht rfl _).mono ?_
          case ht => first | exact etv | rfl
          rintro e w9 ⟨rfl, k⟩
          have kk : Keeps (fun i => i = lb ∨ i = mb) W1 w9 := Keeps.trans (by repeat' (first | with_reducible exact Keeps.refl _ _ | with_reducible assumption | with_reducible refine Keeps.drewN ?_ _ | with_reducible refine Keeps.drew ?_ | with_reducible refine Keeps.setCell ?_ ?_ _ | exact Or.inr (Or.inl rfl) | exact Or.inr (Or.inr rfl))) k.no
          have bA : Bk w9 ab 29 [.int .u8 dd, .int .u8 bh, .int .u8 mk, .int .i16 tv] := Bk.kept (by (repeat' (first | with_reducible assumption | with_reducible refine Bk.drew ?_ | with_reducible refine Bk.other3 hla' ?_ | with_reducible refine Bk.other3 hma' ?_))) k
          have bB : Bk w9 lb 25 [.int .i64 u, .int .i64 o, .int .u8 m] := Bk.kept (by (repeat' (first | with_reducible assumption | with_reducible refine Bk.drew ?_ | with_reducible refine Bk.other3 hab ?_ | with_reducible refine Bk.put3 (u0 := .int .i64 u) (u1 := .int .i64 o) (u2 := .int .u8 m) ?_))) k
          have bC : Bk w9 mb 26 [.int .i64 u, .int .i64 o, .int .u8 m] := Bk.kept (by (repeat' (first | with_reducible assumption | with_reducible refine Bk.drew ?_ | with_reducible refine Bk.other3 hab' ?_ | with_reducible refine Bk.put3 (u0 := .int .i64 u) (u1 := .int .i64 o) (u2 := .int .u8 m) ?_))) k
          have x0_2 := bA.cell 2 rfl
          have x0_3 := bA.cell 3 rfl
          have b0 := bB.cell 0 rfl
          have fb0 := bB.free 0
          have c0 := bC.cell 0 rfl
          have fc0 := bC.free 0
          have b1 := bB.cell 1 rfl
          have fb1 := bB.free 1
          have c1 := bC.cell 1 rfl
          have fc1 := bC.free 1
          have b2 := bB.cell 2 rfl
          have fb2 := bB.free 2
          have c2 := bC.cell 2 rfl
          have fc2 := bC.free 2
          clear k
          go_wp2_with fail
          refine hK.out _ _ ?_ (fun hHeld => ?_)
          focus ((try dsimp only); first | with_reducible exact ⟨x0_2, x0_3⟩ | with_reducible exact ⟨cellDr x0_2, cellDr x0_3⟩ | (refine ⟨Bk.cell (T := 29) (xs := [.int .u8 dd, .int .u8 bh, .int .u8 mk, .int .i16 tv]) ?_ 2 rfl, Bk.cell (T := 29) (xs := [.int .u8 dd, .int .u8 bh, .int .u8 mk, .int .i16 tv]) ?_ 3 rfl⟩ <;> ((repeat' (first | with_reducible assumption | with_reducible refine Bk.drew ?_ | with_reducible refine Bk.other3 hla' ?_ | with_reducible refine Bk.other3 hma' ?_)); done)))
          clear hK K
          try simp only [Act.put, List.setIfInBounds_toArray, List.set_cons_zero, List.set_cons_succ, List.getElem_toArray, List.getElem_cons_succ, List.getElem_cons_zero]
          refine wpAnyH_ready (rs := [14]) (by kernel_rfl) (by simp) ?_
          refine AllReadyH.cons rfl (fun K hK => ?_) AllReadyH.nil
          go_simp
          refine hK.out _ _ ?_ (fun hHeld => ?_)
          focus ((try dsimp only); first | with_reducible exact ⟨x0_2, x0_3⟩ | with_reducible exact ⟨cellDr x0_2, cellDr x0_3⟩ | (refine ⟨Bk.cell (T := 29) (xs := [.int .u8 dd, .int .u8 bh, .int .u8 mk, .int .i16 tv]) ?_ 2 rfl, Bk.cell (T := 29) (xs := [.int .u8 dd, .int .u8 bh, .int .u8 mk, .int .i16 tv]) ?_ 3 rfl⟩ <;> ((repeat' (first | with_reducible assumption | with_reducible refine Bk.drew ?_ | with_reducible refine Bk.other3 hla' ?_ | with_reducible refine Bk.other3 hma' ?_)); done)))
          clear hK K
          try simp only [Act.put, List.setIfInBounds_toArray, List.set_cons_zero, List.set_cons_succ, List.getElem_toArray, List.getElem_cons_succ, List.getElem_cons_zero]
          refine wpAnyH_ready (rs := [15]) (by kernel_rfl) (by simp) ?_
          refine AllReadyH.cons rfl (fun K hK => ?_) AllReadyH.nil
          go_simp
          refine hK.out _ _ ?_ (fun hHeld => ?_)
          focus ((try dsimp only); first | with_reducible exact ⟨x0_2, x0_3⟩ | with_reducible exact ⟨cellDr x0_2, cellDr x0_3⟩ | (refine ⟨Bk.cell (T := 29) (xs := [.int .u8 dd, .int .u8 bh, .int .u8 mk, .int .i16 tv]) ?_ 2 rfl, Bk.cell (T := 29) (xs := [.int .u8 dd, .int .u8 bh, .int .u8 mk, .int .i16 tv]) ?_ 3 rfl⟩ <;> ((repeat' (first | with_reducible assumption | with_reducible refine Bk.drew ?_ | with_reducible refine Bk.other3 hla' ?_ | with_reducible refine Bk.other3 hma' ?_)); done)))
          clear hK K
          try simp only [Act.put, List.setIfInBounds_toArray, List.set_cons_zero, List.set_cons_succ, List.getElem_toArray, List.getElem_cons_succ, List.getElem_cons_zero]
          refine wpAnyH_done (by kernel_rfl) ?_ _
          go_wp2_with fail
          go_meet
          refine ⟨u1, o1, m1, hid ?_, hid ?_, hid ?_⟩
          focus ((repeat' (first | with_reducible assumption | with_reducible refine Bk.drew ?_ | with_reducible refine Bk.other3 hab ?_ | with_reducible refine Bk.put3 (u0 := .int .i64 u) (u1 := .int .i64 o) (u2 := .int .u8 m) ?_)); done)
          focus ((repeat' (first | with_reducible assumption | with_reducible refine Bk.drew ?_ | with_reducible refine Bk.other3 hab' ?_ | with_reducible refine Bk.put3 (u0 := .int .i64 u) (u1 := .int .i64 o) (u2 := .int .u8 m) ?_)); done)
          exact HK1.out.trans' (show Keeps (fun i => i = lb ∨ i = mb) W1 _ from by repeat' (first | with_reducible exact Keeps.refl _ _ | with_reducible assumption | with_reducible refine Keeps.drewN ?_ _ | with_reducible refine Keeps.drew ?_ | with_reducible refine Keeps.setCell ?_ ?_ _ | exact Or.inr (Or.inl rfl) | exact Or.inr (Or.inr rfl))) (fun _ _ h => h) (fun i hi e => by have := HGB.out; rcases e with e | e <;> omega)
        · have e0 : ((dd % 3) == 0) = false := by rw [hd]; rfl
          have e1 : ((dd % 3) == 1) = false := by rw [hd]; rfl
          clear hd HD3
          obtain ⟨⟨u1, o1, m1⟩, h1⟩ : ∃ q, breakD ⟨u, o, m⟩ nw mk4 = q := ⟨_, rfl⟩
          have HE : Hid (∀ t k, t = tv → k = mk4 → ∀ w, Calls Try.prog 14 #[.agg #[.int .i64 u, .int .i64 o, .int .u8 m], .int .i64 nw, .int .u8 k] w fun e w' => e = .returned (.agg #[.int .i64 u1, .int .i64 o1, .int .u8 m1]) ∧ Keeps No w w') := hid (fun t k ht hk w => by
            subst ht
            subst hk
            have h := hbreak_any u o m nw k w
            rw [h1] at h
            exact h)
          have HM : Hid (∀ t k, t = tv → k = mk4 → ∀ w, Calls Try.prog 15 #[.agg #[.int .i64 u, .int .i64 o, .int .u8 m], .int .i64 nw, .int .u8 k] w fun e w' => e = .returned (.agg #[.int .i64 u1, .int .i64 o1, .int .u8 m1]) ∧ Keeps No w w') := hid (fun t k ht hk w => by
            subst ht
            subst hk
            have h := mbreak_any u o m nw k w
            rw [h1] at h
            exact h)
          clear h1
          go_upto_region 13 with fail
          have hmk4 := HM4.out
          have bA := HA1.out
          have bB := HB1.out
          have bC := HC1.out
          have b0 := bB.cell 0 rfl
          have fb0 := bB.free 0
          have c0 := bC.cell 0 rfl
          have fc0 := bC.free 0
          have b1 := bB.cell 1 rfl
          have fb1 := bB.free 1
          have c1 := bC.cell 1 rfl
          have fc1 := bC.free 1
          have b2 := bB.cell 2 rfl
          have fb2 := bB.free 2
          have c2 := bC.cell 2 rfl
          have fc2 := bC.free 2
          refine wp_region_held_drew (S := (fun w' => w'.cell? ⟨ab, 2, none⟩ = some (.int .u8 mk) ∧ w'.cell? ⟨ab, 3, none⟩ = some (.int .i16 tv))) (by kernel_rfl) ?_ (fun hHeld => ?_)
          focus ((try dsimp only); first | with_reducible exact ⟨x0_2, x0_3⟩ | with_reducible exact ⟨cellDr x0_2, cellDr x0_3⟩ | (refine ⟨Bk.cell (T := 29) (xs := [.int .u8 dd, .int .u8 bh, .int .u8 mk, .int .i16 tv]) ?_ 2 rfl, Bk.cell (T := 29) (xs := [.int .u8 dd, .int .u8 bh, .int .u8 mk, .int .i16 tv]) ?_ 3 rfl⟩ <;> ((repeat' (first | with_reducible assumption | with_reducible refine Bk.drew ?_ | with_reducible refine Bk.other3 hla' ?_ | with_reducible refine Bk.other3 hma' ?_)); done)))
          refine takeOn (i := 1) (v := ?_) rfl (by kernel_rfl) (by kernel_rfl) (by kernel_rfl) (fun _ _ _ h => h) (by rfl) ?_ (by assumption) ?_
          rotate_left
          focus (intro w hSw; (try dsimp only at hSw); go_simp; (try with_reducible rfl))
          try simp only [Act.put, List.setIfInBounds_toArray, List.set_cons_zero, List.set_cons_succ, List.getElem_toArray, List.getElem_cons_succ, List.getElem_cons_zero]
          refine takeOn (i := 2) (v := ?_) rfl (by kernel_rfl) (by kernel_rfl) (by kernel_rfl) (fun _ _ _ h => h) (by rfl) ?_ (by assumption) ?_
          rotate_left
          focus (intro w hSw; (try dsimp only at hSw); go_simp; (try with_reducible rfl))
          try simp only [Act.put, List.setIfInBounds_toArray, List.set_cons_zero, List.set_cons_succ, List.getElem_toArray, List.getElem_cons_succ, List.getElem_cons_zero]
          refine takeOn (i := 3) (v := ?_) rfl (by kernel_rfl) (by kernel_rfl) (by kernel_rfl) (fun _ _ _ h => h) (by rfl) ?_ (by assumption) ?_
          rotate_left
          focus (intro w hSw; (try dsimp only at hSw); go_simp; (try with_reducible rfl))
          try simp only [Act.put, List.setIfInBounds_toArray, List.set_cons_zero, List.set_cons_succ, List.getElem_toArray, List.getElem_cons_succ, List.getElem_cons_zero]
          refine takeOn (i := 4) (v := ?_) rfl (by kernel_rfl) (by kernel_rfl) (by kernel_rfl) (fun _ _ _ h => h) (by rfl) ?_ (by assumption) ?_
          rotate_left
          focus (intro w hSw; (try dsimp only at hSw); go_simp; (try with_reducible rfl))
          try simp only [Act.put, List.setIfInBounds_toArray, List.set_cons_zero, List.set_cons_succ, List.getElem_toArray, List.getElem_cons_succ, List.getElem_cons_zero]
          refine takeOn (i := 7) (v := ?_) rfl (by kernel_rfl) (by kernel_rfl) (by kernel_rfl) (fun _ _ _ h => h) (by rfl) ?_ (by assumption) ?_
          rotate_left
          focus (intro w hSw; (try dsimp only at hSw); go_simp; (try with_reducible rfl))
          try simp only [Act.put, List.setIfInBounds_toArray, List.set_cons_zero, List.set_cons_succ, List.getElem_toArray, List.getElem_cons_succ, List.getElem_cons_zero]
          refine takeOn (i := 8) (v := ?_) rfl (by kernel_rfl) (by kernel_rfl) (by kernel_rfl) (fun _ _ _ h => h) (by rfl) ?_ (by assumption) ?_
          rotate_left
          focus (intro w hSw; (try dsimp only at hSw); go_simp; (try with_reducible rfl))
          try simp only [Act.put, List.setIfInBounds_toArray, List.set_cons_zero, List.set_cons_succ, List.getElem_toArray, List.getElem_cons_succ, List.getElem_cons_zero]
          refine takeOn (i := 9) (v := ?_) rfl (by kernel_rfl) (by kernel_rfl) (by kernel_rfl) (fun _ _ _ h => h) (by rfl) ?_ (by assumption) ?_
          rotate_left
          focus (intro w hSw; (try dsimp only at hSw); go_simp; (try with_reducible rfl))
          try simp only [Act.put, List.setIfInBounds_toArray, List.set_cons_zero, List.set_cons_succ, List.getElem_toArray, List.getElem_cons_succ, List.getElem_cons_zero]
          refine takeOn (i := 10) (v := ?_) rfl (by kernel_rfl) (by kernel_rfl) (by kernel_rfl) (fun _ _ _ h => h) (by rfl) ?_ (by assumption) ?_
          rotate_left
          focus (intro w hSw; (try dsimp only at hSw); go_simp; (try with_reducible rfl))
          try simp only [Act.put, List.setIfInBounds_toArray, List.set_cons_zero, List.set_cons_succ, List.getElem_toArray, List.getElem_cons_succ, List.getElem_cons_zero]
          refine wpAnyH_ready (rs := [0, 6]) (by kernel_rfl) (by simp) ?_
          refine AllReadyH.cons rfl (fun K hK => ?_) ?_
          focus
            go_simp
            refine hK.out _ _ ?_ (fun hHeld => ?_)
            focus ((try dsimp only); first | with_reducible exact ⟨x0_2, x0_3⟩ | with_reducible exact ⟨cellDr x0_2, cellDr x0_3⟩ | (refine ⟨Bk.cell (T := 29) (xs := [.int .u8 dd, .int .u8 bh, .int .u8 mk, .int .i16 tv]) ?_ 2 rfl, Bk.cell (T := 29) (xs := [.int .u8 dd, .int .u8 bh, .int .u8 mk, .int .i16 tv]) ?_ 3 rfl⟩ <;> ((repeat' (first | with_reducible assumption | with_reducible refine Bk.drew ?_ | with_reducible refine Bk.other3 hla' ?_ | with_reducible refine Bk.other3 hma' ?_)); done)))
            clear hK K
            try simp only [Act.put, List.setIfInBounds_toArray, List.set_cons_zero, List.set_cons_succ, List.getElem_toArray, List.getElem_cons_succ, List.getElem_cons_zero]
            refine wpAnyH_ready (rs := [5, 6]) (by kernel_rfl) (by simp) ?_
            refine AllReadyH.cons rfl (fun K hK => ?_) ?_
            focus
              go_simp
              go_at_call 14
              with_reducible refine (HE.out tv _ rfl ?hk _).mono ?_
              case hk => first | exact HMT.out | exact HM4.out | rfl
              rintro e w9 ⟨rfl, k⟩
              have kk : Keeps (fun i => i = lb ∨ i = mb) W1 w9 := Keeps.trans (by repeat' (first | with_reducible exact Keeps.refl _ _ | with_reducible assumption | with_reducible refine Keeps.drewN ?_ _ | with_reducible refine Keeps.drew ?_ | with_reducible refine Keeps.setCell ?_ ?_ _ | exact Or.inr (Or.inl rfl) | exact Or.inr (Or.inr rfl))) k.no
              have bA : Bk w9 ab 29 [.int .u8 dd, .int .u8 bh, .int .u8 mk, .int .i16 tv] := Bk.kept (by (repeat' (first | with_reducible assumption | with_reducible refine Bk.drew ?_ | with_reducible refine Bk.other3 hla' ?_ | with_reducible refine Bk.other3 hma' ?_))) k
              have bB : Bk w9 lb 25 [.int .i64 u, .int .i64 o, .int .u8 m] := Bk.kept (by (repeat' (first | with_reducible assumption | with_reducible refine Bk.drew ?_ | with_reducible refine Bk.other3 hab ?_ | with_reducible refine Bk.put3 (u0 := .int .i64 u) (u1 := .int .i64 o) (u2 := .int .u8 m) ?_))) k
              have bC : Bk w9 mb 26 [.int .i64 u, .int .i64 o, .int .u8 m] := Bk.kept (by (repeat' (first | with_reducible assumption | with_reducible refine Bk.drew ?_ | with_reducible refine Bk.other3 hab' ?_ | with_reducible refine Bk.put3 (u0 := .int .i64 u) (u1 := .int .i64 o) (u2 := .int .u8 m) ?_))) k
              have x0_2 := bA.cell 2 rfl
              have x0_3 := bA.cell 3 rfl
              have b0 := bB.cell 0 rfl
              have fb0 := bB.free 0
              have c0 := bC.cell 0 rfl
              have fc0 := bC.free 0
              have b1 := bB.cell 1 rfl
              have fb1 := bB.free 1
              have c1 := bC.cell 1 rfl
              have fc1 := bC.free 1
              have b2 := bB.cell 2 rfl
              have fb2 := bB.free 2
              have c2 := bC.cell 2 rfl
              have fc2 := bC.free 2
              clear k
              go_wp2_with fail
              refine hK.out _ _ ?_ (fun hHeld => ?_)
              focus ((try dsimp only); first | with_reducible exact ⟨x0_2, x0_3⟩ | with_reducible exact ⟨cellDr x0_2, cellDr x0_3⟩ | (refine ⟨Bk.cell (T := 29) (xs := [.int .u8 dd, .int .u8 bh, .int .u8 mk, .int .i16 tv]) ?_ 2 rfl, Bk.cell (T := 29) (xs := [.int .u8 dd, .int .u8 bh, .int .u8 mk, .int .i16 tv]) ?_ 3 rfl⟩ <;> ((repeat' (first | with_reducible assumption | with_reducible refine Bk.drew ?_ | with_reducible refine Bk.other3 hla' ?_ | with_reducible refine Bk.other3 hma' ?_)); done)))
              clear hK K
              try simp only [Act.put, List.setIfInBounds_toArray, List.set_cons_zero, List.set_cons_succ, List.getElem_toArray, List.getElem_cons_succ, List.getElem_cons_zero]
              refine wpAnyH_ready (rs := [6]) (by kernel_rfl) (by simp) ?_
              refine AllReadyH.cons rfl (fun K hK => ?_) AllReadyH.nil
              go_simp
              refine hK.out _ _ ?_ (fun hHeld => ?_)
              focus ((try dsimp only); first | with_reducible exact ⟨x0_2, x0_3⟩ | with_reducible exact ⟨cellDr x0_2, cellDr x0_3⟩ | (refine ⟨Bk.cell (T := 29) (xs := [.int .u8 dd, .int .u8 bh, .int .u8 mk, .int .i16 tv]) ?_ 2 rfl, Bk.cell (T := 29) (xs := [.int .u8 dd, .int .u8 bh, .int .u8 mk, .int .i16 tv]) ?_ 3 rfl⟩ <;> ((repeat' (first | with_reducible assumption | with_reducible refine Bk.drew ?_ | with_reducible refine Bk.other3 hla' ?_ | with_reducible refine Bk.other3 hma' ?_)); done)))
              clear hK K
              try simp only [Act.put, List.setIfInBounds_toArray, List.set_cons_zero, List.set_cons_succ, List.getElem_toArray, List.getElem_cons_succ, List.getElem_cons_zero]
              refine wpAnyH_ready (rs := [11]) (by kernel_rfl) (by simp) ?_
              refine AllReadyH.cons rfl (fun K hK => ?_) AllReadyH.nil
              go_simp
              go_at_call 15
              with_reducible refine (HM.out tv _ rfl ?hk _).mono ?_
              case hk => first | exact HMT.out | exact HM4.out | rfl
              rintro e w9 ⟨rfl, k⟩
              have kk : Keeps (fun i => i = lb ∨ i = mb) W1 w9 := Keeps.trans (by repeat' (first | with_reducible exact Keeps.refl _ _ | with_reducible assumption | with_reducible refine Keeps.drewN ?_ _ | with_reducible refine Keeps.drew ?_ | with_reducible refine Keeps.setCell ?_ ?_ _ | exact Or.inr (Or.inl rfl) | exact Or.inr (Or.inr rfl))) k.no
              have bA : Bk w9 ab 29 [.int .u8 dd, .int .u8 bh, .int .u8 mk, .int .i16 tv] := Bk.kept (by (repeat' (first | with_reducible assumption | with_reducible refine Bk.drew ?_ | with_reducible refine Bk.other3 hla' ?_ | with_reducible refine Bk.other3 hma' ?_))) k
              have bB : Bk w9 lb 25 [.int .i64 u, .int .i64 o, .int .u8 m] := Bk.kept (by (repeat' (first | with_reducible assumption | with_reducible refine Bk.drew ?_ | with_reducible refine Bk.other3 hab ?_ | with_reducible refine Bk.put3 (u0 := .int .i64 u) (u1 := .int .i64 o) (u2 := .int .u8 m) ?_))) k
              have bC : Bk w9 mb 26 [.int .i64 u, .int .i64 o, .int .u8 m] := Bk.kept (by (repeat' (first | with_reducible assumption | with_reducible refine Bk.drew ?_ | with_reducible refine Bk.other3 hab' ?_ | with_reducible refine Bk.put3 (u0 := .int .i64 u) (u1 := .int .i64 o) (u2 := .int .u8 m) ?_))) k
              have x0_2 := bA.cell 2 rfl
              have x0_3 := bA.cell 3 rfl
              have b0 := bB.cell 0 rfl
              have fb0 := bB.free 0
              have c0 := bC.cell 0 rfl
              have fc0 := bC.free 0
              have b1 := bB.cell 1 rfl
              have fb1 := bB.free 1
              have c1 := bC.cell 1 rfl
              have fc1 := bC.free 1
              have b2 := bB.cell 2 rfl
              have fb2 := bB.free 2
              have c2 := bC.cell 2 rfl
              have fc2 := bC.free 2
              clear k
              go_wp2_with fail
              refine hK.out _ _ ?_ (fun hHeld => ?_)
              focus ((try dsimp only); first | with_reducible exact ⟨x0_2, x0_3⟩ | with_reducible exact ⟨cellDr x0_2, cellDr x0_3⟩ | (refine ⟨Bk.cell (T := 29) (xs := [.int .u8 dd, .int .u8 bh, .int .u8 mk, .int .i16 tv]) ?_ 2 rfl, Bk.cell (T := 29) (xs := [.int .u8 dd, .int .u8 bh, .int .u8 mk, .int .i16 tv]) ?_ 3 rfl⟩ <;> ((repeat' (first | with_reducible assumption | with_reducible refine Bk.drew ?_ | with_reducible refine Bk.other3 hla' ?_ | with_reducible refine Bk.other3 hma' ?_)); done)))
              clear hK K
              try simp only [Act.put, List.setIfInBounds_toArray, List.set_cons_zero, List.set_cons_succ, List.getElem_toArray, List.getElem_cons_succ, List.getElem_cons_zero]
              refine wpAnyH_ready (rs := [12]) (by kernel_rfl) (by simp) ?_
              refine AllReadyH.cons rfl (fun K hK => ?_) AllReadyH.nil
              go_simp
              refine hK.out _ _ ?_ (fun hHeld => ?_)
              focus ((try dsimp only); first | with_reducible exact ⟨x0_2, x0_3⟩ | with_reducible exact ⟨cellDr x0_2, cellDr x0_3⟩ | (refine ⟨Bk.cell (T := 29) (xs := [.int .u8 dd, .int .u8 bh, .int .u8 mk, .int .i16 tv]) ?_ 2 rfl, Bk.cell (T := 29) (xs := [.int .u8 dd, .int .u8 bh, .int .u8 mk, .int .i16 tv]) ?_ 3 rfl⟩ <;> ((repeat' (first | with_reducible assumption | with_reducible refine Bk.drew ?_ | with_reducible refine Bk.other3 hla' ?_ | with_reducible refine Bk.other3 hma' ?_)); done)))
              clear hK K
              try simp only [Act.put, List.setIfInBounds_toArray, List.set_cons_zero, List.set_cons_succ, List.getElem_toArray, List.getElem_cons_succ, List.getElem_cons_zero]
              refine wpAnyH_ready (rs := [13]) (by kernel_rfl) (by simp) ?_
              refine AllReadyH.cons rfl (fun K hK => ?_) AllReadyH.nil
              go_simp
              refine hK.out _ _ ?_ (fun hHeld => ?_)
              focus ((try dsimp only); first | with_reducible exact ⟨x0_2, x0_3⟩ | with_reducible exact ⟨cellDr x0_2, cellDr x0_3⟩ | (refine ⟨Bk.cell (T := 29) (xs := [.int .u8 dd, .int .u8 bh, .int .u8 mk, .int .i16 tv]) ?_ 2 rfl, Bk.cell (T := 29) (xs := [.int .u8 dd, .int .u8 bh, .int .u8 mk, .int .i16 tv]) ?_ 3 rfl⟩ <;> ((repeat' (first | with_reducible assumption | with_reducible refine Bk.drew ?_ | with_reducible refine Bk.other3 hla' ?_ | with_reducible refine Bk.other3 hma' ?_)); done)))
              clear hK K
              try simp only [Act.put, List.setIfInBounds_toArray, List.set_cons_zero, List.set_cons_succ, List.getElem_toArray, List.getElem_cons_succ, List.getElem_cons_zero]
              refine wpAnyH_done (by kernel_rfl) ?_ _
              go_wp2_with fail
              go_meet
              refine ⟨u1, o1, m1, hid ?_, hid ?_, hid ?_⟩
              focus ((repeat' (first | with_reducible assumption | with_reducible refine Bk.drew ?_ | with_reducible refine Bk.other3 hab ?_ | with_reducible refine Bk.put3 (u0 := .int .i64 u) (u1 := .int .i64 o) (u2 := .int .u8 m) ?_)); done)
              focus ((repeat' (first | with_reducible assumption | with_reducible refine Bk.drew ?_ | with_reducible refine Bk.other3 hab' ?_ | with_reducible refine Bk.put3 (u0 := .int .i64 u) (u1 := .int .i64 o) (u2 := .int .u8 m) ?_)); done)
              exact HK1.out.trans' (show Keeps (fun i => i = lb ∨ i = mb) W1 _ from by repeat' (first | with_reducible exact Keeps.refl _ _ | with_reducible assumption | with_reducible refine Keeps.drewN ?_ _ | with_reducible refine Keeps.drew ?_ | with_reducible refine Keeps.setCell ?_ ?_ _ | exact Or.inr (Or.inl rfl) | exact Or.inr (Or.inr rfl))) (fun _ _ h => h) (fun i hi e => by have := HGB.out; rcases e with e | e <;> omega)
            refine AllReadyH.cons rfl (fun K hK => ?_) AllReadyH.nil
            go_simp
            refine hK.out _ _ ?_ (fun hHeld => ?_)
            focus ((try dsimp only); first | with_reducible exact ⟨x0_2, x0_3⟩ | with_reducible exact ⟨cellDr x0_2, cellDr x0_3⟩ | (refine ⟨Bk.cell (T := 29) (xs := [.int .u8 dd, .int .u8 bh, .int .u8 mk, .int .i16 tv]) ?_ 2 rfl, Bk.cell (T := 29) (xs := [.int .u8 dd, .int .u8 bh, .int .u8 mk, .int .i16 tv]) ?_ 3 rfl⟩ <;> ((repeat' (first | with_reducible assumption | with_reducible refine Bk.drew ?_ | with_reducible refine Bk.other3 hla' ?_ | with_reducible refine Bk.other3 hma' ?_)); done)))
            clear hK K
            try simp only [Act.put, List.setIfInBounds_toArray, List.set_cons_zero, List.set_cons_succ, List.getElem_toArray, List.getElem_cons_succ, List.getElem_cons_zero]
            refine wpAnyH_ready (rs := [5]) (by kernel_rfl) (by simp) ?_
            refine AllReadyH.cons rfl (fun K hK => ?_) AllReadyH.nil
            go_simp
            go_at_call 14
            with_reducible refine (HE.out tv _ rfl ?hk _).mono ?_
            case hk => first | exact HMT.out | exact HM4.out | rfl
            rintro e w9 ⟨rfl, k⟩
            have kk : Keeps (fun i => i = lb ∨ i = mb) W1 w9 := Keeps.trans (by repeat' (first | with_reducible exact Keeps.refl _ _ | with_reducible assumption | with_reducible refine Keeps.drewN ?_ _ | with_reducible refine Keeps.drew ?_ | with_reducible refine Keeps.setCell ?_ ?_ _ | exact Or.inr (Or.inl rfl) | exact Or.inr (Or.inr rfl))) k.no
            have bA : Bk w9 ab 29 [.int .u8 dd, .int .u8 bh, .int .u8 mk, .int .i16 tv] := Bk.kept (by (repeat' (first | with_reducible assumption | with_reducible refine Bk.drew ?_ | with_reducible refine Bk.other3 hla' ?_ | with_reducible refine Bk.other3 hma' ?_))) k
            have bB : Bk w9 lb 25 [.int .i64 u, .int .i64 o, .int .u8 m] := Bk.kept (by (repeat' (first | with_reducible assumption | with_reducible refine Bk.drew ?_ | with_reducible refine Bk.other3 hab ?_ | with_reducible refine Bk.put3 (u0 := .int .i64 u) (u1 := .int .i64 o) (u2 := .int .u8 m) ?_))) k
            have bC : Bk w9 mb 26 [.int .i64 u, .int .i64 o, .int .u8 m] := Bk.kept (by (repeat' (first | with_reducible assumption | with_reducible refine Bk.drew ?_ | with_reducible refine Bk.other3 hab' ?_ | with_reducible refine Bk.put3 (u0 := .int .i64 u) (u1 := .int .i64 o) (u2 := .int .u8 m) ?_))) k
            have x0_2 := bA.cell 2 rfl
            have x0_3 := bA.cell 3 rfl
            have b0 := bB.cell 0 rfl
            have fb0 := bB.free 0
            have c0 := bC.cell 0 rfl
            have fc0 := bC.free 0
            have b1 := bB.cell 1 rfl
            have fb1 := bB.free 1
            have c1 := bC.cell 1 rfl
            have fc1 := bC.free 1
            have b2 := bB.cell 2 rfl
            have fb2 := bB.free 2
            have c2 := bC.cell 2 rfl
            have fc2 := bC.free 2
            clear k
            go_wp2_with fail
            refine hK.out _ _ ?_ (fun hHeld => ?_)
            focus ((try dsimp only); first | with_reducible exact ⟨x0_2, x0_3⟩ | with_reducible exact ⟨cellDr x0_2, cellDr x0_3⟩ | (refine ⟨Bk.cell (T := 29) (xs := [.int .u8 dd, .int .u8 bh, .int .u8 mk, .int .i16 tv]) ?_ 2 rfl, Bk.cell (T := 29) (xs := [.int .u8 dd, .int .u8 bh, .int .u8 mk, .int .i16 tv]) ?_ 3 rfl⟩ <;> ((repeat' (first | with_reducible assumption | with_reducible refine Bk.drew ?_ | with_reducible refine Bk.other3 hla' ?_ | with_reducible refine Bk.other3 hma' ?_)); done)))
            clear hK K
            try simp only [Act.put, List.setIfInBounds_toArray, List.set_cons_zero, List.set_cons_succ, List.getElem_toArray, List.getElem_cons_succ, List.getElem_cons_zero]
            refine wpAnyH_ready (rs := [11]) (by kernel_rfl) (by simp) ?_
            refine AllReadyH.cons rfl (fun K hK => ?_) AllReadyH.nil
            go_simp
            go_at_call 15
            with_reducible refine (HM.out tv _ rfl ?hk _).mono ?_
            case hk => first | exact HMT.out | exact HM4.out | rfl
            rintro e w9 ⟨rfl, k⟩
            have kk : Keeps (fun i => i = lb ∨ i = mb) W1 w9 := Keeps.trans (by repeat' (first | with_reducible exact Keeps.refl _ _ | with_reducible assumption | with_reducible refine Keeps.drewN ?_ _ | with_reducible refine Keeps.drew ?_ | with_reducible refine Keeps.setCell ?_ ?_ _ | exact Or.inr (Or.inl rfl) | exact Or.inr (Or.inr rfl))) k.no
            have bA : Bk w9 ab 29 [.int .u8 dd, .int .u8 bh, .int .u8 mk, .int .i16 tv] := Bk.kept (by (repeat' (first | with_reducible assumption | with_reducible refine Bk.drew ?_ | with_reducible refine Bk.other3 hla' ?_ | with_reducible refine Bk.other3 hma' ?_))) k
            have bB : Bk w9 lb 25 [.int .i64 u, .int .i64 o, .int .u8 m] := Bk.kept (by (repeat' (first | with_reducible assumption | with_reducible refine Bk.drew ?_ | with_reducible refine Bk.other3 hab ?_ | with_reducible refine Bk.put3 (u0 := .int .i64 u) (u1 := .int .i64 o) (u2 := .int .u8 m) ?_))) k
            have bC : Bk w9 mb 26 [.int .i64 u, .int .i64 o, .int .u8 m] := Bk.kept (by (repeat' (first | with_reducible assumption | with_reducible refine Bk.drew ?_ | with_reducible refine Bk.other3 hab' ?_ | with_reducible refine Bk.put3 (u0 := .int .i64 u) (u1 := .int .i64 o) (u2 := .int .u8 m) ?_))) k
            have x0_2 := bA.cell 2 rfl
            have x0_3 := bA.cell 3 rfl
            have b0 := bB.cell 0 rfl
            have fb0 := bB.free 0
            have c0 := bC.cell 0 rfl
            have fc0 := bC.free 0
            have b1 := bB.cell 1 rfl
            have fb1 := bB.free 1
            have c1 := bC.cell 1 rfl
            have fc1 := bC.free 1
            have b2 := bB.cell 2 rfl
            have fb2 := bB.free 2
            have c2 := bC.cell 2 rfl
            have fc2 := bC.free 2
            clear k
            go_wp2_with fail
            refine hK.out _ _ ?_ (fun hHeld => ?_)
            focus ((try dsimp only); first | with_reducible exact ⟨x0_2, x0_3⟩ | with_reducible exact ⟨cellDr x0_2, cellDr x0_3⟩ | (refine ⟨Bk.cell (T := 29) (xs := [.int .u8 dd, .int .u8 bh, .int .u8 mk, .int .i16 tv]) ?_ 2 rfl, Bk.cell (T := 29) (xs := [.int .u8 dd, .int .u8 bh, .int .u8 mk, .int .i16 tv]) ?_ 3 rfl⟩ <;> ((repeat' (first | with_reducible assumption | with_reducible refine Bk.drew ?_ | with_reducible refine Bk.other3 hla' ?_ | with_reducible refine Bk.other3 hma' ?_)); done)))
            clear hK K
            try simp only [Act.put, List.setIfInBounds_toArray, List.set_cons_zero, List.set_cons_succ, List.getElem_toArray, List.getElem_cons_succ, List.getElem_cons_zero]
            refine wpAnyH_ready (rs := [12]) (by kernel_rfl) (by simp) ?_
            refine AllReadyH.cons rfl (fun K hK => ?_) AllReadyH.nil
            go_simp
            refine hK.out _ _ ?_ (fun hHeld => ?_)
            focus ((try dsimp only); first | with_reducible exact ⟨x0_2, x0_3⟩ | with_reducible exact ⟨cellDr x0_2, cellDr x0_3⟩ | (refine ⟨Bk.cell (T := 29) (xs := [.int .u8 dd, .int .u8 bh, .int .u8 mk, .int .i16 tv]) ?_ 2 rfl, Bk.cell (T := 29) (xs := [.int .u8 dd, .int .u8 bh, .int .u8 mk, .int .i16 tv]) ?_ 3 rfl⟩ <;> ((repeat' (first | with_reducible assumption | with_reducible refine Bk.drew ?_ | with_reducible refine Bk.other3 hla' ?_ | with_reducible refine Bk.other3 hma' ?_)); done)))
            clear hK K
            try simp only [Act.put, List.setIfInBounds_toArray, List.set_cons_zero, List.set_cons_succ, List.getElem_toArray, List.getElem_cons_succ, List.getElem_cons_zero]
            refine wpAnyH_ready (rs := [13]) (by kernel_rfl) (by simp) ?_
            refine AllReadyH.cons rfl (fun K hK => ?_) AllReadyH.nil
            go_simp
            refine hK.out _ _ ?_ (fun hHeld => ?_)
            focus ((try dsimp only); first | with_reducible exact ⟨x0_2, x0_3⟩ | with_reducible exact ⟨cellDr x0_2, cellDr x0_3⟩ | (refine ⟨Bk.cell (T := 29) (xs := [.int .u8 dd, .int .u8 bh, .int .u8 mk, .int .i16 tv]) ?_ 2 rfl, Bk.cell (T := 29) (xs := [.int .u8 dd, .int .u8 bh, .int .u8 mk, .int .i16 tv]) ?_ 3 rfl⟩ <;> ((repeat' (first | with_reducible assumption | with_reducible refine Bk.drew ?_ | with_reducible refine Bk.other3 hla' ?_ | with_reducible refine Bk.other3 hma' ?_)); done)))
            clear hK K
            try simp only [Act.put, List.setIfInBounds_toArray, List.set_cons_zero, List.set_cons_succ, List.getElem_toArray, List.getElem_cons_succ, List.getElem_cons_zero]
            refine wpAnyH_done (by kernel_rfl) ?_ _
            go_wp2_with fail
            go_meet
            refine ⟨u1, o1, m1, hid ?_, hid ?_, hid ?_⟩
            focus ((repeat' (first | with_reducible assumption | with_reducible refine Bk.drew ?_ | with_reducible refine Bk.other3 hab ?_ | with_reducible refine Bk.put3 (u0 := .int .i64 u) (u1 := .int .i64 o) (u2 := .int .u8 m) ?_)); done)
            focus ((repeat' (first | with_reducible assumption | with_reducible refine Bk.drew ?_ | with_reducible refine Bk.other3 hab' ?_ | with_reducible refine Bk.put3 (u0 := .int .i64 u) (u1 := .int .i64 o) (u2 := .int .u8 m) ?_)); done)
            exact HK1.out.trans' (show Keeps (fun i => i = lb ∨ i = mb) W1 _ from by repeat' (first | with_reducible exact Keeps.refl _ _ | with_reducible assumption | with_reducible refine Keeps.drewN ?_ _ | with_reducible refine Keeps.drew ?_ | with_reducible refine Keeps.setCell ?_ ?_ _ | exact Or.inr (Or.inl rfl) | exact Or.inr (Or.inr rfl))) (fun _ _ h => h) (fun i hi e => by have := HGB.out; rcases e with e | e <;> omega)
          refine AllReadyH.cons rfl (fun K hK => ?_) AllReadyH.nil
          go_simp
          refine hK.out _ _ ?_ (fun hHeld => ?_)
          focus ((try dsimp only); first | with_reducible exact ⟨x0_2, x0_3⟩ | with_reducible exact ⟨cellDr x0_2, cellDr x0_3⟩ | (refine ⟨Bk.cell (T := 29) (xs := [.int .u8 dd, .int .u8 bh, .int .u8 mk, .int .i16 tv]) ?_ 2 rfl, Bk.cell (T := 29) (xs := [.int .u8 dd, .int .u8 bh, .int .u8 mk, .int .i16 tv]) ?_ 3 rfl⟩ <;> ((repeat' (first | with_reducible assumption | with_reducible refine Bk.drew ?_ | with_reducible refine Bk.other3 hla' ?_ | with_reducible refine Bk.other3 hma' ?_)); done)))
          clear hK K
          try simp only [Act.put, List.setIfInBounds_toArray, List.set_cons_zero, List.set_cons_succ, List.getElem_toArray, List.getElem_cons_succ, List.getElem_cons_zero]
          refine wpAnyH_ready (rs := [0]) (by kernel_rfl) (by simp) ?_
          refine AllReadyH.cons rfl (fun K hK => ?_) AllReadyH.nil
          go_simp
          refine hK.out _ _ ?_ (fun hHeld => ?_)
          focus ((try dsimp only); first | with_reducible exact ⟨x0_2, x0_3⟩ | with_reducible exact ⟨cellDr x0_2, cellDr x0_3⟩ | (refine ⟨Bk.cell (T := 29) (xs := [.int .u8 dd, .int .u8 bh, .int .u8 mk, .int .i16 tv]) ?_ 2 rfl, Bk.cell (T := 29) (xs := [.int .u8 dd, .int .u8 bh, .int .u8 mk, .int .i16 tv]) ?_ 3 rfl⟩ <;> ((repeat' (first | with_reducible assumption | with_reducible refine Bk.drew ?_ | with_reducible refine Bk.other3 hla' ?_ | with_reducible refine Bk.other3 hma' ?_)); done)))
          clear hK K
          try simp only [Act.put, List.setIfInBounds_toArray, List.set_cons_zero, List.set_cons_succ, List.getElem_toArray, List.getElem_cons_succ, List.getElem_cons_zero]
          refine wpAnyH_ready (rs := [5]) (by kernel_rfl) (by simp) ?_
          refine AllReadyH.cons rfl (fun K hK => ?_) AllReadyH.nil
          go_simp
          go_at_call 14
          with_reducible refine (HE.out tv _ rfl ?hk _).mono ?_
          case hk => first | exact HMT.out | exact HM4.out | rfl
          rintro e w9 ⟨rfl, k⟩
          have kk : Keeps (fun i => i = lb ∨ i = mb) W1 w9 := Keeps.trans (by repeat' (first | with_reducible exact Keeps.refl _ _ | with_reducible assumption | with_reducible refine Keeps.drewN ?_ _ | with_reducible refine Keeps.drew ?_ | with_reducible refine Keeps.setCell ?_ ?_ _ | exact Or.inr (Or.inl rfl) | exact Or.inr (Or.inr rfl))) k.no
          have bA : Bk w9 ab 29 [.int .u8 dd, .int .u8 bh, .int .u8 mk, .int .i16 tv] := Bk.kept (by (repeat' (first | with_reducible assumption | with_reducible refine Bk.drew ?_ | with_reducible refine Bk.other3 hla' ?_ | with_reducible refine Bk.other3 hma' ?_))) k
          have bB : Bk w9 lb 25 [.int .i64 u, .int .i64 o, .int .u8 m] := Bk.kept (by (repeat' (first | with_reducible assumption | with_reducible refine Bk.drew ?_ | with_reducible refine Bk.other3 hab ?_ | with_reducible refine Bk.put3 (u0 := .int .i64 u) (u1 := .int .i64 o) (u2 := .int .u8 m) ?_))) k
          have bC : Bk w9 mb 26 [.int .i64 u, .int .i64 o, .int .u8 m] := Bk.kept (by (repeat' (first | with_reducible assumption | with_reducible refine Bk.drew ?_ | with_reducible refine Bk.other3 hab' ?_ | with_reducible refine Bk.put3 (u0 := .int .i64 u) (u1 := .int .i64 o) (u2 := .int .u8 m) ?_))) k
          have x0_2 := bA.cell 2 rfl
          have x0_3 := bA.cell 3 rfl
          have b0 := bB.cell 0 rfl
          have fb0 := bB.free 0
          have c0 := bC.cell 0 rfl
          have fc0 := bC.free 0
          have b1 := bB.cell 1 rfl
          have fb1 := bB.free 1
          have c1 := bC.cell 1 rfl
          have fc1 := bC.free 1
          have b2 := bB.cell 2 rfl
          have fb2 := bB.free 2
          have c2 := bC.cell 2 rfl
          have fc2 := bC.free 2
          clear k
          go_wp2_with fail
          refine hK.out _ _ ?_ (fun hHeld => ?_)
          focus ((try dsimp only); first | with_reducible exact ⟨x0_2, x0_3⟩ | with_reducible exact ⟨cellDr x0_2, cellDr x0_3⟩ | (refine ⟨Bk.cell (T := 29) (xs := [.int .u8 dd, .int .u8 bh, .int .u8 mk, .int .i16 tv]) ?_ 2 rfl, Bk.cell (T := 29) (xs := [.int .u8 dd, .int .u8 bh, .int .u8 mk, .int .i16 tv]) ?_ 3 rfl⟩ <;> ((repeat' (first | with_reducible assumption | with_reducible refine Bk.drew ?_ | with_reducible refine Bk.other3 hla' ?_ | with_reducible refine Bk.other3 hma' ?_)); done)))
          clear hK K
          try simp only [Act.put, List.setIfInBounds_toArray, List.set_cons_zero, List.set_cons_succ, List.getElem_toArray, List.getElem_cons_succ, List.getElem_cons_zero]
          refine wpAnyH_ready (rs := [11]) (by kernel_rfl) (by simp) ?_
          refine AllReadyH.cons rfl (fun K hK => ?_) AllReadyH.nil
          go_simp
          go_at_call 15
          with_reducible refine (HM.out tv _ rfl ?hk _).mono ?_
          case hk => first | exact HMT.out | exact HM4.out | rfl
          rintro e w9 ⟨rfl, k⟩
          have kk : Keeps (fun i => i = lb ∨ i = mb) W1 w9 := Keeps.trans (by repeat' (first | with_reducible exact Keeps.refl _ _ | with_reducible assumption | with_reducible refine Keeps.drewN ?_ _ | with_reducible refine Keeps.drew ?_ | with_reducible refine Keeps.setCell ?_ ?_ _ | exact Or.inr (Or.inl rfl) | exact Or.inr (Or.inr rfl))) k.no
          have bA : Bk w9 ab 29 [.int .u8 dd, .int .u8 bh, .int .u8 mk, .int .i16 tv] := Bk.kept (by (repeat' (first | with_reducible assumption | with_reducible refine Bk.drew ?_ | with_reducible refine Bk.other3 hla' ?_ | with_reducible refine Bk.other3 hma' ?_))) k
          have bB : Bk w9 lb 25 [.int .i64 u, .int .i64 o, .int .u8 m] := Bk.kept (by (repeat' (first | with_reducible assumption | with_reducible refine Bk.drew ?_ | with_reducible refine Bk.other3 hab ?_ | with_reducible refine Bk.put3 (u0 := .int .i64 u) (u1 := .int .i64 o) (u2 := .int .u8 m) ?_))) k
          have bC : Bk w9 mb 26 [.int .i64 u, .int .i64 o, .int .u8 m] := Bk.kept (by (repeat' (first | with_reducible assumption | with_reducible refine Bk.drew ?_ | with_reducible refine Bk.other3 hab' ?_ | with_reducible refine Bk.put3 (u0 := .int .i64 u) (u1 := .int .i64 o) (u2 := .int .u8 m) ?_))) k
          have x0_2 := bA.cell 2 rfl
          have x0_3 := bA.cell 3 rfl
          have b0 := bB.cell 0 rfl
          have fb0 := bB.free 0
          have c0 := bC.cell 0 rfl
          have fc0 := bC.free 0
          have b1 := bB.cell 1 rfl
          have fb1 := bB.free 1
          have c1 := bC.cell 1 rfl
          have fc1 := bC.free 1
          have b2 := bB.cell 2 rfl
          have fb2 := bB.free 2
          have c2 := bC.cell 2 rfl
          have fc2 := bC.free 2
          clear k
          go_wp2_with fail
          refine hK.out _ _ ?_ (fun hHeld => ?_)
          focus ((try dsimp only); first | with_reducible exact ⟨x0_2, x0_3⟩ | with_reducible exact ⟨cellDr x0_2, cellDr x0_3⟩ | (refine ⟨Bk.cell (T := 29) (xs := [.int .u8 dd, .int .u8 bh, .int .u8 mk, .int .i16 tv]) ?_ 2 rfl, Bk.cell (T := 29) (xs := [.int .u8 dd, .int .u8 bh, .int .u8 mk, .int .i16 tv]) ?_ 3 rfl⟩ <;> ((repeat' (first | with_reducible assumption | with_reducible refine Bk.drew ?_ | with_reducible refine Bk.other3 hla' ?_ | with_reducible refine Bk.other3 hma' ?_)); done)))
          clear hK K
          try simp only [Act.put, List.setIfInBounds_toArray, List.set_cons_zero, List.set_cons_succ, List.getElem_toArray, List.getElem_cons_succ, List.getElem_cons_zero]
          refine wpAnyH_ready (rs := [12]) (by kernel_rfl) (by simp) ?_
          refine AllReadyH.cons rfl (fun K hK => ?_) AllReadyH.nil
          go_simp
          refine hK.out _ _ ?_ (fun hHeld => ?_)
          focus ((try dsimp only); first | with_reducible exact ⟨x0_2, x0_3⟩ | with_reducible exact ⟨cellDr x0_2, cellDr x0_3⟩ | (refine ⟨Bk.cell (T := 29) (xs := [.int .u8 dd, .int .u8 bh, .int .u8 mk, .int .i16 tv]) ?_ 2 rfl, Bk.cell (T := 29) (xs := [.int .u8 dd, .int .u8 bh, .int .u8 mk, .int .i16 tv]) ?_ 3 rfl⟩ <;> ((repeat' (first | with_reducible assumption | with_reducible refine Bk.drew ?_ | with_reducible refine Bk.other3 hla' ?_ | with_reducible refine Bk.other3 hma' ?_)); done)))
          clear hK K
          try simp only [Act.put, List.setIfInBounds_toArray, List.set_cons_zero, List.set_cons_succ, List.getElem_toArray, List.getElem_cons_succ, List.getElem_cons_zero]
          refine wpAnyH_ready (rs := [13]) (by kernel_rfl) (by simp) ?_
          refine AllReadyH.cons rfl (fun K hK => ?_) AllReadyH.nil
          go_simp
          refine hK.out _ _ ?_ (fun hHeld => ?_)
          focus ((try dsimp only); first | with_reducible exact ⟨x0_2, x0_3⟩ | with_reducible exact ⟨cellDr x0_2, cellDr x0_3⟩ | (refine ⟨Bk.cell (T := 29) (xs := [.int .u8 dd, .int .u8 bh, .int .u8 mk, .int .i16 tv]) ?_ 2 rfl, Bk.cell (T := 29) (xs := [.int .u8 dd, .int .u8 bh, .int .u8 mk, .int .i16 tv]) ?_ 3 rfl⟩ <;> ((repeat' (first | with_reducible assumption | with_reducible refine Bk.drew ?_ | with_reducible refine Bk.other3 hla' ?_ | with_reducible refine Bk.other3 hma' ?_)); done)))
          clear hK K
          try simp only [Act.put, List.setIfInBounds_toArray, List.set_cons_zero, List.set_cons_succ, List.getElem_toArray, List.getElem_cons_succ, List.getElem_cons_zero]
          refine wpAnyH_done (by kernel_rfl) ?_ _
          go_wp2_with fail
          go_meet
          refine ⟨u1, o1, m1, hid ?_, hid ?_, hid ?_⟩
          focus ((repeat' (first | with_reducible assumption | with_reducible refine Bk.drew ?_ | with_reducible refine Bk.other3 hab ?_ | with_reducible refine Bk.put3 (u0 := .int .i64 u) (u1 := .int .i64 o) (u2 := .int .u8 m) ?_)); done)
          focus ((repeat' (first | with_reducible assumption | with_reducible refine Bk.drew ?_ | with_reducible refine Bk.other3 hab' ?_ | with_reducible refine Bk.put3 (u0 := .int .i64 u) (u1 := .int .i64 o) (u2 := .int .u8 m) ?_)); done)
          exact HK1.out.trans' (show Keeps (fun i => i = lb ∨ i = mb) W1 _ from by repeat' (first | with_reducible exact Keeps.refl _ _ | with_reducible assumption | with_reducible refine Keeps.drewN ?_ _ | with_reducible refine Keeps.drew ?_ | with_reducible refine Keeps.setCell ?_ ?_ _ | exact Or.inr (Or.inl rfl) | exact Or.inr (Or.inr rfl))) (fun _ _ h => h) (fun i hi e => by have := HGB.out; rcases e with e | e <;> omega)
      case rest =>
      clear HB1 HC1 HK1 HA1 x0_2 x0_3
      obtain ⟨u, o, m, HB, HC, HK⟩ := hcut
      obtain ⟨w5, rfl⟩ : ∃ y, y = wc := ⟨_, rfl⟩
      have x0 := HB.out.cell 0 rfl
      have y0 := HC.out.cell 0 rfl
      have x1 := HB.out.cell 1 rfl
      have y1 := HC.out.cell 1 rfl
      have x2 := HB.out.cell 2 rfl
      have y2 := HC.out.cell 2 rfl
      go_wp2_with fail
      refine (same17_any u o m _ _).mono ?_
      rintro e w6 ⟨rfl, k⟩
      have HB6 := hid (HB.out.kept k)
      have HC6 := hid (HC.out.kept k)
      have HK6 := hid (HK.out.trans k)
      clear k x0 y0 x1 y1 x2 y2
      have x0 := HB6.out.cell 0 rfl
      have y0 := HC6.out.cell 0 rfl
      have x1 := HB6.out.cell 1 rfl
      have y1 := HC6.out.cell 1 rfl
      have x2 := HB6.out.cell 2 rfl
      have y2 := HC6.out.cell 2 rfl
      go_wp2_with fail
      refine (same17_any u o m _ _).mono ?_
      rintro e w7 ⟨rfl, k⟩
      have HB7 := hid (HB6.out.kept k)
      have HC7 := hid (HC6.out.kept k)
      have HK7 := hid (HK6.out.trans k)
      clear k x0 y0 x1 y1 x2 y2
      go_wp2_with fail
      go_roundw
      case rel => exact ⟨i + 1, nw, u, o, m, by omega, by omega, by omega, by go_num, rfl, HB7, HC7, HK7⟩
      case measure => simp [intOf]; omega
    · obtain rfl : i = N := by omega
      go_wp2_with fail
      go_ret
      exact ⟨rfl, HK.out.toBelow⟩

theorem own : ownKnob Try.prog.godebug = none := by kernel_rfl
theorem laidOut : laidOutB Try.prog = true := by kernel_rfl
set_option maxRecDepth 100000 in
theorem lifted (os : Os) (started : os.Started) (H : Type) (enc : TypeId × Value → H) :
    ReturnsInHanded {} Try.checked os 3 .any (Rows.hushPlaysSpec.pre6 enc Try.prog Try.f3 Rows.hushPlaysRow.domain false) (Rows.hushPlaysSpec.post enc Try.prog Try.f3 false true false false) := by
  refine returnsInHanded_of_change (C := Try.checked) own started (by kernel_rfl) Try.func3
    (ChangeSpec.witness6 (enc := enc) (C := Try.checked) false ⟨#[], #[.slice none 0 0, .int .u8 0], []⟩ 8 (by kernel_rfl) (by kernel_rfl) (by kernel_rfl) (by kernel_rfl)) ?_
  intro W base args ds gs before hval0 hW hcnd _
  have hval : ∀ (j : Nat) t v, Try.f3.params[j]? = some t → args[j]? = some v → Value.okWide Try.prog W .any base t v := hval0
  have hW' := hW
  obtain ⟨p, q, hA0, hV, rfl, hfz, hnd⟩ := hW
  have hA : DataW.TrodAll enc Try.prog W 0 (fun _ => true) true Try.f3.params.toList args.toList ds p := hA0
  rw [Try.params3] at hA hval
  obtain ⟨v0, vs0, d0, ds0, p0, q0, hargs, rfl, rfl, h0, r0⟩ := trodAll_cons hA
  obtain ⟨v1, vs1, d1, ds1, p1, q1, rfl, rfl, rfl, h1, r1⟩ := trodAll_cons r0
  obtain ⟨rfl, rfl, rfl⟩ := trodAll_nil r1
  obtain rfl : args = #[v0, v1] := by cases args; simp_all
  obtain ⟨rfl, rfl⟩ := trodVars_none hV
  have k0 := h0
  have lt0 : ∀ x ∈ p0, x.block < W.heap.size := by obtain ⟨m, hm⟩ := k0; exact DataW.trod_lt m _ _ _ hm
  have k1 := h1
  have lt1 : ∀ x ∈ p1, x.block < W.heap.size := by obtain ⟨m, hm⟩ := k1; exact DataW.trod_lt m _ _ _ hm
  obtain ⟨s0, len0, cap0, rfl⟩ := okWide_slice Try.underlying22 (hval 0 22 v0 rfl rfl)
  obtain ⟨l0, rfl, w0, b0⟩ := argSlice (encE := encActH) (good := goodActH) (size := 4) (fun _ => rfl) (by decide) Try.underlying22 (by kernel_rfl) (fun n cs x hx => decAct17 hx) h0
  obtain ⟨a1, rfl, rfl, rfl, w1⟩ := open_int Try.underlying5 (hval 1 5 v1 rfl rfl) h1
  clear hA0 hval0
  refine (walk W s0 cap0 l0 w0 b0 a1 w1).mono fun e W' ⟨he, bel⟩ => ?_
  subst he
  exact ⟨_, rfl, _, _, _, [], _, [], hW', trodAll_mk1 (shut_bool Try.underlying4 _), (trodAll_cons_mk (Below.trod laidOut (by kernel_rfl) (of_decide_eq_true (by kernel_rfl)) k0 bel lt0) (trodAll_cons_mk (Below.trod laidOut (by kernel_rfl) (of_decide_eq_true (by kernel_rfl)) k1 bel lt1) trodAll_mk0)), rfl, bel.frame _, fun h => by cases h⟩

theorem over : Rows.hushPlaysRow.holds Try.pinned (OpenSpec.ofChange Rows.hushPlaysSpec) :=
  OpenClaim.holds_of_wide 3 Try.f3 rfl rfl rfl rfl rfl rfl rfl ⟨rfl, rfl, rfl, rfl, rfl⟩ rfl rfl rfl rfl rfl (by kernel_rfl) Try.func3 (by kernel_rfl)
    (of_decide_eq_true (by kernel_rfl)) (by unfold Func.isWrapper; first | (rw [if_pos (by decide +kernel)]; kernel_rfl) | (rw [if_neg (by decide +kernel)]; exact ⟨rfl, rfl⟩))
    (fun os started H enc _ => lifted os started H enc)

theorem proved : Rows.HushPlaysSaid := over
#print axioms proved
end Go.Proofs.Ytgdkpnfonnafaaa.hushPlays
