/- Whatever is put into a queue and taken, it answers as the document says, and who waits is as the document says. No conditions. -/
import Derived.Test.YtmmgkcimobkbbabRows
import Derived.Test.YtmmgkcimobkbbabArgs
import Derived.Test.YtmmgkcimobkbbabArgs2
import Derived.Test.YtmmgkcimobkbbabM9
import Derived.ProofKit
import Derived.OpenShut
import Derived.Deep.DeepCutAuto
import Derived.Deep.CutBlock
import Derived.Deep.RegionHeld3
namespace Go.Proofs.Ytmmgkcimobkbbab.bandPlays
open Go.ChangeShapes Go.WideShapes Go.ChangeAt Go.RowKit
open Go.ChangeMaps (open_string shut_string)
set_option linter.unusedVariables false

/-- An act's cells: whether it is taken, the priority, the event. -/
def encAct (y : Bool × Int × Ev) : List Value := [.bool y.1, .int .u8 y.2.1, .int .i64 y.2.2.rule, .bool y.2.2.on, .int .i64 y.2.2.at_]
def goodAct (y : Bool × Int × Ev) : Prop := 0 ≤ y.2.1 ∧ y.2.1 ≤ 255

set_option maxRecDepth 100000 in
theorem decAct {H : Type} {enc : TypeId × Value → H} {W : World} {n : Nat} {cs : List Value} {x} (h : DataW.trod enc Try.prog W 0 (fun _ => true) true n 33 cs = some x) : ∃ y : Bool × Int × Ev, cs = encAct y ∧ goodAct y := by
  obtain ⟨y0, y1, y2, m, hl, h0, h1, h2⟩ := trod_struct3 Try.underlying33 h
  rw [show Try.prog.cellsOf 33 = 5 by kernel_rfl] at hl
  match cs, hl with
  | [c0, c1, c2, c3, c4], _ =>
    dsimp only at h0 h1 h2
    rw [show Try.prog.cellsOf 4 = 1 by kernel_rfl] at h0
    rw [show Try.prog.cellsOf 5 = 1 by kernel_rfl] at h1
    rw [show Try.prog.cellsOf 31 = 3 by kernel_rfl] at h2
    obtain ⟨b, e0, _⟩ := DataW.trod_bool Try.underlying4 h0
    obtain ⟨a, e1, _, w1⟩ := DataW.trod_int Try.underlying5 h1
    obtain ⟨z0, z1, z2, n, hl2, g0, g1, g2⟩ := trod_struct3 Try.underlying31 h2
    dsimp only at g0 g1 g2
    rw [show Try.prog.cellsOf 3 = 1 by kernel_rfl] at g0
    rw [show Try.prog.cellsOf 4 = 1 by kernel_rfl] at g1
    rw [show Try.prog.cellsOf 2 = 1 by kernel_rfl] at g2
    obtain ⟨r, e2, _, _⟩ := DataW.trod_int Try.underlying3 g0
    obtain ⟨o, e3, _⟩ := DataW.trod_bool Try.underlying4 g1
    obtain ⟨t, e4, _, _⟩ := DataW.trod_int Try.underlying2 g2
    simp at e0 e1 e2 e3 e4
    obtain ⟨h0, h1⟩ := bounds_u8 w1
    exact ⟨(b, a, ⟨r, o, t⟩), by simp [e0, e1, e2, e3, e4, encAct], h0, h1⟩

set_option maxHeartbeats 8000000 in
set_option maxRecDepth 100000 in
theorem walk (w : World) (a b c : Int) (wa : (Lit.int .i64 a).wf = true) (wb : (Lit.int .i64 b).wf = true) (wc : (Lit.int .i64 c).wf = true) (s : Option Addr) (cap : Nat) (l : List (Bool × Int × Ev)) (hs : Sl w 5 (.slice s l.length cap) l.length (l.flatMap encAct)) (hb : ∀ y ∈ l, goodAct y) :
    Calls Try.prog 3 #[.agg #[.int .i64 a, .int .i64 b, .int .i64 c], .slice s l.length cap] w fun e w' => e = .returned (.bool true) ∧ Below w.heap.size w w' := by
  have HS := hid hs
  have HG := hid hb
  clear hs hb wa wb wc
  by_cases hl : 100 < l.length
  · have hd : decide ((l.length : Int) > 100) = true := decide_eq_true (by omega)
    go_enter Try.func3, Try.ntmps3
    go_wp2_with fail
    with_reducible refine (first_true _).mono ?_
    rintro e w1 ⟨rfl, k1⟩
    have K1 := hid k1
    clear k1
    go_wp2_with fail
    with_reducible refine (first_true _).mono ?_
    rintro e w2 ⟨rfl, k2⟩
    have K2 := hid k2
    clear k2
    go_wp2_with fail
    go_ret
    exact ⟨rfl, ((((Keeps.refl No w).alloc _).trans K1.out).trans K2.out).toBelow⟩
  · have hd : decide ((l.length : Int) > 100) = false := decide_eq_false (by omega)
    go_enter Try.func3, Try.ntmps3
    go_wp2_with fail
    with_reducible refine (first_true _).mono ?_
    rintro e w1 ⟨rfl, k1⟩
    have hrb := k1.heap (fun h => h) (heap_alloc_new w (.cells #[.int .i64 a, .int .i64 b, .int .i64 c] 22))
    have K1 := hid (((Keeps.refl No w).alloc _).trans k1)
    have x0 := cell_at (i := 0) hrb rfl
    have x1 := cell_at (i := 1) hrb rfl
    have x2 := cell_at (i := 2) hrb rfl
    have HRB := hid hrb
    have hlt1 : w.heap.size < w1.heap.size := lt_of_block hrb
    have hne1 : ¬ w.heap.size = w1.heap.size := by omega
    have hne2 : ¬ w1.heap.size = w.heap.size := by omega
    simp at x0 x1 x2
    clear k1 hrb
    go_wp2_with fail
    go_cut [5, 6] (fun v5 v6 wx => ∃ (qb mb : Nat) (F : Nat → Prop), v5 = .pointer (some ⟨qb, 0, none⟩) ∧ v6 = .pointer (some ⟨mb, 0, none⟩) ∧ Hid (BothQ w wx qb mb a b c F (fun _ => []) (.slice none 0 0) []))
    case first =>
      go_region_held3 (fun w' => w'.cell? ⟨w.heap.size, 0, none⟩ = some (.int .i64 a) ∧ w'.cell? ⟨w.heap.size, 1, none⟩ = some (.int .i64 b) ∧ w'.cell? ⟨w.heap.size, 2, none⟩ = some (.int .i64 c)) (first | exact ⟨y0, y1, y2⟩ | go_keep) ((go_at_call 7; refine (qnew_any a b c _).mono ?_; rintro e w2 ⟨qb, rfl, F, hq, hf, hk⟩; have hrb := hk.heap (fun h => h) (by first | exact HRB.out | exact heapA _ HRB.out); have y0 := cell_at (i := 0) hrb rfl; have y1 := cell_at (i := 1) hrb rfl; have y2 := cell_at (i := 2) hrb rfl; simp at y0 y1 y2; have HQ := hid hq; have HF := hid hf; have HK := hid hk; have hlt2 : w.heap.size < w2.heap.size := lt_of_block hrb; have hne3 : ¬ w.heap.size = w2.heap.size := (by omega); have hne4 : ¬ w2.heap.size = w.heap.size := (by omega); (first | (have hm := hk.heap (fun h => h) (heap_alloc_new w1.drew (.cells #[.int .i64 0, .int .i64 0, .int .i64 0, .slice none 0 0] 29)); have m0 := cell_at (i := 0) hm rfl; have m1 := cell_at (i := 1) hm rfl; have m2 := cell_at (i := 2) hm rfl; have m3 := cell_at (i := 3) hm rfl; have u0 := free_at (i := 0) hm; have u1 := free_at (i := 1) hm; have u2 := free_at (i := 2) hm; have u3 := free_at (i := 3) hm; simp at m0 m1 m2 m3 u0 u1 u2 u3; have HM := hid hm; clear hm) | skip); clear hq hf hk hrb))
      all_goals
        go_wp2_with fail
        go_meet
        have hq := HQ.out
        have hf := HF.out
        have hk := HK.out
        simp at hf
        have hk1 := K1.out
        have hz1 := hk1.size
        have hz2 := hk.size
        simp at hz2
        first
          | exact ⟨qb, _, F, rfl, rfl, hid ⟨QueueE.keep hq (S := No) ((Keeps.refl _ _).alloc _) (fun _ _ h => h), heap_alloc_new w2 _, Sl.nil _ _, fun h => by simp at h, fun p _ _ => rfl, fun x hx => by simp at hx, fun p _ _ => by simp [bandL], fun hf' => by have := hq.lt hf'; omega, by omega, fun i hi => by have := hf i hi; omega, (hk1.trans (((Keeps.refl No _).drew).trans hk)).alloc _⟩⟩
          | (have hvar : w2.heap[w1.heap.size]? = _ := HM.out
             refine ⟨qb, _, F, rfl, rfl, hid ⟨QueueE.keep hq (S := fun k => k = w1.heap.size) (by repeat' (first | with_reducible exact Keeps.refl _ _ | with_reducible refine Keeps.setCell ?_ ?_ _ | exact Or.inr rfl)) (fun i hi e => by have := hf i hi; omega), by simp [World.setCell, Array.getElem?_modify, hvar], Sl.nil _ _, fun h => by simp at h, fun p _ _ => rfl, fun x hx => by simp at hx, fun p _ _ => by simp [bandL], fun hf' => by have := hf _ hf'; omega, by omega, fun i hi => by have := hf i hi; omega, ?_⟩⟩
             exact (hk1.trans ((((Keeps.refl No _).drew).alloc _).trans hk)).trans' (S' := fun k => k = w1.heap.size) (by repeat' (first | with_reducible exact Keeps.refl _ _ | with_reducible refine Keeps.setCell ?_ ?_ _ | exact Or.inr rfl)) (fun _ _ h => h) (fun i hi e => by omega))
    case rest =>
      obtain ⟨qb, mb, F, rfl, rfl, HB0⟩ := hcut
      clear x0 x1 x2 hne1 hne2 hlt1
      go_wp2_with fail
      go_loopw [7] (fun v7 wr => ∃ (k : Nat) (F : Nat → Prop) (L : Nat → List Ev) (lv : Value) (m : List (Int × Ev)), k ≤ l.length ∧ v7 = .int .i64 k ∧ m.length ≤ k ∧ Hid (BothQ w wr qb mb a b c F L lv m)) (fun v7 _ => l.length - (intOf v7).toNat)
      case atStart => exact ⟨0, _, _, _, _, Nat.zero_le _, rfl, Nat.zero_le _, HB0⟩
      case round =>
        obtain ⟨k, F, L, lv, m, hk, rfl, hmk, HB⟩ := hrel
        clear HB0
        obtain ⟨ao, mcap, rfl⟩ := Sl.any HB.out.sl
        have v0 := cell_at (i := 0) HB.out.var rfl
        have v1 := cell_at (i := 1) HB.out.var rfl
        have v2 := cell_at (i := 2) HB.out.var rfl
        have v3 := cell_at (i := 3) HB.out.var rfl
        have d0 := free_at (i := 0) HB.out.var
        have d1 := free_at (i := 1) HB.out.var
        have d2 := free_at (i := 2) HB.out.var
        have d3 := free_at (i := 3) HB.out.var
        have hmbl : mb < wr.heap.size := lt_of_block HB.out.var
        simp at v0 v1 v2 v3
        by_cases hlt : k < l.length
        · obtain ⟨⟨tk, p, er, eo, ea⟩, hy⟩ : ∃ y, l[k] = y := ⟨_, rfl⟩
          have hgd := HG.out l[k] (List.getElem_mem hlt)
          have HSR := HS.out
          have q0 := getElem?_flatMap_enc (size := 5) (enc := encAct) (fun _ => rfl) l k 0 (by omega) hlt
          have q1 := getElem?_flatMap_enc (size := 5) (enc := encAct) (fun _ => rfl) l k 1 (by omega) hlt
          have q2 := getElem?_flatMap_enc (size := 5) (enc := encAct) (fun _ => rfl) l k 2 (by omega) hlt
          have q3 := getElem?_flatMap_enc (size := 5) (enc := encAct) (fun _ => rfl) l k 3 (by omega) hlt
          have q4 := getElem?_flatMap_enc (size := 5) (enc := encAct) (fun _ => rfl) l k 4 (by omega) hlt
          rw [hy] at hgd q0 q1 q2 q3 q4
          obtain ⟨hp0, hp1⟩ := hgd
          simp only at hp0 hp1
          obtain ⟨g, off, rfl, hgw, c0⟩ := Sl.cellAt HSR q0
          obtain ⟨g1, off1, e1, _, c1⟩ := Sl.cellAt HSR q1
          obtain ⟨g2, off2, e2, _, c2⟩ := Sl.cellAt HSR q2
          obtain ⟨g3, off3, e3, _, c3⟩ := Sl.cellAt HSR q3
          obtain ⟨g4, off4, e4, _, c4⟩ := Sl.cellAt HSR q4
          simp only [Option.some.injEq, Addr.mk.injEq, and_true] at e1 e2 e3 e4
          obtain ⟨rfl, rfl⟩ := e1
          obtain ⟨rfl, rfl⟩ := e2
          obtain ⟨rfl, rfl⟩ := e3
          obtain ⟨rfl, rfl⟩ := e4
          simp only [Nat.add_zero] at c0
          rw [← Nat.add_assoc] at c1 c2 c3 c4
          have hgw0 : g < w.heap.size := hgw
          replace c0 := HB.out.old.cell (fun h => h) c0
          replace c1 := HB.out.old.cell (fun h => h) c1
          replace c2 := HB.out.old.cell (fun h => h) c2
          replace c3 := HB.out.old.cell (fun h => h) c3
          replace c4 := HB.out.old.cell (fun h => h) c4
          have hgr : g < wr.heap.size := World.block_lt_of_cell? wr _ c0
          clear hy q0 q1 q2 q3 q4 HSR
          go_upto_if 40 with fail
          go_cut [] (fun wx => ∃ (F : Nat → Prop) (L : Nat → List Ev) (lv : Value) (m : List (Int × Ev)), m.length ≤ k + 1 ∧ Hid (BothQ w wx qb mb a b c F L lv m))
          case first =>
            have hne := ev_neq_same
            have hgd := ev_guard
            cases tk
            · go_wp2_with fail
              have hx1 : ¬ mb = wr.heap.size := by omega
              have hx2 : ¬ wr.heap.size = mb := by omega
              have hx3 : ¬ g = wr.heap.size := by omega
              have hx4 : ¬ wr.heap.size = g := by omega
              have hmp := fun (W : World) (k : Keeps No wr W) => mput_all (w := W) (HB.out.calm k).sl (by omega) a b c p ⟨er, eo, ea⟩
              simp only [qval, Ev.val] at hmp
              have HMP := hid hmp
              clear hmp
              go_cut [15, 16] (fun v15 v16 wx => ∃ (m15 : Nat) (lv2 : Value) (m2 : List (Int × Ev)) (err : Int), v15 = .pointer (some ⟨m15, 0, none⟩) ∧ v16 = .int .i64 err ∧ Hid (PutT a b c p ⟨er, eo, ea⟩ m m2 err) ∧ Hid (SlIt wx lv2 m2) ∧ Hid (Keeps No wr wx) ∧ Hid ((lv2 = .slice ao m.length mcap ∧ m2 = m) ∨ ∀ k, lv2.ownBlock = some k → wr.heap.size ≤ k) ∧ Hid (wx.heap[m15]? = some (.cells #[.int .i64 a, .int .i64 b, .int .i64 c, lv2] 29 (0, 0))) ∧ wr.heap.size ≤ m15)
              case first =>
                go_region_held3 (fun w' => w'.cell? ⟨mb, 0, none⟩ = some (.int .i64 a) ∧ w'.cell? ⟨mb, 1, none⟩ = some (.int .i64 b) ∧ w'.cell? ⟨mb, 2, none⟩ = some (.int .i64 c) ∧ w'.cell? ⟨mb, 3, none⟩ = some (.slice ao m.length mcap) ∧ w'.cell? ⟨g, off + k * 5 + 1, none⟩ = some (.int .u8 p) ∧ w'.cell? ⟨g, off + k * 5 + 2, none⟩ = some (.int .i64 er) ∧ w'.cell? ⟨g, off + k * 5 + 3, none⟩ = some (.bool eo) ∧ w'.cell? ⟨g, off + k * 5 + 4, none⟩ = some (.int .i64 ea)) (first | exact ⟨z0, z1, z2, z3, s1, s2, s3, s4⟩ | go_keep) ((go_at_call 10; refine (HMP.out _ (by repeat' (first | with_reducible exact Keeps.refl _ _ | with_reducible refine Keeps.drewN ?_ _ | with_reducible refine Keeps.drew ?_ | with_reducible refine Keeps.alloc ?_ _ | with_reducible refine Keeps.setCell ?_ ?_ _ | exact Or.inr rfl))).mono ?_; rintro e w2 ⟨lv2, m2, err, ht, rfl, hs2, hk2, hn2⟩; obtain ⟨ao2, cp2, rfl⟩ := Sl.any hs2; have hkr := hk2.heap (fun h => h) (by first | exact HB.out.var | exact heapA _ HB.out.var); have z0 := cell_at (i := 0) hkr rfl; have z1 := cell_at (i := 1) hkr rfl; have z2 := cell_at (i := 2) hkr rfl; have z3 := cell_at (i := 3) hkr rfl; simp at z0 z1 z2 z3; have s1 := hk2.cell (fun h => h) (by first | exact c1 | exact cellA _ c1); have s2 := hk2.cell (fun h => h) (by first | exact c2 | exact cellA _ c2); have s3 := hk2.cell (fun h => h) (by first | exact c3 | exact cellA _ c3); have s4 := hk2.cell (fun h => h) (by first | exact c4 | exact cellA _ c4); have hy1 : mb < w2.heap.size := lt_of_block hkr; have hy2 : g < w2.heap.size := World.block_lt_of_cell? w2 _ s1; have hy3 : ¬ mb = w2.heap.size := (by omega); have hy4 : ¬ w2.heap.size = mb := (by omega); have hy5 : ¬ g = w2.heap.size := (by omega); have hy6 : ¬ w2.heap.size = g := (by omega); have HT2 := hid ht; have HS2 := hid hs2; have HK2 := hid hk2; have HN2 := hid hn2; (first | (have hm := hk2.heap (fun h => h) (heap_alloc_new wr.drew (.cells #[.int .i64 0, .int .i64 0, .int .i64 0, .slice none 0 0] 29)); have m0 := cell_at (i := 0) hm rfl; have m1 := cell_at (i := 1) hm rfl; have m2' := cell_at (i := 2) hm rfl; have m3 := cell_at (i := 3) hm rfl; have u0 := free_at (i := 0) hm; have u1 := free_at (i := 1) hm; have u2 := free_at (i := 2) hm; have u3 := free_at (i := 3) hm; simp at m0 m1 m2' m3 u0 u1 u2 u3; have HM := hid hm; clear hm) | skip); clear ht hs2 hk2 hn2 hkr))
                all_goals
                  go_wp2_with fail
                  go_meet
                  have hk2 := HK2.out
                  have hn2 := HN2.out
                  have hs2 := HS2.out
                  have hsz := hk2.size
                  simp at hn2 hsz
                  have hnn : (Value.slice ao2 m2.length cp2 = .slice ao m.length mcap ∧ m2 = m) ∨ ∀ k, (Value.slice ao2 m2.length cp2).ownBlock = some k → wr.heap.size ≤ k := by
                    rcases hn2 with h | h
                    · exact Or.inl ⟨by simpa using h.1, h.2⟩
                    · exact Or.inr (fun k hk => by have := h k hk; omega)
                  first
                    | exact ⟨_, _, _, _, rfl, rfl, HT2, hid (hs2.alloc _), hid ((((Keeps.refl No wr).drew).trans hk2).alloc _), hid hnn, hid (heap_alloc_new _ _), by omega⟩
                    | (have hvar : w2.heap[wr.heap.size]? = _ := HM.out
                       have hkk := (((Keeps.refl No wr).drew).alloc (.cells #[.int .i64 0, .int .i64 0, .int .i64 0, .slice none 0 0] 29)).trans hk2
                       refine ⟨_, _, _, _, rfl, rfl, HT2, hid ?_, hid (hkk.trans' (S' := fun k => k = wr.heap.size) (by repeat' (first | with_reducible exact Keeps.refl _ _ | with_reducible refine Keeps.drewN ?_ _ | with_reducible refine Keeps.drew ?_ | with_reducible refine Keeps.alloc ?_ _ | with_reducible refine Keeps.setCell ?_ ?_ _ | exact Or.inr rfl)) (fun _ _ h => h) (fun i hi e => by omega)), hid hnn, hid (by simp [World.setCell, Array.getElem?_modify, hvar]), Nat.le_refl _⟩
                       refine Sl.keep' (S := fun k => k = wr.heap.size) hs2 (by repeat' (first | with_reducible exact Keeps.refl _ _ | with_reducible refine Keeps.drewN ?_ _ | with_reducible refine Keeps.drew ?_ | with_reducible refine Keeps.alloc ?_ _ | with_reducible refine Keeps.setCell ?_ ?_ _ | exact Or.inr rfl)) (fun h0 k hk _ e => ?_)
                       rcases hn2 with h | h
                       · have h2 := h.2
                         have hlt := Sl.lt HB.out.sl (by rw [← h2]; exact h0) k (by rw [← hk]; obtain ⟨⟨rfl, _⟩, _⟩ := h; exact own_any_len _ _ _ _ _)
                         omega
                       · have := h k hk; omega)
              case rest =>
                obtain ⟨m15, lv2, m2, err, rfl, rfl, HPT, HS2, HK2, HN2, HM, hm15⟩ := hcut
                have hs2 := HS2.out
                obtain ⟨ao2, cp2, rfl⟩ := Sl.any hs2
                have t0 := cell_at (i := 0) HM.out rfl
                have t1 := cell_at (i := 1) HM.out rfl
                have t2 := cell_at (i := 2) HM.out rfl
                have t3 := cell_at (i := 3) HM.out rfl
                have hv2 := HK2.out.heap (fun h => h) HB.out.var
                have u0 := cell_at (i := 0) hv2 rfl
                have u1 := cell_at (i := 1) hv2 rfl
                have u2 := cell_at (i := 2) hv2 rfl
                have u3 := cell_at (i := 3) hv2 rfl
                have f0 := free_at (i := 0) hv2
                have f1 := free_at (i := 1) hv2
                have f2 := free_at (i := 2) hv2
                have f3 := free_at (i := 3) hv2
                simp at t0 t1 t2 t3 u0 u1 u2 u3
                have hne5 : ¬ m15 = mb := by omega
                have hne6 : ¬ mb = m15 := by omega
                have HV2 := hid hv2
                have s1 := HK2.out.cell (fun h => h) c1
                have s2 := HK2.out.cell (fun h => h) c2
                have s3 := HK2.out.cell (fun h => h) c3
                have s4 := HK2.out.cell (fun h => h) c4
                have hgm : ¬ g = mb := by have := HB.out.new; omega
                have hmg : ¬ mb = g := fun e => hgm e.symm
                clear hs2 hv2 c0 c1 c2 c3 c4 v0 v1 v2 v3 d0 d1 d2 d3 hx1 hx2 hx3 hx4
                have hkm : Keeps (fun k => k = mb) wr wc := HK2.out.no
                have hho : Holds wr qb a b c F L m := ⟨HB.out.q, HB.out.band, HB.out.prio, HB.out.rules⟩
                have hqp := fun (W : World) (k : Keeps (fun k => k = mb) wr W) => qput_all (hho.keep (w' := W) k (fun i hi e => HB.out.out (e ▸ hi))) HPT.out
                simp only [Ev.val] at hqp
                have HQP := hid hqp
                have HKM := hid hkm
                have HGF : Hid (¬ F g) := hid (fun h => by have := HB.out.own g h; omega)
                clear hho hqp hkm
                go_wp2_with fail
                go_region_held3 (fun w' => w'.cell? ⟨g, off + k * 5 + 1, none⟩ = some (.int .u8 p) ∧ w'.cell? ⟨g, off + k * 5 + 2, none⟩ = some (.int .i64 er) ∧ w'.cell? ⟨g, off + k * 5 + 3, none⟩ = some (.bool eo) ∧ w'.cell? ⟨g, off + k * 5 + 4, none⟩ = some (.int .i64 ea)) (first | exact ⟨y1, y2, y3, y4⟩ | go_keep) ((go_at_call 11; refine (HQP.out _ (by have hkm := HKM.out; repeat' (first | with_reducible exact Keeps.refl _ _ | with_reducible exact hkm | with_reducible refine Keeps.drewN ?_ _ | with_reducible refine Keeps.drew ?_ | with_reducible refine Keeps.alloc ?_ _ | with_reducible refine Keeps.setCell ?_ ?_ _ | exact Or.inr rfl))).mono ?_; rintro e w5 ⟨rfl, F5, L5, h5, u5⟩; have y1 := u5.keeps.cell HGF.out (Keeps.cell (S := fun k => k = mb) (by repeat' (first | with_reducible exact Keeps.refl _ _ | with_reducible refine Keeps.drewN ?_ _ | with_reducible refine Keeps.drew ?_ | with_reducible refine Keeps.alloc ?_ _ | with_reducible refine Keeps.setCell ?_ ?_ _ | exact Or.inr rfl)) hgm s1); have y2 := u5.keeps.cell HGF.out (Keeps.cell (S := fun k => k = mb) (by repeat' (first | with_reducible exact Keeps.refl _ _ | with_reducible refine Keeps.drewN ?_ _ | with_reducible refine Keeps.drew ?_ | with_reducible refine Keeps.alloc ?_ _ | with_reducible refine Keeps.setCell ?_ ?_ _ | exact Or.inr rfl)) hgm s2); have y3 := u5.keeps.cell HGF.out (Keeps.cell (S := fun k => k = mb) (by repeat' (first | with_reducible exact Keeps.refl _ _ | with_reducible refine Keeps.drewN ?_ _ | with_reducible refine Keeps.drew ?_ | with_reducible refine Keeps.alloc ?_ _ | with_reducible refine Keeps.setCell ?_ ?_ _ | exact Or.inr rfl)) hgm s3); have y4 := u5.keeps.cell HGF.out (Keeps.cell (S := fun k => k = mb) (by repeat' (first | with_reducible exact Keeps.refl _ _ | with_reducible refine Keeps.drewN ?_ _ | with_reducible refine Keeps.drew ?_ | with_reducible refine Keeps.alloc ?_ _ | with_reducible refine Keeps.setCell ?_ ?_ _ | exact Or.inr rfl)) hgm s4); have H5 := hid h5; have U5 := hid u5; clear h5 u5))
                all_goals
                  have hst := HB.out.step HK2.out HS2.out HN2.out (by repeat' (first | with_reducible exact Keeps.refl _ _ | with_reducible refine Keeps.drewN ?_ _ | with_reducible refine Keeps.drew ?_ | with_reducible refine Keeps.alloc ?_ _ | with_reducible refine Keeps.setCell ?_ ?_ _ | exact Or.inr rfl)) (by have := HV2.out; simp [World.setCell, heap_drew, Array.getElem?_modify, this]) H5.out.q U5.out H5.out.band H5.out.prio H5.out.rules
                  have HST := hid hst
                  clear hst
                  go_wp2_with fail
                  go_meet
                  have hle := PutT.len HPT.out
                  exact ⟨_, _, _, _, by omega, HST⟩
            · have ht := mtake_all (w := wr) HB.out.sl (by omega) a b c
              simp only [qval] at ht
              have HT := hid ht
              clear ht
              go_wp2_with fail
              refine HT.out.mono ?_
              rintro e w2 ⟨lv2, m2, ⟨yr, yo, ya⟩, yp, ok, ht, rfl, hs2, hk2, hn2⟩
              obtain ⟨ao2, c2, rfl⟩ := Sl.any hs2
              have hv2 := hk2.heap (fun h => h) HB.out.var
              have u0 := cell_at (i := 0) hv2 rfl
              have u1 := cell_at (i := 1) hv2 rfl
              have u2 := cell_at (i := 2) hv2 rfl
              have u3 := cell_at (i := 3) hv2 rfl
              have f0 := free_at (i := 0) hv2
              have f1 := free_at (i := 1) hv2
              have f2 := free_at (i := 2) hv2
              have f3 := free_at (i := 3) hv2
              have hmb2 : mb < w2.heap.size := lt_of_block hv2
              simp at u0 u1 u2 u3
              have HV2 := hid hv2
              have HK2 := hid hk2
              have HS2 := hid hs2
              have HN2 := hid hn2
              have HTT := hid ht
              clear hk2 hv2 hs2 hn2 ht HT v0 v1 v2 v3 d0 d1 d2 d3
              simp only [Ev.val]
              go_wp2_with fail
              have hkm : Keeps (fun k => k = mb) wr w2 := HK2.out.no
              have hho : Holds wr qb a b c F L m := ⟨HB.out.q, HB.out.band, HB.out.prio, HB.out.rules⟩
              refine (qtake_all (hho.keep (S := fun k => k = mb) (by repeat' (first | with_reducible exact Keeps.refl _ _ | with_reducible exact hkm | with_reducible refine Keeps.drewN ?_ _ | with_reducible refine Keeps.drew ?_ | with_reducible refine Keeps.alloc ?_ _ | with_reducible refine Keeps.setCell ?_ ?_ _ | exact Or.inr rfl)) (fun i hi e => HB.out.out (e ▸ hi))) HTT.out).mono ?_
              rintro e w5 ⟨rfl, F5, L5, h5, u5⟩
              have hF2 : ∀ k, F k → k < w2.heap.size := fun k hk => by have := HB.out.q.lt hk; have := HK2.out.size; omega
              have hb9 := u5.keeps.heap (b := w2.heap.size + 1) (fun h => by have := hF2 _ h; omega) (heap_alloc_at (by simp) _)
              have j0 := cell_at (i := 0) hb9 rfl
              have j1 := cell_at (i := 1) hb9 rfl
              have j2 := cell_at (i := 2) hb9 rfl
              have hl9 : w2.heap.size + 1 < w5.heap.size := lt_of_block hb9
              simp at j0 j1 j2
              have hst := HB.out.step HK2.out HS2.out HN2.out (by repeat' (first | with_reducible exact Keeps.refl _ _ | with_reducible refine Keeps.drewN ?_ _ | with_reducible refine Keeps.drew ?_ | with_reducible refine Keeps.alloc ?_ _ | with_reducible refine Keeps.setCell ?_ ?_ _ | exact Or.inr rfl)) (heapA _ (heapA _ (by have := HV2.out; simp [World.setCell, Array.getElem?_modify, this]))) h5.q u5 h5.band h5.prio h5.rules
              have HST := hid hst
              clear hkm hho hF2 hb9 h5 u5 hst u0 u1 u2 u3 f0 f1 f2 f3
              simp only [Ev.val]
              go_wp2_with fail
              go_meet
              have hle := TakeT.len HTT.out
              exact ⟨_, _, _, _, by omega, hid (BothQ.calm HST.out (by repeat' (first | with_reducible exact Keeps.refl _ _ | with_reducible refine Keeps.drewN ?_ _ | with_reducible refine Keeps.drew ?_ | with_reducible refine Keeps.alloc ?_ _ | with_reducible refine Keeps.setCell ?_ ?_ _ | exact Or.inr rfl)))⟩
          case rest =>
            obtain ⟨F2, L2, lv2, m2, hm2, HB2⟩ := hcut
            clear HB v0 v1 v2 v3 d0 d1 d2 d3 c0 c1 c2 c3 c4 hmbl
            go_wp2_with fail
            go_loopw [17] (fun v17 wx => ∃ q : Nat, q ≤ 5 ∧ v17 = .int .u8 q ∧ Hid (BothQ w wx qb mb a b c F2 L2 lv2 m2)) (fun v17 _ => 5 - (intOf v17).toNat)
            case atStart => exact ⟨0, by omega, rfl, HB2⟩
            case round =>
              obtain ⟨q, hq5, rfl, HB⟩ := hrel
              clear HB2
              obtain ⟨ao, mcap, rfl⟩ := Sl.any HB.out.sl
              by_cases hql : q < 5
              · have v0 := cell_at (i := 0) HB.out.var rfl
                have v1 := cell_at (i := 1) HB.out.var rfl
                have v2 := cell_at (i := 2) HB.out.var rfl
                have v3 := cell_at (i := 3) HB.out.var rfl
                simp at v0 v1 v2 v3
                have hmb := fun (W : World) (k : Keeps No wr W) => mband_any (w := W) (HB.out.calm k).sl (by omega) a b c (q : Int)
                have hqb := fun (W : World) (k : Keeps No wr W) => qband_all (HB.out.calm k) (q : Int)
                simp only [qval] at hmb
                have HMB := hid hmb
                have HQB := hid hqb
                clear hmb hqb
                go_wp2_with fail
                go_region_held3 (fun w' => w'.cell? ⟨mb, 0, none⟩ = some (.int .i64 a) ∧ w'.cell? ⟨mb, 1, none⟩ = some (.int .i64 b) ∧ w'.cell? ⟨mb, 2, none⟩ = some (.int .i64 c) ∧ w'.cell? ⟨mb, 3, none⟩ = some (.slice ao m2.length mcap)) (first | exact ⟨z0, z1, z2, z3⟩ | go_keep) (first | ((go_at_call 13; refine (HQB.out _ (by repeat' (first | with_reducible exact Keeps.refl _ _ | with_reducible exact KA.out | with_reducible exact KC.out | with_reducible refine Keeps.drewN ?_ _ | with_reducible refine Keeps.drew ?_))).mono ?_; rintro e wA ⟨vA, rfl, hsA, hkA⟩; have KA := hid (Keeps.trans (show Keeps No wr _ from by repeat' (first | with_reducible exact Keeps.refl _ _ | with_reducible exact KA.out | with_reducible exact KC.out | with_reducible refine Keeps.drewN ?_ _ | with_reducible refine Keeps.drew ?_)) hkA); have hkr := KA.out.heap (fun h => h) HB.out.var; have z0 := cell_at (i := 0) hkr rfl; have z1 := cell_at (i := 1) hkr rfl; have z2 := cell_at (i := 2) hkr rfl; have z3 := cell_at (i := 3) hkr rfl; simp at z0 z1 z2 z3; (first | (have HVC2 := hid (Sl.keep HVC.out hkA (fun _ _ h => h))) | skip); obtain ⟨aA, cA, rfl⟩ := Sl.any hsA; have HVA := hid hsA; clear hsA hkA hkr)) | ((go_at_call 14; refine (HMB.out _ (by repeat' (first | with_reducible exact Keeps.refl _ _ | with_reducible exact KA.out | with_reducible exact KC.out | with_reducible refine Keeps.drewN ?_ _ | with_reducible refine Keeps.drew ?_))).mono ?_; rintro e wC ⟨vC, rfl, hsC, hkC, _⟩; have KC := hid (Keeps.trans (show Keeps No wr _ from by repeat' (first | with_reducible exact Keeps.refl _ _ | with_reducible exact KA.out | with_reducible exact KC.out | with_reducible refine Keeps.drewN ?_ _ | with_reducible refine Keeps.drew ?_)) hkC); have hkr := KC.out.heap (fun h => h) HB.out.var; have z0 := cell_at (i := 0) hkr rfl; have z1 := cell_at (i := 1) hkr rfl; have z2 := cell_at (i := 2) hkr rfl; have z3 := cell_at (i := 3) hkr rfl; simp at z0 z1 z2 z3; (first | (have HVA2 := hid (Sl.keep HVA.out hkC (fun _ _ h => h))) | skip); obtain ⟨aC, cC, rfl⟩ := own_any hsC; have HVC := hid (Sl.ofOwn hsC); clear hsC hkC hkr)) | ((go_at_call 12; refine (msameE_true (by first | exact HVA.out | exact HVA2.out) (by first | exact HVC.out | exact HVC2.out)).mono ?_; rintro e w9 ⟨rfl, k9⟩; have K9 := hid (Keeps.trans (show Keeps No wr _ from by repeat' (first | with_reducible exact Keeps.refl _ _ | with_reducible exact KA.out | with_reducible exact KC.out | with_reducible refine Keeps.drewN ?_ _ | with_reducible refine Keeps.drew ?_)) k9); have hkr := K9.out.heap (fun h => h) HB.out.var; have z0 := cell_at (i := 0) hkr rfl; have z1 := cell_at (i := 1) hkr rfl; have z2 := cell_at (i := 2) hkr rfl; have z3 := cell_at (i := 3) hkr rfl; simp at z0 z1 z2 z3; clear k9 hkr)))
                all_goals
                  go_wp2_with fail
                  go_roundw
                  case rel => exact ⟨q + 1, by omega, by go_num, hid (BothQ.calm HB.out K9.out)⟩
                  case measure => simp [intOf]; omega
              · obtain rfl : q = 5 := by omega
                go_wp2_with fail
                go_roundw
                case rel => exact ⟨k + 1, _, _, _, _, by omega, by go_num, hm2, HB⟩
                case measure => simp [intOf]; omega
        · have HKE := hid (show k = l.length by omega)
          have hsum := len_bands HB.out.prio
          have hb1 := HB.out.band 1 (by decide) (by decide)
          have hb2 := HB.out.band 2 (by decide) (by decide)
          have hb3 := HB.out.band 3 (by decide) (by decide)
          have hql : ∀ n, Calls Try.prog 15 #[.pointer (some ⟨qb, 0, none⟩)] (wr.drewN n) fun e w' => e = .returned (.int .i64 m.length) ∧ wr.drewN n = w' := fun n => by
            have := qlen_any (QueueE.keep HB.out.q ((Keeps.refl No wr).drewN n) (fun _ _ h => h))
            rw [hb1, hb2, hb3] at this
            have e : (bandL ((1 : Nat) : Int) m).length + (bandL ((2 : Nat) : Int) m).length + (bandL ((3 : Nat) : Int) m).length = m.length := hsum
            rwa [e] at this
          clear hsum hb1 hb2 hb3
          go_wp2_with fail
          go_quiet ((go_at_call 15; exact quiet_eq (hql _)))
          go_wp2_with fail
          go_ret
          exact ⟨rfl, (HB.out.old.drewN _).toBelow⟩

theorem own : ownKnob Try.prog.godebug = none := by kernel_rfl
theorem laidOut : laidOutB Try.prog = true := by kernel_rfl
set_option maxRecDepth 100000 in
theorem lifted (os : Os) (started : os.Started) (H : Type) (enc : TypeId × Value → H) :
    ReturnsInHanded {} Try.checked os 3 .any (Rows.bandPlaysSpec.pre6 enc Try.prog Try.f3 Rows.bandPlaysRow.domain false) (Rows.bandPlaysSpec.post enc Try.prog Try.f3 false true false false) := by
  refine returnsInHanded_of_change (C := Try.checked) own started (by kernel_rfl) Try.func3
    (ChangeSpec.witness6 (enc := enc) (C := Try.checked) false ⟨#[], #[.agg #[.int .i64 0, .int .i64 0, .int .i64 0], .slice none 0 0], []⟩ 8 (by kernel_rfl) (by kernel_rfl) (by kernel_rfl) (by kernel_rfl)) ?_
  intro W base args ds gs before hval0 hW hcnd _
  have hval : ∀ (j : Nat) t v, Try.f3.params[j]? = some t → args[j]? = some v → Value.okWide Try.prog W .any base t v := hval0
  have hW' := hW
  obtain ⟨p, q, hA0, hV, rfl, hfz, hnd⟩ := hW
  have hA : DataW.TrodAll enc Try.prog W 0 (fun _ => true) true Try.f3.params.toList args.toList ds p := hA0
  rw [Try.params3] at hA hval
  obtain ⟨v0, vs0, d0, ds0, p0, q0, hargs, rfl, rfl, h0, r0⟩ := trodAll_cons hA
  obtain ⟨v1, vs1, d1, ds1, p1, q1, rfl, rfl, rfl, h1, r1⟩ := trodAll_cons r0
  obtain ⟨rfl, rfl, rfl⟩ := trodAll_nil r1
  obtain rfl : args = #[v0, v1] := by cases args; simp_all
  obtain ⟨rfl, rfl⟩ := trodVars_none hV
  have k0 := h0
  have lt0 : ∀ x ∈ p0, x.block < W.heap.size := by obtain ⟨m, hm⟩ := k0; exact DataW.trod_lt m _ _ _ hm
  have k1 := h1
  have lt1 : ∀ x ∈ p1, x.block < W.heap.size := by obtain ⟨m, hm⟩ := k1; exact DataW.trod_lt m _ _ _ hm
  obtain ⟨a0, b0, c0, rfl, wa0, wb0, wc0⟩ := argArr3 .i64 Try.underlying22 Try.underlying3 (by kernel_rfl) (by kernel_rfl) (hval 0 22 v0 rfl rfl) h0
  obtain ⟨s1, len1, cap1, rfl⟩ := okWide_slice Try.underlying23 (hval 1 23 v1 rfl rfl)
  obtain ⟨l1, rfl, w1, b1⟩ := argSlice (encE := encAct) (good := goodAct) (size := 5) (fun _ => rfl) (by decide) Try.underlying23 (by kernel_rfl) (fun n cs x hx => decAct hx) h1
  clear hA0 hval0
  refine (walk W a0 b0 c0 wa0 wb0 wc0 s1 cap1 l1 w1 b1).mono fun e W' ⟨he, bel⟩ => ?_
  subst he
  exact ⟨_, rfl, _, _, _, [], _, [], hW', trodAll_mk1 (shut_bool Try.underlying4 _), (trodAll_cons_mk (Below.trod laidOut (by kernel_rfl) (of_decide_eq_true (by kernel_rfl)) k0 bel lt0) (trodAll_cons_mk (Below.trod laidOut (by kernel_rfl) (of_decide_eq_true (by kernel_rfl)) k1 bel lt1) trodAll_mk0)), rfl, bel.frame _, fun h => by cases h⟩

theorem over : Rows.bandPlaysRow.holds Try.pinned (OpenSpec.ofChange Rows.bandPlaysSpec) :=
  OpenClaim.holds_of_wide 3 Try.f3 rfl rfl rfl rfl rfl rfl rfl ⟨rfl, rfl, rfl, rfl, rfl⟩ rfl rfl rfl rfl rfl (by kernel_rfl) Try.func3 (by kernel_rfl)
    (of_decide_eq_true (by kernel_rfl)) (by unfold Func.isWrapper; first | (rw [if_pos (by decide +kernel)]; kernel_rfl) | (rw [if_neg (by decide +kernel)]; exact ⟨rfl, rfl⟩))
    (fun os started H enc _ => lifted os started H enc)

theorem proved : Rows.BandPlaysSaid := over
#print axioms proved
end Go.Proofs.Ytmmgkcimobkbbab.bandPlays
