/-
  Events on their way: the program's intake: New, Drain, Over, Waiting, Refused.
-/
import Derived.Test.YtoodlhagecannaaInkS0
import Derived.Test.YtoodlhagecannaaTake
namespace Go.Proofs.Ytoodlhagecannaa
open Go.RowKit
set_option linter.unusedVariables false
set_option linter.unusedSimpArgs false

theorem run_make_b' {P : Program} {t e : TypeId} {z : Value} {size bytes : Nat} (ht : P.underlying t = some (.slice e)) (hi : (P.info? e).map (fun i => (i.zero, i.size, i.bytes)) = some (some z, size, bytes)) (n : Nat) (hb : bytes * n ≤ 281474976710656) (hn : n ≤ 1000000) (w : World) :
    (Instr.makeSlice t (.int .i64 (n : Int)) (.int .i64 (n : Int))).run P w = .ok (.slice (some ⟨w.heap.size, 0, none⟩) n n) (w.alloc (.cells (madeCells z.cells (n * size)) e)) := by
  obtain ⟨i, hi', hz, hs, hb'⟩ := info_parts hi
  subst hs
  have := run_make (P := P) (w := w) t e i z ht hi' hz .i64 .i64 (n : Int) (n : Int) (by omega) (Int.le_refl _) (by rw [hb', ← Int.natCast_mul]; omega) (by omega)
  simpa using this
theorem info_boolS : (Try.prog.info? 4).map (fun i => (i.zero, i.size, i.bytes)) = some (some (.bool false), 1, 1) := by kernel_rfl
theorem info_ruleS : (Try.prog.info? 84).map (fun i => (i.zero, i.size, i.bytes)) = some (some (.agg #[.int .u8 0, .bool false]), 2, 2) := by kernel_rfl
theorem Holds.none {w : World} {qb : Nat} {a b c : Int} {F : Nat → Prop} (h : QueueE w qb F (fun i => roomOf (if i = 1 then a else if i = 2 then b else c)) (fun _ => [])) : Holds w qb a b c F (fun _ => []) [] :=
  ⟨h, fun p _ _ => by simp [bandL], by simp, by simp [bandL]⟩
theorem start_len (n : Nat) : (InkD.start n).told.length = n := by simp [InkD.start]

/-- An intake under way: i rules are laid. -/
structure NR (w wr : World) (b qb : Nat) (F0 : Nat → Prop) (C : Cfg) (tn i : Nat) (ru : Value) : Prop where
  blk : Bk wr b 82 [.pointer (some ⟨qb, 0, none⟩), ru, .int .i64 (tn : Int), .int .i64 C.drain, .int .i64 0, .int .i64 0]
  q : Holds wr qb C.b0 C.b1 C.b2 F0 (fun _ => []) []
  row : wr.ownsRow 0 84 2 ru i (rulC ((prisC C).take i) (List.replicate i false))
  keeps : Keeps No w wr
  fb : ∀ j, F0 j → j < b
  fw : ∀ j, F0 j → w.heap.size ≤ j
  own : ∀ j, ru.ownBlock = some j → b < j
  hb : w.heap.size ≤ b

section
variable {w wr W w2 : World} {b qb : Nat} {F0 : Nat → Prop} {C : Cfg} {tn i : Nat} {ru ru2 : Value}
theorem NR.mid (h : NR w wr b qb F0 C tn i ru) (k1 : Keeps No wr W) (k2 : Keeps (Bl ru) W w2) : Bk w2 b 82 [.pointer (some ⟨qb, 0, none⟩), ru, .int .i64 (tn : Int), .int .i64 C.drain, .int .i64 0, .int .i64 0] :=
  (h.blk.kept k1).keep k2 (fun e => by have := h.own _ e; omega)
theorem NR.step (h : NR w wr b qb F0 C tn i ru) (k1 : Keeps No wr W) (k2 : Keeps (Bl ru) W w2) {p : Int} (hi : i < C.ruls.length) (hp : prioD C (i : Int) = p)
    (ho : w2.ownsRow 0 84 2 ru2 (i + 1) (rulC ((prisC C).take i) (List.replicate i false) ++ [.int .u8 p, .bool false])) (hb : ∀ k, ru2.ownBlock = some k → ru.ownBlock = some k ∨ W.heap.size ≤ k) : NR w (w2.setCell ⟨b, 1, none⟩ ru2) b qb F0 C tn (i + 1) ru2 := by
  have hlt := h.blk.lt
  have hsz := k1.size
  have hnew : ∀ j, ru2.ownBlock = some j → b < j := fun j e => by
    rcases hb j e with h' | h'
    · exact h.own j h'
    · omega
  have kS : Keeps (fun j => j = b) w2 (w2.setCell ⟨b, 1, none⟩ ru2) := (Keeps.refl _ _).at
  refine ⟨(h.mid k1 k2).put 1 _ rfl, ?_, ?_, ?_, h.fb, h.fw, hnew, h.hb⟩
  · exact (((h.q.keep k1 (fun _ _ h => h)).keep k2 (fun j hj e => by have := h.own _ e; have := h.fb j hj; omega))).keep kS (fun j hj e => by have := h.fb j hj; omega)
  · rw [show (prisC C).take (i + 1) = (prisC C).take i ++ [p] by
      rw [List.take_succ_eq_append_getElem (by rw [prisC_len]; exact hi), prisC_at hi, hp], List.replicate_succ', rulC_snoc _ _ _ _ (by rw [List.length_take, prisC_len, List.length_replicate]; omega)]
    exact Keeps.own kS ho (fun j hj e => by have := hnew j hj; omega)
  · exact ((h.keeps.trans k1).trans' k2 (fun _ _ h => h) (fun j hj e => by have := h.own j e; have := h.hb; omega)).trans' kS (fun _ _ h => h) (fun j hj e => by have := h.hb; omega)
end
theorem take_all (C : Cfg) : (prisC C).take C.ruls.length = prisC C := List.take_of_length_le (by rw [prisC_len]; exact Nat.le_refl _)

theorem NR.calm {w wr w' : World} {b qb : Nat} {F0 : Nat → Prop} {C : Cfg} {tn i : Nat} {ru : Value} (h : NR w wr b qb F0 C tn i ru) (k : Keeps No wr w') : NR w w' b qb F0 C tn i ru :=
  ⟨h.blk.kept k, h.q.keep k (fun _ _ h => h), k.own h.row (fun _ _ h => h), h.keeps.trans k, h.fb, h.fw, h.own, h.hb⟩
def lenOfS : Value → Nat
  | .slice _ n _ => n
  | _ => 0
def intOfS : Value → Int
  | .int _ n => n
  | _ => 0

set_option maxHeartbeats 8000000 in
set_option maxRecDepth 100000 in
theorem pinew_any (w : World) {C : Cfg} {sv rv tv : Value} (hc : CfgR w C sv rv tv) (hn : C.ruls.length ≤ 64) :
    Calls Try.prog 13 #[.agg #[sv, rv, tv, .int .i64 C.b0, .int .i64 C.b1, .int .i64 C.b2, .int .i64 C.drain, .int .i64 C.pause, .int .i64 C.off, .bool C.brk, .int .i64 C.log]] w fun e w' => ∃ b F, e = .returned (.pointer (some ⟨b, 0, none⟩)) ∧ PI w' b F C (InkD.start C.ruls.length) ∧ Keeps No w w' ∧ (∀ i, F i → w.heap.size ≤ i) := by
  obtain ⟨ra, rc, rfl⟩ := hc.rul.any
  obtain ⟨sa, sc, rfl⟩ := hc.sig.any
  obtain ⟨ta, tc, rfl⟩ := hc.tab.any
  obtain ⟨i0, hi, hz0, hz1, hz2⟩ := info_parts info_ruleS
  have HI := hid hi
  have HNIL : Hid True := hid trivial
  have HC := hid hc
  obtain ⟨n, hnn⟩ : ∃ n, C.ruls.length = n := ⟨_, rfl⟩
  obtain ⟨sn, hsn⟩ : ∃ n, C.sigs.length = n := ⟨_, rfl⟩
  obtain ⟨tn, htn⟩ : ∃ n, C.tab.length = n := ⟨_, rfl⟩
  rw [hnn] at hn ⊢
  rw [hsn, htn]
  have HNN := hid hnn
  have HTNN := hid htn
  clear hc hnn hsn htn hi
  obtain ⟨cb, hcb⟩ : ∃ q, w.heap.size = q := ⟨_, rfl⟩
  obtain ⟨W1, hW1⟩ : ∃ W1, w.alloc (.cells #[.slice sa sn sc, .slice ra n rc, .slice ta tn tc, .int .i64 C.b0, .int .i64 C.b1, .int .i64 C.b2, .int .i64 C.drain, .int .i64 C.pause, .int .i64 C.off, .bool C.brk, .int .i64 C.log] 34) = W1 := ⟨_, rfl⟩
  have k1 : Keeps No w W1 := by rw [← hW1]; exact (Keeps.refl _ _).alloc _
  have HBK : Hid (Bk W1 cb 34 [.slice sa sn sc, .slice ra n rc, .slice ta tn tc, .int .i64 C.b0, .int .i64 C.b1, .int .i64 C.b2, .int .i64 C.drain, .int .i64 C.pause, .int .i64 C.off, .bool C.brk, .int .i64 C.log]) := hid (by rw [← hW1]; exact Bk.new hcb _ _)
  have K1 := hid k1
  have hs1 : w.heap.size ≤ W1.heap.size := k1.size
  have HW1 := hid hW1
  have HCB := hid hcb
  clear k1 hW1 hcb
  go_enter Try.func13, Try.ntmps13
  go_upto_region 1 with fail
  rw [HW1.out, HCB.out]
  clear HW1 HCB
  have x0 := HBK.out.cell 0 rfl
  have x1 := HBK.out.cell 1 rfl
  have x2 := HBK.out.cell 2 rfl
  have x3 := HBK.out.cell 3 rfl
  have x4 := HBK.out.cell 4 rfl
  have x5 := HBK.out.cell 5 rfl
  have x6 := HBK.out.cell 6 rfl
  have x7 := HBK.out.cell 7 rfl
  have x8 := HBK.out.cell 8 rfl
  have x9 := HBK.out.cell 9 rfl
  have x10 := HBK.out.cell 10 rfl
  refine wp_region_held_drew (S := (fun w' => w'.cell? ⟨cb, 0, none⟩ = some (.slice sa sn sc) ∧ w'.cell? ⟨cb, 1, none⟩ = some (.slice ra n rc) ∧ w'.cell? ⟨cb, 2, none⟩ = some (.slice ta tn tc) ∧ w'.cell? ⟨cb, 3, none⟩ = some (.int .i64 C.b0) ∧ w'.cell? ⟨cb, 4, none⟩ = some (.int .i64 C.b1) ∧ w'.cell? ⟨cb, 5, none⟩ = some (.int .i64 C.b2) ∧ w'.cell? ⟨cb, 6, none⟩ = some (.int .i64 C.drain) ∧ w'.cell? ⟨cb, 7, none⟩ = some (.int .i64 C.pause) ∧ w'.cell? ⟨cb, 8, none⟩ = some (.int .i64 C.off) ∧ w'.cell? ⟨cb, 9, none⟩ = some (.bool C.brk) ∧ w'.cell? ⟨cb, 10, none⟩ = some (.int .i64 C.log))) (by kernel_rfl) ?_ (fun hHeld => ?_)
  focus ((try dsimp only); first | with_reducible exact ⟨cellDr (cellA _ x0), cellDr (cellA _ x1), cellDr (cellA _ x2), cellDr (cellA _ x3), cellDr (cellA _ x4), cellDr (cellA _ x5), cellDr (cellA _ x6), cellDr (cellA _ x7), cellDr (cellA _ x8), cellDr (cellA _ x9), cellDr (cellA _ x10)⟩ | with_reducible exact ⟨x0, x1, x2, x3, x4, x5, x6, x7, x8, x9, x10⟩ | with_reducible exact ⟨cellDr x0, cellDr x1, cellDr x2, cellDr x3, cellDr x4, cellDr x5, cellDr x6, cellDr x7, cellDr x8, cellDr x9, cellDr x10⟩ | with_reducible exact ⟨cellA _ x0, cellA _ x1, cellA _ x2, cellA _ x3, cellA _ x4, cellA _ x5, cellA _ x6, cellA _ x7, cellA _ x8, cellA _ x9, cellA _ x10⟩)
  refine takeOn (i := 0) (v := ?_) rfl (by kernel_rfl) (by kernel_rfl) (by kernel_rfl) (fun _ _ _ h => h) (by rfl) ?_ (by assumption) ?_
  rotate_left
  focus (intro w hSw; (try dsimp only at hSw); go_simp; (try with_reducible rfl))
  try simp only [Act.put, List.setIfInBounds_toArray, List.set_cons_zero, List.set_cons_succ, List.getElem_toArray, List.getElem_cons_succ, List.getElem_cons_zero]
  refine takeOn (i := 1) (v := ?_) rfl (by kernel_rfl) (by kernel_rfl) (by kernel_rfl) (fun _ _ _ h => h) (by rfl) ?_ (by assumption) ?_
  rotate_left
  focus (intro w hSw; (try dsimp only at hSw); go_simp; (try with_reducible rfl))
  try simp only [Act.put, List.setIfInBounds_toArray, List.set_cons_zero, List.set_cons_succ, List.getElem_toArray, List.getElem_cons_succ, List.getElem_cons_zero]
  refine takeOn (i := 3) (v := ?_) rfl (by kernel_rfl) (by kernel_rfl) (by kernel_rfl) (fun _ _ _ h => h) (by rfl) ?_ (by assumption) ?_
  rotate_left
  focus (intro w hSw; (try dsimp only at hSw); go_simp; (try with_reducible rfl))
  try simp only [Act.put, List.setIfInBounds_toArray, List.set_cons_zero, List.set_cons_succ, List.getElem_toArray, List.getElem_cons_succ, List.getElem_cons_zero]
  refine takeOn (i := 4) (v := ?_) rfl (by kernel_rfl) (by kernel_rfl) (by kernel_rfl) (fun _ _ _ h => h) (by rfl) ?_ (by assumption) ?_
  rotate_left
  focus (intro w hSw; (try dsimp only at hSw); go_simp; (try with_reducible rfl))
  try simp only [Act.put, List.setIfInBounds_toArray, List.set_cons_zero, List.set_cons_succ, List.getElem_toArray, List.getElem_cons_succ, List.getElem_cons_zero]
  refine takeOn (i := 5) (v := ?_) rfl (by kernel_rfl) (by kernel_rfl) (by kernel_rfl) (fun _ _ _ h => h) (by rfl) ?_ (by assumption) ?_
  rotate_left
  focus (intro w hSw; (try dsimp only at hSw); go_simp; (try with_reducible rfl))
  try simp only [Act.put, List.setIfInBounds_toArray, List.set_cons_zero, List.set_cons_succ, List.getElem_toArray, List.getElem_cons_succ, List.getElem_cons_zero]
  refine takeOn (i := 6) (v := ?_) rfl (by kernel_rfl) (by kernel_rfl) (by kernel_rfl) (fun _ _ _ h => h) (by rfl) ?_ (by assumption) ?_
  rotate_left
  focus (intro w hSw; (try dsimp only at hSw); go_simp; (try with_reducible rfl))
  try simp only [Act.put, List.setIfInBounds_toArray, List.set_cons_zero, List.set_cons_succ, List.getElem_toArray, List.getElem_cons_succ, List.getElem_cons_zero]
  refine takeOn (i := 7) (v := ?_) rfl (by kernel_rfl) (by kernel_rfl) (by kernel_rfl) (fun _ _ _ h => h) (by rfl) ?_ (by assumption) ?_
  rotate_left
  focus (intro w hSw; (try dsimp only at hSw); go_simp; (try with_reducible rfl))
  try simp only [Act.put, List.setIfInBounds_toArray, List.set_cons_zero, List.set_cons_succ, List.getElem_toArray, List.getElem_cons_succ, List.getElem_cons_zero]
  refine wpAnyH_ready (rs := [2]) (by kernel_rfl) (by simp) ?_
  refine AllReadyH.cons rfl (fun K hK => ?_) AllReadyH.nil
  go_simp
  go_at_call 27
  with_reducible refine (qnew_any C.b0 C.b1 C.b2 _).mono ?_
  rintro e w9 ⟨qb, rfl, F0, hq, hf, hk⟩
  have kk : Keeps No W1 w9 := Keeps.trans (by repeat' (first | with_reducible exact Keeps.refl _ _ | with_reducible assumption | with_reducible refine Keeps.drewN ?_ _ | with_reducible refine Keeps.drew ?_ | with_reducible refine Keeps.alloc ?_ _)) hk
  have HKK := hid kk
  have HQ := hid hq
  have HF := hid hf
  have g9 := HBK.out.kept kk
  have x0 := g9.cell 0 rfl
  have x1 := g9.cell 1 rfl
  have x2 := g9.cell 2 rfl
  have x3 := g9.cell 3 rfl
  have x4 := g9.cell 4 rfl
  have x5 := g9.cell 5 rfl
  have x6 := g9.cell 6 rfl
  have x7 := g9.cell 7 rfl
  have x8 := g9.cell 8 rfl
  have x9 := g9.cell 9 rfl
  have x10 := g9.cell 10 rfl
  clear hq hf hk kk g9
  go_wp2_with fail
  refine hK.out _ _ ?_ (fun hHeld => ?_)
  focus ((try dsimp only); first | with_reducible exact ⟨cellDr (cellA _ x0), cellDr (cellA _ x1), cellDr (cellA _ x2), cellDr (cellA _ x3), cellDr (cellA _ x4), cellDr (cellA _ x5), cellDr (cellA _ x6), cellDr (cellA _ x7), cellDr (cellA _ x8), cellDr (cellA _ x9), cellDr (cellA _ x10)⟩ | with_reducible exact ⟨x0, x1, x2, x3, x4, x5, x6, x7, x8, x9, x10⟩ | with_reducible exact ⟨cellDr x0, cellDr x1, cellDr x2, cellDr x3, cellDr x4, cellDr x5, cellDr x6, cellDr x7, cellDr x8, cellDr x9, cellDr x10⟩ | with_reducible exact ⟨cellA _ x0, cellA _ x1, cellA _ x2, cellA _ x3, cellA _ x4, cellA _ x5, cellA _ x6, cellA _ x7, cellA _ x8, cellA _ x9, cellA _ x10⟩)
  clear hK K
  try simp only [Act.put, List.setIfInBounds_toArray, List.set_cons_zero, List.set_cons_succ, List.getElem_toArray, List.getElem_cons_succ, List.getElem_cons_zero]
  refine takeOn (i := 8) (v := ?_) rfl (by kernel_rfl) (by kernel_rfl) (by kernel_rfl) (fun _ _ _ h => h) (by rfl) ?_ (by assumption) ?_
  rotate_left
  focus (intro w hSw; (try dsimp only at hSw); go_simp; (try with_reducible rfl))
  try simp only [Act.put, List.setIfInBounds_toArray, List.set_cons_zero, List.set_cons_succ, List.getElem_toArray, List.getElem_cons_succ, List.getElem_cons_zero]
  refine wpAnyH_ready (rs := [9]) (by kernel_rfl) (by simp) ?_
  refine AllReadyH.cons rfl (fun K hK => ?_) AllReadyH.nil
  go_simp
  refine hK.out _ _ ?_ (fun hHeld => ?_)
  focus ((try dsimp only); first | with_reducible exact ⟨cellDr (cellA _ x0), cellDr (cellA _ x1), cellDr (cellA _ x2), cellDr (cellA _ x3), cellDr (cellA _ x4), cellDr (cellA _ x5), cellDr (cellA _ x6), cellDr (cellA _ x7), cellDr (cellA _ x8), cellDr (cellA _ x9), cellDr (cellA _ x10)⟩ | with_reducible exact ⟨x0, x1, x2, x3, x4, x5, x6, x7, x8, x9, x10⟩ | with_reducible exact ⟨cellDr x0, cellDr x1, cellDr x2, cellDr x3, cellDr x4, cellDr x5, cellDr x6, cellDr x7, cellDr x8, cellDr x9, cellDr x10⟩ | with_reducible exact ⟨cellA _ x0, cellA _ x1, cellA _ x2, cellA _ x3, cellA _ x4, cellA _ x5, cellA _ x6, cellA _ x7, cellA _ x8, cellA _ x9, cellA _ x10⟩)
  clear hK K
  try simp only [Act.put, List.setIfInBounds_toArray, List.set_cons_zero, List.set_cons_succ, List.getElem_toArray, List.getElem_cons_succ, List.getElem_cons_zero]
  refine takeOn (i := 10) (v := ?_) rfl (by kernel_rfl) (by kernel_rfl) (by kernel_rfl) (fun _ _ _ h => h) (by rfl) ?_ (by assumption) ?_
  rotate_left
  focus (intro w hSw; (try dsimp only at hSw); go_simp; (try with_reducible rfl))
  try simp only [Act.put, List.setIfInBounds_toArray, List.set_cons_zero, List.set_cons_succ, List.getElem_toArray, List.getElem_cons_succ, List.getElem_cons_zero]
  refine wpAnyH_done (by kernel_rfl) ?_ _
  obtain ⟨b, hbq⟩ : ∃ q, w9.heap.size = q := ⟨_, rfl⟩
  obtain ⟨W2, hW2⟩ : ∃ W2, w9.alloc (.cells #[.pointer (some ⟨qb, 0, none⟩), .slice none 0 0, .int .i64 (tn : Int), .int .i64 C.drain, .int .i64 0, .int .i64 0] 82) = W2 := ⟨_, rfl⟩
  have K2 : Hid (Keeps No w9 W2) := hid (by rw [← hW2]; exact (Keeps.refl _ _).alloc _)
  have HNR : Hid (NR w W2 b qb F0 C tn 0 (.slice none 0 0)) := hid ⟨by rw [← hW2]; exact Bk.new hbq _ _, Holds.none (HQ.out.keep (S := No) K2.out (fun _ _ h => h)), World.ownsRow_nil _ _ _ _, (K1.out.trans HKK.out).trans K2.out, fun j hj => by rw [← hbq]; exact HQ.out.lt hj, fun j hj => by have := HF.out j hj; first | omega | (simp at this; omega), fun j hj => by simp [Value.ownBlock] at hj, by have := HKK.out.size; rw [← hbq]; omega⟩
  have HCK := hid ((HBK.out.kept HKK.out).kept K2.out)
  try rw [hbq]
  rw [hW2]
  have hWW := hid hW2
  have hBB := hid hbq
  clear hW2 hbq HQ HF HNIL
  have u1 := HCK.out.cell 1 rfl
  go_wp2_with fail
  clear u1
  go_loopw [19] (fun v19 wr => ∃ (i : Nat) (a : Option Addr) (c : Nat), i ≤ n ∧ v19 = .int .i64 (i : Int) ∧ Hid (NR w wr b qb F0 C tn i (.slice a i c))) (fun v19 _ => n - (intOfS v19).toNat)
  case atStart => exact ⟨0, none, 0, Nat.zero_le _, rfl, HNR⟩
  case round =>
    clear HNR HCK hWW hBB
    obtain ⟨i, a, c, hin, rfl, HN⟩ := hrel
    by_cases hlt : i < n
    · have d1 : decide ((i : Int) < (n : Int)) = true := decide_eq_true (by omega)
      have d2 : decide (n ≤ i) = false := decide_eq_false (by omega)
      have hil : i < C.ruls.length := by rw [HNN.out]; exact hlt
      obtain ⟨x, hx⟩ : ∃ x, C.ruls[i] = x := ⟨_, rfl⟩
      obtain ⟨s9a, s9c, hs9⟩ := (HC.out.stg x (by rw [← hx]; exact List.getElem_mem hil)).any
      obtain ⟨rg, rof, hra, hrg, hcc⟩ := Sl.itemC (enc := encRul) (size := 9) (fun _ => rfl) (by decide) HC.out.rul hil hx
      have hpp : prioD C (i : Int) = x.1.pri := by rw [prioD_at hil, hx]
      obtain ⟨⟨rk, rs, rl, rbk, rd, rsp, rp, rla, rst⟩, rv9⟩ := x
      simp only at hs9 hpp
      subst hs9
      subst hra
      unfold encRul at hcc
      simp only at hcc
      have HPP := hid hpp
      have HIL := hid hil
      have HCC := hid (fun j u hu => HN.out.keeps.cell (fun h => h) (hcc j u hu))
      clear hx hil hcc hpp
      have u0 := HCC.out 0 (.int .u8 rk) rfl
      have u1 := HCC.out 1 (.int .i64 rs) rfl
      have u2 := HCC.out 2 (.int .i64 rl) rfl
      have u3 := HCC.out 3 (.int .i64 rbk) rfl
      have u4 := HCC.out 4 (.int .i64 rd) rfl
      have u5 := HCC.out 5 (.int .i64 rsp) rfl
      have u6 := HCC.out 6 (.int .u8 rp) rfl
      have u7 := HCC.out 7 (.bool rla) rfl
      have u8 := HCC.out 8 (.slice s9a rst.length s9c) rfl
      rw [Nat.add_zero] at u0
      go_upto_region 5 with fail
      obtain ⟨rb, hrb⟩ : ∃ q, wr.heap.size = q := ⟨_, rfl⟩
      obtain ⟨W3, hW3⟩ : ∃ W3, wr.alloc (.cells #[.int .u8 rk, .int .i64 rs, .int .i64 rl, .int .i64 rbk, .int .i64 rd, .int .i64 rsp, .int .u8 rp, .bool rla, .slice s9a rst.length s9c] 68) = W3 := ⟨_, rfl⟩
      have K3 : Hid (Keeps No wr W3) := hid (by rw [← hW3]; exact (Keeps.refl _ _).alloc _)
      have HB3 : Hid (Bk W3 rb 68 [.int .u8 rk, .int .i64 rs, .int .i64 rl, .int .i64 rbk, .int .i64 rd, .int .i64 rsp, .int .u8 rp, .bool rla, .slice s9a rst.length s9c]) := hid (by rw [← hW3]; exact Bk.new hrb _ _)
      have HN3 : Hid (NR w W3 b qb F0 C tn i (.slice a i c)) := hid (HN.out.calm K3.out)
      have HROW3 := hid HN3.out.row
      try rw [hrb]
      rw [hW3]
      clear hW3 hrb u0 u1 u2 u3 u4 u5 u6 u7 u8
      have y0 := HN3.out.blk.cell 0 rfl
      have y1 := HN3.out.blk.cell 1 rfl
      have g1 := HN3.out.blk.free 1
      have t6 := HB3.out.cell 6 rfl
      have y1a := cellA (.cells #[.int .u8 rp, .bool false] 84) y1
      have y0a := cellA (.cells #[.int .u8 rp, .bool false] 84) y0
      go_region_law (refine step_append rfl (.tmp 27) (.tmp 31) 80 rfl 84 i0 (.agg #[.int .u8 0, .bool false]) 2 2 Try.underlying80 HI.out hz0 hz1 hz2 rfl (by decide) (.slice a i c) (.slice (some ⟨W3.heap.size, 0, none⟩) 1 1) i 1 _ _ (by rfl) (by rfl) (Keeps.own (S := No) (by repeat' (first | with_reducible exact Keeps.refl _ _ | with_reducible assumption | with_reducible refine Keeps.drewN ?_ _ | with_reducible refine Keeps.drew ?_ | with_reducible refine Keeps.alloc ?_ _)) HROW3.out (fun _ _ h => h)) (Sl.newAt (by simp) _ _ _ _ rfl (by decide)) (by intro u hu; simp at hu; rcases hu with rfl | rfl <;> rfl) (by unfold maxLen; omega) (by omega) ?_; intro v2 w2 ho2 hk2 hb2; obtain ⟨a2, c2, rfl⟩ := own_any ho2; have hm2 := HN3.out.mid (by repeat' (first | with_reducible exact Keeps.refl _ _ | with_reducible assumption | with_reducible refine Keeps.drewN ?_ _ | with_reducible refine Keeps.drew ?_ | with_reducible refine Keeps.alloc ?_ _)) hk2; have y1 := hm2.cell 1 rfl; have g1 := hm2.free 1; have HO2 := hid ho2; have HK2 := hid hk2; have HB2 := hid hb2; clear ho2 hk2 hb2 hm2)
      all_goals
        go_wp2_with fail
        go_roundw
        case rel => exact ⟨i + 1, a2, c2, by omega, by go_num, hid (HN3.out.step (by repeat' (first | with_reducible exact Keeps.refl _ _ | with_reducible assumption | with_reducible refine Keeps.drewN ?_ _ | with_reducible refine Keeps.drew ?_ | with_reducible refine Keeps.alloc ?_ _)) HK2.out HIL.out HPP.out HO2.out HB2.out)⟩
        case measure => simp [intOfS]; omega
    · have hd0 : i = n := by omega
      subst hd0
      have d1 : decide ((i : Int) < (i : Int)) = false := decide_eq_false (by omega)
      clear hlt
      go_wp2_with fail
      go_ret
      have hnn := HNN.out
      refine ⟨b, fun j => j = b ∨ (Value.slice a i c).ownBlock = some j ∨ F0 j, rfl, ⟨qb, .slice a i c, F0, fun _ => [], ⟨?_, ?_, ?_, fun e => ?_, fun j hj => ⟨?_, fun e => ?_⟩⟩, fun j => Iff.rfl⟩, HN.out.keeps, fun j hj => ?_⟩
      · rw [HTNN.out]; exact HN.out.blk
      · exact HN.out.q
      · simp only [start_len]
        have h1 := HN.out.row
        rw [← hnn, take_all, hnn] at h1
        exact h1
      · have := HN.out.own _ e; omega
      · have := HN.out.fb j hj; omega
      · have := HN.out.own _ e; have := HN.out.fb j hj; omega
      · have := HN.out.hb
        rcases hj with rfl | e | hj
        · exact this
        · have := HN.out.own _ e; omega
        · exact HN.out.fw j hj

set_option maxHeartbeats 4000000 in
set_option maxRecDepth 100000 in
theorem pirefused_any {w : World} {b : Nat} {F : Nat → Prop} {C : Cfg} {s : InkD} (h : PI w b F C s) :
    Calls Try.prog 24 #[.pointer (some ⟨b, 0, none⟩)] w fun e w' => e = .returned (.int .i64 (s.refs : Int)) ∧ Keeps No w w' := by
  obtain ⟨qb, ru, F0, Lq, h, _⟩ := h
  have x4 := h.blk.cell 4 rfl
  obtain ⟨rf, hrf⟩ : ∃ q : Int, (s.refs : Int) = q := ⟨_, rfl⟩
  rw [hrf] at x4 ⊢
  clear h hrf
  go_enter Try.func24, Try.ntmps24
  go_wp2_with fail
  go_ret
  exact ⟨rfl, Keeps.refl _ _⟩
theorem pirefused_nil (now r : Int) (on : Bool) (w : World) : Calls Try.prog 24 #[.pointer none] w fun e w' => e = .returned (.int .i64 0) ∧ Keeps No w w' := by
  go_enter Try.func24, Try.ntmps24
  go_wp2_with fail
  go_ret
  exact ⟨rfl, Keeps.refl _ _⟩

set_option maxHeartbeats 4000000 in
set_option maxRecDepth 100000 in
theorem piover_any {w : World} {b : Nat} {F : Nat → Prop} {C : Cfg} {s : InkD} (h : PI w b F C s) (hok : InkOk C s) (now : Int) (hn : I64 now) :
    Calls Try.prog 20 #[.pointer (some ⟨b, 0, none⟩), .int .i64 now] w fun e w' => e = .returned (.bool (overD C s now)) ∧ Keeps No w w' := by
  have HRF := hid (fun (w' : World) (k : Keeps No w w') => pirefused_any (h.calm k))
  obtain ⟨l, told, la, rfn⟩ := s
  obtain ⟨rf, hrf⟩ : ∃ q : Int, (rfn : Int) = q := ⟨_, rfl⟩
  have hla := hok.last
  simp only at hla
  obtain ⟨qb, ru, F0, Lq, h, _⟩ := h
  have HB := hid h.blk
  simp only at HB
  obtain ⟨tn, htn⟩ : ∃ q, C.tab.length = q := ⟨_, rfl⟩
  rw [htn, hrf] at HB
  simp only at HRF
  rw [hrf] at HRF
  have HS := hid (fun w' => since_any now la w' hn hla)
  obtain ⟨sd, hsd⟩ : ∃ q, held (now - la) = q := ⟨_, rfl⟩
  rw [hsd] at HS
  have HV : Hid (overD C ⟨l, told, la, rfn⟩ now = (decide (0 < rf) && decide (sd < (tn : Int)))) := hid (by
    unfold overD
    simp only
    rw [hsd, htn, ← hrf]
    congr 1
    exact decide_eq_decide.2 (by omega))
  rw [HV.out]
  clear h hok hla htn hrf hsd hn
  have x2 := HB.out.cell 2 rfl
  have x5 := HB.out.cell 5 rfl
  by_cases h0 : 0 < rf
  · have d0 : decide (rf > 0) = true := decide_eq_true h0
    obtain ⟨dv, hdv⟩ : ∃ q, decide (sd < (tn : Int)) = q := ⟨_, rfl⟩
    have HR : Hid ((decide (0 < rf) && dv) = dv) := hid (by rw [decide_eq_true h0]; rfl)
    rw [hdv, HR.out]
    go_enter Try.func20, Try.ntmps20
    go_upto_region 1 with fail
    refine wp_region_held_drew (S := (fun w' => w'.cell? ⟨b, 2, none⟩ = some (.int .i64 (tn : Int)) ∧ w'.cell? ⟨b, 5, none⟩ = some (.int .i64 la))) (by kernel_rfl) ?_ (fun hHeld => ?_)
    focus ((try dsimp only); first | with_reducible exact ⟨x2, x5⟩ | with_reducible exact ⟨cellDr x2, cellDr x5⟩)
    refine takeOn (i := 0) (v := ?_) rfl (by kernel_rfl) (by kernel_rfl) (by kernel_rfl) (fun _ _ _ h => h) (by rfl) ?_ (by assumption) ?_
    rotate_left
    focus (intro w hSw; (try dsimp only at hSw); go_simp; (try with_reducible rfl))
    try simp only [Act.put, List.setIfInBounds_toArray, List.set_cons_zero, List.set_cons_succ, List.getElem_toArray, List.getElem_cons_succ, List.getElem_cons_zero]
    refine wpAnyH_ready (rs := [1]) (by kernel_rfl) (by simp) ?_
    refine AllReadyH.cons rfl (fun K hK => ?_) AllReadyH.nil
    go_simp
    go_at_call 24
    with_reducible refine (HRF.out _ (by repeat' (first | with_reducible exact Keeps.refl _ _ | with_reducible assumption | with_reducible refine Keeps.drewN ?_ _ | with_reducible refine Keeps.drew ?_ | with_reducible refine Keeps.alloc ?_ _))).mono ?_
    rintro e w9 ⟨rfl, k9⟩
    have kk : Keeps No w w9 := Keeps.trans (by repeat' (first | with_reducible exact Keeps.refl _ _ | with_reducible assumption | with_reducible refine Keeps.drewN ?_ _ | with_reducible refine Keeps.drew ?_ | with_reducible refine Keeps.alloc ?_ _)) k9
    have HK9 := hid kk
    have x2 := kk.cell (fun h => h) x2
    have x5 := kk.cell (fun h => h) x5
    clear kk k9
    go_wp2_with fail
    refine hK.out _ _ ?_ (fun hHeld => ?_)
    focus ((try dsimp only); first | with_reducible exact ⟨x2, x5⟩ | with_reducible exact ⟨cellDr x2, cellDr x5⟩)
    clear hK K
    try simp only [Act.put, List.setIfInBounds_toArray, List.set_cons_zero, List.set_cons_succ, List.getElem_toArray, List.getElem_cons_succ, List.getElem_cons_zero]
    refine takeOn (i := 2) (v := ?_) rfl (by kernel_rfl) (by kernel_rfl) (by kernel_rfl) (fun _ _ _ h => h) (by rfl) ?_ (by assumption) ?_
    rotate_left
    focus (intro w hSw; (try dsimp only at hSw); go_simp; (try with_reducible rfl))
    try simp only [Act.put, List.setIfInBounds_toArray, List.set_cons_zero, List.set_cons_succ, List.getElem_toArray, List.getElem_cons_succ, List.getElem_cons_zero]
    refine takeOn (i := 3) (v := ?_) rfl (by kernel_rfl) (by kernel_rfl) (by kernel_rfl) (fun _ _ _ h => h) (by rfl) ?_ (by assumption) ?_
    rotate_left
    focus (intro w hSw; (try dsimp only at hSw); go_simp; (try with_reducible rfl))
    try simp only [Act.put, List.setIfInBounds_toArray, List.set_cons_zero, List.set_cons_succ, List.getElem_toArray, List.getElem_cons_succ, List.getElem_cons_zero]
    refine takeOn (i := 4) (v := ?_) rfl (by kernel_rfl) (by kernel_rfl) (by kernel_rfl) (fun _ _ _ h => h) (by rfl) ?_ (by assumption) ?_
    rotate_left
    focus (intro w hSw; (try dsimp only at hSw); go_simp; (try with_reducible rfl))
    try simp only [Act.put, List.setIfInBounds_toArray, List.set_cons_zero, List.set_cons_succ, List.getElem_toArray, List.getElem_cons_succ, List.getElem_cons_zero]
    refine takeOn (i := 5) (v := ?_) rfl (by kernel_rfl) (by kernel_rfl) (by kernel_rfl) (fun _ _ _ h => h) (by rfl) ?_ (by assumption) ?_
    rotate_left
    focus (intro w hSw; (try dsimp only at hSw); go_simp; (try with_reducible rfl))
    try simp only [Act.put, List.setIfInBounds_toArray, List.set_cons_zero, List.set_cons_succ, List.getElem_toArray, List.getElem_cons_succ, List.getElem_cons_zero]
    refine takeOn (i := 6) (v := ?_) rfl (by kernel_rfl) (by kernel_rfl) (by kernel_rfl) (fun _ _ _ h => h) (by rfl) ?_ (by assumption) ?_
    rotate_left
    focus (intro w hSw; (try dsimp only at hSw); go_simp; (try with_reducible rfl))
    try simp only [Act.put, List.setIfInBounds_toArray, List.set_cons_zero, List.set_cons_succ, List.getElem_toArray, List.getElem_cons_succ, List.getElem_cons_zero]
    refine takeOn (i := 7) (v := ?_) rfl (by kernel_rfl) (by kernel_rfl) (by kernel_rfl) (fun _ _ _ h => h) (by rfl) ?_ (by assumption) ?_
    rotate_left
    focus (intro w hSw; (try dsimp only at hSw); go_simp; (try with_reducible rfl))
    try simp only [Act.put, List.setIfInBounds_toArray, List.set_cons_zero, List.set_cons_succ, List.getElem_toArray, List.getElem_cons_succ, List.getElem_cons_zero]
    refine takeOn (i := 8) (v := ?_) rfl (by kernel_rfl) (by kernel_rfl) (by kernel_rfl) (fun _ _ _ h => h) (by rfl) ?_ (by assumption) ?_
    rotate_left
    focus (intro w hSw; (try dsimp only at hSw); go_simp; (try with_reducible rfl))
    try simp only [Act.put, List.setIfInBounds_toArray, List.set_cons_zero, List.set_cons_succ, List.getElem_toArray, List.getElem_cons_succ, List.getElem_cons_zero]
    refine takeOn (i := 10) (v := ?_) rfl (by kernel_rfl) (by kernel_rfl) (by kernel_rfl) (fun _ _ _ h => h) (by rfl) ?_ (by assumption) ?_
    rotate_left
    focus (intro w hSw; (try dsimp only at hSw); go_simp; (try with_reducible rfl))
    try simp only [Act.put, List.setIfInBounds_toArray, List.set_cons_zero, List.set_cons_succ, List.getElem_toArray, List.getElem_cons_succ, List.getElem_cons_zero]
    refine takeOn (i := 11) (v := ?_) rfl (by kernel_rfl) (by kernel_rfl) (by kernel_rfl) (fun _ _ _ h => h) (by rfl) ?_ (by assumption) ?_
    rotate_left
    focus (intro w hSw; (try dsimp only at hSw); go_simp; (try with_reducible rfl))
    try simp only [Act.put, List.setIfInBounds_toArray, List.set_cons_zero, List.set_cons_succ, List.getElem_toArray, List.getElem_cons_succ, List.getElem_cons_zero]
    refine takeOn (i := 12) (v := ?_) rfl (by kernel_rfl) (by kernel_rfl) (by kernel_rfl) (fun _ _ _ h => h) (by rfl) ?_ (by assumption) ?_
    rotate_left
    focus (intro w hSw; (try dsimp only at hSw); go_simp; (try with_reducible rfl))
    try simp only [Act.put, List.setIfInBounds_toArray, List.set_cons_zero, List.set_cons_succ, List.getElem_toArray, List.getElem_cons_succ, List.getElem_cons_zero]
    refine takeOn (i := 13) (v := ?_) rfl (by kernel_rfl) (by kernel_rfl) (by kernel_rfl) (fun _ _ _ h => h) (by rfl) ?_ (by assumption) ?_
    rotate_left
    focus (intro w hSw; (try dsimp only at hSw); go_simp; (try with_reducible rfl))
    try simp only [Act.put, List.setIfInBounds_toArray, List.set_cons_zero, List.set_cons_succ, List.getElem_toArray, List.getElem_cons_succ, List.getElem_cons_zero]
    refine wpAnyH_ready (rs := [9]) (by kernel_rfl) (by simp) ?_
    refine AllReadyH.cons rfl (fun K hK => ?_) AllReadyH.nil
    go_simp
    go_at_call 33
    with_reducible refine (HS.out _).mono ?_
    rintro e w9b ⟨rfl, rfl⟩
    go_wp2_with fail
    refine hK.out _ _ ?_ (fun hHeld => ?_)
    focus ((try dsimp only); first | with_reducible exact ⟨x2, x5⟩ | with_reducible exact ⟨cellDr x2, cellDr x5⟩)
    clear hK K
    try simp only [Act.put, List.setIfInBounds_toArray, List.set_cons_zero, List.set_cons_succ, List.getElem_toArray, List.getElem_cons_succ, List.getElem_cons_zero]
    refine takeOn (i := 14) (v := ?_) rfl (by kernel_rfl) (by kernel_rfl) (by kernel_rfl) (fun _ _ _ h => h) (by rfl) ?_ (by assumption) ?_
    rotate_left
    focus (intro w hSw; (try dsimp only at hSw); go_simp; (try with_reducible rfl))
    try simp only [Act.put, List.setIfInBounds_toArray, List.set_cons_zero, List.set_cons_succ, List.getElem_toArray, List.getElem_cons_succ, List.getElem_cons_zero]
    refine takeOn (i := 15) (v := ?_) rfl (by kernel_rfl) (by kernel_rfl) (by kernel_rfl) (fun _ _ _ h => h) (by rfl) ?_ (by assumption) ?_
    rotate_left
    focus (intro w hSw; (try dsimp only at hSw); go_simp; (try with_reducible rfl))
    try simp only [Act.put, List.setIfInBounds_toArray, List.set_cons_zero, List.set_cons_succ, List.getElem_toArray, List.getElem_cons_succ, List.getElem_cons_zero]
    refine takeOn (i := 16) (v := ?_) rfl (by kernel_rfl) (by kernel_rfl) (by kernel_rfl) (fun _ _ _ h => h) (by rfl) ?_ (by assumption) ?_
    rotate_left
    focus (intro w hSw; (try dsimp only at hSw); go_simp; (try with_reducible rfl))
    try simp only [Act.put, List.setIfInBounds_toArray, List.set_cons_zero, List.set_cons_succ, List.getElem_toArray, List.getElem_cons_succ, List.getElem_cons_zero]
    refine wpAnyH_done (by kernel_rfl) ?_ _
    go_wp2_with fail
    go_ret
    exact ⟨rfl, HK9.out.trans (by repeat' (first | with_reducible exact Keeps.refl _ _ | with_reducible assumption | with_reducible refine Keeps.drewN ?_ _ | with_reducible refine Keeps.drew ?_ | with_reducible refine Keeps.alloc ?_ _))⟩
  · have d0 : decide (rf > 0) = false := decide_eq_false h0
    have HR : Hid ((decide (0 < rf) && decide (sd < (tn : Int))) = false) := hid (by rw [decide_eq_false h0]; rfl)
    rw [HR.out]
    go_enter Try.func20, Try.ntmps20
    go_upto_region 1 with fail
    refine wp_region_held_drew (S := (fun w' => w'.cell? ⟨b, 2, none⟩ = some (.int .i64 (tn : Int)) ∧ w'.cell? ⟨b, 5, none⟩ = some (.int .i64 la))) (by kernel_rfl) ?_ (fun hHeld => ?_)
    focus ((try dsimp only); first | with_reducible exact ⟨x2, x5⟩ | with_reducible exact ⟨cellDr x2, cellDr x5⟩)
    refine takeOn (i := 0) (v := ?_) rfl (by kernel_rfl) (by kernel_rfl) (by kernel_rfl) (fun _ _ _ h => h) (by rfl) ?_ (by assumption) ?_
    rotate_left
    focus (intro w hSw; (try dsimp only at hSw); go_simp; (try with_reducible rfl))
    try simp only [Act.put, List.setIfInBounds_toArray, List.set_cons_zero, List.set_cons_succ, List.getElem_toArray, List.getElem_cons_succ, List.getElem_cons_zero]
    refine wpAnyH_ready (rs := [1]) (by kernel_rfl) (by simp) ?_
    refine AllReadyH.cons rfl (fun K hK => ?_) AllReadyH.nil
    go_simp
    go_at_call 24
    with_reducible refine (HRF.out _ (by repeat' (first | with_reducible exact Keeps.refl _ _ | with_reducible assumption | with_reducible refine Keeps.drewN ?_ _ | with_reducible refine Keeps.drew ?_ | with_reducible refine Keeps.alloc ?_ _))).mono ?_
    rintro e w9 ⟨rfl, k9⟩
    have kk : Keeps No w w9 := Keeps.trans (by repeat' (first | with_reducible exact Keeps.refl _ _ | with_reducible assumption | with_reducible refine Keeps.drewN ?_ _ | with_reducible refine Keeps.drew ?_ | with_reducible refine Keeps.alloc ?_ _)) k9
    have HK9 := hid kk
    have x2 := kk.cell (fun h => h) x2
    have x5 := kk.cell (fun h => h) x5
    clear kk k9
    go_wp2_with fail
    refine hK.out _ _ ?_ (fun hHeld => ?_)
    focus ((try dsimp only); first | with_reducible exact ⟨x2, x5⟩ | with_reducible exact ⟨cellDr x2, cellDr x5⟩)
    clear hK K
    try simp only [Act.put, List.setIfInBounds_toArray, List.set_cons_zero, List.set_cons_succ, List.getElem_toArray, List.getElem_cons_succ, List.getElem_cons_zero]
    refine takeOn (i := 2) (v := ?_) rfl (by kernel_rfl) (by kernel_rfl) (by kernel_rfl) (fun _ _ _ h => h) (by rfl) ?_ (by assumption) ?_
    rotate_left
    focus (intro w hSw; (try dsimp only at hSw); go_simp; (try with_reducible rfl))
    try simp only [Act.put, List.setIfInBounds_toArray, List.set_cons_zero, List.set_cons_succ, List.getElem_toArray, List.getElem_cons_succ, List.getElem_cons_zero]
    refine takeOn (i := 3) (v := ?_) rfl (by kernel_rfl) (by kernel_rfl) (by kernel_rfl) (fun _ _ _ h => h) (by rfl) ?_ (by assumption) ?_
    rotate_left
    focus (intro w hSw; (try dsimp only at hSw); go_simp; (try with_reducible rfl))
    try simp only [Act.put, List.setIfInBounds_toArray, List.set_cons_zero, List.set_cons_succ, List.getElem_toArray, List.getElem_cons_succ, List.getElem_cons_zero]
    refine takeOff (i := 4) rfl (by kernel_rfl) (by kernel_rfl) (by kernel_rfl) (fun _ _ _ h => h) (by rfl) (by assumption) ?_
    try simp only [Act.put, List.setIfInBounds_toArray, List.set_cons_zero, List.set_cons_succ, List.getElem_toArray, List.getElem_cons_succ, List.getElem_cons_zero]
    refine takeOff (i := 5) rfl (by kernel_rfl) (by kernel_rfl) (by kernel_rfl) (fun _ _ _ h => h) (by rfl) (by assumption) ?_
    try simp only [Act.put, List.setIfInBounds_toArray, List.set_cons_zero, List.set_cons_succ, List.getElem_toArray, List.getElem_cons_succ, List.getElem_cons_zero]
    refine takeOff (i := 6) rfl (by kernel_rfl) (by kernel_rfl) (by kernel_rfl) (fun _ _ _ h => h) (by rfl) (by assumption) ?_
    try simp only [Act.put, List.setIfInBounds_toArray, List.set_cons_zero, List.set_cons_succ, List.getElem_toArray, List.getElem_cons_succ, List.getElem_cons_zero]
    refine takeOff (i := 7) rfl (by kernel_rfl) (by kernel_rfl) (by kernel_rfl) (fun _ _ _ h => h) (by rfl) (by assumption) ?_
    try simp only [Act.put, List.setIfInBounds_toArray, List.set_cons_zero, List.set_cons_succ, List.getElem_toArray, List.getElem_cons_succ, List.getElem_cons_zero]
    refine takeOff (i := 8) rfl (by kernel_rfl) (by kernel_rfl) (by kernel_rfl) (fun _ _ _ h => h) (by rfl) (by assumption) ?_
    try simp only [Act.put, List.setIfInBounds_toArray, List.set_cons_zero, List.set_cons_succ, List.getElem_toArray, List.getElem_cons_succ, List.getElem_cons_zero]
    refine takeOff (i := 9) rfl (by kernel_rfl) (by kernel_rfl) (by kernel_rfl) (fun _ _ _ h => h) (by rfl) (by assumption) ?_
    try simp only [Act.put, List.setIfInBounds_toArray, List.set_cons_zero, List.set_cons_succ, List.getElem_toArray, List.getElem_cons_succ, List.getElem_cons_zero]
    refine takeOff (i := 10) rfl (by kernel_rfl) (by kernel_rfl) (by kernel_rfl) (fun _ _ _ h => h) (by rfl) (by assumption) ?_
    try simp only [Act.put, List.setIfInBounds_toArray, List.set_cons_zero, List.set_cons_succ, List.getElem_toArray, List.getElem_cons_succ, List.getElem_cons_zero]
    refine takeOff (i := 11) rfl (by kernel_rfl) (by kernel_rfl) (by kernel_rfl) (fun _ _ _ h => h) (by rfl) (by assumption) ?_
    try simp only [Act.put, List.setIfInBounds_toArray, List.set_cons_zero, List.set_cons_succ, List.getElem_toArray, List.getElem_cons_succ, List.getElem_cons_zero]
    refine takeOff (i := 12) rfl (by kernel_rfl) (by kernel_rfl) (by kernel_rfl) (fun _ _ _ h => h) (by rfl) (by assumption) ?_
    try simp only [Act.put, List.setIfInBounds_toArray, List.set_cons_zero, List.set_cons_succ, List.getElem_toArray, List.getElem_cons_succ, List.getElem_cons_zero]
    refine takeOff (i := 13) rfl (by kernel_rfl) (by kernel_rfl) (by kernel_rfl) (fun _ _ _ h => h) (by rfl) (by assumption) ?_
    try simp only [Act.put, List.setIfInBounds_toArray, List.set_cons_zero, List.set_cons_succ, List.getElem_toArray, List.getElem_cons_succ, List.getElem_cons_zero]
    refine takeOff (i := 14) rfl (by kernel_rfl) (by kernel_rfl) (by kernel_rfl) (fun _ _ _ h => h) (by rfl) (by assumption) ?_
    try simp only [Act.put, List.setIfInBounds_toArray, List.set_cons_zero, List.set_cons_succ, List.getElem_toArray, List.getElem_cons_succ, List.getElem_cons_zero]
    refine takeOn (i := 15) (v := ?_) rfl (by kernel_rfl) (by kernel_rfl) (by kernel_rfl) (fun _ _ _ h => h) (by rfl) ?_ (by assumption) ?_
    rotate_left
    focus (intro w hSw; (try dsimp only at hSw); go_simp; (try with_reducible rfl))
    try simp only [Act.put, List.setIfInBounds_toArray, List.set_cons_zero, List.set_cons_succ, List.getElem_toArray, List.getElem_cons_succ, List.getElem_cons_zero]
    refine takeOn (i := 16) (v := ?_) rfl (by kernel_rfl) (by kernel_rfl) (by kernel_rfl) (fun _ _ _ h => h) (by rfl) ?_ (by assumption) ?_
    rotate_left
    focus (intro w hSw; (try dsimp only at hSw); go_simp; (try with_reducible rfl))
    try simp only [Act.put, List.setIfInBounds_toArray, List.set_cons_zero, List.set_cons_succ, List.getElem_toArray, List.getElem_cons_succ, List.getElem_cons_zero]
    refine wpAnyH_done (by kernel_rfl) ?_ _
    go_wp2_with fail
    go_ret
    exact ⟨rfl, HK9.out⟩

theorem piover_nil (now r : Int) (on : Bool) (w : World) : Calls Try.prog 20 #[.pointer none, .int .i64 now] w fun e w' => e = .returned (.bool false) ∧ Keeps No w w' := by
  have HN := hid (fun w' : World => pirefused_nil now r on w')
  go_enter Try.func20, Try.ntmps20
  go_upto_region 1 with fail
  refine wp_region_held_drew (S := (fun _ => True)) (by kernel_rfl) ?_ (fun hHeld => ?_)
  focus (trivial)
  refine takeOn (i := 0) (v := ?_) rfl (by kernel_rfl) (by kernel_rfl) (by kernel_rfl) (fun _ _ _ h => h) (by rfl) ?_ (by assumption) ?_
  rotate_left
  focus (intro w hSw; (try dsimp only at hSw); go_simp; (try with_reducible rfl))
  try simp only [Act.put, List.setIfInBounds_toArray, List.set_cons_zero, List.set_cons_succ, List.getElem_toArray, List.getElem_cons_succ, List.getElem_cons_zero]
  refine wpAnyH_ready (rs := [1]) (by kernel_rfl) (by simp) ?_
  refine AllReadyH.cons rfl (fun K hK => ?_) AllReadyH.nil
  go_simp
  go_at_call 24
  with_reducible refine (HN.out _).mono ?_
  rintro e w9 ⟨rfl, k9⟩
  have HK9 := hid (Keeps.trans (a := w) (by repeat' (first | with_reducible exact Keeps.refl _ _ | with_reducible assumption | with_reducible refine Keeps.drewN ?_ _ | with_reducible refine Keeps.drew ?_ | with_reducible refine Keeps.alloc ?_ _)) k9)
  clear k9
  go_wp2_with fail
  refine hK.out _ _ ?_ (fun hHeld => ?_)
  focus trivial
  clear hK K
  try simp only [Act.put, List.setIfInBounds_toArray, List.set_cons_zero, List.set_cons_succ, List.getElem_toArray, List.getElem_cons_succ, List.getElem_cons_zero]
  refine takeOn (i := 2) (v := ?_) rfl (by kernel_rfl) (by kernel_rfl) (by kernel_rfl) (fun _ _ _ h => h) (by rfl) ?_ (by assumption) ?_
  rotate_left
  focus (intro w hSw; (try dsimp only at hSw); go_simp; (try with_reducible rfl))
  try simp only [Act.put, List.setIfInBounds_toArray, List.set_cons_zero, List.set_cons_succ, List.getElem_toArray, List.getElem_cons_succ, List.getElem_cons_zero]
  refine takeOn (i := 3) (v := ?_) rfl (by kernel_rfl) (by kernel_rfl) (by kernel_rfl) (fun _ _ _ h => h) (by rfl) ?_ (by assumption) ?_
  rotate_left
  focus (intro w hSw; (try dsimp only at hSw); go_simp; (try with_reducible rfl))
  try simp only [Act.put, List.setIfInBounds_toArray, List.set_cons_zero, List.set_cons_succ, List.getElem_toArray, List.getElem_cons_succ, List.getElem_cons_zero]
  refine takeOff (i := 4) rfl (by kernel_rfl) (by kernel_rfl) (by kernel_rfl) (fun _ _ _ h => h) (by rfl) (by assumption) ?_
  try simp only [Act.put, List.setIfInBounds_toArray, List.set_cons_zero, List.set_cons_succ, List.getElem_toArray, List.getElem_cons_succ, List.getElem_cons_zero]
  refine takeOff (i := 5) rfl (by kernel_rfl) (by kernel_rfl) (by kernel_rfl) (fun _ _ _ h => h) (by rfl) (by assumption) ?_
  try simp only [Act.put, List.setIfInBounds_toArray, List.set_cons_zero, List.set_cons_succ, List.getElem_toArray, List.getElem_cons_succ, List.getElem_cons_zero]
  refine takeOff (i := 6) rfl (by kernel_rfl) (by kernel_rfl) (by kernel_rfl) (fun _ _ _ h => h) (by rfl) (by assumption) ?_
  try simp only [Act.put, List.setIfInBounds_toArray, List.set_cons_zero, List.set_cons_succ, List.getElem_toArray, List.getElem_cons_succ, List.getElem_cons_zero]
  refine takeOff (i := 7) rfl (by kernel_rfl) (by kernel_rfl) (by kernel_rfl) (fun _ _ _ h => h) (by rfl) (by assumption) ?_
  try simp only [Act.put, List.setIfInBounds_toArray, List.set_cons_zero, List.set_cons_succ, List.getElem_toArray, List.getElem_cons_succ, List.getElem_cons_zero]
  refine takeOff (i := 8) rfl (by kernel_rfl) (by kernel_rfl) (by kernel_rfl) (fun _ _ _ h => h) (by rfl) (by assumption) ?_
  try simp only [Act.put, List.setIfInBounds_toArray, List.set_cons_zero, List.set_cons_succ, List.getElem_toArray, List.getElem_cons_succ, List.getElem_cons_zero]
  refine takeOff (i := 9) rfl (by kernel_rfl) (by kernel_rfl) (by kernel_rfl) (fun _ _ _ h => h) (by rfl) (by assumption) ?_
  try simp only [Act.put, List.setIfInBounds_toArray, List.set_cons_zero, List.set_cons_succ, List.getElem_toArray, List.getElem_cons_succ, List.getElem_cons_zero]
  refine takeOff (i := 10) rfl (by kernel_rfl) (by kernel_rfl) (by kernel_rfl) (fun _ _ _ h => h) (by rfl) (by assumption) ?_
  try simp only [Act.put, List.setIfInBounds_toArray, List.set_cons_zero, List.set_cons_succ, List.getElem_toArray, List.getElem_cons_succ, List.getElem_cons_zero]
  refine takeOff (i := 11) rfl (by kernel_rfl) (by kernel_rfl) (by kernel_rfl) (fun _ _ _ h => h) (by rfl) (by assumption) ?_
  try simp only [Act.put, List.setIfInBounds_toArray, List.set_cons_zero, List.set_cons_succ, List.getElem_toArray, List.getElem_cons_succ, List.getElem_cons_zero]
  refine takeOff (i := 12) rfl (by kernel_rfl) (by kernel_rfl) (by kernel_rfl) (fun _ _ _ h => h) (by rfl) (by assumption) ?_
  try simp only [Act.put, List.setIfInBounds_toArray, List.set_cons_zero, List.set_cons_succ, List.getElem_toArray, List.getElem_cons_succ, List.getElem_cons_zero]
  refine takeOff (i := 13) rfl (by kernel_rfl) (by kernel_rfl) (by kernel_rfl) (fun _ _ _ h => h) (by rfl) (by assumption) ?_
  try simp only [Act.put, List.setIfInBounds_toArray, List.set_cons_zero, List.set_cons_succ, List.getElem_toArray, List.getElem_cons_succ, List.getElem_cons_zero]
  refine takeOff (i := 14) rfl (by kernel_rfl) (by kernel_rfl) (by kernel_rfl) (fun _ _ _ h => h) (by rfl) (by assumption) ?_
  try simp only [Act.put, List.setIfInBounds_toArray, List.set_cons_zero, List.set_cons_succ, List.getElem_toArray, List.getElem_cons_succ, List.getElem_cons_zero]
  refine takeOn (i := 15) (v := ?_) rfl (by kernel_rfl) (by kernel_rfl) (by kernel_rfl) (fun _ _ _ h => h) (by rfl) ?_ (by assumption) ?_
  rotate_left
  focus (intro w hSw; (try dsimp only at hSw); go_simp; (try with_reducible rfl))
  try simp only [Act.put, List.setIfInBounds_toArray, List.set_cons_zero, List.set_cons_succ, List.getElem_toArray, List.getElem_cons_succ, List.getElem_cons_zero]
  refine takeOn (i := 16) (v := ?_) rfl (by kernel_rfl) (by kernel_rfl) (by kernel_rfl) (fun _ _ _ h => h) (by rfl) ?_ (by assumption) ?_
  rotate_left
  focus (intro w hSw; (try dsimp only at hSw); go_simp; (try with_reducible rfl))
  try simp only [Act.put, List.setIfInBounds_toArray, List.set_cons_zero, List.set_cons_succ, List.getElem_toArray, List.getElem_cons_succ, List.getElem_cons_zero]
  refine wpAnyH_done (by kernel_rfl) ?_ _
  go_wp2_with fail
  go_ret
  exact ⟨rfl, HK9.out⟩

set_option maxHeartbeats 2000000 in
set_option maxRecDepth 100000 in
theorem pioffer_nil (now r : Int) (on : Bool) (w : World) : Calls Try.prog 18 #[.pointer none, .int .i64 now, .int .i64 r, .bool on] w fun e w' => e = .returned (.bool false) ∧ Keeps No w w' := by
  go_enter Try.func18, Try.ntmps18
  go_wp2_with fail
  go_ret
  exact ⟨rfl, Keeps.refl _ _⟩

set_option maxHeartbeats 2000000 in
set_option maxRecDepth 100000 in
theorem pidrain_nil (w : World) : Calls Try.prog 16 #[.pointer none] w fun e w' => e = .returned (.slice none 0 0) ∧ Keeps No w w' := by
  go_enter Try.func16, Try.ntmps16
  go_wp2_with fail
  go_ret
  exact ⟨rfl, Keeps.refl _ _⟩
theorem piwait_nil (w : World) : Calls Try.prog 22 #[.pointer none] w fun e w' => e = .returned (.agg #[.int .i64 0, .int .i64 0, .int .i64 0]) ∧ Keeps No w w' := by
  obtain ⟨b0, hb0⟩ : ∃ b, w.heap.size = b := ⟨_, rfl⟩
  go_enter Try.func22, Try.ntmps22
  go_upto_region 2 with fail
  obtain ⟨W, hW⟩ : ∃ W, (w.alloc (.cells #[.int .i64 0, .int .i64 0, .int .i64 0] 32)).alloc (.cells #[.int .i64 0, .int .i64 0, .int .i64 0] 32) = W := ⟨_, rfl⟩
  have H1 : Hid (Bk W b0 32 [.int .i64 0, .int .i64 0, .int .i64 0]) := hid (by rw [← hW]; exact (Bk.new hb0 _ _).alloc _)
  have H2 : Hid (Bk W (b0 + 1) 32 [.int .i64 0, .int .i64 0, .int .i64 0]) := hid (by rw [← hW]; exact Bk.new (by simp [hb0]) _ _)
  have KW : Hid (Keeps No w W) := hid (by rw [← hW]; exact ((Keeps.refl _ _).alloc _).alloc _)
  try rw [hb0]
  rw [hW]
  clear hW
  have y0 := H1.out.cell 0 rfl
  have f0 := H1.out.free 0
  have z0 := H2.out.cell 0 rfl
  have y1 := H1.out.cell 1 rfl
  have f1 := H1.out.free 1
  have z1 := H2.out.cell 1 rfl
  have y2 := H1.out.cell 2 rfl
  have f2 := H1.out.free 2
  have z2 := H2.out.cell 2 rfl
  go_wp2_with fail
  have b1 := ((H1.out.put 0 (.int .i64 0) rfl).put 1 (.int .i64 0) rfl).put 2 (.int .i64 0) rfl
  have c0 := b1.cell 0 rfl
  have c1 := b1.cell 1 rfl
  have c2 := b1.cell 2 rfl
  refine bodyPost_ret (v := .agg #[.int .i64 0, .int .i64 0, .int .i64 0]) (by simp [results, Try.results22, go_sem, c0, c1, c2]) rfl ?_
  exact ⟨rfl, ((KW.out.setCell (Or.inl (by simp; omega)) _).setCell (Or.inl (by simp; omega)) _).setCell (Or.inl (by simp; omega)) _⟩

theorem qband_holds {w : World} {qb : Nat} {a b c : Int} {F : Nat → Prop} {Lq : Nat → List Ev} {l : List (Int × Ev)} (h : Holds w qb a b c F Lq l) {i : Nat} (h1 : 1 ≤ i) (h3 : i ≤ 3) {p : Int} (hp : p = i) :
    Calls Try.prog 35 #[.pointer (some ⟨qb, 0, none⟩), .int .u8 p] w fun e w' => ∃ a9 c9, e = .returned (.slice a9 (bandL p l).length c9) ∧ Keeps No w w' := by
  subst hp
  refine (qall_ok h.q rfl h1 h3).mono ?_
  rintro e w' ⟨v', rfl, ho, k, _⟩
  rw [h.band i h1 h3] at ho
  obtain ⟨a9, c9, rfl⟩ := own_any ho
  exact ⟨a9, c9, rfl, k⟩


set_option maxHeartbeats 4000000 in
set_option maxRecDepth 100000 in
theorem piwait_any {w : World} {b : Nat} {F : Nat → Prop} {C : Cfg} {s : InkD} (h : PI w b F C s) :
    Calls Try.prog 22 #[.pointer (some ⟨b, 0, none⟩)] w fun e w' => e = .returned (.agg #[.int .i64 ((bandL 1 s.l).length : Int), .int .i64 ((bandL 2 s.l).length : Int), .int .i64 ((bandL 3 s.l).length : Int)]) ∧ Keeps No w w' := by
  obtain ⟨l, told, la, rfn⟩ := s
  obtain ⟨qb, ru, F0, Lq, h, _⟩ := h
  have HB := hid h.blk
  have hq := h.q
  simp only at hq ⊢
  have hbl := h.blk.lt
  obtain ⟨n1, hn1⟩ : ∃ q, (bandL 1 l).length = q := ⟨_, rfl⟩
  obtain ⟨n2, hn2⟩ : ∃ q, (bandL 2 l).length = q := ⟨_, rfl⟩
  obtain ⟨n3, hn3⟩ : ∃ q, (bandL 3 l).length = q := ⟨_, rfl⟩
  have hq1 := fun (w' : World) (k : Keeps No w w') => qband_holds (hq.keep k (fun _ _ h => h)) (i := 1) (by omega) (by omega) (p := 1) rfl
  have hq2 := fun (w' : World) (k : Keeps No w w') => qband_holds (hq.keep k (fun _ _ h => h)) (i := 2) (by omega) (by omega) (p := 2) rfl
  have hq3 := fun (w' : World) (k : Keeps No w w') => qband_holds (hq.keep k (fun _ _ h => h)) (i := 3) (by omega) (by omega) (p := 3) rfl
  rw [hn1] at hq1 ⊢
  rw [hn2] at hq2 ⊢
  rw [hn3] at hq3 ⊢
  have HQ1 := hid hq1
  have HQ2 := hid hq2
  have HQ3 := hid hq3
  clear h hq hq1 hq2 hq3 hn1 hn2 hn3
  obtain ⟨rb, hrb⟩ : ∃ q, w.heap.size = q := ⟨_, rfl⟩
  obtain ⟨wb, hwb⟩ : ∃ q, rb + 1 = q := ⟨_, rfl⟩
  go_enter Try.func22, Try.ntmps22
  go_upto_region 2 with fail
  obtain ⟨W, hW⟩ : ∃ W, (w.alloc (.cells #[.int .i64 0, .int .i64 0, .int .i64 0] 32)).alloc (.cells #[.int .i64 0, .int .i64 0, .int .i64 0] 32) = W := ⟨_, rfl⟩
  have HRB : Hid (Bk W rb 32 [.int .i64 0, .int .i64 0, .int .i64 0]) := hid (by rw [← hW]; exact (Bk.new hrb _ _).alloc _)
  have HWB : Hid (Bk W wb 32 [.int .i64 0, .int .i64 0, .int .i64 0]) := hid (by rw [← hW, ← hwb]; exact Bk.new (by simp [hrb]) _ _)
  have KW : Hid (Keeps No w W) := hid (by rw [← hW]; exact ((Keeps.refl _ _).alloc _).alloc _)
  try rw [hrb]
  try rw [hwb]
  rw [hW]
  clear hW
  go_wp2_with fail
  go_loopw [8] (fun v8 wr => ∃ k : Nat, k ≤ 3 ∧ v8 = .int .i64 (k : Int) ∧ Hid (Bk wr wb 32 (if k = 0 then [.int .i64 0, .int .i64 0, .int .i64 0] else if k = 1 then [.int .i64 (n1 : Int), .int .i64 0, .int .i64 0] else if k = 2 then [.int .i64 (n1 : Int), .int .i64 (n2 : Int), .int .i64 0] else [.int .i64 (n1 : Int), .int .i64 (n2 : Int), .int .i64 (n3 : Int)])) ∧ Hid (Bk wr rb 32 [.int .i64 0, .int .i64 0, .int .i64 0]) ∧ Hid (Keeps No w wr)) (fun v8 _ => 3 - (intOfS v8).toNat)
  case atStart => exact ⟨0, by omega, rfl, HWB, HRB, KW⟩
  case round =>
    clear HWB HRB KW
    obtain ⟨k, hk, rfl, HWB, HRB, HK⟩ := hrel
    obtain rfl | rfl | rfl | rfl : k = 0 ∨ k = 1 ∨ k = 2 ∨ k = 3 := by omega
    · have hb := HQ1.out
      have x0 := (HB.out.kept HK.out).cell 0 rfl
      have y0 := HWB.out.cell 0 rfl
      have fy0 := HWB.out.free 0
      have y1 := HWB.out.cell 1 rfl
      have fy1 := HWB.out.free 1
      have y2 := HWB.out.cell 2 rfl
      have fy2 := HWB.out.free 2
      go_wp2_with fail
      refine (hb _ HK.out).mono ?_
      rintro e w9 ⟨a9, c9, rfl, kq⟩
      have HWB9 := hid (HWB.out.kept kq)
      have HRB9 := hid (HRB.out.kept kq)
      have HK9 := hid (HK.out.trans kq)
      clear kq hb x0 y0 fy0 y1 fy1 y2 fy2
      have y0 := HWB9.out.cell 0 rfl
      have fy0 := HWB9.out.free 0
      have y1 := HWB9.out.cell 1 rfl
      have fy1 := HWB9.out.free 1
      have y2 := HWB9.out.cell 2 rfl
      have fy2 := HWB9.out.free 2
      go_wp2_with fail
      go_roundw
      case rel => exact ⟨1, by omega, by first | rfl | go_num, hid (HWB9.out.put 0 (.int .i64 (n1 : Int)) rfl), hid (HRB9.out.other (fun e => by first | omega | (simp at e; omega)) _), hid (HK9.out.setCell (Or.inl (by simp; omega)) _)⟩
      case measure => simp [intOfS]
    · have hb := HQ2.out
      have x0 := (HB.out.kept HK.out).cell 0 rfl
      have y0 := HWB.out.cell 0 rfl
      have fy0 := HWB.out.free 0
      have y1 := HWB.out.cell 1 rfl
      have fy1 := HWB.out.free 1
      have y2 := HWB.out.cell 2 rfl
      have fy2 := HWB.out.free 2
      go_wp2_with fail
      refine (hb _ HK.out).mono ?_
      rintro e w9 ⟨a9, c9, rfl, kq⟩
      have HWB9 := hid (HWB.out.kept kq)
      have HRB9 := hid (HRB.out.kept kq)
      have HK9 := hid (HK.out.trans kq)
      clear kq hb x0 y0 fy0 y1 fy1 y2 fy2
      have y0 := HWB9.out.cell 0 rfl
      have fy0 := HWB9.out.free 0
      have y1 := HWB9.out.cell 1 rfl
      have fy1 := HWB9.out.free 1
      have y2 := HWB9.out.cell 2 rfl
      have fy2 := HWB9.out.free 2
      go_wp2_with fail
      go_roundw
      case rel => exact ⟨2, by omega, by first | rfl | go_num, hid (HWB9.out.put 1 (.int .i64 (n2 : Int)) rfl), hid (HRB9.out.other (fun e => by first | omega | (simp at e; omega)) _), hid (HK9.out.setCell (Or.inl (by simp; omega)) _)⟩
      case measure => simp [intOfS]
    · have hb := HQ3.out
      have x0 := (HB.out.kept HK.out).cell 0 rfl
      have y0 := HWB.out.cell 0 rfl
      have fy0 := HWB.out.free 0
      have y1 := HWB.out.cell 1 rfl
      have fy1 := HWB.out.free 1
      have y2 := HWB.out.cell 2 rfl
      have fy2 := HWB.out.free 2
      go_wp2_with fail
      refine (hb _ HK.out).mono ?_
      rintro e w9 ⟨a9, c9, rfl, kq⟩
      have HWB9 := hid (HWB.out.kept kq)
      have HRB9 := hid (HRB.out.kept kq)
      have HK9 := hid (HK.out.trans kq)
      clear kq hb x0 y0 fy0 y1 fy1 y2 fy2
      have y0 := HWB9.out.cell 0 rfl
      have fy0 := HWB9.out.free 0
      have y1 := HWB9.out.cell 1 rfl
      have fy1 := HWB9.out.free 1
      have y2 := HWB9.out.cell 2 rfl
      have fy2 := HWB9.out.free 2
      go_wp2_with fail
      go_roundw
      case rel => exact ⟨3, by omega, by first | rfl | go_num, hid (HWB9.out.put 2 (.int .i64 (n3 : Int)) rfl), hid (HRB9.out.other (fun e => by first | omega | (simp at e; omega)) _), hid (HK9.out.setCell (Or.inl (by simp; omega)) _)⟩
      case measure => simp [intOfS]
    · have y0 := HWB.out.cell 0 rfl
      have y1 := HWB.out.cell 1 rfl
      have y2 := HWB.out.cell 2 rfl
      have z0 := HRB.out.cell 0 rfl
      have z1 := HRB.out.cell 1 rfl
      have z2 := HRB.out.cell 2 rfl
      have f0 := HRB.out.free 0
      have f1 := HRB.out.free 1
      have f2 := HRB.out.free 2
      go_wp2_with fail
      have b1 := ((HRB.out.put 0 (.int .i64 n1) rfl).put 1 (.int .i64 n2) rfl).put 2 (.int .i64 n3) rfl
      have c0 := b1.cell 0 rfl
      have c1 := b1.cell 1 rfl
      have c2 := b1.cell 2 rfl
      refine bodyPost_ret (v := .agg #[.int .i64 n1, .int .i64 n2, .int .i64 n3]) (by simp [results, Try.results22, go_sem, c0, c1, c2]) rfl ?_
      exact ⟨rfl, ((HK.out.setCell (Or.inl (by simp; omega)) _).setCell (Or.inl (by simp; omega)) _).setCell (Or.inl (by simp; omega)) _⟩

end Go.Proofs.Ytoodlhagecannaa
