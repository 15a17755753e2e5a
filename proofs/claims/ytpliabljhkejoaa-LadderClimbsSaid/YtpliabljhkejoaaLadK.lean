/-
  Rules by numbers, whose priorities rise.
-/
import Derived.Test.YtpliabljhkejoaaLadM
import Derived.Test.YtpliabljhkejoaaMake
import Derived.Deep.DeepCutAuto
import Derived.Deep.CutBlock
namespace Go.Proofs.Ytpliabljhkejoaa
open Go.RowKit
set_option linter.unusedVariables false

theorem priD_snoc (p : Int) (l : List StD) (s : StD) {k : Nat} (hk : k ≤ l.length) : priD p (l ++ [s]) k = priD p l k := by
  unfold priD
  rw [List.take_append_of_le_length hk]

theorem StsOk.nil (p : Int) : StsOk p [] := ⟨fun s hs => by simp at hs, fun k => by simp [priD]⟩
theorem StsOk.snoc {p q : Int} {l : List StD} {s : StD} (h : StsOk p l) (hl : priD p l l.length = q) (h1 : 1 ≤ s.wait ∧ s.wait ≤ 65536) (h2 : q ≤ s.pri) : StsOk p (l ++ [s]) := by
  refine ⟨fun x hx => ?_, fun k => ?_⟩
  · rcases List.mem_append.1 hx with hx | hx
    · exact h.1 x hx
    · simp at hx; subst hx; exact h1
  · rcases Nat.lt_trichotomy k l.length with hk | hk | hk
    · rw [priD_snoc p l s (by omega), priD_snoc p l s (by omega)]; exact h.2 k
    · subst hk
      rw [priD_snoc p l s (Nat.le_refl _), hl, priD_succ p (l ++ [s]) l.length (by simp)]
      simpa using h2
    · rw [priD_all p (l ++ [s]) k (by simp; omega), priD_all p (l ++ [s]) (k + 1) (by simp; omega)]
      exact Int.le_refl _
theorem priD_last (p : Int) (l : List StD) (s : StD) : priD p (l ++ [s]) (l ++ [s]).length = s.pri := by
  rw [List.length_append, List.length_singleton, priD_succ p (l ++ [s]) l.length (by simp)]
  simp
theorem StsOk.small {p : Int} {l : List StD} (h : StsOk p l) (h4 : l.length ≤ 8) : SmallSt l := ⟨h4, fun s hs => by have := h.1 s hs; omega⟩

/-- A rule under way: its block rb, behind the result's z. -/
structure LR (w0 w : World) (z : Nat) (p0 q : Int) (ls : List StD) (a : Option Addr) (c : Nat) : Prop where
  size : w0.heap.size = z
  res : Bk w z 26 [.int .u8 0, .int .i64 0, .int .i64 0, .int .i64 0, .int .i64 0, .int .i64 0, .int .u8 0, .bool false, .slice none 0 0]
  blk : Bk w (z + 1) 26 [.int .u8 0, .int .i64 0, .int .i64 0, .int .i64 0, .int .i64 0, .int .i64 0, .int .u8 p0, .bool false, .slice a ls.length c]
  row : w.ownsRow 0 43 2 (.slice a ls.length c) ls.length (ls.flatMap encSt)
  own : ∀ b, (Value.slice a ls.length c).ownBlock = some b → z + 2 ≤ b
  keeps : Keeps No w0 w
  ok : StsOk p0 ls
  last : priD p0 ls ls.length = q

theorem LR.mid {w0 w W w2 : World} {z : Nat} {p0 q : Int} {ls : List StD} {a : Option Addr} {c : Nat} (h : LR w0 w z p0 q ls a c) (k1 : Keeps No w W) (k2 : Keeps (Bl (.slice a ls.length c)) W w2) : Bk w2 (z + 1) 26 [.int .u8 0, .int .i64 0, .int .i64 0, .int .i64 0, .int .i64 0, .int .i64 0, .int .u8 p0, .bool false, .slice a ls.length c] :=
  (h.blk.kept k1).keep k2 (fun e => by have := h.own _ e; omega)

theorem LR.step {w0 w W w2 : World} {z : Nat} {p0 q : Int} {ls : List StD} {a a2 : Option Addr} {c c2 : Nat} {s : StD} (h : LR w0 w z p0 q ls a c) (k1 : Keeps No w W) (k2 : Keeps (Bl (.slice a ls.length c)) W w2)
    (ho : w2.ownsRow 0 43 2 (.slice a2 (ls.length + 1) c2) (ls.length + 1) (ls.flatMap encSt ++ encSt s)) (hb : ∀ k, (Value.slice a2 (ls.length + 1) c2).ownBlock = some k → (Value.slice a ls.length c).ownBlock = some k ∨ W.heap.size ≤ k)
    (h1 : 1 ≤ s.wait ∧ s.wait ≤ 65536) (h2 : q ≤ s.pri) : LR w0 (w2.setCell ⟨z + 1, 8, none⟩ (.slice a2 (ls.length + 1) c2)) z p0 s.pri (ls ++ [s]) a2 c2 := by
  have hlt := h.blk.lt
  have hsz := k1.size
  have hnew : ∀ b, (Value.slice a2 (ls.length + 1) c2).ownBlock = some b → z + 2 ≤ b := fun b e => by
    rcases hb b e with h' | h'
    · exact h.own b h'
    · omega
  have kS : Keeps (fun b => b = z + 1) w2 (w2.setCell ⟨z + 1, 8, none⟩ (.slice a2 (ls.length + 1) c2)) := (Keeps.refl _ _).at
  have hz := h.size
  refine ⟨h.size, ?_, ?_, ?_, ?_, ?_, h.ok.snoc h.last h1 h2, priD_last _ _ _⟩
  · exact ((h.res.kept k1).keep k2 (fun e => by have := h.own _ e; omega)).keep kS (by omega)
  · rw [List.length_append, List.length_singleton]; exact (h.mid k1 k2).put 8 _ rfl
  · rw [List.length_append, List.length_singleton, List.flatMap_append]
    exact Keeps.own kS (by simpa using ho) (fun b hb e => by have := hnew b hb; omega)
  · rw [List.length_append, List.length_singleton]; exact hnew
  · exact ((h.keeps.trans k1).trans' k2 (fun _ _ h => h) (fun b hb e => by have := h.own b e; omega)).trans' kS (fun _ _ h => h) (fun b hb e => by omega)

def LRulePost (w : World) (p0 : Int) (N : Nat) (e : Ending) (w' : World) : Prop := ∃ (ls : List StD) (v : Value), e = .returned (.agg #[.int .u8 0, .int .i64 0, .int .i64 0, .int .i64 0, .int .i64 0, .int .i64 0, .int .u8 p0, .bool false, v]) ∧ SlS w' v ls ∧ StsOk p0 ls ∧ ls.length = min N 4 ∧ Keeps No w w'

set_option maxHeartbeats 8000000 in
set_option maxRecDepth 100000 in
theorem lrule_any {w : World} {s0 : Option Addr} {cap N : Nat} {qs : List Int} (p : Int) (hp : 0 ≤ p ∧ p ≤ 255) (hN : qs.length = N) (hs : Sl w 1 (.slice s0 N cap) N (qs.map (.int .u16 ·))) (hq : ∀ x ∈ qs, 0 ≤ x ∧ x ≤ 65535) (h8 : N ≤ 8) :
    Calls Try.prog 9 #[.int .u8 p, .slice s0 N cap] w (LRulePost w (1 + p % 3) N) := by
  obtain ⟨i0, hi0, hz0, hz1, hz2⟩ := info_parts info_stgA
  have HI := hid hi0
  have HN := hid hN
  have HQ := hid hq
  have HS := hid hs
  obtain ⟨hp0, hp1⟩ := hp
  obtain ⟨p0, hpe⟩ : ∃ y, 1 + p % 3 = y := ⟨_, rfl⟩
  have hpb : 1 ≤ p0 ∧ p0 ≤ 3 := by omega
  have hwp : IntKind.u8.wrap (1 + p % 3) = p0 := by rw [IntKind.wrap_u8]; omega
  rw [hpe]
  obtain ⟨hpb0, hpb1⟩ := hpb
  obtain ⟨z, hz⟩ : ∃ z, w.heap.size = z := ⟨_, rfl⟩
  obtain ⟨W2, hW2⟩ : ∃ W, (w.alloc (.cells #[.int .u8 0, .int .i64 0, .int .i64 0, .int .i64 0, .int .i64 0, .int .i64 0, .int .u8 0, .bool false, .slice none 0 0] 26)).alloc (.cells #[.int .u8 0, .int .i64 0, .int .i64 0, .int .i64 0, .int .i64 0, .int .i64 0, .int .u8 p0, .bool false, .slice none 0 0] 26) = W := ⟨_, rfl⟩
  have HL : Hid (LR w W2 z p0 p0 [] none 0) := hid ⟨hz, by rw [← hW2]; exact (Bk.new hz _ _).alloc _, by rw [← hW2]; exact Bk.new (by simp [hz]) _ _, World.ownsRow_nil _ _ _ _, fun b hb => by simp [Value.ownBlock] at hb, by rw [← hW2]; exact ((Keeps.refl _ _).alloc _).alloc _, StsOk.nil _, rfl⟩
  have HW2 := hid hW2
  have HZ := hid hz
  clear hi0 hN hq hs hW2 hz
  go_enter Try.func9, Try.ntmps9
  go_upto_region 2 with fail
  rw [HZ.out, HW2.out]
  have x6 := HL.out.blk.cell 6 rfl
  clear HW2 hpe hwp
  go_wp2_with fail
  clear x6
  go_loopw [6, 7] (fun v6 v7 wr => ∃ (i : Nat) (q : Int) (ls : List StD) (a : Option Addr) (c : Nat), i ≤ N ∧ i ≤ 4 ∧ v7 = .int .i64 i ∧ v6 = .int .u8 q ∧ 1 ≤ q ∧ q ≤ 3 ∧ Hid (ls.length = i) ∧ Hid (LR w wr z p0 q ls a c)) (fun _ v7 _ => 4 - (intOf v7).toNat)
  case atStart => exact ⟨0, p0, [], none, 0, Nat.zero_le _, Nat.zero_le _, rfl, rfl, hpb0, hpb1, hid rfl, HL⟩
  case round =>
    clear HL
    obtain ⟨i, q, ls, a, c, hi, hi4, rfl, rfl, hq1, hq3, HLN, HL⟩ := hrel
    by_cases hiN : i < N
    · have d1 : decide ((i : Int) < (N : Int)) = true := decide_eq_true (by omega)
      by_cases h4 : i < 4
      · have d2 : decide ((i : Int) < 4) = true := decide_eq_true (by omega)
        have hil : i < qs.length := by rw [HN.out]; exact hiN
        obtain ⟨x, hx⟩ : ∃ x, qs[i] = x := ⟨_, rfl⟩
        obtain ⟨x0, x1⟩ := HQ.out _ (List.getElem_mem hil)
        rw [hx] at x0 x1
        obtain ⟨g, off, rfl, _, hc⟩ := Sl.cellAt (j := i) (u := .int .u16 x) HS.out (by rw [List.getElem?_map, List.getElem?_eq_getElem hil, hx]; rfl)
        have c0 := HL.out.keeps.cell (fun h => h) hc
        have HC := hid hc
        have hw1 : IntKind.u8.wrap (q + IntKind.u8.wrap (x % 2)) = q + x % 2 := by rw [IntKind.wrap_u8, IntKind.wrap_u8]; omega
        have hw2 : IntKind.u8.wrap (x % 2) = x % 2 := by rw [IntKind.wrap_u8]; omega
        clear hx hc hil
        go_upto_if 33 with fail
        go_cut [6] from 33 to 34 (fun v6 wx => ∃ q' : Int, v6 = .int .u8 q' ∧ q ≤ q' ∧ q' ≤ 3 ∧ Hid (wr = wx))
        case first =>
          by_cases h3 : q + x % 2 > 3
          · have d3 : decide (q + x % 2 > 3) = true := decide_eq_true h3
            go_wp2_with fail
            go_meet
            exact ⟨3, rfl, hq3, by omega, hid rfl⟩
          · have d3 : decide (q + x % 2 > 3) = false := decide_eq_false h3
            go_wp2_with fail
            go_meet
            exact ⟨q + x % 2, rfl, by omega, by omega, hid rfl⟩
        case rest =>
        obtain ⟨q', rfl, hqq, hq'3, HWX⟩ := hcut
        have hwx := HWX.out
        subst hwx
        clear HWX hw1 hw2
        have x8 := HL.out.blk.cell 8 rfl
        have f8 := HL.out.blk.free 8
        have hww : IntKind.i64.wrap (1 + x) = 1 + x := by simp only [IntKind.wrap_i64]; omega
        have hww2 : IntKind.i64.wrap x = x := by simp only [IntKind.wrap_i64]; omega
        have hl4 : ls.length ≤ 4 := by rw [HLN.out]; exact hi4
        have x8a := cellA (.cells #[.int .i64 (1 + x), .int .u8 q'] 43) x8
        go_upto_region 9 with fail
        go_region_law (refine step_append rfl (.tmp 35) (.tmp 44) 24 rfl 43 i0 (.agg #[.int .i64 0, .int .u8 0]) 2 16 Try.underlying24 HI.out hz0 hz1 hz2 rfl (by decide) (.slice a ls.length c) (.slice (some ⟨wr.heap.size, 0, none⟩) 1 1) ls.length 1 (ls.flatMap encSt) _ (by rfl) (by rfl) (Keeps.own (S := No) (by repeat' (first | with_reducible exact Keeps.refl _ _ | with_reducible refine Keeps.drewN ?_ _ | with_reducible refine Keeps.drew ?_ | with_reducible refine Keeps.alloc ?_ _)) HL.out.row (fun _ _ h => h)) (Sl.newAt (by simp) _ _ _ _ rfl (by decide)) (by intro u hu; simp at hu; rcases hu with rfl | rfl <;> rfl) (by unfold maxLen; omega) (by omega) ?_; intro v2 w2 ho2 hk2 hb2; obtain ⟨a2, c2, rfl⟩ := own_any ho2; have hm2 := HL.out.mid (by repeat' (first | with_reducible exact Keeps.refl _ _ | with_reducible refine Keeps.drewN ?_ _ | with_reducible refine Keeps.drew ?_ | with_reducible refine Keeps.alloc ?_ _)) hk2; have y8 := hm2.cell 8 rfl; have g8 := hm2.free 8; have HO2 := hid ho2; have HK2 := hid hk2; have HB2 := hid hb2; clear ho2 hk2 hb2 hm2)
        all_goals
          go_wp2_with fail
          go_roundw
          case rel => exact ⟨i + 1, q', ls ++ [⟨1 + x, q'⟩], a2, c2, by omega, by omega, by go_num, rfl, by omega, hq'3, hid (by rw [List.length_append, HLN.out]; rfl), hid (HL.out.step (s := ⟨1 + x, q'⟩) (by repeat' (first | with_reducible exact Keeps.refl _ _ | with_reducible refine Keeps.drewN ?_ _ | with_reducible refine Keeps.drew ?_ | with_reducible refine Keeps.alloc ?_ _)) HK2.out HO2.out HB2.out ⟨by show 1 ≤ 1 + x; omega, by show 1 + x ≤ 65536; omega⟩ hqq)⟩
          case measure => simp [intOf]; omega
      · have d2 : decide ((i : Int) < 4) = false := decide_eq_false (by omega)
        have x0 := HL.out.blk.cell 0 rfl
        have x1 := HL.out.blk.cell 1 rfl
        have x2 := HL.out.blk.cell 2 rfl
        have x3 := HL.out.blk.cell 3 rfl
        have x4 := HL.out.blk.cell 4 rfl
        have x5 := HL.out.blk.cell 5 rfl
        have x6 := HL.out.blk.cell 6 rfl
        have x7 := HL.out.blk.cell 7 rfl
        have x8 := HL.out.blk.cell 8 rfl
        have y0 := HL.out.res.cell 0 rfl
        have y1 := HL.out.res.cell 1 rfl
        have y2 := HL.out.res.cell 2 rfl
        have y3 := HL.out.res.cell 3 rfl
        have y4 := HL.out.res.cell 4 rfl
        have y5 := HL.out.res.cell 5 rfl
        have y6 := HL.out.res.cell 6 rfl
        have y7 := HL.out.res.cell 7 rfl
        have y8 := HL.out.res.cell 8 rfl
        have f0 := HL.out.res.free 0
        have f1 := HL.out.res.free 1
        have f2 := HL.out.res.free 2
        have f3 := HL.out.res.free 3
        have f4 := HL.out.res.free 4
        have f5 := HL.out.res.free 5
        have f6 := HL.out.res.free 6
        have f7 := HL.out.res.free 7
        have f8 := HL.out.res.free 8
        have hb9 := ((((((((HL.out.res.put 0 (.int .u8 0) rfl).put 1 (.int .i64 0) rfl).put 2 (.int .i64 0) rfl).put 3 (.int .i64 0) rfl).put 4 (.int .i64 0) rfl).put 5 (.int .i64 0) rfl).put 6 (.int .u8 p0) rfl).put 7 (.bool false) rfl).put 8 (.slice a ls.length c) rfl
        have k9 : Keeps (fun b => b = z) wr _ := (((((((((Keeps.refl _ wr).at (b := z) (i := 0) (u := .int .u8 0)).at (i := 1) (u := .int .i64 0)).at (i := 2) (u := .int .i64 0)).at (i := 3) (u := .int .i64 0)).at (i := 4) (u := .int .i64 0)).at (i := 5) (u := .int .i64 0)).at (i := 6) (u := .int .u8 p0)).at (i := 7) (u := .bool false)).at (i := 8) (u := .slice a ls.length c)
        obtain ⟨W9, hW9⟩ : ∃ W, (((((((((wr.setCell ⟨z, 0, none⟩ (.int .u8 0)).setCell ⟨z, 1, none⟩ (.int .i64 0)).setCell ⟨z, 2, none⟩ (.int .i64 0)).setCell ⟨z, 3, none⟩ (.int .i64 0)).setCell ⟨z, 4, none⟩ (.int .i64 0)).setCell ⟨z, 5, none⟩ (.int .i64 0)).setCell ⟨z, 6, none⟩ (.int .u8 p0)).setCell ⟨z, 7, none⟩ (.bool false)).setCell ⟨z, 8, none⟩ (.slice a ls.length c)) = W := ⟨_, rfl⟩
        rw [hW9] at hb9 k9
        have HB9 := hid hb9
        have K9 := hid k9
        have HW9 := hid hW9
        clear hb9 k9 hW9
        go_wp2_with fail
        rw [HW9.out]
        have b0 := HB9.out.cell 0 rfl
        have b1 := HB9.out.cell 1 rfl
        have b2 := HB9.out.cell 2 rfl
        have b3 := HB9.out.cell 3 rfl
        have b4 := HB9.out.cell 4 rfl
        have b5 := HB9.out.cell 5 rfl
        have b6 := HB9.out.cell 6 rfl
        have b7 := HB9.out.cell 7 rfl
        have b8 := HB9.out.cell 8 rfl
        refine bodyPost_ret (v := .agg #[.int .u8 0, .int .i64 0, .int .i64 0, .int .i64 0, .int .i64 0, .int .i64 0, .int .u8 p0, .bool false, .slice a ls.length c]) (by simp [results, Try.results9, go_sem, b0, b1, b2, b3, b4, b5, b6, b7, b8]) rfl ?_
        refine ⟨ls, _, rfl, ?_, HL.out.ok, ?_, ?_⟩
        · exact Sl.keep (Sl.ofOwn HL.out.row) K9.out (fun b hb e => by have := HL.out.own b hb; omega)
        · have := HLN.out; omega
        · exact HL.out.keeps.trans' K9.out (fun _ _ h => h) (fun b hb e => by have := HZ.out; omega)
    · have d1 : decide ((i : Int) < (N : Int)) = false := decide_eq_false (by omega)
      have x0 := HL.out.blk.cell 0 rfl
      have x1 := HL.out.blk.cell 1 rfl
      have x2 := HL.out.blk.cell 2 rfl
      have x3 := HL.out.blk.cell 3 rfl
      have x4 := HL.out.blk.cell 4 rfl
      have x5 := HL.out.blk.cell 5 rfl
      have x6 := HL.out.blk.cell 6 rfl
      have x7 := HL.out.blk.cell 7 rfl
      have x8 := HL.out.blk.cell 8 rfl
      have y0 := HL.out.res.cell 0 rfl
      have y1 := HL.out.res.cell 1 rfl
      have y2 := HL.out.res.cell 2 rfl
      have y3 := HL.out.res.cell 3 rfl
      have y4 := HL.out.res.cell 4 rfl
      have y5 := HL.out.res.cell 5 rfl
      have y6 := HL.out.res.cell 6 rfl
      have y7 := HL.out.res.cell 7 rfl
      have y8 := HL.out.res.cell 8 rfl
      have f0 := HL.out.res.free 0
      have f1 := HL.out.res.free 1
      have f2 := HL.out.res.free 2
      have f3 := HL.out.res.free 3
      have f4 := HL.out.res.free 4
      have f5 := HL.out.res.free 5
      have f6 := HL.out.res.free 6
      have f7 := HL.out.res.free 7
      have f8 := HL.out.res.free 8
      have hb9 := ((((((((HL.out.res.put 0 (.int .u8 0) rfl).put 1 (.int .i64 0) rfl).put 2 (.int .i64 0) rfl).put 3 (.int .i64 0) rfl).put 4 (.int .i64 0) rfl).put 5 (.int .i64 0) rfl).put 6 (.int .u8 p0) rfl).put 7 (.bool false) rfl).put 8 (.slice a ls.length c) rfl
      have k9 : Keeps (fun b => b = z) wr _ := (((((((((Keeps.refl _ wr).at (b := z) (i := 0) (u := .int .u8 0)).at (i := 1) (u := .int .i64 0)).at (i := 2) (u := .int .i64 0)).at (i := 3) (u := .int .i64 0)).at (i := 4) (u := .int .i64 0)).at (i := 5) (u := .int .i64 0)).at (i := 6) (u := .int .u8 p0)).at (i := 7) (u := .bool false)).at (i := 8) (u := .slice a ls.length c)
      obtain ⟨W9, hW9⟩ : ∃ W, (((((((((wr.setCell ⟨z, 0, none⟩ (.int .u8 0)).setCell ⟨z, 1, none⟩ (.int .i64 0)).setCell ⟨z, 2, none⟩ (.int .i64 0)).setCell ⟨z, 3, none⟩ (.int .i64 0)).setCell ⟨z, 4, none⟩ (.int .i64 0)).setCell ⟨z, 5, none⟩ (.int .i64 0)).setCell ⟨z, 6, none⟩ (.int .u8 p0)).setCell ⟨z, 7, none⟩ (.bool false)).setCell ⟨z, 8, none⟩ (.slice a ls.length c)) = W := ⟨_, rfl⟩
      rw [hW9] at hb9 k9
      have HB9 := hid hb9
      have K9 := hid k9
      have HW9 := hid hW9
      clear hb9 k9 hW9
      go_wp2_with fail
      rw [HW9.out]
      have b0 := HB9.out.cell 0 rfl
      have b1 := HB9.out.cell 1 rfl
      have b2 := HB9.out.cell 2 rfl
      have b3 := HB9.out.cell 3 rfl
      have b4 := HB9.out.cell 4 rfl
      have b5 := HB9.out.cell 5 rfl
      have b6 := HB9.out.cell 6 rfl
      have b7 := HB9.out.cell 7 rfl
      have b8 := HB9.out.cell 8 rfl
      refine bodyPost_ret (v := .agg #[.int .u8 0, .int .i64 0, .int .i64 0, .int .i64 0, .int .i64 0, .int .i64 0, .int .u8 p0, .bool false, .slice a ls.length c]) (by simp [results, Try.results9, go_sem, b0, b1, b2, b3, b4, b5, b6, b7, b8]) rfl ?_
      refine ⟨ls, _, rfl, ?_, HL.out.ok, ?_, ?_⟩
      · exact Sl.keep (Sl.ofOwn HL.out.row) K9.out (fun b hb e => by have := HL.out.own b hb; omega)
      · have := HLN.out; omega
      · exact HL.out.keeps.trans' K9.out (fun _ _ h => h) (fun b hb e => by have := HZ.out; omega)
end Go.Proofs.Ytpliabljhkejoaa
