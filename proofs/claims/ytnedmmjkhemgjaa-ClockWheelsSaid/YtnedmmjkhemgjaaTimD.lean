/-
  The document's timers: Due.
-/
import Derived.Test.YtnedmmjkhemgjaaWhl2
import Derived.Test.YtnedmmjkhemgjaaTimR
import Derived.BigQuiet
import Derived.Deep.DeepCutAuto
import Derived.Deep.CutBlock
namespace Go.Proofs.Ytnedmmjkhemgjaa
open Go.RowKit Go.Maps
set_option linter.unusedVariables false

theorem dropT_snoc (L : List Tmr) (xs : List Int) (x : Int) : dropT L (xs ++ [x]) = stopT (dropT L xs) x := by
  unfold dropT stopT
  rw [List.filter_filter]
  congr 1
  funext p
  by_cases e : p.1 = x <;> simp [e]

theorem stop_less {L : List Tmr} {x : Int} (h : x ∈ idsT L) : (stopT L x).length + 1 ≤ L.length := by
  obtain ⟨p, hp, rfl⟩ := List.mem_map.1 h
  have := List.length_filter_lt_length_iff_exists.2 (⟨p, hp, by simp⟩ : ∃ q ∈ L, ¬ (decide (q.1 ≠ p.1)) = true)
  unfold stopT
  omega

def lenS : Value → Nat
  | .slice _ n _ => n
  | _ => 0

/-- So far: these were taken, in order; what is left is behind them. -/
structure DueI (L : List Tmr) (now : Int) (L1 : List Tmr) (xs : List Int) : Prop where
  left : L1 = dropT L xs
  ord : xs.Pairwise (fun x y => ltT (tmOf L) x y = true)
  due : ∀ x ∈ xs, x ∈ idsT L ∧ tmOf L x ≤ now
  bef : ∀ x ∈ xs, ∀ p ∈ L1, p.2 ≤ now → ltT (tmOf L) x p.1 = true

theorem DueI.start (L : List Tmr) (now : Int) : DueI L now L [] := ⟨(by unfold dropT; exact (List.filter_eq_self.2 (fun p hp => by simp)).symm), List.Pairwise.nil, by simp, by simp⟩

theorem DueI.at {L : List Tmr} {now : Int} {L1 : List Tmr} {xs : List Int} (h : DueI L now L1 xs) (hn : (idsT L).Nodup) {p : Tmr} (hp : p ∈ L1) : tmOf L p.1 = p.2 := by
  rw [h.left] at hp
  exact tmOf_mem hn (List.mem_filter.1 hp).1

theorem DueI.more {L : List Tmr} {now : Int} {L1 : List Tmr} {xs : List Int} (h : DueI L now L1 xs) (hn : (idsT L).Nodup) {p : Tmr} (hp : p ∈ L1) (hd : p.2 ≤ now) (hm : ∀ q ∈ L1, q.2 ≤ now → ltT (tmOf L) q.1 p.1 = false) :
    DueI L now (stopT L1 p.1) (xs ++ [p.1]) := by
  refine ⟨by rw [dropT_snoc, ← h.left], ?_, fun x hx => ?_, fun x hx q hq hqd => ?_⟩
  · rw [List.pairwise_append]
    exact ⟨h.ord, by simp, fun a ha b hb => by simp at hb; subst hb; exact h.bef a ha p hp hd⟩
  · rcases List.mem_append.1 hx with h1 | h1
    · exact h.due x h1
    · simp at h1; subst h1
      have hpL : p ∈ L := by rw [h.left] at hp; exact (List.mem_filter.1 hp).1
      exact ⟨List.mem_map.2 ⟨p, hpL, rfl⟩, by rw [h.at hn hp]; exact hd⟩
  · have hq1 := (List.mem_filter.1 hq).1
    have hne := (List.mem_filter.1 hq).2
    rcases List.mem_append.1 hx with h1 | h1
    · exact h.bef x h1 q hq1 hqd
    · simp at h1; subst h1
      cases hl : ltT (tmOf L) p.1 q.1 with
      | true => rfl
      | false =>
        have := ltT_total (tmOf L) _ _ hl (hm q hq1 hqd)
        simp at hne
        exact absurd this.symm hne

theorem DueI.done {L : List Tmr} {now : Int} {L1 : List Tmr} {xs : List Int} (h : DueI L now L1 xs) (hn : (idsT L).Nodup) (hz : ∀ p ∈ L1, ¬ p.2 ≤ now) (x : Int) : x ∈ xs ↔ (x ∈ idsT L ∧ tmOf L x ≤ now) := by
  refine ⟨h.due x, fun ⟨h1, h2⟩ => ?_⟩
  by_cases hx : x ∈ xs
  · exact hx
  · obtain ⟨p, hp, rfl⟩ := List.mem_map.1 h1
    have hp1 : p ∈ L1 := by rw [h.left]; exact List.mem_filter.2 ⟨hp, by simpa using hx⟩
    exact absurd (by rw [← h.at hn hp1]; exact h2) (hz p hp1)

/-- The best so far of the first i. -/
def BestI (T : Int → Int) (now : Int) (L1 : List Tmr) (i : Nat) (z : Int) : Prop :=
  (z = -1 ∧ ∀ k, k < i → now < (L1[k]!).2) ∨ (∃ j : Nat, z = (j : Int) ∧ j < i ∧ (L1[j]!).2 ≤ now ∧ ∀ k, k < i → (L1[k]!).2 ≤ now → ltT T (L1[k]!).1 (L1[j]!).1 = false)

theorem BestI.pass {T : Int → Int} {now : Int} {L1 : List Tmr} {i : Nat} {z : Int} (h : BestI T now L1 i z) (hn : now < (L1[i]!).2) : BestI T now L1 (i + 1) z := by
  rcases h with ⟨rfl, h⟩ | ⟨j, rfl, hj, hd, h⟩
  · refine Or.inl ⟨rfl, fun k hk => ?_⟩
    rcases Nat.lt_succ_iff_lt_or_eq.1 hk with h1 | rfl
    · exact h k h1
    · exact hn
  · refine Or.inr ⟨j, rfl, by omega, hd, fun k hk hkd => ?_⟩
    rcases Nat.lt_succ_iff_lt_or_eq.1 hk with h1 | rfl
    · exact h k h1 hkd
    · omega

theorem BestI.first {T : Int → Int} {now : Int} {L1 : List Tmr} {i : Nat} (h : ∀ k, k < i → now < (L1[k]!).2) (hn : (L1[i]!).2 ≤ now) : BestI T now L1 (i + 1) (i : Int) :=
  Or.inr ⟨i, rfl, by omega, hn, fun k hk hkd => by
    rcases Nat.lt_succ_iff_lt_or_eq.1 hk with h1 | rfl
    · have := h k h1; omega
    · rw [ltT_not]; omega⟩

theorem BestI.better {T : Int → Int} {now : Int} {L1 : List Tmr} {i j : Nat} (h : ∀ k, k < i → (L1[k]!).2 ≤ now → ltT T (L1[k]!).1 (L1[j]!).1 = false) (hn : (L1[i]!).2 ≤ now) (hl : ltT T (L1[i]!).1 (L1[j]!).1 = true) : BestI T now L1 (i + 1) (i : Int) :=
  Or.inr ⟨i, rfl, by omega, hn, fun k hk hkd => by
    rcases Nat.lt_succ_iff_lt_or_eq.1 hk with h1 | rfl
    · cases hh : ltT T (L1[k]!).1 (L1[i]!).1 with
      | false => rfl
      | true => have := (ltT_swo T).trans _ _ _ hh hl; rw [h k h1 hkd] at this; cases this
    · rw [ltT_not]; omega⟩

theorem BestI.worse {T : Int → Int} {now : Int} {L1 : List Tmr} {i j : Nat} (hj : j < i) (hd : (L1[j]!).2 ≤ now) (h : ∀ k, k < i → (L1[k]!).2 ≤ now → ltT T (L1[k]!).1 (L1[j]!).1 = false) (hl : ltT T (L1[i]!).1 (L1[j]!).1 = false) : BestI T now L1 (i + 1) (j : Int) :=
  Or.inr ⟨j, rfl, by omega, hd, fun k hk hkd => by
    rcases Nat.lt_succ_iff_lt_or_eq.1 hk with h1 | rfl
    · exact h k h1 hkd
    · exact hl⟩

set_option maxHeartbeats 16000000 in
set_option maxRecDepth 100000 in
theorem mdue_any {w : World} {v : Value} {L : List Tmr} (now : Int) (h : SlT w v L) (hl : L.length ≤ 60) (hn : (idsT L).Nodup) :
    Calls Try.prog 11 #[v, .int .i64 now] w fun e w' => ∃ v' v2 xs, e = .returned (.tuple #[v', v2]) ∧ Hid (SlT w' v' (dropT L xs)) ∧ Hid (∀ b, v'.ownBlock = some b → v.ownBlock = some b ∨ w.heap.size ≤ b) ∧ Hid (SlI w' v2 xs) ∧ Hid (∀ b, v2.ownBlock = some b → w.heap.size ≤ b) ∧
      Hid (xs.Pairwise (fun x y => ltT (tmOf L) x y = true)) ∧ Hid (∀ x, x ∈ xs ↔ (x ∈ idsT L ∧ tmOf L x ≤ now)) ∧ Hid (Keeps No w w') := by
  obtain ⟨ao, cap, rfl⟩ := h.any
  obtain ⟨i0, hi, hz0, hz1, hz2⟩ := info_parts info_int
  have HNF := hid hi
  have HS := hid h
  have HN := hid hn
  clear h hi hn
  go_enter Try.func11, Try.ntmps11
  go_wp2_with fail
  go_loopw [0, 6] (fun v0 v6 wr => ∃ (L1 : List Tmr) (xs : List Int) (n1 n : Nat) (a0 a : Option Addr) (c0 c : Nat), n1 ≤ 60 ∧ n + n1 ≤ 60 ∧ v0 = .slice a0 n1 c0 ∧ v6 = .slice a n c ∧ Hid (L1.length = n1) ∧ Hid (SlT wr (.slice a0 n1 c0) L1) ∧ Hid (∀ b, (Value.slice a0 n1 c0).ownBlock = some b → (Value.slice ao L.length cap).ownBlock = some b ∨ w.heap.size ≤ b) ∧
    Hid (wr.ownsRow 0 3 1 (.slice a n c) n (xs.map (Value.int .i64))) ∧ Hid (∀ b, (Value.slice a n c).ownBlock = some b → w.heap.size ≤ b) ∧ Hid (DueI L now L1 xs) ∧ Hid (∀ b, (Value.slice a0 n1 c0).ownBlock = some b → ¬ (Value.slice a n c).ownBlock = some b) ∧ Hid (Keeps No w wr)) (fun v0 _ _ => lenS v0)
  case atStart => exact ⟨L, [], L.length, 0, ao, none, cap, 0, hl, by omega, rfl, rfl, hid rfl, HS, hid (fun b hb => Or.inl hb), hid (World.ownsRow_nil _ _ _ _), hid (fun b hb => by simp [Value.ownBlock] at hb), hid (DueI.start _ _), hid (fun b hb e => by simp [Value.ownBlock] at e), hid (Keeps.refl _ _)⟩
  case round =>
    clear HS
    obtain ⟨L1, xs, n1, n, a0, a, c0, c, hn1, hnn, rfl, rfl, HN1, HS, HV, HR, HF, HI, HAP, HK0⟩ := hrel
    have hn1' := HN1.out
    subst hn1'
    obtain ⟨w1, hw1⟩ : ∃ x, x = wr := ⟨_, rfl⟩
    rw [← hw1] at HS HR HK0 ⊢
    clear hw1 HN1
    go_wp2_with fail
    go_loopw [7, 8] (fun v7 v8 wr => ∃ (i : Nat) (z : Int), i ≤ L1.length ∧ v8 = .int .i64 i ∧ v7 = .int .i64 z ∧ Hid (Keeps No w1 wr) ∧ Hid (BestI (tmOf L) now L1 i z)) (fun _ v8 _ => L1.length - (intOf v8).toNat)
    case atStart => exact ⟨0, -1, Nat.zero_le _, rfl, rfl, hid (Keeps.refl _ _), hid (Or.inl ⟨rfl, fun k hk => by omega⟩)⟩
    case round =>
      obtain ⟨i, z, hil, rfl, rfl, HK, HB⟩ := hrel
      by_cases hlt : i < L1.length
      · -- one more
        obtain ⟨⟨xi, ti⟩, hx⟩ : ∃ p, L1[i] = p := ⟨_, rfl⟩
        have hxi : L1[i]! = (xi, ti) := by rw [getElem!_pos L1 i hlt, hx]
        obtain ⟨g, off, rfl, hg, hc0, hc1⟩ := SlT.cells HS.out hlt hx
        have c0 := HK.out.cell (fun h => h) hc0
        have c1 := HK.out.cell (fun h => h) hc1
        have HTI : Hid (tmOf L xi = ti) := hid (by have := HI.out.at HN.out (p := L1[i]) (List.getElem_mem hlt); rw [hx] at this; exact this)
        have HXI := hid hxi
        clear hx hc0 hc1 hxi
        by_cases hd : ti ≤ now
        · have hd1 : decide (ti ≤ now) = true := decide_eq_true hd
          rcases HB.out with ⟨hz, hall⟩ | ⟨j, hz, hj, hjd, hall⟩
          · have HAL := hid hall
            subst hz
            clear hall
            go_wp2_with fail
            go_quiet (fail)
            go_wp2_with fail
            go_roundw
            case rel => exact ⟨i + 1, (i : Int), by omega, by go_num, by first | rfl | go_num, hid (HK.out.drewN _), hid (BestI.first HAL.out (by rw [HXI.out]; exact hd))⟩
            case measure => simp [intOf]; omega
          · have HAL := hid hall
            subst hz
            obtain ⟨⟨xj, tj⟩, hxj⟩ : ∃ p, L1[j] = p := ⟨_, rfl⟩
            have hjl : j < L1.length := by omega
            have hxj2 : L1[j]! = (xj, tj) := by rw [getElem!_pos L1 j hjl, hxj]
            obtain ⟨g', off', hga, _, hc2, hc3⟩ := SlT.cells HS.out hjl hxj
            have eb : g = g' ∧ off = off' := by simpa using hga
            obtain ⟨rfl, rfl⟩ := eb
            have c2 := HK.out.cell (fun h => h) hc2
            have c3 := HK.out.cell (fun h => h) hc3
            have HTJ : Hid (tmOf L xj = tj) := hid (by have := HI.out.at HN.out (p := L1[j]) (List.getElem_mem hjl); rw [hxj] at this; exact this)
            have HXJ := hid hxj2
            have HJD := hid hjd
            have hb0 : decide ((j : Int) < 0) = false := decide_eq_false (by omega)
            clear hall hxj hxj2 hc2 hc3 hga hjd
            rcases (show ti < tj ∨ (ti = tj ∧ xi < xj) ∨ (ti = tj ∧ ¬ xi < xj) ∨ tj < ti by omega) with h1 | ⟨rfl, h1⟩ | ⟨rfl, h1⟩ | h1
            · have HL : Hid (ltT (tmOf L) (L1[i]!).1 (L1[j]!).1 = true) := hid (by rw [HXI.out, HXJ.out, ltT_iff, HTI.out, HTJ.out]; exact Or.inl h1)
              have q1 : decide (ti < tj) = true := decide_eq_true h1
              go_wp2_with fail
              go_quiet (fail)
              go_wp2_with fail
              go_roundw
              case rel => exact ⟨i + 1, (i : Int), by omega, by go_num, by first | rfl | go_num, hid (HK.out.drewN _), hid (BestI.better HAL.out (by rw [HXI.out]; exact hd) HL.out)⟩
              case measure => simp [intOf]; omega
            · have HL : Hid (ltT (tmOf L) (L1[i]!).1 (L1[j]!).1 = true) := hid (by rw [HXI.out, HXJ.out, ltT_iff, HTI.out, HTJ.out]; exact Or.inr ⟨rfl, h1⟩)
              have q1 : decide (ti < ti) = false := decide_eq_false (by omega)
              have q2 : decide (xi < xj) = true := decide_eq_true h1
              go_wp2_with fail
              go_quiet (fail)
              go_wp2_with fail
              go_roundw
              case rel => exact ⟨i + 1, (i : Int), by omega, by go_num, by first | rfl | go_num, hid (HK.out.drewN _), hid (BestI.better HAL.out (by rw [HXI.out]; exact hd) HL.out)⟩
              case measure => simp [intOf]; omega
            · have HL : Hid (ltT (tmOf L) (L1[i]!).1 (L1[j]!).1 = false) := hid (by rw [HXI.out, HXJ.out, ltT_not, HTI.out, HTJ.out]; omega)
              have q1 : decide (ti < ti) = false := decide_eq_false (by omega)
              have q2 : decide (xi < xj) = false := decide_eq_false h1
              go_wp2_with fail
              go_quiet (fail)
              go_wp2_with fail
              go_roundw
              case rel => exact ⟨i + 1, (j : Int), by omega, by go_num, by first | rfl | go_num, hid (HK.out.drewN _), hid (BestI.worse hj HJD.out HAL.out HL.out)⟩
              case measure => simp [intOf]; omega
            · have HL : Hid (ltT (tmOf L) (L1[i]!).1 (L1[j]!).1 = false) := hid (by rw [HXI.out, HXJ.out, ltT_not, HTI.out, HTJ.out]; omega)
              have q1 : decide (ti < tj) = false := decide_eq_false (by omega)
              have q2 : decide (ti = tj) = false := decide_eq_false (by omega)
              have q3 : (ti == tj) = false := by simp; omega
              go_wp2_with fail
              go_quiet (fail)
              go_wp2_with fail
              go_roundw
              case rel => exact ⟨i + 1, (j : Int), by omega, by go_num, by first | rfl | go_num, hid (HK.out.drewN _), hid (BestI.worse hj HJD.out HAL.out HL.out)⟩
              case measure => simp [intOf]; omega
        · have hd1 : decide (ti ≤ now) = false := decide_eq_false hd
          go_wp2_with fail
          go_quiet (fail)
          go_wp2_with fail
          go_roundw
          case rel => exact ⟨i + 1, z, by omega, by go_num, by first | rfl | go_num, hid (HK.out.drewN _), hid (HB.out.pass (by rw [HXI.out]; dsimp only; omega))⟩
          case measure => simp [intOf]; omega
      · obtain rfl : i = L1.length := by omega
        rcases HB.out with ⟨hz, hall⟩ | ⟨j, hz, hj, hjd, hall⟩
        · subst hz
          have HXS := hid (HI.out.done HN.out (fun p hp hpd => by
            obtain ⟨k, hk, e⟩ := List.getElem_of_mem hp
            have := hall k hk; rw [getElem!_pos L1 k hk, e] at this; omega))
          have hxl : xs.length = n := by have h1 := HR.out.1; simpa using h1
          have HSI : Hid (SlI wr (.slice a n c) xs) := hid (by have h1 := Sl.ofOwn (HR.out); rw [← hxl] at h1 ⊢; exact h1.keep HK.out (fun _ _ h => h))
          have HSL : Hid (SlT wr (.slice a0 L1.length c0) (dropT L xs)) := hid (by rw [← HI.out.left]; exact HS.out.keep HK.out (fun _ _ h => h))
          have HKK := hid (HK0.out.trans HK.out)
          have HORD := hid HI.out.ord
          clear hall hxl HI HR HS HK HK0 HB
          go_wp2_with fail
          go_ret2
          exact ⟨_, _, xs, rfl, HSL, HV, HSI, HF, HORD, HXS, HKK⟩
        · subst hz
          obtain ⟨⟨xj, tj⟩, hxj⟩ : ∃ p, L1[j] = p := ⟨_, rfl⟩
          obtain ⟨g, off, rfl, hg, hc0, hc1⟩ := SlT.cells HS.out hj hxj
          have HMORE : Hid (DueI L now (stopT L1 xj) (xs ++ [xj])) := hid (by
            have hm : (xj, tj) ∈ L1 := by rw [← hxj]; exact List.getElem_mem hj
            have e : L1[j]! = (xj, tj) := by rw [getElem!_pos L1 j hj, hxj]
            rw [e] at hjd
            refine HI.out.more HN.out (p := (xj, tj)) hm hjd (fun q hq hqd => ?_)
            obtain ⟨k, hk, eq⟩ := List.getElem_of_mem hq
            have := hall k hk (by rw [getElem!_pos L1 k hk, eq]; exact hqd)
            rw [getElem!_pos L1 k hk, eq, e] at this
            exact this)
          have c2 := HK.out.cell (fun h => h) hc0
          have hb0 : decide ((j : Int) < 0) = false := decide_eq_false (by omega)
          have HR1 : Hid (wr.ownsRow 0 3 1 (.slice a n c) n (xs.map (Value.int .i64))) := hid (by
            obtain ⟨hl0, h0 | ⟨g', cap', cur, e1, hbase, hb, rest⟩⟩ := HR.out
            · exact ⟨hl0, Or.inl h0⟩
            · exact ⟨hl0, Or.inr ⟨g', cap', cur, e1, hbase, HK.out.heap (fun h => h) hb, rest⟩⟩)
          have HS1 := hid (HS.out.keep HK.out (fun _ _ h => h))
          have HK1 := hid (HK0.out.trans HK.out)
          have HSP : Hid ((stopT L1 xj).length + 1 ≤ L1.length) := hid (stop_less (List.mem_map.2 ⟨L1[j], List.getElem_mem hj, by rw [hxj]⟩))
          have hjl := hj
          have HXJ0 := hid hxj
          clear hall hxj hjd hc0 hc1 HR HS HK HK0 HB HI
          go_wp2_with (at_builtin; refine wpl_append rfl _ _ 34 rfl 3 i0 (.int .i64 0) 1 8 Try.underlying34 HNF.out hz0 hz1 hz2 rfl (by decide) _ _ _ _ _ _ rfl rfl (HR1.out.alloc _) (Sl.one _ _ _) ?c1 ?c2 ?c3 ?_)
          case c1 => intro u hu; simp at hu; subst hu; rfl
          case c2 => unfold maxLen; omega
          case c3 => omega
          intro v2 w2 ho2 kk hb2
          obtain ⟨a2, c2', rfl⟩ := own_any ho2
          have hkk := ((Keeps.refl (Bl (Value.slice a n c)) wr).alloc (.cells #[.int .i64 xj] 3)).trans kk
          have HO := hid ho2
          have HF2 : Hid (∀ b, (Value.slice a2 (n + 1) c2').ownBlock = some b → w.heap.size ≤ b) := hid (fun b hb => by
            have hz := HK1.out.size
            rcases hb2 b hb with h' | h'
            · exact HF.out b h'
            · omega)
          have HK2 : Hid (Keeps No w w2) := hid (HK1.out.trans' hkk (fun _ _ h => h) (fun b hb e => by have := HF.out b e; omega))
          have HS2 : Hid (SlT w2 (.slice (some ⟨g, off, none⟩) L1.length c0) L1) := hid (HS1.out.keep hkk (fun b hb e => HAP.out b hb e))
          have HL2 : Hid (∀ b, (Value.slice a2 (n + 1) c2').ownBlock = some b → b < w2.heap.size) := hid ((Sl.ofOwn HO.out).lt (by omega))
          obtain ⟨g3, off3, ha3, _, c3, _⟩ := SlT.cells HS2.out hjl HXJ0.out
          have eb : g = g3 ∧ off = off3 := by simpa using ha3
          obtain ⟨rfl, rfl⟩ := eb
          clear ho2 kk hb2 hkk HR1 HS1 HK1 ha3 HAP HF HXJ0
          go_wp2_with fail
          with_reducible refine (mstop_any HS2.out (by omega) xj).mono ?_
          rintro e w3 ⟨v3, rfl, ho3, k3⟩
          obtain ⟨a3, c3', rfl⟩ := own_any ho3.1
          have HS3 := hid ho3.sl
          have HF3 : Hid (∀ b, (Value.slice a3 (stopT L1 xj).length c3').ownBlock = some b → w2.heap.size ≤ b) := hid ho3.2
          have HR3 : Hid (w3.ownsRow 0 3 1 (.slice a2 (n + 1) c2') (n + 1) ((xs ++ [xj]).map (Value.int .i64))) := hid (by
            have h1 := HO.out
            rw [show List.map (Value.int .i64) xs ++ [Value.int .i64 xj] = (xs ++ [xj]).map (Value.int .i64) by simp] at h1
            obtain ⟨hl0, h0 | ⟨g', cap', cur, e1, hbase, hb, rest⟩⟩ := h1
            · exact ⟨hl0, Or.inl h0⟩
            · exact ⟨hl0, Or.inr ⟨g', cap', cur, e1, hbase, k3.heap (fun h => h) hb, rest⟩⟩)
          have HK3 := hid (HK2.out.trans k3)
          have hz2 := HK2.out.size
          obtain ⟨n3, hn3⟩ : ∃ q, (stopT L1 xj).length = q := ⟨_, rfl⟩
          have hsp := HSP.out
          rw [hn3] at HS3 HF3 hsp ⊢
          have HN3 := hid hn3
          clear ho3 k3 hn3 HO HS2 HSP c2 c3
          go_wp2_with fail
          go_roundw
          case rel => exact ⟨stopT L1 xj, xs ++ [xj], n3, n + 1, a3, a2, c3', c2', by omega, by omega, rfl, rfl, HN3, HS3, hid (fun b hb => Or.inr (Nat.le_trans hz2 (HF3.out b hb))), HR3, HF2, HMORE, hid (fun b hb e => by have h1 := HF3.out b hb; have h2 := HL2.out b e; omega), HK3⟩
          case measure => simp [lenS]; omega

end Go.Proofs.Ytnedmmjkhemgjaa
