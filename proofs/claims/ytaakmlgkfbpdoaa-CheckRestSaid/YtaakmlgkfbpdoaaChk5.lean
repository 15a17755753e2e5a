/-
  The program's rules of check: slots, where each rule stands, how many numbers the table has.
-/
import Derived.Test.YtaakmlgkfbpdoaaChk4
namespace Go.Proofs.Ytaakmlgkfbpdoaa
open Go.RowKit

theorem slotK_snoc (n : Nat) (l : List Int) (x : Int) : slotK n (l ++ [x]) = (slotK n l && (inB x 0 (n - 1) && !l.contains x)) := by
  unfold slotK
  rw [Bool.eq_iff_iff]
  simp only [List.all_append, List.all_cons, List.all_nil, Bool.and_true, Bool.and_eq_true, decide_eq_true_eq, List.nodup_append, Bool.not_eq_true', List.contains_eq_mem, decide_eq_false_iff_not]
  constructor
  · rintro ⟨⟨h1, h2⟩, h3, _, h4⟩
    exact ⟨⟨h1, h3⟩, h2, fun hx => h4 x hx x (by simp) rfl⟩
  · rintro ⟨⟨h1, h3⟩, h2, h4⟩
    refine ⟨⟨h1, h2⟩, h3, by simp, fun a ha b hb e => ?_⟩
    simp at hb; subst hb; subst e
    exact h4 ha

theorem slotK_front {n : Nat} {l : List Int} (k : Nat) (h : slotK n (l.take k) = false) : slotK n l = false := by
  cases e : slotK n l with
  | false => rfl
  | true =>
    exfalso
    unfold slotK at e h
    simp only [Bool.and_eq_true, decide_eq_true_eq, List.all_eq_true] at e
    have : (l.take k).all (fun x => inB x 0 (n - 1)) = true := by
      rw [List.all_eq_true]
      exact fun x hx => e.1 x (List.mem_of_mem_take hx)
    rw [this, decide_eq_true (e.2.sublist (List.take_sublist _ _))] at h
    cases h

section
variable {w : World} {b : Nat} {C : Cfg} {sa ra ta : Option Addr} {sc rc tc : Nat}

set_option maxHeartbeats 2000000 in
set_option maxRecDepth 100000 in
theorem kp11_any (h : CfgB w b C sa ra ta sc rc tc) {a : Nat} (ha : a < C.tab.length) : Calls Try.prog 68 #[.pointer (some ⟨b, 0, none⟩), .int .i64 a] w fun e w' => e = .returned (.bool (keepB rulP C 11 a)) ∧ Keeps No w w' := by
  obtain ⟨g, off, la, lc, rfl, hg, hc, hs, _⟩ := TabR.at h.cfg.tabR ha
  obtain ⟨l, hle⟩ : ∃ l, C.tab[a].1 = l := ⟨_, rfl⟩
  rw [hle] at hc hs
  have hk : keepB rulP C 11 a = slotK C.ruls.length l := by
    show (C.tab[a]?).all _ = _
    rw [List.getElem?_eq_getElem ha]
    show slotK C.ruls.length C.tab[a].1 = _
    rw [hle]
  have HK := hid hk
  have c1 := h.blk.cell (o := 1) rfl
  have c2 := h.blk.cell (o := 2) rfl
  have hrl := h.cfg.rul.2.1
  have hll := hs.2.1
  unfold maxLen at hrl hll
  have HS := hid hs
  clear h hk hle hs
  go_enter Try.func68, Try.ntmps68
  go_wp2_with fail
  go_loop [17] (fun v17 => ∃ k : Nat, k ≤ l.length ∧ v17 = .int .i64 k ∧ Hid (slotK C.ruls.length (l.take k) = true)) (fun v17 => l.length - (intOf v17).toNat)
  case atStart => exact ⟨0, Nat.zero_le _, rfl, hid (by simp [slotK])⟩
  case round =>
    obtain ⟨k, hk, rfl, HN⟩ := hrel
    by_cases hlt : k < l.length
    · obtain ⟨g2, off2, rfl, hg2, hc2⟩ := SlI.cellAt HS.out hlt
      obtain ⟨x, hx⟩ : ∃ x, l[k] = x := ⟨_, rfl⟩
      rw [hx] at hc2
      have hfr := Sl.front HS.out hk
      rw [Nat.mul_one, ← List.map_take] at hfr
      have hfl : (l.take k).length = k := by rw [List.length_take]; omega
      have hC := contains_any (w := w) (la := some ⟨g2, off2, none⟩) (lc := lc) (l := l.take k) (by rw [hfl]; unfold SlI; rw [hfl]; exact hfr) x
      rw [hfl] at hC
      have hW := within_int x 0 ((C.ruls.length : Int) - 1) w
      have hn : slotK C.ruls.length (l.take (k + 1)) = (inB x 0 (C.ruls.length - 1) && !(l.take k).contains x) := by
        rw [List.take_succ_eq_append_getElem hlt, slotK_snoc, HN.out, hx, Bool.true_and]
      have hlc := HS.out
      have hkc : k ≤ lc := by
        obtain ⟨_, _, a', cap', hv, hcc, _⟩ := hlc
        simp only [Value.slice.injEq] at hv
        omega
      clear hx hfr hfl hlc
      cases hb : inB x 0 ((C.ruls.length : Int) - 1)
      · rw [hb] at hW hn
        have HW := hid hW
        have HF : Hid (slotK C.ruls.length l = false) := hid (slotK_front (k + 1) (by rw [hn]; rfl))
        clear hW hn hb hC
        go_wp2_with ((go_at_call 74; (with_reducible refine HW.out.mono ?_); rintro e w' ⟨rfl, rfl⟩))
        go_ret
        exact ⟨by rw [HK.out, HF.out]; rfl, Keeps.refl _ _⟩
      · rw [hb] at hW hn
        have HW := hid hW
        cases hcx : (l.take k).contains x
        · rw [hcx] at hC hn
          have HC := hid hC
          have HT : Hid (slotK C.ruls.length (l.take (k + 1)) = true) := hid (by rw [hn]; rfl)
          clear hW hn hb hC hcx
          go_wp2_with (first | (go_at_call 74; (with_reducible refine HW.out.mono ?_); rintro e w' ⟨rfl, rfl⟩) | (go_at_call 78; (with_reducible refine HC.out.mono ?_); rintro e w' ⟨rfl, rfl⟩))
          go_round
          case rel => exact ⟨k + 1, by omega, by go_num, HT⟩
          case measure => simp [intOf]; omega
        · rw [hcx] at hC hn
          have HC := hid hC
          have HF : Hid (slotK C.ruls.length l = false) := hid (slotK_front (k + 1) (by rw [hn]; rfl))
          clear hW hn hb hC hcx
          go_wp2_with (first | (go_at_call 74; (with_reducible refine HW.out.mono ?_); rintro e w' ⟨rfl, rfl⟩) | (go_at_call 78; (with_reducible refine HC.out.mono ?_); rintro e w' ⟨rfl, rfl⟩))
          go_ret
          exact ⟨by rw [HK.out, HF.out]; rfl, Keeps.refl _ _⟩
    · have HT : Hid (slotK C.ruls.length l = true) := hid (by
        have := HN.out
        rwa [List.take_of_length_le (by omega)] at this)
      go_wp2_with fail
      go_ret
      exact ⟨by rw [HK.out, HT.out]; rfl, Keeps.refl _ _⟩

set_option maxHeartbeats 2000000 in
set_option maxRecDepth 100000 in
theorem centries_any {t : List (List Int × Value)} {sn rn : Nat} (h : TabR w (.slice ta t.length tc) t) (he : entries (t.map (·.1)) ≤ 1000000) (i0 i1 i2 i3 i4 i5 i6 : Int) (br : Bool) :
    Calls Try.prog 81 #[cfgV (.slice sa sn sc) (.slice ra rn rc) (.slice ta t.length tc) i0 i1 i2 i3 i4 i5 br i6] w fun e w' => e = .returned (.int .i64 (entries (t.map (·.1)))) ∧ Keeps No w w' := by
  unfold cfgV
  obtain ⟨W1, hW1⟩ : ∃ W1, W1 = w.alloc (.cells #[.slice sa sn sc, .slice ra rn rc, .slice ta t.length tc, .int .i64 i0, .int .i64 i1, .int .i64 i2, .int .i64 i3, .int .i64 i4, .int .i64 i5, .bool br, .int .i64 i6] 33) := ⟨_, rfl⟩
  have k1 : Keeps No w W1 := by rw [hW1]; exact (Keeps.refl _ _).alloc _
  have hb : BlkL W1 w.heap.size 33 [.slice sa sn sc, .slice ra rn rc, .slice ta t.length tc, .int .i64 i0, .int .i64 i1, .int .i64 i2, .int .i64 i3, .int .i64 i4, .int .i64 i5, .bool br, .int .i64 i6] := by rw [hW1]; exact heap_alloc_new w _
  have c2 : W1.cell? ⟨w.heap.size, 2, none⟩ = some (.slice ta t.length tc) := hb.cell rfl
  have H := hid (h.calm k1)
  have hl : (t.length : Int) ≤ 9223372036854775807 := by
    have := h.row.2.1
    unfold maxLen at this
    omega
  have HE := hid he
  have HW1 := hid hW1.symm
  have K1 := hid k1
  clear h hW1 k1 hb he
  go_enter Try.func81, Try.ntmps81
  go_wp2_with fail
  rw [HW1.out]
  clear HW1
  go_loop [3, 9] (fun v3 v9 => ∃ (k n : Nat), k ≤ t.length ∧ v9 = .int .i64 k ∧ v3 = .int .i64 n ∧ Hid (entries ((t.take k).map (·.1)) = n)) (fun _ v9 => t.length - (intOf v9).toNat)
  case atStart => exact ⟨0, 0, Nat.zero_le _, rfl, rfl, hid rfl⟩
  case round =>
    obtain ⟨k, n, hk, rfl, rfl, HN⟩ := hrel
    by_cases hlt : k < t.length
    · obtain ⟨g, off, la, lc, rfl, hg, hc, hs, _⟩ := TabR.at H.out hlt
      obtain ⟨l, hle⟩ : ∃ l, t[k].1 = l := ⟨_, rfl⟩
      rw [hle] at hc
      have HN2 : Hid (entries ((t.take (k + 1)).map (·.1)) = n + l.length) := hid (by rw [entries_take hlt, HN.out, hle])
      have hb : n + l.length ≤ 1000000 := by rw [← HN2.out]; exact Nat.le_trans (entries_le _) HE.out
      clear hle hs
      go_wp2_with fail
      go_round
      case rel => exact ⟨k + 1, n + l.length, by omega, by go_num, by go_num, HN2⟩
      case measure => simp [intOf]; omega
    · have hT : Hid (entries (t.map (·.1)) = n) := hid (by
        have := HN.out
        rwa [List.take_of_length_le (by omega)] at this)
      go_wp2_with fail
      go_ret
      exact ⟨by rw [hT.out]; rfl, K1.out⟩

end
end Go.Proofs.Ytaakmlgkfbpdoaa
