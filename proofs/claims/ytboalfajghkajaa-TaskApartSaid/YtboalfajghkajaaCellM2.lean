/-
  The document's cell, more: Oldest, last, Bad, Kept.
-/
import Derived.Test.YtboalfajghkajaaCellM
namespace Go.Proofs.Ytboalfajghkajaa
open Go.RowKit
set_option linter.unusedVariables false

section
variable {w : World} {v : Value} {l : List SeenD}

/-- What Oldest answers. -/
def OldestA (o : Option SeenD) : Value := .tuple #[.int .i64 (o.elim 0 (·.val)), .bool o.isSome]

theorem find_step (G : List SeenD) (p : SeenD → Bool) {i : Nat} (hi : i < G.length) (h : (G.take i).find? p = none) : (G.take (i + 1)).find? p = if p G[i] then some G[i] else none := by
  rw [List.take_succ_eq_append_getElem hi, List.find?_append, h]
  cases hp : p G[i] <;> simp [List.find?, hp]

theorem find_more (G : List SeenD) (p : SeenD → Bool) {i : Nat} {x : SeenD} (h : (G.take i).find? p = some x) : G.find? p = some x := by
  conv => lhs; rw [← List.take_append_drop i G]
  rw [List.find?_append, h]
  rfl

set_option maxHeartbeats 4000000 in
set_option maxRecDepth 100000 in
theorem moldest_any (h : Sl w 5 v l.length (l.flatMap encSn)) (k from_ : Int) (hl : l.length ≤ 100000) :
    Calls Try.prog 43 #[v, .int .i64 k, .int .i64 from_] w fun e w' => e = .returned (OldestA (oldestD l k from_)) ∧ Keeps No w w' := by
  have HG := hid (mgood_any h k hl)
  obtain ⟨ao, cap, rfl⟩ := h.any
  clear h hl
  go_enter Try.func43, Try.ntmps43
  go_wp2_with fail
  refine HG.out.mono ?_
  rintro e w1 ⟨v1, rfl, hs, k1⟩
  obtain ⟨G, hG⟩ : ∃ G, goodD l k = G := ⟨_, rfl⟩
  have hfew := goodD_few l k
  rw [hG] at hs hfew
  have HVA : Hid (oldestD l k from_ = G.find? (fun x => decide (x.at_ ≥ from_))) := hid (by unfold oldestD; rw [hG])
  obtain ⟨a1, c1, rfl⟩ := hs.any
  obtain ⟨n, hn⟩ : ∃ n, G.length = n := ⟨_, rfl⟩
  rw [hn] at hs hfew ⊢
  have HS := hid hs
  have HN := hid hn
  have K1 := hid k1
  clear hs hn hG k1 HG
  go_wp2_with fail
  go_loopw [9] (fun v9 wr => ∃ i : Nat, i ≤ n ∧ v9 = .int .i64 i ∧ Hid (Keeps No w1 wr) ∧ Hid ((G.take i).find? (fun x => decide (x.at_ ≥ from_)) = none)) (fun v9 _ => n - (intOf v9).toNat)
  case atStart => exact ⟨0, Nat.zero_le _, rfl, hid (Keeps.refl _ _), hid (by simp)⟩
  case round =>
    obtain ⟨i, hi, rfl, HK, HF⟩ := hrel
    by_cases hlt : i < n
    · have hil : i < G.length := by rw [HN.out]; exact hlt
      obtain ⟨⟨at_, sg, sq, vl, bd⟩, hx⟩ : ∃ x, G[i] = x := ⟨_, rfl⟩
      obtain ⟨g, off, rfl, _, hc⟩ := Sl.itemC (enc := encSn) (size := 5) (fun _ => rfl) (by decide) HS.out hil hx
      have c0 := HK.out.cell (fun h => h) (hc 0 _ rfl)
      have c3 := HK.out.cell (fun h => h) (hc 3 _ rfl)
      simp only [Nat.add_zero] at c0
      have hst := find_step G (fun x => decide (x.at_ ≥ from_)) hil HF.out
      rw [hx] at hst
      have HST := hid hst
      clear hst hx hc
      by_cases hge : at_ ≥ from_
      · have hd : decide (at_ ≥ from_) = true := decide_eq_true hge
        have HR : Hid (oldestD l k from_ = some ⟨at_, sg, sq, vl, bd⟩) := hid (by rw [HVA.out]; exact find_more G _ (by rw [HST.out]; simp [hge]))
        clear hge
        go_wp2_with fail
        try (go_quiet (fail); go_wp2_with fail)
        go_ret2
        rw [HR.out]
        first
          | exact ⟨rfl, K1.out.trans HK.out⟩
          | exact ⟨rfl, K1.out.trans (HK.out.drewN _)⟩
      · have hd : decide (at_ ≥ from_) = false := decide_eq_false hge
        have HR : Hid ((G.take (i + 1)).find? (fun x => decide (x.at_ ≥ from_)) = none) := hid (by rw [HST.out]; simp [hge])
        clear hge
        go_wp2_with fail
        go_roundw
        case rel => exact ⟨i + 1, by omega, by go_num, HK, HR⟩
        case measure => simp [intOf]; omega
    · obtain rfl : i = n := by omega
      have hf := HF.out
      rw [← HN.out, List.take_length] at hf
      have HR : Hid (oldestD l k from_ = none) := hid (by rw [HVA.out]; exact hf)
      clear hf
      go_wp2_with fail
      go_ret2
      rw [HR.out]
      exact ⟨rfl, K1.out.trans HK.out⟩

set_option maxHeartbeats 4000000 in
set_option maxRecDepth 100000 in
theorem mlast_any (h : Sl w 5 v l.length (l.flatMap encSn)) (k : Int) (hl : l.length ≤ 100000) :
    Calls Try.prog 42 #[v, .int .i64 k] w fun e w' => e = .returned (.int .i64 (lastI l k l.length)) ∧ Keeps No w w' := by
  obtain ⟨ao, cap, rfl⟩ := h.any
  obtain ⟨N, hN⟩ : ∃ N, l.length = N := ⟨_, rfl⟩
  rw [hN] at h hl ⊢
  have HS := hid h
  have HN := hid hN
  clear h hN
  go_enter Try.func42, Try.ntmps42
  go_wp2_with fail
  go_loopw [5] (fun v5 wr => ∃ i : Nat, i ≤ N ∧ v5 = .int .i64 ((i : Int) - 1) ∧ Hid (Keeps No w wr) ∧ Hid (lastI l k N = lastI l k i)) (fun v5 _ => (intOf v5 + 1).toNat)
  case atStart => exact ⟨N, Nat.le_refl _, rfl, hid (Keeps.refl _ _), hid rfl⟩
  case round =>
    obtain ⟨i, hi, rfl, HK, HF⟩ := hrel
    rcases i with _ | i
    · have hd : decide ((((0 : Nat) : Int) - 1) ≥ 0) = false := by decide
      go_wp2_with fail
      go_ret
      rw [HF.out]
      exact ⟨rfl, HK.out⟩
    · have hil : i < l.length := by rw [HN.out]; omega
      obtain ⟨⟨at_, sg, sq, vl, bd⟩, hx⟩ : ∃ x, l[i] = x := ⟨_, rfl⟩
      obtain ⟨g, off, rfl, _, hc⟩ := Sl.itemC (enc := encSn) (size := 5) (fun _ => rfl) (by decide) HS.out hil hx
      have c1 := HK.out.cell (fun h => h) (hc 1 _ rfl)
      have hgi : l[i]? = some ⟨at_, sg, sq, vl, bd⟩ := by rw [List.getElem?_eq_getElem hil, hx]
      have HST : Hid (lastI l k (i + 1) = if (sg == k) = true then (i : Int) else lastI l k i) := hid (by
        conv => lhs; unfold lastI
        rw [hgi]; rfl)
      have e1 : (((i + 1 : Nat) : Int) - 1) = (i : Int) := by omega
      rw [e1]
      have hin : i < N := by omega
      clear hc hx hgi hil e1
      rcases hq : (sg == k) with _ | _
      · have HR : Hid (lastI l k N = lastI l k i) := hid (by rw [HF.out, HST.out, hq]; rfl)
        go_wp2_with fail
        go_roundw
        case rel => exact ⟨i, by omega, by go_num, HK, HR⟩
        case measure => simp [intOf]; try omega
      · have HR : Hid (lastI l k N = i) := hid (by rw [HF.out, HST.out, hq]; rfl)
        go_wp2_with fail
        go_ret
        rw [HR.out]
        exact ⟨rfl, HK.out⟩

set_option maxHeartbeats 4000000 in
set_option maxRecDepth 100000 in
theorem mbad_any (h : Sl w 5 v l.length (l.flatMap encSn)) (k : Int) (hl : l.length ≤ 100000) :
    Calls Try.prog 27 #[v, .int .i64 k] w fun e w' => e = .returned (.bool (badD l k)) ∧ Keeps No w w' := by
  have HL := hid (mlast_any h k hl)
  obtain ⟨ao, cap, rfl⟩ := h.any
  rcases lastI_all l k with ⟨h1, h2⟩ | ⟨i, ⟨at_, sg, sq, vl, bd⟩, h1, h2, h3, h4⟩
  · have HR : Hid (badD l k = false) := hid (by unfold badD; rw [h2]; rfl)
    rw [h1] at HL
    obtain ⟨N, hN⟩ : ∃ N, l.length = N := ⟨_, rfl⟩
    rw [hN] at HL ⊢
    clear h h1 h2 hl hN
    go_enter Try.func27, Try.ntmps27
    go_wp2_with fail
    refine HL.out.mono ?_
    rintro e w1 ⟨rfl, k1⟩
    have K1 := hid k1
    clear k1 HL
    go_wp2_with fail
    go_ret
    rw [HR.out]
    exact ⟨rfl, K1.out⟩
  · have HR : Hid (badD l k = bd) := hid (by unfold badD; rw [h4]; rfl)
    have hx : l[i] = ⟨at_, sg, sq, vl, bd⟩ := by rw [List.getElem?_eq_getElem h2] at h3; exact Option.some.inj h3
    obtain ⟨g, off, rfl, _, hc⟩ := Sl.itemC (enc := encSn) (size := 5) (fun _ => rfl) (by decide) h h2 hx
    have HC := hid (hc 4 _ rfl)
    rw [h1] at HL
    obtain ⟨N, hN⟩ : ∃ N, l.length = N := ⟨_, rfl⟩
    rw [hN] at HL h2 ⊢
    have hd : decide ((i : Int) ≥ 0) = true := decide_eq_true (by omega)
    clear h h1 hl hN hx h3 h4 hc
    go_enter Try.func27, Try.ntmps27
    go_wp2_with fail
    refine HL.out.mono ?_
    rintro e w1 ⟨rfl, k1⟩
    have K1 := hid k1
    have c4 := k1.cell (fun h => h) HC.out
    clear k1 HL
    go_wp2_with fail
    go_ret
    rw [HR.out]
    exact ⟨rfl, K1.out⟩

end

end Go.Proofs.Ytboalfajghkajaa
