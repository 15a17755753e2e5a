/-
  The document's timers: Stop, Set, At.
-/
import Derived.Test.YtnedmmjkhemgjaaWhl2
import Derived.BigQuiet
import Derived.Deep.DeepCutAuto
import Derived.Deep.CutBlock
namespace Go.Proofs.Ytnedmmjkhemgjaa
open Go.RowKit Go.Maps
set_option linter.unusedVariables false

def encTm (p : Tmr) : List Value := [.int .i64 p.1, .int .i64 p.2]
theorem encTm_len (p : Tmr) : (encTm p).length = 2 := rfl

/-- A slice of timers. -/
abbrev SlT (w : World) (v : Value) (L : List Tmr) : Prop := Sl w 2 v L.length (L.flatMap encTm)
/-- One that is in new memory. -/
def OwT (w w' : World) (v : Value) (L : List Tmr) : Prop := w'.ownsRow 0 51 2 v L.length (L.flatMap encTm) ∧ ∀ b, v.ownBlock = some b → w.heap.size ≤ b

theorem OwT.sl {w w' : World} {v : Value} {L : List Tmr} (h : OwT w w' v L) : SlT w' v L := Sl.ofOwn h.1

theorem SlT.cells {w : World} {ao : Option Addr} {cap : Nat} {L : List Tmr} (h : SlT w (.slice ao L.length cap) L) {i : Nat} (hi : i < L.length) {x t : Int} (hx : L[i] = (x, t)) :
    ∃ g off, ao = some ⟨g, off, none⟩ ∧ g < w.heap.size ∧ w.cell? ⟨g, off + i * 2, none⟩ = some (.int .i64 x) ∧ w.cell? ⟨g, off + i * 2 + 1, none⟩ = some (.int .i64 t) := by
  have e := fun k hk => getElem?_flatMap_enc (size := 2) (enc := encTm) (fun _ => rfl) L i k hk hi
  have e0 := e 0 (by decide)
  have e1 := e 1 (by decide)
  rw [hx] at e0 e1
  obtain ⟨g, off, ha, hg, c0⟩ := Sl.cellAt h (u := .int .i64 x) e0
  obtain ⟨g', off', ha', _, c1⟩ := Sl.cellAt h (u := .int .i64 t) e1
  have : g = g' ∧ off = off' := by rw [ha] at ha'; simpa using ha'
  obtain ⟨rfl, rfl⟩ := this
  exact ⟨g, off, ha, hg, c0, by rw [Nat.add_assoc]; exact c1⟩

theorem info_tmr : (Try.prog.info? 51).map (fun i => (i.zero, i.size, i.bytes)) = some (some (.agg #[.int .i64 0, .int .i64 0]), 2, 16) := by kernel_rfl

theorem stop_take {L : List Tmr} {i : Nat} (h : i < L.length) {x t : Int} (hx : L[i] = (x, t)) (y : Int) : stopT (L.take (i + 1)) y = stopT (L.take i) y ++ (if x = y then [] else [(x, t)]) := by
  unfold stopT
  rw [List.take_succ_eq_append_getElem h, List.filter_append, hx]
  congr 1
  by_cases e : x = y <;> simp [e]

theorem ids_take {L : List Tmr} {i : Nat} (h : i < L.length) {x t : Int} (hx : L[i] = (x, t)) (y : Int) : (y ∈ idsT (L.take (i + 1))) ↔ (y ∈ idsT (L.take i) ∨ y = x) := by
  unfold idsT
  rw [List.take_succ_eq_append_getElem h, List.map_append, List.mem_append, hx]
  simp

set_option maxHeartbeats 4000000 in
set_option maxRecDepth 100000 in
theorem mstop_any {w : World} {v : Value} {L : List Tmr} (h : SlT w v L) (hl : L.length ≤ 1000) (y : Int) :
    Calls Try.prog 9 #[v, .int .i64 y] w fun e w' => ∃ v', e = .returned (.tuple #[v', .bool (decide (y ∈ idsT L))]) ∧ OwT w w' v' (stopT L y) ∧ Keeps No w w' := by
  obtain ⟨ao, cap, rfl⟩ := h.any
  obtain ⟨i0, hi, hz0, hz1, hz2⟩ := info_parts info_tmr
  have HI := hid hi
  have HS := hid h
  clear h hi
  go_enter Try.func9, Try.ntmps9
  go_wp2_with fail
  go_loopw [6, 7, 8] (fun v6 v7 v8 wr => ∃ (i n : Nat) (a : Option Addr) (c : Nat) (q : Bool), i ≤ L.length ∧ n ≤ i ∧ v8 = .int .i64 i ∧ v6 = .slice a n c ∧ v7 = .bool q ∧ Hid (q = decide (y ∈ idsT (L.take i))) ∧ Hid (wr.ownsRow 0 51 2 (.slice a n c) n ((stopT (L.take i) y).flatMap encTm)) ∧ Hid (Keeps No w wr) ∧ Hid (∀ b, (Value.slice a n c).ownBlock = some b → w.heap.size ≤ b)) (fun _ _ v8 _ => L.length - (intOf v8).toNat)
  case atStart => exact ⟨0, 0, none, 0, false, Nat.zero_le _, Nat.le_refl _, rfl, rfl, rfl, hid (by simp [idsT]), hid (World.ownsRow_nil _ _ _ _), hid (Keeps.refl _ _), hid (fun b hb => by simp [Value.ownBlock] at hb)⟩
  case round =>
    obtain ⟨i, n, a, c, q, hin, hni, rfl, rfl, rfl, HQ, HR, HK, HF⟩ := hrel
    by_cases hlt : i < L.length
    · obtain ⟨⟨x, t⟩, hx⟩ : ∃ p, L[i] = p := ⟨_, rfl⟩
      obtain ⟨g, off, rfl, hg, hc0, hc1⟩ := SlT.cells HS.out hlt hx
      have c0 := HK.out.cell (fun h => h) hc0
      have c1 := HK.out.cell (fun h => h) hc1
      have HST := hid (stop_take hlt hx y)
      have HID := hid (ids_take hlt hx y)
      clear hx hc0 hc1
      by_cases hxy : x = y
      · have hq1 : (x == y) = true := by simpa using hxy
        have hq2 : decide (x = y) = true := decide_eq_true hxy
        have HE := hid hxy
        clear hxy
        go_wp2_with fail
        go_roundw
        case rel => exact ⟨i + 1, n, a, c, true, by omega, by omega, by go_num, rfl, rfl, hid (decide_eq_true (HID.out.2 (Or.inr HE.out.symm))).symm, hid (by rw [HST.out, if_pos HE.out, List.append_nil]; exact HR.out), HK, HF⟩
        case measure => simp [intOf]; omega
      · have hq1 : (x == y) = false := by simpa using hxy
        have hq2 : decide (x = y) = false := decide_eq_false hxy
        have HE := hid hxy
        clear hxy
        go_wp2_with (at_builtin; refine wpl_append rfl _ _ 26 rfl 51 i0 (.agg #[.int .i64 0, .int .i64 0]) 2 16 Try.underlying26 HI.out hz0 hz1 hz2 rfl (by decide) _ _ _ _ _ _ rfl rfl (HR.out.alloc _) (Sl.new _ _ _ 2 1 rfl (by decide)) ?c2 ?c3 ?c4 ?_)
        case c2 => first | exact ⟨rfl, rfl⟩ | (intro u hu; simp at hu; rcases hu with rfl | rfl <;> rfl)
        case c3 => unfold maxLen; omega
        case c4 => omega
        intro v2 w2 ho2 kk hb2
        obtain ⟨a2, c2', rfl⟩ := own_any ho2
        have HR2 := hid ho2
        have HK2 : Hid (Keeps No w w2) := hid (HK.out.trans' (((Keeps.refl No wr).alloc _).no.trans kk) (fun _ _ h => h) (fun b hb e => by have := HF.out b e; omega))
        have HF2 : Hid (∀ b, (Value.slice a2 (n + 1) c2').ownBlock = some b → w.heap.size ≤ b) := hid (fun b hb => by
          have hz := HK.out.size
          rcases hb2 b hb with h' | h'
          · exact HF.out b h'
          · omega)
        clear ho2 kk hb2 c0 c1
        go_wp2_with fail
        go_roundw
        case rel => exact ⟨i + 1, n + 1, a2, c2', q, by omega, by omega, by go_num, rfl, rfl, hid (by rw [HQ.out]; exact decide_eq_decide.2 ⟨fun h => HID.out.2 (Or.inl h), fun h => (HID.out.1 h).resolve_right (fun e => HE.out e.symm)⟩), hid (by rw [HST.out, if_neg HE.out, List.flatMap_append]; simpa [encTm] using HR2.out), HK2, HF2⟩
        case measure => simp [intOf]; omega
    · obtain rfl : i = L.length := by omega
      have hrow := HR.out
      have hq := HQ.out
      rw [List.take_length] at hrow hq
      have hnl : (stopT L y).length = n := by have h1 := hrow.1; rw [length_flatMap_enc (size := 2) (fun _ => rfl)] at h1; omega
      have HO : Hid (OwT w wr (.slice a n c) (stopT L y)) := hid ⟨by rw [hnl]; exact hrow, HF.out⟩
      have HQ2 := hid hq
      clear hrow hnl hq
      go_wp2_with fail
      go_ret2
      exact ⟨_, by rw [HQ2.out]; rfl, HO.out, HK.out⟩

set_option maxHeartbeats 4000000 in
set_option maxRecDepth 100000 in
theorem mset_any {w : World} {v : Value} {L : List Tmr} (h : SlT w v L) (hl : L.length ≤ 1000) (y t : Int) :
    Calls Try.prog 8 #[v, .int .i64 y, .int .i64 t] w fun e w' => ∃ v', e = .returned v' ∧ OwT w w' v' (stopT L y ++ [(y, t)]) ∧ Keeps No w w' := by
  obtain ⟨i0, hi, hz0, hz1, hz2⟩ := info_parts info_tmr
  have HI := hid hi
  have HS := hid (mstop_any h hl y)
  have hsl : (stopT L y).length ≤ 1000 := Nat.le_trans (List.length_filter_le _ _) hl
  clear h hi hl
  go_enter Try.func8, Try.ntmps8
  go_wp2_with fail
  with_reducible refine HS.out.mono ?_
  rintro e w1 ⟨v1, rfl, ho, k1⟩
  obtain ⟨a, c, rfl⟩ := own_any ho.1
  obtain ⟨n, hn⟩ : ∃ n, (stopT L y).length = n := ⟨_, rfl⟩
  have hown := ho.1
  rw [hn] at hown hsl
  have HR := hid hown
  have HF := hid ho.2
  have HK := hid k1
  have HN := hid hn
  rw [hn] at HF ⊢
  clear ho hown k1 hn HS
  go_wp2_with (at_builtin; refine wpl_append rfl _ _ 26 rfl 51 i0 (.agg #[.int .i64 0, .int .i64 0]) 2 16 Try.underlying26 HI.out hz0 hz1 hz2 rfl (by decide) _ _ _ _ _ _ rfl rfl (HR.out.alloc _) (Sl.new _ _ _ 2 1 rfl (by decide)) ?c2 ?c3 ?c4 ?_)
  case c2 => first | exact ⟨rfl, rfl⟩ | (intro u hu; simp at hu; rcases hu with rfl | rfl <;> rfl)
  case c3 => unfold maxLen; omega
  case c4 => omega
  intro v2 w2 ho2 kk hb2
  obtain ⟨a2, c2', rfl⟩ := own_any ho2
  have HO : Hid (OwT w w2 (.slice a2 (n + 1) c2') (stopT L y ++ [(y, t)])) := hid ⟨by
      have hl2 : (stopT L y ++ [(y, t)]).length = n + 1 := by rw [List.length_append, HN.out]; rfl
      rw [hl2, List.flatMap_append]; simpa [encTm] using ho2, fun b hb => by
    have hz := HK.out.size
    rcases hb2 b hb with h' | h'
    · exact HF.out b h'
    · omega⟩
  have HK2 : Hid (Keeps No w w2) := hid (HK.out.trans' (((Keeps.refl No w1).alloc _).no.trans kk) (fun _ _ h => h) (fun b hb e => by have := HF.out b e; omega))
  clear ho2 kk hb2
  go_wp2_with fail
  go_ret
  exact ⟨_, rfl, HO.out, HK2.out⟩

set_option maxHeartbeats 4000000 in
set_option maxRecDepth 100000 in
theorem mat_any {w : World} {v : Value} {L : List Tmr} (h : SlT w v L) (hl : L.length ≤ 1000) (hn : (idsT L).Nodup) (y : Int) :
    Calls Try.prog 15 #[v, .int .i64 y] w fun e w' => e = .returned (.tuple #[.int .i64 (tmOf L y), .bool (decide (y ∈ idsT L))]) ∧ Keeps No w w' := by
  obtain ⟨ao, cap, rfl⟩ := h.any
  have HS := hid h
  have HN := hid hn
  clear h hn
  go_enter Try.func15, Try.ntmps15
  go_wp2_with fail
  go_loopw [6] (fun v6 wr => ∃ i : Nat, i ≤ L.length ∧ v6 = .int .i64 i ∧ Hid (y ∉ idsT (L.take i)) ∧ Hid (Keeps No w wr)) (fun v6 _ => L.length - (intOf v6).toNat)
  case atStart => exact ⟨0, Nat.zero_le _, rfl, hid (by simp [idsT]), hid (Keeps.refl _ _)⟩
  case round =>
    obtain ⟨i, hin, rfl, HQ, HK⟩ := hrel
    by_cases hlt : i < L.length
    · obtain ⟨⟨x, t⟩, hx⟩ : ∃ p, L[i] = p := ⟨_, rfl⟩
      obtain ⟨g, off, rfl, hg, hc0, hc1⟩ := SlT.cells HS.out hlt hx
      have HID := hid (ids_take hlt hx y)
      have c0 := HK.out.cell (fun h => h) hc0
      have c1 := HK.out.cell (fun h => h) hc1
      clear hc0 hc1
      by_cases hxy : x = y
      · subst hxy
        have hm : (x, t) ∈ L := by rw [← hx]; exact List.getElem_mem hlt
        have h1 := tmOf_mem (p := (x, t)) HN.out hm
        have h2 : x ∈ idsT L := List.mem_map.2 ⟨_, hm, rfl⟩
        dsimp only at h1
        have H1 := hid h1
        have H2 := hid (decide_eq_true h2)
        clear h1 h2 hm hx
        go_wp2_with fail
        go_ret2
        exact ⟨by rw [H1.out, H2.out]; rfl, HK.out⟩
      · have hq1 : (x == y) = false := by simpa using hxy
        have hq2 : decide (x = y) = false := decide_eq_false hxy
        have HE := hid hxy
        clear hxy hx
        go_wp2_with fail
        go_roundw
        case rel => exact ⟨i + 1, by omega, by go_num, hid (fun h => ((HID.out.1 h).elim HQ.out (fun e => HE.out e.symm))), HK⟩
        case measure => simp [intOf]; omega
    · obtain rfl : i = L.length := by omega
      have hq := HQ.out
      rw [List.take_length] at hq
      have H1 := hid (tmOf_none hq)
      have H2 := hid (decide_eq_false hq)
      clear hq
      go_wp2_with fail
      go_ret2
      exact ⟨by rw [H1.out, H2.out]; rfl, HK.out⟩

end Go.Proofs.Ytnedmmjkhemgjaa
