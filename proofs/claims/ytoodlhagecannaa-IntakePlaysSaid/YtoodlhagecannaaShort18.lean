/-
  Whether a draft is short.
-/
import Derived.Test.YtoodlhagecannaaMake1
namespace Go.Proofs.Ytoodlhagecannaa
open Go.RowKit

def ShortPost18 (w : World) (e : Ending) (w' : World) : Prop := ∃ b : Bool, e = .returned (.bool b) ∧ Keeps No w w'

set_option maxHeartbeats 2000000 in
set_option maxRecDepth 100000 in
theorem short18_any {w : World} {rules : List (LineD × Value)} {rv : Value} {slots : List Int} {sv : Value} (h : DraftR w rules rv slots sv) (ba dr pa of_ : Int) (br : Bool) (lo : Int) :
    Calls Try.prog 11 #[.agg #[rv, sv, .int .u8 ba, .int .u8 dr, .int .u8 pa, .int .u8 of_, .bool br, .int .u8 lo]] w (ShortPost18 w) := by
  obtain ⟨ra, rc, rfl⟩ := h.rul.any
  obtain ⟨sa, sc, rfl⟩ := h.slo.any
  obtain ⟨W1, hW1⟩ : ∃ W1, w.alloc (.cells #[.slice ra rules.length rc, .slice sa slots.length sc, .int .u8 ba, .int .u8 dr, .int .u8 pa, .int .u8 of_, .bool br, .int .u8 lo] 25) = W1 := ⟨_, rfl⟩
  have k1 : Keeps No w W1 := by rw [← hW1]; exact (Keeps.refl _ _).alloc _
  have hb : BlkL W1 w.heap.size 25 [.slice ra rules.length rc, .slice sa slots.length sc, .int .u8 ba, .int .u8 dr, .int .u8 pa, .int .u8 of_, .bool br, .int .u8 lo] := by rw [← hW1]; exact heap_alloc_new w _
  have c0 := hb.cell (o := 0) rfl
  have c1 := hb.cell (o := 1) rfl
  have H1 := hid (h.calm k1)
  have HW1 := hid hW1
  have K1 := hid k1
  clear h hW1 k1 hb
  by_cases h12 : 12 < rules.length
  · have d1 : decide ((rules.length : Int) > 12) = true := decide_eq_true (by omega)
    have d2 : decide ((12 : Int) < (rules.length : Int)) = true := decide_eq_true (by omega)
    go_enter Try.func11, Try.ntmps11
    go_upto_region 1 with fail
    rw [HW1.out]
    go_wp2_with fail
    go_ret
    exact ⟨_, rfl, K1.out⟩
  · have d1 : decide ((rules.length : Int) > 12) = false := decide_eq_false (by omega)
    have d2 : decide ((12 : Int) < (rules.length : Int)) = false := decide_eq_false (by omega)
    by_cases h40 : 40 < slots.length
    · have d3 : decide ((slots.length : Int) > 40) = true := decide_eq_true (by omega)
      have d4 : decide ((40 : Int) < (slots.length : Int)) = true := decide_eq_true (by omega)
      go_enter Try.func11, Try.ntmps11
      go_upto_region 1 with fail
      rw [HW1.out]
      go_wp2_with fail
      go_ret
      exact ⟨_, rfl, K1.out⟩
    · have d3 : decide ((slots.length : Int) > 40) = false := decide_eq_false (by omega)
      have d4 : decide ((40 : Int) < (slots.length : Int)) = false := decide_eq_false (by omega)
      go_enter Try.func11, Try.ntmps11
      go_upto_region 1 with fail
      rw [HW1.out]
      go_wp2_with fail
      go_loop [3] (fun v3 => ∃ i : Nat, i ≤ rules.length ∧ v3 = .int .i64 i) (fun v3 => rules.length - (intOf v3).toNat)
      case atStart => exact ⟨0, Nat.zero_le _, rfl⟩
      case round =>
        obtain ⟨i, hi, rfl⟩ := hrel
        by_cases hlt : i < rules.length
        · obtain ⟨g, off, rfl, _, hc⟩ := Sl.cellAt H1.out.rul (j := i * 9 + 8) (u := rules[i].2) (by rw [getElem?_flatMap_enc (size := 9) (fun _ => rfl) rules i 8 (by omega) hlt]; rfl)
          obtain ⟨va, vc, hv⟩ := (H1.out.stg rules[i] (List.getElem_mem hlt)).any
          rw [hv, ← Nat.add_assoc] at hc
          obtain ⟨n, hn⟩ : ∃ n, rules[i].1.stages.length = n := ⟨_, rfl⟩
          rw [hn] at hc
          clear hv hn
          by_cases h8 : 8 < n
          · have d5 : decide ((n : Int) > 8) = true := decide_eq_true (by omega)
            have d6 : decide ((8 : Int) < (n : Int)) = true := decide_eq_true (by omega)
            go_wp2_with fail
            go_ret
            exact ⟨_, rfl, K1.out⟩
          · have d5 : decide ((n : Int) > 8) = false := decide_eq_false (by omega)
            have d6 : decide ((8 : Int) < (n : Int)) = false := decide_eq_false (by omega)
            go_wp2_with fail
            go_round
            case rel => exact ⟨i + 1, by omega, by go_num⟩
            case measure => simp [intOf]; omega
        · go_wp2_with fail
          go_ret
          exact ⟨_, rfl, K1.out⟩

end Go.Proofs.Ytoodlhagecannaa
