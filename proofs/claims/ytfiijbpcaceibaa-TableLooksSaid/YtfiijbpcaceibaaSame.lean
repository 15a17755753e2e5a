/-
  The document's Same, of the same.
-/
import Derived.Test.YtfiijbpcaceibaaRows
import Derived.Test.YtfiijbpcaceibaaLib
import Derived.BigQuiet
namespace Go.Proofs.Ytfiijbpcaceibaa
open Go.RowKit

set_option maxHeartbeats 400000 in
set_option maxRecDepth 100000 in
theorem msame_true {w : World} {va vb : Value} {l : List Int} (ha : SlI w va l) (hb : SlI w vb l) :
    Calls Try.prog 11 #[va, vb] w fun e w' => e = .returned (.bool true) ∧ Keeps No w w' := by
  obtain ⟨aa, ca, rfl⟩ := ha.any
  obtain ⟨ab, cb, rfl⟩ := hb.any
  have HA := hid ha
  have HB := hid hb
  have hlen := ha.2.1
  unfold maxLen at hlen
  clear ha hb
  go_enter Try.func11, Try.ntmps11
  go_wp2
  go_loopw [5] (fun v5 wr => ∃ k : Nat, k ≤ l.length ∧ v5 = .int .i64 k ∧ Hid (∃ n, wr = w.drewN n)) (fun v5 _ => l.length - (intOf v5).toNat)
  case atStart => exact ⟨0, Nat.zero_le _, rfl, hid ⟨0, rfl⟩⟩
  case round =>
    obtain ⟨k, hk, rfl, HN⟩ := hrel
    obtain ⟨n0, rfl⟩ := HN.out
    by_cases hlt : k < l.length
    · obtain ⟨ga, offa, rfl, _, hca⟩ := SlI.cellAt HA.out hlt
      obtain ⟨gb, offb, rfl, _, hcb⟩ := SlI.cellAt HB.out hlt
      go_wp2
      go_quiet (fail)
      go_wp2
      go_roundw
      case rel => exact ⟨k + 1, by omega, by go_num, hid ⟨_, rfl⟩⟩
      case measure => simp [intOf]; omega
    · go_wp2
      go_ret
      exact ⟨rfl, (Keeps.refl _ _).drewN _⟩

end Go.Proofs.Ytfiijbpcaceibaa
