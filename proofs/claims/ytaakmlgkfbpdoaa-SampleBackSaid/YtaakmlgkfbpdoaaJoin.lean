/-
  The document's Join: lists of bytes put together.
-/
import Derived.Test.YtaakmlgkfbpdoaaBytes
import Derived.OwnWalk
namespace Go.Proofs.Ytaakmlgkfbpdoaa
open Go.RowKit

set_option maxHeartbeats 1000000 in
set_option maxRecDepth 100000 in
theorem mjoin_any {w : World} {va vb : Value} {p q : List Int} (ha : SlB w va p) (hb : SlB w vb q) (hl : p.length + q.length ≤ 100000) :
    Calls Try.prog 41 #[va, vb] w fun e w' => ∃ v', e = .returned v' ∧ w'.ownsRow 0 5 1 v' (p.length + q.length) ((p ++ q).map (Value.int .u8)) ∧ Keeps No w w' ∧ ∀ k, v'.ownBlock = some k → w.heap.size ≤ k := by
  obtain ⟨aa, ca, rfl⟩ := ha.any
  obtain ⟨ab, cb, rfl⟩ := hb.any
  obtain ⟨i0, hi, hz0, hz1, hz2⟩ := info_parts info_byte
  have HA := hid ha
  have HB := hid hb
  have HI := hid hi
  clear ha hb hi
  go_enter Try.func41, Try.ntmps41
  go_wp2_with (at_builtin; refine wpl_append rfl _ _ 23 rfl 5 i0 (.int .u8 0) 1 1 Try.underlying23 HI.out hz0 hz1 hz2 rfl (by decide) _ _ _ _ _ _ rfl rfl (World.ownsRow_nil _ _ _ _) HA.out (bytes_one _) ?c3 ?c4 ?_)
  case c3 => unfold maxLen; omega
  case c4 => omega
  intro v1 w1 ho1 k1 hb1
  replace ho1 : w1.ownsRow 0 5 1 v1 p.length (p.map (Value.int .u8)) := by simpa using ho1
  have k1' : Keeps No w w1 := k1.mono (fun _ _ h => by simp [Bl, Value.ownBlock] at h)
  have hb1' : ∀ k, v1.ownBlock = some k → w.heap.size ≤ k := fun k hk => by rcases hb1 k hk with h | h; (simp [Value.ownBlock] at h); exact h
  have HO1 := hid ho1
  have K1 := hid k1'
  have B1 := hid hb1'
  clear ho1 k1 hb1 k1' hb1'
  obtain ⟨a1, c1, rfl⟩ := own_any HO1.out
  go_wp2_with (at_builtin; refine wpl_append rfl _ _ 23 rfl 5 i0 (.int .u8 0) 1 1 Try.underlying23 HI.out hz0 hz1 hz2 rfl (by decide) _ _ _ _ _ _ rfl rfl HO1.out (HB.out.keep K1.out (fun _ _ h => h)) (bytes_one _) ?c3 ?c4 ?_)
  case c3 => unfold maxLen; omega
  case c4 => omega
  intro v2 w2 ho2 k2 hb2
  rw [← List.map_append] at ho2
  have hk2 : Keeps No w w2 := K1.out.trans' k2 (fun _ _ h => h) (fun i hi h => by have := B1.out i h; omega)
  have hb2' : ∀ k, v2.ownBlock = some k → w.heap.size ≤ k := fun k hk => by
    rcases hb2 k hk with h | h
    · exact B1.out k h
    · exact Nat.le_trans K1.out.size h
  have HO2 := hid ho2
  have K2 := hid hk2
  have B2 := hid hb2'
  clear ho2 k2 hb2 hk2 hb2'
  obtain ⟨a2, c2, rfl⟩ := own_any HO2.out
  go_wp2_with fail
  go_ret
  exact ⟨_, rfl, HO2.out, K2.out, B2.out⟩

end Go.Proofs.Ytaakmlgkfbpdoaa
