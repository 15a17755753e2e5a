/-
  The sum's functions, more: Close, Open; and lists of bytes put together and held against each other.
-/
import Derived.Test.YtlenhccdkhgfgaaDoorSum
import Derived.OwnWalk
namespace Go.Proofs.YtlenhccdkhgfgaaDoor
open Go.RowKit

set_option maxHeartbeats 1000000 in
set_option maxRecDepth 100000 in
theorem mjoin_any {w : World} {va vb : Value} {p q : List Int} (ha : SlB w va p) (hb : SlB w vb q) (hl : p.length + q.length ≤ 100000) :
    Calls Tryd.prog 19 #[va, vb] w fun e w' => ∃ v', e = .returned v' ∧ w'.ownsRow 0 5 1 v' (p.length + q.length) ((p ++ q).map (Value.int .u8)) ∧ Keeps No w w' ∧ ∀ k, v'.ownBlock = some k → w.heap.size ≤ k := by
  obtain ⟨aa, ca, rfl⟩ := ha.any
  obtain ⟨ab, cb, rfl⟩ := hb.any
  obtain ⟨i0, hi, hz0, hz1, hz2⟩ := info_parts info_byte
  have HA := hid ha
  have HB := hid hb
  have HI := hid hi
  clear ha hb hi
  go_enter Tryd.func19, Tryd.ntmps19
  go_wp2_with (at_builtin; refine wpl_append rfl _ _ 23 rfl 5 i0 (.int .u8 0) 1 1 Tryd.underlying23 HI.out hz0 hz1 hz2 rfl (by decide) _ _ _ _ _ _ rfl rfl (World.ownsRow_nil _ _ _ _) HA.out (bytes_one _) ?c3 ?c4 ?_)
  case c3 => unfold maxLen; omega
  case c4 => omega
  intro v1 w1 ho1 k1 hb1
  replace ho1 : w1.ownsRow 0 5 1 v1 p.length (p.map (Value.int .u8)) := by simpa using ho1
  have k1' : Keeps No w w1 := k1.mono (fun _ _ h => by simp [Bl, Value.ownBlock] at h)
  have hb1' : ∀ k, v1.ownBlock = some k → w.heap.size ≤ k := fun k hk => by rcases hb1 k hk with h | h; (simp [Value.ownBlock] at h); exact h
  have HO1 := hid ho1
  have K1 := hid k1'
  have B1 := hid hb1'
  clear ho1 k1 hb1 k1' hb1'
  obtain ⟨a1, c1, rfl⟩ := own_any HO1.out
  go_wp2_with (at_builtin; refine wpl_append rfl _ _ 23 rfl 5 i0 (.int .u8 0) 1 1 Tryd.underlying23 HI.out hz0 hz1 hz2 rfl (by decide) _ _ _ _ _ _ rfl rfl HO1.out (HB.out.keep K1.out (fun _ _ h => h)) (bytes_one _) ?c3 ?c4 ?_)
  case c3 => unfold maxLen; omega
  case c4 => omega
  intro v2 w2 ho2 k2 hb2
  rw [← List.map_append] at ho2
  have hk2 : Keeps No w w2 := K1.out.trans' k2 (fun _ _ h => h) (fun i hi h => by have := B1.out i h; omega)
  have hb2' : ∀ k, v2.ownBlock = some k → w.heap.size ≤ k := fun k hk => by
    rcases hb2 k hk with h | h
    · exact B1.out k h
    · exact Nat.le_trans K1.out.size h
  have HO2 := hid ho2
  have K2 := hid hk2
  have B2 := hid hb2'
  clear ho2 k2 hb2 hk2 hb2'
  obtain ⟨a2, c2, rfl⟩ := own_any HO2.out
  go_wp2_with fail
  go_ret
  exact ⟨_, rfl, HO2.out, K2.out, B2.out⟩

set_option maxHeartbeats 1000000 in
set_option maxRecDepth 100000 in
theorem sclose_any {w : World} {v : Value} {p : List Int} (h : SlB w v p) (hb : Bytes p) (hl : p.length ≤ 1000) :
    Calls Tryd.prog 23 #[v] w fun e w' => ∃ v', e = .returned v' ∧ w'.ownsRow 0 5 1 v' (p.length + 2) ((p ++ [((mof p).toNat : Int) / 256, ((mof p).toNat : Int) % 256]).map (Value.int .u8)) ∧ Keeps No w w' ∧ ∀ k, v'.ownBlock = some k → w.heap.size ≤ k := by
  obtain ⟨ao, cap, rfl⟩ := h.any
  obtain ⟨i0, hi, hz0, hz1, hz2⟩ := info_parts info_byte
  have hof := sof_any h hb
  have hlt := (mof p).isLt
  obtain ⟨n, hn⟩ : ∃ n, (mof p).toNat = n := ⟨_, rfl⟩
  rw [hn] at hof hlt ⊢
  have h8 : IntKind.u8.wrap ((n : Int) / 256) = (n : Int) / 256 := by rw [IntKind.wrap_u8]; omega
  have h9 : IntKind.u8.wrap (n : Int) = (n : Int) % 256 := by rw [IntKind.wrap_u8]
  have HS := hid h
  have HI := hid hi
  clear h hi hb hn
  go_enter Tryd.func23, Tryd.ntmps23
  go_wp2_with fail
  refine hof.mono ?_
  rintro e w' ⟨rfl, rfl⟩
  clear hof
  go_wp2_with (at_make; refine wpList_make_own _ rfl _ _ 23 rfl 0 5 i0 (.int .u8 0) 1 Tryd.underlying23 HI.out hz0 hz1 _ _ _ (p.length + 2) rfl rfl ?c0 ?c1 ?c2 ?c3 ?_)
  case c0 => omega
  case c1 => rw [hz2]; omega
  case c2 => unfold maxLen; omega
  case c3 => omega
  intro w1 ho1 hg1
  have k1 : Keeps No w w1 := (Keeps.refl _ _).grown hg1 (fun k h => by cases h)
  have HO1 := hid ho1
  have K1 := hid k1
  clear ho1 hg1 k1
  go_wp2_with (at_builtin; refine wpl_append rfl _ _ 23 rfl 5 i0 (.int .u8 0) 1 1 Tryd.underlying23 HI.out hz0 hz1 hz2 rfl (by decide) _ _ _ _ _ _ rfl rfl HO1.out (HS.out.keep K1.out (fun _ _ h => h)) (bytes_one _) ?c3 ?c4 ?_)
  case c3 => unfold maxLen; omega
  case c4 => omega
  intro v2 w2 ho2 k2 hb2
  replace ho2 : w2.ownsRow 0 5 1 v2 p.length (p.map (Value.int .u8)) := by simpa using ho2
  have hk2 : Keeps No w w2 := K1.out.trans' k2 (fun _ _ h => h) (fun i hi h => by simp [Bl, Value.ownBlock] at h; omega)
  have hb2' : ∀ k, v2.ownBlock = some k → w.heap.size ≤ k := fun k hk => by
    rcases hb2 k hk with h | h
    · simp [Value.ownBlock] at h; omega
    · exact Nat.le_trans K1.out.size h
  have HO2 := hid ho2
  have K2 := hid hk2
  have B2 := hid hb2'
  clear ho2 k2 hb2 hk2 hb2'
  obtain ⟨a2, c2, rfl⟩ := own_any HO2.out
  go_wp2_with (at_builtin; refine wpl_append rfl _ _ 23 rfl 5 i0 (.int .u8 0) 1 1 Tryd.underlying23 HI.out hz0 hz1 hz2 rfl (by decide) _ _ _ _ _ _ rfl rfl (HO2.out.alloc _) (Sl.new _ _ _ _ _ rfl (by decide)) ?c2 ?c3 ?c4 ?_)
  case c2 => exact ⟨rfl, rfl⟩
  case c3 => unfold maxLen; omega
  case c4 => omega
  intro v3 w3 ho3 k3 hb3
  have hk3 : Keeps No w w3 := (K2.out.alloc _).trans' k3 (fun _ _ h => h) (fun i hi h => by have := B2.out i h; omega)
  have hb3' : ∀ k, v3.ownBlock = some k → w.heap.size ≤ k := fun k hk => by
    rcases hb3 k hk with h | h
    · exact B2.out k h
    · have := K2.out.size
      have h1 : w2.heap.size + 1 ≤ k := by simpa using h
      omega
  have ho3' : w3.ownsRow 0 5 1 v3 (p.length + 2) ((p ++ [(n : Int) / 256, (n : Int) % 256]).map (Value.int .u8)) := by
    rw [List.map_append]; exact ho3
  have HO3 := hid ho3'
  have K3 := hid hk3
  have B3 := hid hb3'
  clear ho3 k3 hb3 hk3 hb3' ho3'
  obtain ⟨a3, c3, rfl⟩ := own_any HO3.out
  go_wp2_with fail
  go_ret
  exact ⟨_, rfl, HO3.out, K3.out, B3.out⟩

end Go.Proofs.YtlenhccdkhgfgaaDoor
