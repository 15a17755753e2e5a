/-
  The sum's functions, more: Close, Open; and lists of bytes put together and held against each other.
-/
import Derived.Test.YtgakjgblaaipmadSum
import Derived.OwnWalk
namespace Go.Proofs.Ytgakjgblaaipmad
open Go.RowKit

theorem info_byte : (Try.prog.info? 5).map (fun i => (i.zero, i.size, i.bytes)) = some (some (.int .u8 0), 1, 1) := by kernel_rfl

theorem bytes_one (p : List Int) : ∀ u ∈ p.map (Value.int .u8), u.oneCell' = true := by
  intro u hu
  simp only [List.mem_map] at hu
  obtain ⟨x, _, rfl⟩ := hu
  rfl

/-- The front of a slice. -/
theorem Sl.front {w : World} {size n m cap : Nat} {a : Option Addr} {xs : List Value} (h : Sl w size (.slice a n cap) n xs) (hm : m ≤ n) : Sl w size (.slice a m cap) m (xs.take (m * size)) := by
  obtain ⟨e1, e2, a', cap', hv, hc, hn, hx⟩ := h
  simp only [Value.slice.injEq] at hv
  obtain ⟨rfl, _, rfl⟩ := hv
  have hmul : m * size ≤ n * size := Nat.mul_le_mul_right _ hm
  refine ⟨by rw [List.length_take, e1]; omega, by omega, a, cap, rfl, by omega, fun ha => ?_, fun h0 => ?_⟩
  · obtain ⟨rfl, rfl⟩ := hn ha; omega
  · obtain ⟨g, off, rfl, hg, hx⟩ := hx (by omega)
    refine ⟨g, off, rfl, hg, fun j u hu => hx j u ?_⟩
    rw [List.getElem?_take] at hu
    split at hu
    · exact hu
    · cases hu

theorem SlB.front {w : World} {m t : List Int} {a : Option Addr} {cap : Nat} (h : SlB w (.slice a (m ++ t).length cap) (m ++ t)) : SlB w (.slice a m.length cap) m := by
  have := Sl.front h (m := m.length) (by simp)
  rw [Nat.mul_one, List.map_append, List.take_append_of_le_length (by simp), List.take_of_length_le (by simp)] at this
  exact this

/-- An empty row of the call's own. -/
theorem own_empty (w : World) (e : TypeId) (size : Nat) : (w.alloc (.cells #[] e)).ownsRow 0 e size (.slice (some ⟨w.heap.size, 0, none⟩) 0 0) 0 [] :=
  ⟨by simp, Or.inr ⟨w.heap.size, 0, #[], rfl, Nat.zero_le _, heap_alloc_new w _, Nat.le_refl _, Nat.zero_le _, by simp, by simp⟩⟩

set_option maxHeartbeats 1000000 in
set_option maxRecDepth 100000 in
theorem mjoin_any {w : World} {va vb : Value} {p q : List Int} (ha : SlB w va p) (hb : SlB w vb q) (hl : p.length + q.length ≤ 1000) :
    Calls Try.prog 11 #[va, vb] w fun e w' => ∃ v', e = .returned v' ∧ w'.ownsRow 0 5 1 v' (p.length + q.length) ((p ++ q).map (Value.int .u8)) ∧ Keeps No w w' ∧ ∀ k, v'.ownBlock = some k → w.heap.size ≤ k := by
  obtain ⟨aa, ca, rfl⟩ := ha.any
  obtain ⟨ab, cb, rfl⟩ := hb.any
  obtain ⟨i0, hi, hz0, hz1, hz2⟩ := info_parts info_byte
  have HA := hid ha
  have HB := hid hb
  have HI := hid hi
  clear ha hb hi
  go_enter Try.func11, Try.ntmps11
  go_wp2_with (at_builtin; refine wpl_append rfl _ _ 22 rfl 5 i0 (.int .u8 0) 1 1 Try.underlying22 HI.out hz0 hz1 hz2 rfl (by decide) _ _ _ _ _ _ rfl rfl (World.ownsRow_nil _ _ _ _) HA.out (bytes_one _) ?c3 ?c4 ?_)
  case c3 => unfold maxLen; omega
  case c4 => omega
  intro v1 w1 ho1 k1 hb1
  replace ho1 : w1.ownsRow 0 5 1 v1 p.length (p.map (Value.int .u8)) := by simpa using ho1
  have k1' : Keeps No w w1 := k1.mono (fun _ _ h => by simp [Bl, Value.ownBlock] at h)
  have hb1' : ∀ k, v1.ownBlock = some k → w.heap.size ≤ k := fun k hk => by rcases hb1 k hk with h | h; (simp [Value.ownBlock] at h); exact h
  have HO1 := hid ho1
  have K1 := hid k1'
  have B1 := hid hb1'
  clear ho1 k1 hb1 k1' hb1'
  obtain ⟨a1, c1, rfl⟩ := own_any HO1.out
  go_wp2_with (at_builtin; refine wpl_append rfl _ _ 22 rfl 5 i0 (.int .u8 0) 1 1 Try.underlying22 HI.out hz0 hz1 hz2 rfl (by decide) _ _ _ _ _ _ rfl rfl HO1.out (HB.out.keep K1.out (fun _ _ h => h)) (bytes_one _) ?c3 ?c4 ?_)
  case c3 => unfold maxLen; omega
  case c4 => omega
  intro v2 w2 ho2 k2 hb2
  rw [← List.map_append] at ho2
  have hk2 : Keeps No w w2 := K1.out.trans' k2 (fun _ _ h => h) (fun i hi h => by have := B1.out i h; omega)
  have hb2' : ∀ k, v2.ownBlock = some k → w.heap.size ≤ k := fun k hk => by
    rcases hb2 k hk with h | h
    · exact B1.out k h
    · exact Nat.le_trans K1.out.size h
  have HO2 := hid ho2
  have K2 := hid hk2
  have B2 := hid hb2'
  clear ho2 k2 hb2 hk2 hb2'
  obtain ⟨a2, c2, rfl⟩ := own_any HO2.out
  go_wp2_with fail
  go_ret
  exact ⟨_, rfl, HO2.out, K2.out, B2.out⟩

set_option maxHeartbeats 1000000 in
set_option maxRecDepth 100000 in
theorem mbytes_true {w : World} {va vb : Value} {l : List Int} (ha : SlB w va l) (hb : SlB w vb l) :
    Calls Try.prog 14 #[va, vb] w fun e w' => e = .returned (.bool true) ∧ Keeps No w w' := by
  obtain ⟨aa, ca, rfl⟩ := ha.any
  obtain ⟨ab, cb, rfl⟩ := hb.any
  have HA := hid ha
  have HB := hid hb
  have hlen := ha.2.1
  unfold maxLen at hlen
  clear ha hb
  go_enter Try.func14, Try.ntmps14
  go_wp2
  go_loopw [5] (fun v5 wr => ∃ k : Nat, k ≤ l.length ∧ v5 = .int .i64 k ∧ Hid (∃ n, wr = w.drewN n)) (fun v5 _ => l.length - (intOf v5).toNat)
  case atStart => exact ⟨0, Nat.zero_le _, rfl, hid ⟨0, rfl⟩⟩
  case round =>
    obtain ⟨k, hk, rfl, HN⟩ := hrel
    obtain ⟨n0, rfl⟩ := HN.out
    by_cases hlt : k < l.length
    · obtain ⟨ga, offa, rfl, _, hca⟩ := SlB.cellAt HA.out hlt
      obtain ⟨gb, offb, rfl, _, hcb⟩ := SlB.cellAt HB.out hlt
      go_wp2
      go_quiet (fail)
      go_wp2
      go_roundw
      case rel => exact ⟨k + 1, by omega, by go_num, hid ⟨_, rfl⟩⟩
      case measure => simp [intOf]; omega
    · go_wp2
      go_ret
      exact ⟨rfl, (Keeps.refl _ _).drewN _⟩

set_option maxHeartbeats 1000000 in
set_option maxRecDepth 100000 in
theorem sclose_any {w : World} {v : Value} {p : List Int} (h : SlB w v p) (hb : Bytes p) (hl : p.length ≤ 900) :
    Calls Try.prog 12 #[v] w fun e w' => ∃ v', e = .returned v' ∧ w'.ownsRow 0 5 1 v' (p.length + 2) ((p ++ [((mof p).toNat : Int) / 256, ((mof p).toNat : Int) % 256]).map (Value.int .u8)) ∧ Keeps No w w' ∧ ∀ k, v'.ownBlock = some k → w.heap.size ≤ k := by
  obtain ⟨ao, cap, rfl⟩ := h.any
  obtain ⟨i0, hi, hz0, hz1, hz2⟩ := info_parts info_byte
  have hof := sof_any h hb
  have hlt := (mof p).isLt
  obtain ⟨n, hn⟩ : ∃ n, (mof p).toNat = n := ⟨_, rfl⟩
  rw [hn] at hof hlt ⊢
  have h8 : IntKind.u8.wrap ((n : Int) / 256) = (n : Int) / 256 := by rw [IntKind.wrap_u8]; omega
  have h9 : IntKind.u8.wrap (n : Int) = (n : Int) % 256 := by rw [IntKind.wrap_u8]
  have HS := hid h
  have HI := hid hi
  clear h hi hb hn
  go_enter Try.func12, Try.ntmps12
  go_wp2_with fail
  refine hof.mono ?_
  rintro e w' ⟨rfl, rfl⟩
  clear hof
  go_wp2_with (at_make; refine wpList_make_own _ rfl _ _ 22 rfl 0 5 i0 (.int .u8 0) 1 Try.underlying22 HI.out hz0 hz1 _ _ _ (p.length + 2) rfl rfl ?c0 ?c1 ?c2 ?c3 ?_)
  case c0 => omega
  case c1 => rw [hz2]; omega
  case c2 => unfold maxLen; omega
  case c3 => omega
  intro w1 ho1 hg1
  have k1 : Keeps No w w1 := (Keeps.refl _ _).grown hg1 (fun k h => by cases h)
  have HO1 := hid ho1
  have K1 := hid k1
  clear ho1 hg1 k1
  go_wp2_with (at_builtin; refine wpl_append rfl _ _ 22 rfl 5 i0 (.int .u8 0) 1 1 Try.underlying22 HI.out hz0 hz1 hz2 rfl (by decide) _ _ _ _ _ _ rfl rfl HO1.out (HS.out.keep K1.out (fun _ _ h => h)) (bytes_one _) ?c3 ?c4 ?_)
  case c3 => unfold maxLen; omega
  case c4 => omega
  intro v2 w2 ho2 k2 hb2
  replace ho2 : w2.ownsRow 0 5 1 v2 p.length (p.map (Value.int .u8)) := by simpa using ho2
  have hk2 : Keeps No w w2 := K1.out.trans' k2 (fun _ _ h => h) (fun i hi h => by simp [Bl, Value.ownBlock] at h; omega)
  have hb2' : ∀ k, v2.ownBlock = some k → w.heap.size ≤ k := fun k hk => by
    rcases hb2 k hk with h | h
    · simp [Value.ownBlock] at h; omega
    · exact Nat.le_trans K1.out.size h
  have HO2 := hid ho2
  have K2 := hid hk2
  have B2 := hid hb2'
  clear ho2 k2 hb2 hk2 hb2'
  obtain ⟨a2, c2, rfl⟩ := own_any HO2.out
  go_wp2_with (at_builtin; refine wpl_append rfl _ _ 22 rfl 5 i0 (.int .u8 0) 1 1 Try.underlying22 HI.out hz0 hz1 hz2 rfl (by decide) _ _ _ _ _ _ rfl rfl (HO2.out.alloc _) (Sl.new _ _ _ _ _ rfl (by decide)) ?c2 ?c3 ?c4 ?_)
  case c2 => exact ⟨rfl, rfl⟩
  case c3 => unfold maxLen; omega
  case c4 => omega
  intro v3 w3 ho3 k3 hb3
  have hk3 : Keeps No w w3 := (K2.out.alloc _).trans' k3 (fun _ _ h => h) (fun i hi h => by have := B2.out i h; omega)
  have hb3' : ∀ k, v3.ownBlock = some k → w.heap.size ≤ k := fun k hk => by
    rcases hb3 k hk with h | h
    · exact B2.out k h
    · have := K2.out.size
      have h1 : w2.heap.size + 1 ≤ k := by simpa using h
      omega
  have ho3' : w3.ownsRow 0 5 1 v3 (p.length + 2) ((p ++ [(n : Int) / 256, (n : Int) % 256]).map (Value.int .u8)) := by
    rw [List.map_append]; exact ho3
  have HO3 := hid ho3'
  have K3 := hid hk3
  have B3 := hid hb3'
  clear ho3 k3 hb3 hk3 hb3' ho3'
  obtain ⟨a3, c3, rfl⟩ := own_any HO3.out
  go_wp2_with fail
  go_ret
  exact ⟨_, rfl, HO3.out, K3.out, B3.out⟩

end Go.Proofs.Ytgakjgblaaipmad
