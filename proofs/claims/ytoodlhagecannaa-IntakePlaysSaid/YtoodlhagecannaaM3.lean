/-
  The document's answers for layer 2: Band.
-/
import Derived.Test.YtoodlhagecannaaM2
namespace Go.Proofs.Ytoodlhagecannaa
open Go.RowKit

/-- A queue of the document's, as a value. -/
def qval (a b c : Int) (lv : Value) : Value := .agg #[.int .i64 a, .int .i64 b, .int .i64 c, lv]

set_option maxHeartbeats 4000000 in
set_option maxRecDepth 100000 in
theorem mband_any {w : World} {lv : Value} {l : List (Int × Ev)} (h : SlIt w lv l) (hl : l.length ≤ 1000) (a b c p : Int) :
    Calls Try.prog 36 #[qval a b c lv, .int .u8 p] w fun e w' => ∃ v, e = .returned v ∧ w'.ownsRow 0 64 3 v (bandL p l).length ((bandL p l).flatMap encE) ∧ Keeps No w w' ∧ ∀ k, v.ownBlock = some k → w.heap.size ≤ k := by
  obtain ⟨ao, cap, rfl⟩ := h.any
  obtain ⟨i0, hi, hz0, hz1, hz2⟩ := info_parts info_ev
  have HI := hid hi
  have H := hid h
  unfold qval
  clear h hi
  go_enter Try.func36, Try.ntmps36
  go_wp2_with fail
  have HX := hid (heap_alloc_new w (.cells #[.int .i64 a, .int .i64 b, .int .i64 c, .slice ao l.length cap] 55))
  go_loopw [5, 6] (fun v5 v6 wr => ∃ k : Nat, k ≤ l.length ∧ v6 = .int .i64 k ∧ Hid (wr.ownsRow 0 64 3 v5 (bandL p (l.take k)).length ((bandL p (l.take k)).flatMap encE)) ∧ Hid (∀ k, v5.ownBlock = some k → w.heap.size < k) ∧
      Hid (wr.heap[w.heap.size]? = some (.cells #[.int .i64 a, .int .i64 b, .int .i64 c, .slice ao l.length cap] 55 (0, 0))) ∧ Hid (Keeps No w wr)) (fun _ v6 _ => l.length - (intOf v6).toNat)
  case atStart => exact ⟨0, Nat.zero_le _, rfl, hid (World.ownsRow_nil _ _ _ _), hid (fun k hk => by cases hk), HX, hid ((Keeps.refl _ _).alloc _)⟩
  case round =>
    obtain ⟨k, hk, rfl, HO, HF, HB, HK⟩ := hrel
    have x3 := cell_at (i := 3) HB.out rfl
    by_cases hlt : k < l.length
    · obtain ⟨g, off, rfl, hg, c0, c1, c2, c3⟩ := SlIt.at (H.out.keep HK.out (fun _ _ h => h)) hlt
      have HT := hid (bandL_take p l hlt)
      have hle := bandL_le p (l.take k)
      rw [List.length_take] at hle
      obtain ⟨x, hx⟩ : ∃ x, l[k] = x := ⟨_, rfl⟩
      rw [hx] at c0 c1 c2 c3 HT
      by_cases hp : x.1 = p
      · have hd : (x.1 == p) = true := by simpa using hp
        have HT2 := hid (show bandL p (l.take (k + 1)) = bandL p (l.take k) ++ [x.2] by rw [HT.out, if_pos hp])
        clear HT hx
        obtain ⟨xp, xr, xo, xa⟩ := x
        simp only at hp c0 c1 c2 c3 hd
        go_wp2_with (at_builtin; refine wpl_append rfl _ _ 43 rfl 64 i0 (.agg #[.int .i64 0, .bool false, .int .i64 0]) 3 24 Try.underlying43 HI.out hz0 hz1 hz2 rfl (by decide) _ _ _ _ _ _ rfl rfl (HO.out.alloc _) (Sl.new _ _ _ 3 1 rfl (by decide)) ?c1 ?c2 ?c3 ?_)
        case c1 => exact ⟨rfl, rfl, rfl⟩
        case c2 => unfold maxLen; omega
        case c3 => omega
        intro v2 w2 hown2 hk2 hbl2
        have HO2 := hid hown2
        have HK2 := hid hk2
        have HB2 := hid hbl2
        clear hown2 hk2 hbl2
        go_wp2_with fail
        go_roundw
        case rel =>
          have hkk := ((Keeps.refl (Bl u5) wr).alloc (.cells #[.int .i64 xr, .bool xo, .int .i64 xa] 64)).trans HK2.out
          have hnb : ∀ k, Bl u5 k → w.heap.size < k := fun k hk => HF.out k (by simpa [Bl] using hk)
          have hs := HK.out.size
          refine ⟨k + 1, by omega, by go_num, hid ?_, hid ?_, hid (hkk.heap (fun h => by have := hnb _ h; omega) HB.out), hid (HK.out.trans' hkk (fun _ _ h => h) (fun i hi h => by have := hnb _ h; omega))⟩
          · have := HO2.out
            rw [HT2.out]
            simpa [encE] using this
          · intro j hj
            have hs2 := lt_of_block HB.out
            rcases HB2.out j hj with h | h
            · exact HF.out j h
            · first | omega | (simp at h; omega)
        case measure => simp [intOf]; omega
      · have hd : (x.1 == p) = false := by simpa using hp
        have HT2 := hid (show bandL p (l.take (k + 1)) = bandL p (l.take k) by rw [HT.out, if_neg hp])
        clear HT hx
        obtain ⟨xp, xr, xo, xa⟩ := x
        simp only at hp c0 c1 c2 c3 hd
        go_wp2_with fail
        go_roundw
        case rel => exact ⟨k + 1, by omega, by go_num, hid (by rw [HT2.out]; exact HO.out), HF, HB, HK⟩
        case measure => simp [intOf]; omega
    · have HKE := hid (show k = l.length by omega)
      go_wp2_with fail
      go_ret
      refine ⟨_, rfl, ?_, HK.out, fun j hj => Nat.le_of_lt (HF.out j hj)⟩
      have := HO.out
      rwa [HKE.out, List.take_length] at this

end Go.Proofs.Ytoodlhagecannaa
