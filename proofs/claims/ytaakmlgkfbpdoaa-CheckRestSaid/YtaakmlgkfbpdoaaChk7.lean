/-
  The program's rules of check: stages; the drain.
-/
import Derived.Test.YtaakmlgkfbpdoaaChk6
namespace Go.Proofs.Ytaakmlgkfbpdoaa
open Go.RowKit

section
variable {w : World} {b : Nat} {C : Cfg} {sa ra ta : Option Addr} {sc rc tc : Nat}

set_option maxHeartbeats 2000000 in
set_option maxRecDepth 100000 in
theorem kp9_any (h : CfgB w b C sa ra ta sc rc tc) {a : Nat} (ha : a < C.ruls.length) : Calls Try.prog 66 #[.pointer (some ⟨b, 0, none⟩), .int .i64 a] w fun e w' => e = .returned (.bool (keepB rulP C 9 a)) ∧ Keeps No w w' := by
  obtain ⟨x, hx⟩ : ∃ x, C.ruls[a] = x := ⟨_, rfl⟩
  have hk : keepB rulP C 9 a = rulP C.sigs.length x.1 9 := by
    show (C.ruls[a]?).all _ = _
    rw [List.getElem?_eq_getElem ha, hx]; rfl
  obtain ⟨g, off, rfl, hg, hc⟩ := Sl.structAt encRul_len h.cfg.rul ha (by decide)
  rw [hx] at hc
  have c1 := h.blk.cell (o := 1) rfl
  have hst := h.cfg.stg x (by rw [← hx]; exact List.getElem_mem ha)
  obtain ⟨xr, xv⟩ := x
  simp only at hst
  obtain ⟨va, vc, hxv⟩ := hst.any
  subst hxv
  have hgx : ¬ g = w.heap.size := by omega
  have hk2 : keepB rulP C 9 a = (decide (xr.stages.length ≤ 4) && stB xr.pri xr.stages) := hk
  have HK := hid hk2
  have r0 := hc 0 _ rfl
  have r1 := hc 1 _ rfl
  have r2 := hc 2 _ rfl
  have r3 := hc 3 _ rfl
  have r4 := hc 4 _ rfl
  have r5 := hc 5 _ rfl
  have r6 := hc 6 _ rfl
  have r7 := hc 7 _ rfl
  have r8 := hc 8 _ rfl
  simp only [Nat.add_zero] at r0
  obtain ⟨W1, hW1⟩ : ∃ W1, w.alloc (.cells #[.int .u8 xr.kind, .int .i64 xr.sig, .int .i64 xr.limit, .int .i64 xr.back, .int .i64 xr.delay, .int .i64 xr.span, .int .u8 xr.pri, .bool xr.latch, .slice va xr.stages.length vc] 38) = W1 := ⟨_, rfl⟩
  have k1 : Keeps No w W1 := by rw [← hW1]; exact (Keeps.refl _ _).alloc _
  have b1 : BlkL W1 w.heap.size 38 [.int .u8 xr.kind, .int .i64 xr.sig, .int .i64 xr.limit, .int .i64 xr.back, .int .i64 xr.delay, .int .i64 xr.span, .int .u8 xr.pri, .bool xr.latch, .slice va xr.stages.length vc] := by rw [← hW1]; exact heap_alloc_new w _
  have HS := hid (hst.keep k1 (fun _ _ h => h))
  have y6 : W1.cell? ⟨w.heap.size, 6, none⟩ = some (.int .u8 xr.pri) := b1.cell rfl
  have y8 : W1.cell? ⟨w.heap.size, 8, none⟩ = some (.slice va xr.stages.length vc) := b1.cell rfl
  have hls := hst.2.1
  unfold maxLen at hls
  have HW1 := hid hW1
  have K1 := hid k1
  clear h hk hk2 hx hc hst hW1 k1 b1
  by_cases h4 : xr.stages.length ≤ 4
  · have HL4 := hid h4
    go_enter Try.func66, Try.ntmps66
    go_upto_region 2 with fail
    rw [HW1.out]
    clear r0 r1 r2 r3 r4 r5 r6 r7 r8
    go_wp2_with fail
    go_loopw [6, 25] (fun v6 v25 wr => ∃ (k : Nat) (p : Int), k ≤ xr.stages.length ∧ v25 = .int .i64 k ∧ v6 = .int .u8 p ∧ Hid (stB xr.pri xr.stages = stB p (xr.stages.drop k)) ∧ Hid (Keeps No W1 wr)) (fun _ v25 _ => xr.stages.length - (intOf v25).toNat)
    case atStart => exact ⟨0, _, Nat.zero_le _, rfl, rfl, hid rfl, hid (Keeps.refl _ _)⟩
    case round =>
      obtain ⟨k, p, hk, rfl, rfl, HN, HR⟩ := hrel
      by_cases hlt : k < xr.stages.length
      · have hs2 := HS.out.keep HR.out (fun _ _ h => h)
        obtain ⟨g2, off2, rfl, hg2, hc2⟩ := Sl.structAt encStg_len hs2 hlt (by decide)
        obtain ⟨s, hse⟩ : ∃ s, xr.stages[k] = s := ⟨_, rfl⟩
        rw [hse] at hc2
        have q0 := hc2 0 _ rfl
        have q1 := hc2 1 _ rfl
        simp only [Nat.add_zero] at q0
        have hgr : ¬ g2 = wr.heap.size := by omega
        have hn : stB xr.pri xr.stages = (inB s.wait 1 100000 && inB s.pri p 3 && stB s.pri (xr.stages.drop (k + 1))) := by
          rw [HN.out, List.drop_eq_getElem_cons hlt, hse]; rfl
        have hA := fun w' => within_int64 s.wait 1 100000 w'
        have hB := fun w' => within_byte s.pri p 3 w'
        clear hs2 hc2 hse
        cases ha1 : inB s.wait 1 100000
        · simp only [ha1] at hA hn
          have HA := fun w' => hid (hA w')
          have HF := hid hn
          clear hA hB ha1 hn
          go_wp2_with ((go_at_call 77; (with_reducible refine (HA _).out.mono ?_); rintro e w' ⟨rfl, rfl⟩))
          go_ret
          exact ⟨by rw [HK.out, HF.out]; simp, K1.out.trans (HR.out.alloc _)⟩
        · cases hb1 : inB s.pri p 3
          · simp only [ha1, hb1] at hA hB hn
            have HA := fun w' => hid (hA w')
            have HB := fun w' => hid (hB w')
            have HF := hid hn
            clear hA hB ha1 hb1 hn
            go_wp2_with (first | (go_at_call 77; (with_reducible refine (HA _).out.mono ?_); rintro e w' ⟨rfl, rfl⟩) | (go_at_call 76; (with_reducible refine (HB _).out.mono ?_); rintro e w' ⟨rfl, rfl⟩))
            go_ret
            exact ⟨by rw [HK.out, HF.out]; simp, K1.out.trans (HR.out.alloc _)⟩
          · simp only [ha1, hb1] at hA hB hn
            have HA := fun w' => hid (hA w')
            have HB := fun w' => hid (hB w')
            have HF : Hid (stB xr.pri xr.stages = stB s.pri (xr.stages.drop (k + 1))) := hid (by rw [hn]; simp)
            clear hA hB ha1 hb1 hn
            go_wp2_with (first | (go_at_call 77; (with_reducible refine (HA _).out.mono ?_); rintro e w' ⟨rfl, rfl⟩) | (go_at_call 76; (with_reducible refine (HB _).out.mono ?_); rintro e w' ⟨rfl, rfl⟩))
            go_roundw
            case rel => exact ⟨k + 1, s.pri, by omega, by go_num, rfl, HF, hid (HR.out.alloc _)⟩
            case measure => simp [intOf]; omega
      · have HF : Hid (stB xr.pri xr.stages = true) := hid (by rw [HN.out, List.drop_eq_nil_of_le (by omega)]; rfl)
        go_wp2_with fail
        go_ret
        exact ⟨by rw [HK.out, HF.out, decide_eq_true HL4.out]; rfl, K1.out.trans HR.out⟩
  · have HL4 := hid h4
    have h4' : decide (xr.stages.length > 4) = true := decide_eq_true (by omega)
    go_enter Try.func66, Try.ntmps66
    go_upto_region 2 with fail
    rw [HW1.out]
    clear r0 r1 r2 r3 r4 r5 r6 r7 r8
    go_wp2_with fail
    go_ret
    exact ⟨by rw [HK.out, decide_eq_false HL4.out]; simp, K1.out⟩

end
end Go.Proofs.Ytaakmlgkfbpdoaa
