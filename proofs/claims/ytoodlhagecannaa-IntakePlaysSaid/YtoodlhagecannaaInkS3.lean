/-
  Events on their way: the program's intake: Drain.
-/
import Derived.Test.YtoodlhagecannaaInkS2
namespace Go.Proofs.Ytoodlhagecannaa
open Go.RowKit
set_option linter.unusedVariables false
set_option linter.unusedSimpArgs false

set_option maxHeartbeats 8000000 in
set_option maxRecDepth 100000 in
theorem pidrain_any {w : World} {b : Nat} {F : Nat → Prop} {C : Cfg} {s : InkD} (h : PI w b F C s) (hC : InkC C) (hok : InkOk C s) :
    Calls Try.prog 16 #[.pointer (some ⟨b, 0, none⟩)] w fun e w' => ∃ v F', e = .returned v ∧ w'.ownsRow 0 64 3 v (drainD C s).1.length ((drainD C s).1.flatMap encE) ∧ (∀ k, v.ownBlock = some k → w.heap.size ≤ k) ∧ PI w' b F' C (drainD C s).2 ∧ Upd F w w' F' ∧ (∀ i, F' i → v.ownBlock ≠ some i) := by
  obtain ⟨l0, told, la, rfn⟩ := s
  have hlen := hok.len
  have hfew := hC.few
  have hdr := hC.drain
  simp only at hlen
  obtain ⟨d, hd⟩ : ∃ d : Nat, C.drain = d := ⟨C.drain.toNat, by omega⟩
  have hl0 : l0.length ≤ 64 := by omega
  unfold drainD
  rw [hd, Int.toNat_natCast]
  rw [hd] at hdr
  have hd1 : d ≤ 1024 := by omega
  have HD := hid hd
  obtain ⟨qb, ru, F0, Lq, hM, hF⟩ := h
  have HM := hid hM
  have HF := hid hF
  have hbl := hM.blk.lt
  have htl := hM.row.lt
  have HOUT := hid hM.out
  obtain ⟨i0, hi, hz0, hz1, hz2⟩ := info_parts info_ev
  have HI := hid hi
  simp only
  have HEND : Hid (∀ (wr w' : World) (l : List (Int × Ev)) (F1 : Nat → Prop) (L1 : Nat → List Ev), PInk wr b qb ru F1 L1 C ⟨l, told, la, rfn⟩ → Upd F0 w wr F1 → Keeps No wr w' → PI w' b (fun i => i = b ∨ ru.ownBlock = some i ∨ F1 i) C ⟨l, told, la, rfn⟩ ∧ Upd F w w' (fun i => i = b ∨ ru.ownBlock = some i ∨ F1 i)) := hid (fun wr w' l F1 L1 hp hu hk => ⟨⟨qb, ru, F1, L1, hp.keep hk (fun h => h) (fun _ _ h => h) (fun _ _ h => h), fun i => Iff.rfl⟩, ⟨(hu.keeps.trans' hk (T := F) (fun i _ h => (HF.out i).2 (Or.inr (Or.inr h))) (fun _ _ h => h.elim)), fun i hi => by
    rcases hi with rfl | hi | hi
    · exact Or.inl ((HF.out _).2 (Or.inl rfl))
    · exact Or.inl ((HF.out _).2 (Or.inr (Or.inl hi)))
    · rcases hu.fresh i hi with h | h
      · exact Or.inl ((HF.out i).2 (Or.inr (Or.inr h)))
      · exact Or.inr h⟩⟩)
  clear hM hF hC hok hd hlen hfew hi
  go_enter Try.func16, Try.ntmps16
  go_wp2_with fail
  go_loopw [3] (fun v3 wr => ∃ (va : Option Addr) (vc on : Nat) (o : List Ev) (l : List (Int × Ev)) (F1 : Nat → Prop) (L1 : Nat → List Ev), v3 = .slice va on vc ∧ on ≤ d ∧ Hid (o.length = on) ∧ Hid (wr.ownsRow 0 64 3 (.slice va on vc) on (o.flatMap encE)) ∧ Hid (∀ k, (Value.slice va on vc).ownBlock = some k → w.heap.size ≤ k) ∧ Hid (PInk wr b qb ru F1 L1 C ⟨l, told, la, rfn⟩) ∧ Hid (drainF d l0 = (o ++ (drainF (d - on) l).1, (drainF (d - on) l).2)) ∧ Hid (l.length ≤ 64) ∧ Hid (∀ i, F1 i → (Value.slice va on vc).ownBlock ≠ some i) ∧ Hid (Upd F0 w wr F1)) (fun v3 _ => d - lenOfS v3)
  case atStart => exact ⟨none, 0, 0, [], l0, F0, Lq, rfl, Nat.zero_le _, hid rfl, hid (World.ownsRow_nil _ _ _ _), hid (fun k hk => by simp [Value.ownBlock] at hk), HM, hid (by simp), hid hl0, hid (fun _ _ => by simp [Value.ownBlock]), hid (Upd.refl _ _)⟩
  case round =>
    clear HM
    obtain ⟨va, vc, on, o, l, F1, L1, rfl, hon, HO, HR, HN, HM1, HE, HL, HQR, HU⟩ := hrel
    have x3 := HM1.out.blk.cell 3 rfl
    rw [HD.out] at x3
    by_cases hlt : on < d
    · have d1 : decide ((on : Int) < (d : Int)) = true := decide_eq_true (by omega)
      obtain ⟨m, hm⟩ : ∃ m, d - on = m + 1 := ⟨d - on - 1, by omega⟩
      rw [hm] at HE
      have HMM := hid hm
      clear hm
      have x0 := HM1.out.blk.cell 0 rfl
      rcases takeF_is l with ⟨h1, h2, hT⟩ | ⟨p, y, l', h1, hT⟩
      · have hq := HM1.out.q
        simp only at hq
        have HTK := hid (qtake_all hq hT)
        have HZ := hid h2
        simp only [Ev.zero, Ev.val] at HTK
        clear h1 h2 hT hq
        go_wp2_with fail
        refine HTK.out.mono ?_
        rintro e w9 ⟨rfl, F2, L2, hq2, hu2⟩
        have HQ2 := hid hq2
        have HU2 := hid hu2
        clear hq2 hu2 x0 x3 HTK
        go_wp2_with fail
        go_ret
        have HE2 : drainF d l0 = (o, l) := by rw [HE.out, HZ.out, drainF_nil, List.append_nil]
        rw [HE2]
        have hbF : ¬ F1 b := fun h => (HM1.out.out b h).1 rfl
        have hp2 : PInk w9 b qb ru F2 L2 C ⟨l, told, la, rfn⟩ := ⟨HM1.out.blk.keep HU2.out.keeps hbF, by simp only; rw [HZ.out]; exact HQ2.out, HU2.out.keeps.own HM1.out.row (fun i hi e => (HM1.out.out i e).2 hi), HM1.out.ne, fun i hi => by
          rcases HU2.out.fresh i hi with h | h
          · exact HM1.out.out i h
          · have h1 := HM1.out.blk.lt; exact ⟨by omega, fun e => by have h2 := (HM1.out.row.lt _ e).2; omega⟩⟩
        have kA : Keeps No w9 (w9.alloc (.cells #[.int .i64 0, .bool false, .int .i64 0] 64)) := (Keeps.refl _ _).alloc _
        obtain ⟨hpi, hup⟩ := HEND.out w9 (w9.alloc (.cells #[.int .i64 0, .bool false, .int .i64 0] 64)) l F2 L2 hp2 (HU.out.trans HU2.out) kA
        refine ⟨_, _, rfl, ?_, HN.out, hpi, hup, ?_⟩
        · rw [HO.out]
          exact kA.own (HU2.out.keeps.own HR.out (fun k hk hf => HQR.out k hf hk)) (fun _ _ h => h)
        · intro i hi he
          rcases hi with rfl | hi | hi
          · have := HN.out _ he; omega
          · have := HN.out _ he; have := (htl i hi).2; omega
          · rcases HU2.out.fresh i hi with h | h
            · exact HQR.out i h he
            · have := HR.out.lt _ he; omega
      · obtain ⟨yr, yo, ya⟩ := y
        have hq := HM1.out.q
        simp only at hq
        have HTK := hid (qtake_all hq hT)
        simp only [Ev.val] at HTK
        have HTF := hid h1
        clear h1 hT hq
        go_wp2_with fail
        refine HTK.out.mono ?_
        rintro e w9 ⟨rfl, F2, L2, hq2, hu2⟩
        have HQ2 := hid hq2
        have HU2 := hid hu2
        clear hq2 hu2 x0 x3 HTK
        go_upto_region 7 with fail
        obtain ⟨eb, heb⟩ : ∃ q, w9.heap.size = q := ⟨_, rfl⟩
        obtain ⟨W2, hW⟩ : ∃ W2, w9.alloc (.cells #[.int .i64 yr, .bool yo, .int .i64 ya] 64) = W2 := ⟨_, rfl⟩
        have HE2 : Hid (Bk W2 eb 64 [.int .i64 yr, .bool yo, .int .i64 ya]) := hid (by rw [← hW]; exact Bk.new heb _ _)
        have K2 : Hid (Keeps No w9 W2) := hid (by rw [← hW]; exact (Keeps.refl _ _).alloc _)
        try rw [heb]
        rw [hW]
        clear hW heb
        have v0 := HE2.out.cell 0 rfl
        have v1 := HE2.out.cell 1 rfl
        have v2 := HE2.out.cell 2 rfl
        have HR2 := hid (K2.out.own (HU2.out.keeps.own HR.out (fun k hk hf => HQR.out k hf hk)) (fun _ _ h => h))
        go_wp2_with (at_builtin; refine wpl_append rfl _ _ 43 rfl 64 i0 (.agg #[.int .i64 0, .bool false, .int .i64 0]) 3 24 Try.underlying43 HI.out hz0 hz1 hz2 rfl (by decide) _ _ _ _ _ _ rfl rfl (HR2.out.alloc _) (Sl.new _ _ _ 3 1 rfl (by decide)) ?c1 ?c2 ?c3 ?_)
        case c1 => exact ⟨rfl, rfl, rfl⟩
        case c2 => unfold maxLen; omega
        case c3 => omega
        intro u2 w4 hown2 hk2 hbl2
        obtain ⟨va2, vc2, rfl⟩ := own_any hown2
        have HOW4 := hid hown2
        have HK4 := hid hk2
        have HBL4 := hid hbl2
        clear hown2 hk2 hbl2 v0 v1 v2
        go_wp2_with fail
        go_roundw
        case rel =>
          have hrb : ∀ i, Bl (.slice va on vc) i → w.heap.size ≤ i := fun i hi => HN.out i hi
          have k4 : Keeps (Bl (.slice va on vc)) w9 w4 := (K2.out.no.trans ((Keeps.refl (Bl (.slice va on vc)) W2).alloc (.cells #[.int .i64 yr, .bool yo, .int .i64 ya] 64))).trans HK4.out
          have hs2 := HU2.out.keeps.size
          have hs3 := K2.out.size
          have hs1 := HU.out.keeps.size
          have hbF : ¬ F1 b := fun h => (HM1.out.out b h).1 rfl
          have hdis : ∀ i, F2 i → (Value.slice va on vc).ownBlock ≠ some i := fun i hi he => by
            rcases HU2.out.fresh i hi with h | h
            · exact HQR.out i h he
            · have := HR.out.lt _ he; omega
          have hF2lt : ∀ i, F2 i → i < w9.heap.size := fun i hi => HQ2.out.q.lt hi
          have hp2 : PInk w9 b qb ru F2 L2 C ⟨l', told, la, rfn⟩ := ⟨HM1.out.blk.keep HU2.out.keeps hbF, HQ2.out, HU2.out.keeps.own HM1.out.row (fun i hi e => (HM1.out.out i e).2 hi), HM1.out.ne, fun i hi => by
            rcases HU2.out.fresh i hi with h | h
            · exact HM1.out.out i h
            · have h1 := HM1.out.blk.lt; exact ⟨by omega, fun e => by have h2 := (HM1.out.row.lt _ e).2; omega⟩⟩
          refine ⟨va2, vc2, on + 1, o ++ [⟨yr, yo, ya⟩], l', F2, L2, rfl, by omega, hid (by rw [List.length_append, HO.out]; rfl), hid ?_, hid ?_, hid (hp2.keep k4 (fun e => by have := hrb _ e; omega) (fun i hi e => by have := hrb _ e; have := (htl i hi).2; omega) (fun i hi e => hdis i hi e)), hid ?_, hid (by have := takeF_len HTF.out; have := HL.out; omega), hid ?_, hid ((HU.out.trans HU2.out).then k4 (fun i hi e => by have := hrb _ e; omega))⟩
          · have := HOW4.out
            rw [List.flatMap_append]
            simpa [encE] using this
          · intro i hi
            rcases HBL4.out i hi with h | h
            · exact HN.out i h
            · have h' : W2.heap.size ≤ i := by first | omega | (simp at h; omega)
              omega
          · have hmm := HMM.out
            rw [HE.out, drainF_take HTF.out, show d - (on + 1) = m by omega]
            simp
          · intro i hi he
            rcases HBL4.out i he with h | h
            · exact hdis i hi h
            · have h' : W2.heap.size ≤ i := by first | omega | (simp at h; omega)
              have := hF2lt i hi
              omega
        case measure => simp [lenOfS]; omega
    · have hd0 : on = d := by omega
      subst hd0
      have d1 : decide ((on : Int) < (on : Int)) = false := decide_eq_false (by omega)
      have HE2 : Hid (drainF on l0 = (o, l)) := hid (by have := HE.out; rw [Nat.sub_self] at this; simpa [drainF] using this)
      clear hlt
      go_wp2_with fail
      go_ret
      rw [HE2.out]
      obtain ⟨hpi, hup⟩ := HEND.out wr wr l F1 L1 HM1.out HU.out (Keeps.refl _ _)
      refine ⟨_, _, rfl, ?_, HN.out, hpi, hup, ?_⟩
      · simp only
        rw [HO.out]
        exact HR.out
      · intro i hi he
        rcases hi with rfl | hi | hi
        · have := HN.out _ he; omega
        · have := HN.out _ he; have := (htl i hi).2; omega
        · exact HQR.out i hi he

end Go.Proofs.Ytoodlhagecannaa
