/-
  The document's All; two lists of frames held against each other.
-/
import Derived.Test.YthfjihpfcollfaaFr7
namespace Go.Proofs.Ythfjihpfcollfaa
open Go.RowKit

/-- What All's loop has. -/
structure AlL (w wr : World) (v : Value) (p : List Int) (T : List (List Int)) (lost i : Nat) (vs : List Value) (v5 : Value) : Prop where
  sc : scan p = ⟨T ++ (scan (p.drop i)).out, lost + (scan (p.drop i)).lost, (scan (p.drop i)).rest⟩
  told : wr.ownsRow 0 26 1 v5 vs.length vs
  tnew : New w wr v5
  rd : RdAll wr vs T
  old : ∀ u ∈ vs, ∀ k, u.ownBlock = some k → k < w.heap.size
  sub : ∀ u ∈ vs, ∀ k, u.ownBlock = some k → v.ownBlock = some k
  keep : Keeps No w wr
  num : T.length + lost ≤ i
  top : i ≤ p.length

theorem AlL.lose {w wr w2 : World} {p : List Int} {T : List (List Int)} {lost i : Nat} {vs : List Value} {v v5 : Value} (h : AlL w wr v p T lost i vs v5) (hst : look (p.drop i) = .spoilt) (k2 : Keeps No wr w2) : AlL w w2 v p T (lost + 1) (i + 1) vs v5 := by
  have hr := look_spoilt_ne hst
  rw [List.length_drop] at hr
  have := h.num
  refine ⟨?_, k2.own h.told (fun _ _ h => h), h.tnew.later k2.size, RdAll.keep k2 h.rd (fun _ _ _ _ h => h), h.old, h.sub, h.keep.trans k2, by omega, by omega⟩
  rw [h.sc, scan_spoilt hst, List.drop_drop]
  simp only [Sc.mk.injEq, true_and, and_true]
  omega

theorem AlL.tell {w wr w2 w3 : World} {p : List Int} {T : List (List Int)} {lost i : Nat} {vs : List Value} {v v5 v8 u : Value} {m : List Int} {x : Obj} (h : AlL w wr v p T lost i vs v5) (hst : look (p.drop i) = .whole m) (k2 : Keeps No wr w2)
    (hu : SlB w u m) (hsub : ∀ k, u.ownBlock = some k → v.ownBlock = some k) (ho : w3.ownsRow 0 26 1 v8 (vs.length + 1) (vs ++ [u])) (k3 : Keeps (Bl v5) (w2.alloc x) w3) (hb8 : ∀ k, v8.ownBlock = some k → v5.ownBlock = some k ∨ (w2.alloc x).heap.size ≤ k) : AlL w w3 v p (T ++ [m]) lost (i + (5 + m.length)) (vs ++ [u]) v8 := by
  obtain ⟨_, _, _, _, m1, _, _⟩ := look_whole hst
  have hr := look_whole_len hst
  rw [List.length_drop] at hr
  have hn := h.num
  have kx : Keeps No wr (w2.alloc x) := k2.alloc x
  have hsz : (w2.alloc x).heap.size = w2.heap.size + 1 := by simp
  have k4 : Keeps (Bl v5) wr w3 := kx.trans' k3 (fun _ _ h => h.elim) (fun _ _ h => h)
  have k5 : Keeps No w w3 := h.keep.trans' k4 (fun _ _ h => h) (fun k hk h5 => by have := (h.tnew k h5).1; omega)
  have hul : ∀ k, u.ownBlock = some k → k < w.heap.size := hu.lt (by omega)
  have hw := h.keep.size
  refine ⟨?_, by rw [List.length_append]; exact ho, fun k hk => ⟨?_, own_lt ho k hk⟩, RdAll.snoc (hu.keep k5 (fun _ _ h => h)) (RdAll.keep k4 h.rd (fun u' hu' k hk h5 => ?_)), ?_, ?_, k5, ?_, by omega⟩
  · rw [h.sc, scan_whole hst, List.drop_drop]
    simp only [Sc.mk.injEq, true_and, and_true, List.append_assoc, List.singleton_append]
  · rcases hb8 k hk with h' | h'
    · exact (h.tnew k h').1
    · have := k2.size
      omega
  · have h1 := h.old u' hu' k hk
    have h2 := (h.tnew k h5).1
    omega
  · intro u' hu'
    rcases List.mem_append.1 hu' with h' | h'
    · exact h.old u' h'
    · simp at h'; subst h'; exact hul
  · intro u' hu'
    rcases List.mem_append.1 hu' with h' | h'
    · exact h.sub u' h'
    · simp at h'; subst h'; exact hsub
  · rw [List.length_append, List.length_singleton]
    omega

/-- A piece that is a frame's payload. -/
theorem pay_of {p m : List Int} {i : Nat} (h : look (p.drop i) = .whole m) : i + (5 + m.length) ≤ p.length ∧ (p.drop (i + 3)).take m.length = m := by
  have hl := look_whole_len h
  have h1 : 1 ≤ m.length := by obtain ⟨_, _, _, _, m1, _, _⟩ := look_whole h; exact m1
  rw [List.length_drop] at hl
  obtain ⟨a, b, t, e, _⟩ := look_whole h
  refine ⟨by omega, ?_⟩
  rw [← List.drop_drop, e]
  simp

set_option maxHeartbeats 4000000 in
set_option maxRecDepth 100000 in
theorem all_any {w : World} {v : Value} {p : List Int} (h : SlB w v p) (hb : Bytes p) (hl : p.length ≤ 2000) :
    Calls Try.prog 25 #[v] w fun e w' => ∃ tv vs, e = .returned (.tuple #[tv, .int .i64 ((scan p).lost : Int), .int .i64 ((scan p).rest.length : Int)]) ∧ w'.ownsRow 0 26 1 tv vs.length vs ∧ RdAll w' vs (scan p).out ∧ Keeps No w w' ∧ New w w' tv ∧ (∀ u ∈ vs, ∀ k, u.ownBlock = some k → v.ownBlock = some k) := by
  obtain ⟨a, c, rfl⟩ := h.any
  obtain ⟨i0, hi, hz0, hz1, hz2⟩ := info_parts info_bytes
  have HI := hid hi
  have H := hid h
  have HB := hid hb
  have HL : Hid (AlL w w (.slice a p.length c) p [] 0 0 [] (.slice none 0 0)) := hid ⟨by simp, World.ownsRow_nil _ _ _ _, fun k hk => by simp [Value.ownBlock] at hk, trivial, fun u hu => by simp at hu, fun u hu => by simp at hu, Keeps.refl _ _, by simp, by omega⟩
  clear h hb hi
  go_enter Try.func25, Try.ntmps25
  go_wp2_with fail
  go_loopw [5, 6, 7] (fun v5 v6 v7 wr => ∃ T, ∃ lost i : Nat, ∃ vs, v6 = .int .i64 lost ∧ v7 = .int .i64 i ∧ Hid (AlL w wr (.slice a p.length c) p T lost i vs v5)) (fun _ _ v7 _ => p.length - (intOf v7).toNat)
  case atStart => exact ⟨[], 0, 0, [], rfl, rfl, HL⟩
  case round =>
    clear HL
    obtain ⟨T, lost, i, vs, rfl, rfl, HL⟩ := hrel
    obtain ⟨a5, n5, rfl⟩ := own_any HL.out.told
    have hnum := HL.out.num
    have htop := HL.out.top
    obtain ⟨a6, n6, hs6, hr6, hb6⟩ := piece_from H.out i htop
    have hr7 : ∀ (w : World), (Instr.slice 26 (.slice a p.length c) (some (.int .i64 (i : Int))) none none).run Try.prog w = .ok (.slice a6 (p.drop i).length n6) w := fun w => hr6 w _ rfl
    have hat := at_any (hs6.keep HL.out.keep (fun _ _ h => h)) (fun x hx => HB.out x (List.mem_of_mem_drop hx))
    obtain ⟨N6, hN6⟩ : ∃ N, (p.drop i).length = N := ⟨_, rfl⟩
    rw [hN6] at hr7 hat
    clear hs6 hr6 hb6 hN6
    cases hst : look (p.drop i) with
    | begun =>
      rw [hst] at hat
      have hsc := HL.out.sc
      rw [scan_begun hst] at hsc
      have HSC : Hid (scan p = ⟨T, lost, p.drop i⟩) := hid (by simpa using hsc)
      have hn6 : vs.length ≤ 2000 := by have := HL.out.rd.len; omega
      clear hst hsc
      go_wp2_with fail
      refine hat.mono ?_
      rintro e w2 ⟨rfl, k2⟩
      have K2 := hid k2
      clear k2 hat
      unfold atV
      go_wp2_with fail
      go_ret3
      refine ⟨_, vs, ?_, K2.out.own HL.out.told (fun _ _ h => h), ?_, HL.out.keep.trans K2.out, HL.out.tnew.later K2.out.size, HL.out.sub⟩
      · rw [HSC.out]
        simp
        omega
      · rw [HSC.out]
        exact RdAll.keep K2.out HL.out.rd (fun _ _ _ _ h => h)
    | spoilt =>
      rw [hst] at hat
      have hr := look_spoilt_ne hst
      rw [List.length_drop] at hr
      have HST := hid hst
      clear hst
      go_wp2_with fail
      refine hat.mono ?_
      rintro e w2 ⟨rfl, k2⟩
      have K2 := hid k2
      clear k2 hat
      unfold atV
      go_wp2_with fail
      go_roundw
      case rel => exact ⟨T, lost + 1, i + 1, vs, by go_num, by go_num, hid (HL.out.lose HST.out K2.out)⟩
      case measure => simp [intOf]; omega
    | whole m =>
      rw [hst] at hat
      obtain ⟨hr0, hpay⟩ := pay_of hst
      obtain ⟨au, cu, hsu, hru, hbu⟩ := piece H.out (i + 3) (i + 3 + m.length) (by omega) (by omega)
      rw [show i + 3 + m.length - (i + 3) = m.length by omega, hpay] at hsu
      rw [show i + 3 + m.length - (i + 3) = m.length by omega] at hru hbu
      have HBU := hid hbu
      have HU : Hid (SlB w (.slice au m.length cu) m) := hid hsu
      have hn6 : vs.length ≤ 2000 := by have := HL.out.rd.len; omega
      obtain ⟨n, hn⟩ : ∃ n, 5 + m.length = n := ⟨_, rfl⟩
      have hru2 : ∀ (w : World), (Instr.slice 26 (.slice a p.length c) (some (.int .i64 ((i : Int) + 3))) (some (.int .i64 ((i : Int) + (n : Int) - 2))) none).run Try.prog w = .ok (.slice au m.length cu) w := fun w => hru w _ _ (by omega) (by omega)
      have hv : atV (.whole m) = .tuple #[.int .i64 2, .int .i64 ((5 + m.length : Nat) : Int)] := rfl
      rw [hn] at hv
      have hn0 : 5 ≤ n := by omega
      rw [hv] at hat
      rw [hn] at hr0
      have HST := hid hst
      have HN := hid hn
      clear hst hsu hru hbu hpay hv hn
      go_wp2_with fail
      refine hat.mono ?_
      rintro e w2 ⟨rfl, k2⟩
      have K2 := hid k2
      have HT5 : Hid (w2.ownsRow 0 26 1 (.slice a5 vs.length n5) vs.length vs) := hid (k2.own HL.out.told (fun _ _ h => h))
      clear k2 hat
      go_wp2_with (at_builtin; refine wpl_append rfl _ _ 25 rfl 26 i0 (.slice none 0 0) 1 24 Try.underlying25 HI.out hz0 hz1 hz2 rfl (by decide) _ _ _ _ _ _ rfl rfl (HT5.out.alloc _) (Sl.one _ _ _) ?c2 ?c3 ?c4 ?_)
      case c2 => intro x hx; simp at hx; subst hx; rfl
      case c3 => unfold maxLen; omega
      case c4 => omega
      intro v8 w3 ho8 k8 hb8
      obtain ⟨a8, n8, rfl⟩ := own_any ho8
      have HO8 := hid ho8
      have K8 := hid k8
      have HB8 := hid hb8
      clear ho8 k8 hb8
      go_wp2_with fail
      go_roundw
      case rel => exact ⟨T ++ [m], lost, i + n, vs ++ [.slice au m.length cu], rfl, by go_num, hid (HN.out ▸ HL.out.tell HST.out K2.out HU.out HBU.out HO8.out K8.out (by simpa using HB8.out))⟩
      case measure => simp [intOf]; omega

set_option maxHeartbeats 2000000 in
set_option maxRecDepth 100000 in
theorem same_true {w : World} {va vb : Value} {vs us : List Value} {L : List (List Int)} (ha : Sl w 1 va vs.length vs) (hb : Sl w 1 vb us.length us) (hra : RdAll w vs L) (hrb : RdAll w us L) :
    Calls Try.prog 21 #[va, vb] w fun e w' => e = .returned (.bool true) ∧ Keeps No w w' := by
  obtain ⟨aa, ca, rfl⟩ := ha.any
  obtain ⟨ab, cb, rfl⟩ := hb.any
  have h1 := hra.len
  have h2 := hrb.len
  have HA := hid ha
  have HB := hid hb
  have RA := hid hra
  have RB := hid hrb
  have hlen := ha.2.1
  unfold maxLen at hlen
  have HV := hid h1
  rw [h1] at hlen ⊢
  rw [h2]
  have HV2 := hid h2
  clear ha hb hra hrb h1 h2
  go_enter Try.func21, Try.ntmps21
  go_wp2_with fail
  go_loopw [5] (fun v5 wr => ∃ k : Nat, k ≤ L.length ∧ v5 = .int .i64 k ∧ Hid (Keeps No w wr)) (fun v5 _ => L.length - (intOf v5).toNat)
  case atStart => exact ⟨0, Nat.zero_le _, rfl, hid (Keeps.refl _ _)⟩
  case round =>
    obtain ⟨k, hk, rfl, HK⟩ := hrel
    by_cases hlt : k < L.length
    · obtain ⟨u, hu1, hu2⟩ := RA.out.at k hlt
      obtain ⟨x, hx1, hx2⟩ := RB.out.at k hlt
      obtain ⟨au, cu, rfl⟩ := hu2.any
      obtain ⟨ax, cx, rfl⟩ := hx2.any
      obtain ⟨ga, offa, ea, _, hca⟩ := Sl.cellAt HA.out hu1
      obtain ⟨gb, offb, eb, _, hcb⟩ := Sl.cellAt HB.out hx1
      subst ea eb
      have hca2 := HK.out.cell (fun h => h) hca
      have hcb2 := HK.out.cell (fun h => h) hcb
      have hca3 := cellDr hca2
      have hcb3 := cellDr hcb2
      have HU := hid hu2
      have HX := hid hx2
      clear hu1 hu2 hx1 hx2 hca hcb
      go_wp2_with fail
      go_still_tail 8, (by kernel_rfl)
      go_wp2_with fail
      refine (mbytes_true (l := L[k]) (HU.out.keep HK.out.drew (fun _ _ h => h)) (HX.out.keep HK.out.drew (fun _ _ h => h))).mono ?_
      rintro e w2 ⟨rfl, k2⟩
      have K2 : Hid (Keeps No w w2) := hid ((HK.out.drew).trans k2)
      clear k2
      go_wp2_with fail
      go_roundw
      case rel => exact ⟨k + 1, by omega, by go_num, K2⟩
      case measure => simp [intOf]; omega
    · go_wp2_with fail
      go_ret
      exact ⟨rfl, HK.out⟩

end Go.Proofs.Ythfjihpfcollfaa
