/- A signal whose numbers follow one another loses none; one that is left out is lost. No conditions. -/
import Derived.Test.YtaakmlgkfbpdoaaRows
import Derived.Test.YtaakmlgkfbpdoaaArgs
import Derived.Test.YtaakmlgkfbpdoaaSmp3
import Derived.ProofKit
import Derived.OpenShut
namespace Go.Proofs.Ytaakmlgkfbpdoaa.sampleRuns
open Go.ChangeShapes Go.WideShapes Go.ChangeAt Go.RowKit
open Go.ChangeMaps (open_string shut_string)
set_option linter.unusedVariables false

/-- Behind i rounds: what the tracker knows of the signal, and how many were left out. -/
def RunS (fi : Int) (k o i : Int) (t : Int × Int × Int) (lost : Int) : Prop :=
  (0 ≤ t.1 ∧ t.1 ≤ 255) ∧
  ((¬(0 < o ∧ o < i ∧ o < k - 1) ∧ lost = 0 ∧ t.2.2 = 0 ∧ t.2.1 = i ∧ (0 < i → t.1 = (fi + i - 1) % 256)) ∨
   ((0 < o ∧ o < i ∧ o < k - 1) ∧ lost = 1 ∧ t.2.1 = i - 1 ∧ ((i = o + 1 ∧ t.2.2 = 0 ∧ t.1 = (fi + i - 2) % 256) ∨ (o + 1 < i ∧ t.2.2 = 1 ∧ t.1 = (fi + i - 1) % 256))))

theorem RunS.skip {fi k o i lost : Int} {t : Int × Int × Int} (h : RunS fi k o i t lost) (h0 : i = o) (h1 : 0 < i) (h2 : i < k - 1) : RunS fi k o (i + 1) t 1 := by
  obtain ⟨hb, h⟩ := h
  refine ⟨hb, Or.inr ?_⟩
  rcases h with ⟨a, b, c, d, e⟩ | ⟨a, b, c, d⟩
  · have := e h1
    refine ⟨by omega, rfl, by omega, Or.inl ⟨by omega, c, ?_⟩⟩
    rw [this]; congr 1; omega
  · omega

theorem RunS.next {fi k o i lost : Int} {t : Int × Int × Int} (h : RunS fi k o i t lost) (hi : 0 ≤ i) (hik : i < k) (h0 : ¬(i = o ∧ 0 < i ∧ i < k - 1)) : (nextT t ((fi + i) % 256)).1.2 = true ∧ RunS fi k o (i + 1) (nextT t ((fi + i) % 256)).2 lost := by
  obtain ⟨last, fresh, lo⟩ := t
  obtain ⟨hb, h⟩ := h
  simp only at hb h
  unfold nextT RunS
  simp only
  rcases h with ⟨a, b, c, d, e⟩ | ⟨a, b, c, d⟩
  · by_cases hf : 0 < fresh
    · have hl := e (by omega)
      have hne : ¬ (fi + i) % 256 = last := by omega
      simp only [if_pos hf, if_neg hne]
      refine ⟨trivial, by omega, Or.inl ⟨by omega, b, by omega, by omega, fun _ => by congr 1; omega⟩⟩
    · simp only [if_neg hf]
      refine ⟨trivial, by omega, Or.inl ⟨by omega, b, c, by omega, fun _ => by congr 1; omega⟩⟩
  · have hf : 0 < fresh := by omega
    have hne : ¬ (fi + i) % 256 = last := by omega
    simp only [if_pos hf, if_neg hne]
    refine ⟨trivial, by omega, Or.inr ⟨by omega, b, by omega, Or.inr ⟨by omega, by omega, by congr 1; omega⟩⟩⟩

set_option maxHeartbeats 8000000 in
set_option maxRecDepth 100000 in
theorem walk (w : World) (fi : Int) (wfi : (Lit.int .u8 fi).wf = true) (n : Int) (wn : (Lit.int .u16 n).wf = true) (o : Int) (wo : (Lit.int .u16 o).wf = true) :
    Calls Try.prog 9 #[.int .u8 fi, .int .u16 n, .int .u16 o] w fun e w' => e = .returned (.bool true) ∧ Below w.heap.size w w' := by
  obtain ⟨f0, f1⟩ := bounds_u8 wfi
  obtain ⟨n0, n1⟩ := bounds_u16 wn
  obtain ⟨o0, o1⟩ := bounds_u16 wo
  obtain ⟨K, hK, hK1⟩ : ∃ K : Nat, n.tmod 600 = K ∧ K < 600 := ⟨(n.tmod 600).toNat, by have := Int.tmod_eq_emod_of_nonneg (b := 600) n0; omega, by have := Int.tmod_eq_emod_of_nonneg (b := 600) n0; omega⟩
  have hK2 : n % 600 = K := (Int.tmod_eq_emod_of_nonneg (b := 600) n0).symm.trans hK
  clear wfi wn wo
  go_enter Try.func9, Try.ntmps9
  go_wp2_with fail
  clear n0 n1
  with_reducible refine (gaps_true _).mono ?_
  rintro e w1 ⟨rfl, k⟩
  have K1 := hid (k)
  clear k
  go_wp2_with fail
  clear hK hK2
  with_reducible refine (tnew_any _ _).mono ?_
  rintro e w2 ⟨tb, g, rfl, ht, hk, h1, h2⟩
  have ht : Tk w2 tb g [(0, 0, 0), (0, 0, 0), (0, 0, 0)] := ht
  have hs1 := K1.out.size
  have HT2 := hid ht
  have K2 := hid (K1.out.trans hk)
  have h1 : w.heap.size ≤ tb := by omega
  have h2 : w.heap.size ≤ g := by omega
  clear ht hk hs1
  go_wp2_with fail
  go_loopw [9, 10] (fun v9 v10 wr => ∃ (i : Nat) (t : Int × Int × Int) (lost : Int), i ≤ K ∧ v10 = .int .i64 i ∧ v9 = .int .i64 lost ∧ Hid (RunS fi K o i t lost) ∧ Hid (Tk wr tb g [(0, 0, 0), (0, 0, 0), t]) ∧ Hid (Keeps No w wr)) (fun _ v10 _ => K - (intOf v10).toNat)
  case atStart => exact ⟨0, (0, 0, 0), 0, Nat.zero_le _, rfl, rfl, hid ⟨by decide, Or.inl ⟨by omega, rfl, rfl, rfl, fun h => by omega⟩⟩, HT2, K2⟩
  case round =>
    obtain ⟨i, t, lost, hi, rfl, rfl, HR, HT, HK⟩ := hrel
    clear HT2 K2
    by_cases hlt : i < K
    · by_cases hsk : (i : Int) = o ∧ 0 < (i : Int) ∧ (i : Int) < (K : Int) - 1
      · obtain ⟨e1, e2, e3⟩ := hsk
        have hr := HR.out.skip e1 e2 e3
        have d1 : ((i : Int) == o) = true := by simpa using e1
        have d2 : decide ((i : Int) > 0) = true := decide_eq_true e2
        have d2n : 0 < i := by omega
        have d2m : decide (0 < i) = true := decide_eq_true d2n
        have d3 : decide ((i : Int) < (K : Int) - 1) = true := decide_eq_true e3
        have HR2 := hid hr
        clear hr e1 e2 e3 HR
        go_wp2_with fail
        go_roundw
        case rel => exact ⟨i + 1, t, 1, by omega, by go_num, rfl, hid (by have := HR2.out; exact this), HT, HK⟩
        case measure => simp [intOf]; omega
      · obtain ⟨hok, hr⟩ := HR.out.next (by omega) (by omega) hsk
        have hbt := HR.out
        have ht3 : 0 ≤ t.2.1 ∧ t.2.1 ≤ 100000 ∧ 0 ≤ t.2.2 ∧ t.2.2 ≤ 100000000 := by
          obtain ⟨hb, h⟩ := hbt
          rcases h with ⟨a, b, c, d, e⟩ | ⟨a, b, c, ⟨d, e, h⟩ | ⟨d, e, h⟩⟩ <;> omega
        have hw : IntKind.u8.wrap (fi + i) = (fi + i) % 256 := by rw [IntKind.wrap_u8]
        obtain ⟨sq, hsq⟩ : ∃ x, (fi + i) % 256 = x := ⟨_, rfl⟩
        have hq : 0 ≤ sq ∧ sq ≤ 255 := by omega
        have hw2 : IntKind.u8.wrap (fi + (i : Int) % 256) = sq := by rw [IntKind.wrap_u8]; omega
        have hw3 : (fi + (i : Int) % 256) % 256 = sq := by omega
        obtain ⟨⟨⟨rl, rk⟩, t'⟩, hn⟩ : ∃ r, nextT t ((fi + i) % 256) = r := ⟨_, rfl⟩
        rw [hn] at hok hr
        rw [hsq] at hn hw
        simp only at hok hr
        subst hok
        have HN := hid hn
        have HR2 := hid hr
        have H3 := hid ht3
        have HQ := hid hq
        have hb0 := hbt.1
        have HB0 := hid hb0
        have hds : ((i : Int) == o) = false ∨ (((i : Int) == o) = true ∧ decide ((i : Int) > 0) = false) ∨ (((i : Int) == o) = true ∧ decide ((i : Int) > 0) = true ∧ decide ((i : Int) < (K : Int) - 1) = false) := by
          by_cases e1 : (i : Int) = o
          · by_cases e2 : (i : Int) > 0
            · exact Or.inr (Or.inr ⟨by simpa using e1, decide_eq_true e2, decide_eq_false (fun e3 => hsk ⟨e1, e2, e3⟩)⟩)
            · exact Or.inr (Or.inl ⟨by simpa using e1, decide_eq_false e2⟩)
          · exact Or.inl (by simpa using e1)
        clear hn hr ht3 hq hb0 hbt hsk HR hsq
        have hds2 : ((i : Int) == o) = false ∨ (((i : Int) == o) = true ∧ decide ((i : Int) > 0) = false ∧ decide (0 < i) = false ∧ ¬ 0 < i) ∨ (((i : Int) == o) = true ∧ (decide ((i : Int) > 0) = true ∧ decide (0 < i) = true ∧ 0 < i) ∧ decide ((i : Int) < (K : Int) - 1) = false) := by
          rcases hds with d1 | ⟨d1, d2⟩ | ⟨d1, d2, d3⟩
          · exact Or.inl d1
          · have := of_decide_eq_false d2
            exact Or.inr (Or.inl ⟨d1, d2, decide_eq_false (by omega), by omega⟩)
          · have := of_decide_eq_true d2
            exact Or.inr (Or.inr ⟨d1, ⟨d2, decide_eq_true (by omega), by omega⟩, d3⟩)
        clear hds
        rcases hds2 with d1 | ⟨d1, d2, d2m, d2n⟩ | ⟨d1, ⟨d2, d2m, d2n⟩, d3⟩
        all_goals
          go_wp2_with fail
          with_reducible refine (tnext_z HT.out (k := 2) (z := 2) rfl (by simp) ?q1 sq 0 false HQ.out ?q2 (r := ((rl, true), t')) ?q3).mono ?_
          case q3 => exact HN.out
          case q1 =>
            intro x hx
            simp at hx
            rcases hx with rfl | rfl
            · decide
            · exact H3.out
          case q2 => exact HB0.out
          rintro e w3 ⟨rfl, ht, hk⟩
          have HT3 : Hid (Tk w3 tb g [(0, 0, 0), (0, 0, 0), t']) := hid ht
          have HK3 := hid (HK.out.trans' hk (T := No) (fun _ _ h => h) (fun i hi e => by omega))
          clear ht hk HT HK
          go_wp2_with fail
          go_roundw
          case rel => exact ⟨i + 1, t', lost, by omega, by go_num, rfl, hid (by have := HR2.out; exact this), HT3, HK3⟩
          case measure => simp [intOf]; omega
    · obtain rfl : i = K := by omega
      obtain ⟨last, fresh, lo⟩ := t
      have hr := HR.out
      have hfr : fresh = (i : Int) - lost ∧ lo = lost := by
        obtain ⟨hb, h⟩ := hr
        simp only at hb h
        rcases h with ⟨a, b, c, d, e⟩ | ⟨a, b, c, ⟨d, e, h⟩ | ⟨d, e, h⟩⟩ <;> omega
      obtain ⟨rfl, rfl⟩ := hfr
      have hlo : 0 ≤ lo ∧ lo ≤ 1 := by
        obtain ⟨hb, h⟩ := hr
        simp only at hb h
        rcases h with ⟨a, b, c, d, e⟩ | ⟨a, b, c, d⟩ <;> omega
      obtain ⟨hlo0, hlo1⟩ := hlo
      clear hr HR
      go_wp2_with fail
      with_reducible refine (tcount_z HT.out (k := 2) (z := 2) rfl (by simp) (t := (last, (i : Int) - lo, lo)) ?q1).mono ?_
      case q1 => rfl
      rintro e w3 ⟨rfl, k⟩
      have HT3 := hid (HT.out.keep k (fun h => h) (fun h => h))
      have HK3 := hid (HK.out.trans k)
      clear k HT HK
      go_wp2_with fail
      with_reducible refine (tcount_z HT3.out (k := 0) (z := 0) rfl (by simp) (t := (0, 0, 0)) ?q2).mono ?_
      case q2 => rfl
      rintro e w4 ⟨rfl, k⟩
      have HK4 := hid (HK3.out.trans k)
      clear k HT3
      go_wp2_with fail
      with_reducible refine (tnext_nil _ _ _ _).mono ?_
      rintro e w5 ⟨rfl, k⟩
      have HK5 := hid (HK4.out.trans k)
      clear k
      go_wp2_with fail
      go_ret
      exact ⟨by simp, HK5.out.toBelow⟩

theorem own : ownKnob Try.prog.godebug = none := by kernel_rfl
theorem laidOut : laidOutB Try.prog = true := by kernel_rfl
set_option maxRecDepth 100000 in
theorem lifted (os : Os) (started : os.Started) (H : Type) (enc : TypeId × Value → H) :
    ReturnsInHanded {} Try.checked os 9 .any (Rows.sampleRunsSpec.pre6 enc Try.prog Try.f9 Rows.sampleRunsRow.domain false) (Rows.sampleRunsSpec.post enc Try.prog Try.f9 false true false false) := by
  refine returnsInHanded_of_change (C := Try.checked) own started (by kernel_rfl) Try.func9
    (ChangeSpec.witness6 (enc := enc) (C := Try.checked) false ⟨#[], #[.int .u8 0, .int .u16 0, .int .u16 0], []⟩ 8 (by kernel_rfl) (by kernel_rfl) (by kernel_rfl) (by kernel_rfl)) ?_
  intro W base args ds gs before hval0 hW hcnd _
  have hval : ∀ (j : Nat) t v, Try.f9.params[j]? = some t → args[j]? = some v → Value.okWide Try.prog W .any base t v := hval0
  have hW' := hW
  obtain ⟨p, q, hA0, hV, rfl, hfz, hnd⟩ := hW
  have hA : DataW.TrodAll enc Try.prog W 0 (fun _ => true) true Try.f9.params.toList args.toList ds p := hA0
  rw [Try.params9] at hA hval
  obtain ⟨v0, vs0, d0, ds0, p0, q0, hargs, rfl, rfl, h0, r0⟩ := trodAll_cons hA
  obtain ⟨v1, vs1, d1, ds1, p1, q1, rfl, rfl, rfl, h1, r1⟩ := trodAll_cons r0
  obtain ⟨v2, vs2, d2, ds2, p2, q2, rfl, rfl, rfl, h2, r2⟩ := trodAll_cons r1
  obtain ⟨rfl, rfl, rfl⟩ := trodAll_nil r2
  obtain rfl : args = #[v0, v1, v2] := by cases args; simp_all
  obtain ⟨rfl, rfl⟩ := trodVars_none hV
  have k0 := h0
  have lt0 : ∀ x ∈ p0, x.block < W.heap.size := by obtain ⟨m, hm⟩ := k0; exact DataW.trod_lt m _ _ _ hm
  have k1 := h1
  have lt1 : ∀ x ∈ p1, x.block < W.heap.size := by obtain ⟨m, hm⟩ := k1; exact DataW.trod_lt m _ _ _ hm
  have k2 := h2
  have lt2 : ∀ x ∈ p2, x.block < W.heap.size := by obtain ⟨m, hm⟩ := k2; exact DataW.trod_lt m _ _ _ hm
  obtain ⟨a0, rfl, rfl, rfl, w0⟩ := open_int Try.underlying5 (hval 0 5 v0 rfl rfl) h0
  obtain ⟨a1, rfl, rfl, rfl, w1⟩ := open_int Try.underlying68 (hval 1 68 v1 rfl rfl) h1
  obtain ⟨a2, rfl, rfl, rfl, w2⟩ := open_int Try.underlying68 (hval 2 68 v2 rfl rfl) h2
  clear hA0 hval0
  refine (walk W a0 w0 a1 w1 a2 w2).mono fun e W' ⟨he, bel⟩ => ?_
  subst he
  exact ⟨_, rfl, _, _, _, [], _, [], hW', trodAll_mk1 (shut_bool Try.underlying4 _), (trodAll_cons_mk (Below.trod laidOut (by kernel_rfl) (of_decide_eq_true (by kernel_rfl)) k0 bel lt0) (trodAll_cons_mk (Below.trod laidOut (by kernel_rfl) (of_decide_eq_true (by kernel_rfl)) k1 bel lt1) (trodAll_cons_mk (Below.trod laidOut (by kernel_rfl) (of_decide_eq_true (by kernel_rfl)) k2 bel lt2) trodAll_mk0))), rfl, bel.frame _, fun h => by cases h⟩

theorem over : Rows.sampleRunsRow.holds Try.pinned (OpenSpec.ofChange Rows.sampleRunsSpec) :=
  OpenClaim.holds_of_wide 9 Try.f9 rfl rfl rfl rfl rfl rfl rfl ⟨rfl, rfl, rfl, rfl, rfl⟩ rfl rfl rfl rfl rfl (by kernel_rfl) Try.func9 (by kernel_rfl)
    (of_decide_eq_true (by kernel_rfl)) (by unfold Func.isWrapper; first | (rw [if_pos (by decide +kernel)]; kernel_rfl) | (rw [if_neg (by decide +kernel)]; exact ⟨rfl, rfl⟩))
    (fun os started H enc _ => lifted os started H enc)

theorem proved : Rows.SampleRunsSaid := over
#print axioms proved
end Go.Proofs.Ytaakmlgkfbpdoaa.sampleRuns
