/- Of any stream each byte is in a frame that was told, is lost, or waits. No conditions. -/
import Derived.Test.YthfjihpfcollfaaRows
import Derived.Test.YthfjihpfcollfaaArgs
import Derived.Test.YthfjihpfcollfaaFr11
import Derived.ProofKit
import Derived.OpenShut
namespace Go.Proofs.Ythfjihpfcollfaa.frameCounts
open Go.ChangeShapes Go.WideShapes Go.ChangeAt Go.RowKit
open Go.ChangeMaps (open_string shut_string)
set_option linter.unusedVariables false

set_option maxHeartbeats 8000000 in
set_option maxRecDepth 100000 in
theorem walk (w : World) (s : Option Addr) (cap : Nat) (l : List Prt) (hs : Sl w 4 (.slice s l.length cap) l.length (l.flatMap encP)) (hg : ∀ y ∈ l, goodP w y) :
    Calls Try.prog 7 #[.slice s l.length cap] w fun e w' => e = .returned (.bool true) ∧ Below w.heap.size w w' := by
  have HS := hid hs
  have HG := hid hg
  clear hs hg
  by_cases hl : l.length ≤ 12
  · go_enter Try.func7, Try.ntmps7
    go_wp2_with fail
    refine (told_true _).mono ?_
    rintro e w1 ⟨rfl, k1⟩
    have K1 := hid k1
    clear k1
    go_wp2_with fail
    refine (few_yes hl).mono ?_
    rintro e w' ⟨rfl, rfl⟩
    go_wp2_with fail
    refine (stream_any (HS.out.keep K1.out (fun _ _ h => h)) (fun y hy => (HG.out y hy).keep K1.out) hl).mono ?_
    rintro e w2 ⟨q, v2, rfl, HT⟩
    obtain ⟨a2, c2, rfl⟩ := own_any HT.out.own
    have hql := HT.out.len
    have HX : Hid (SlB w2 (.slice a2 q.length c2) q) := hid (Sl.ofOwn HT.out.own)
    have K2 := hid (K1.out.trans HT.out.keep)
    have HB := hid HT.out.byt
    have hq2 : q.length ≤ 444 := by omega
    obtain ⟨N, hN⟩ : ∃ N, q.length = N := ⟨_, rfl⟩
    rw [hN] at hq2 hql ⊢
    have HNN := hid hN
    clear hN HT
    go_wp2_with fail
    refine new_any.mono ?_
    rintro e w3 ⟨F, rfl, h3, k3, f3⟩
    have H3 := hid (OwnS.made K2.out h3 k3 f3)
    have K3 := hid k3
    clear h3 k3 f3
    have hfeed := feed_any H3.out.sc (p := q) (HX.out.keep K3.out (fun _ _ h => h)) HB.out (by have := HNN.out; simp; omega) (by omega)
    rw [List.nil_append, HNN.out] at hfeed
    have HFE := hid hfeed
    clear hfeed
    go_wp2_with fail
    refine HFE.out.mono ?_
    rintro e w4 ⟨tv, rfl, hf⟩
    obtain ⟨vs, F', hsc, hu, ho4, hr4, _⟩ := H3.out.fed hf
    rw [Nat.zero_add] at hsc
    have hvl := hr4.len
    have hs4 := Sl.ofOwn ho4
    rw [hvl] at hs4
    obtain ⟨a4, c4, rfl⟩ := hs4.any
    have hco := scan_counts q
    have hrl := scan_rest_len q
    have hou := scan_out HB.out
    obtain ⟨S, hS⟩ : ∃ S, scan q = S := ⟨_, rfl⟩
    rw [hS] at hsc hr4 hs4 hco hrl hou ⊢
    have H4 := hid hsc
    have HR4 := hid hr4
    have HS4 := hid hs4
    have HO := hid hou
    have HCO := hid (hco.trans HNN.out)
    have hb1 : S.lost + S.rest.length + sizes S.out ≤ 444 := by have := HNN.out; omega
    have hb2 : S.out.length ≤ 444 := by have := sizes_len S.out; omega
    clear hf hsc hu ho4 hr4 hvl hs4 hco hou hS HFE
    go_wp2_with fail
    refine (lost_any H4.out.sc).mono ?_
    rintro e w' ⟨rfl, rfl⟩
    go_wp2_with fail
    refine (held_any H4.out.sc).mono ?_
    rintro e w' ⟨rfl, rfl⟩
    go_wp2_with fail
    go_loop [6, 7] (fun v6 v7 => ∃ i : Nat, i ≤ S.out.length ∧ v7 = .int .i64 i ∧ v6 = .int .i64 ((S.lost : Int) + (S.rest.length : Int) + ((sizes (S.out.take i) : Nat) : Int))) (fun _ v7 => S.out.length - (intOf v7).toNat)
    case atStart => exact ⟨0, Nat.zero_le _, rfl, by simp [sizes]⟩
    case round =>
      obtain ⟨i, hi, rfl, rfl⟩ := hrel
      by_cases hlt : i < S.out.length
      · obtain ⟨u, hu1, hu2⟩ := HR4.out.at i hlt
        obtain ⟨au, cu, rfl⟩ := hu2.any
        obtain ⟨g, off, rfl, _, hc⟩ := Sl.cellAt HS4.out hu1
        have hm := HO.out S.out[i] (List.getElem_mem hlt)
        have hsz := sizes_take S.out hlt
        have hsl := sizes_le S.out (i + 1)
        obtain ⟨z, hz⟩ : ∃ z, sizes (S.out.take i) = z := ⟨_, rfl⟩
        obtain ⟨n, hn⟩ : ∃ n, S.out[i].length = n := ⟨_, rfl⟩
        rw [hz, hn] at hsz
        rw [hn] at hc
        obtain ⟨hm1, hm2, _⟩ := hm
        rw [hn] at hm1 hm2
        rw [hz]
        have HSZ := hid hsz
        have hd1 : decide ((n : Int) < 1) = false := by simp; omega
        have hd2 : decide ((n : Int) > 32) = false := by simp; omega
        have hd3 : decide ((32 : Int) < (n : Int)) = false := by simp; omega
        have hz2 : z ≤ 444 := by omega
        clear hu1 hu2 hz hn hsl hsz
        go_wp2_with fail
        go_round
        case rel => exact ⟨i + 1, by omega, by go_num, val_i64 (by have := HSZ.out; omega)⟩
        case measure => simp [intOf]; omega
      · have hi2 : i = S.out.length := by omega
        have hz2 : sizes (S.out.take i) = sizes S.out := by rw [hi2, List.take_length]
        have he : ((S.lost : Int) + (S.rest.length : Int) + ((sizes S.out : Nat) : Int) == (N : Int)) = true := by have := HCO.out; simp; omega
        rw [hz2]
        have hd1 : decide ((S.rest.length : Int) < 37) = true := by simp; omega
        clear hz2 hi2
        go_wp2_with fail
        refine (held_any H4.out.sc).mono ?_
        rintro e w' ⟨rfl, rfl⟩
        go_wp2_with fail
        go_ret
        exact ⟨rfl, H4.out.keep.toBelow⟩
  · go_enter Try.func7, Try.ntmps7
    go_wp2_with fail
    refine (told_true _).mono ?_
    rintro e w1 ⟨rfl, k1⟩
    have K1 := hid k1
    clear k1
    go_wp2_with fail
    refine (few_no hl).mono ?_
    rintro e w' ⟨rfl, rfl⟩
    go_wp2_with fail
    refine (told_true _).mono ?_
    rintro e w2 ⟨rfl, k2⟩
    have K2 := hid (K1.out.trans k2)
    clear k2
    go_wp2_with fail
    go_ret
    exact ⟨rfl, K2.out.toBelow⟩

theorem own : ownKnob Try.prog.godebug = none := by kernel_rfl
theorem laidOut : laidOutB Try.prog = true := by kernel_rfl
set_option maxRecDepth 100000 in
theorem lifted (os : Os) (started : os.Started) (H : Type) (enc : TypeId × Value → H) :
    ReturnsInHanded {} Try.checked os 7 .any (Rows.frameCountsSpec.pre6 enc Try.prog Try.f7 Rows.frameCountsRow.domain false) (Rows.frameCountsSpec.post enc Try.prog Try.f7 false true false false) := by
  refine returnsInHanded_of_change (C := Try.checked) own started (by kernel_rfl) Try.func7
    (ChangeSpec.witness6 (enc := enc) (C := Try.checked) false ⟨#[], #[.slice none 0 0], []⟩ 8 (by kernel_rfl) (by kernel_rfl) (by kernel_rfl) (by kernel_rfl)) ?_
  intro W base args ds gs before hval0 hW hcnd _
  have hval : ∀ (j : Nat) t v, Try.f7.params[j]? = some t → args[j]? = some v → Value.okWide Try.prog W .any base t v := hval0
  have hW' := hW
  obtain ⟨p, q, hA0, hV, rfl, hfz, hnd⟩ := hW
  have hA : DataW.TrodAll enc Try.prog W 0 (fun _ => true) true Try.f7.params.toList args.toList ds p := hA0
  rw [Try.params7] at hA hval
  obtain ⟨v0, vs0, d0, ds0, p0, q0, hargs, rfl, rfl, h0, r0⟩ := trodAll_cons hA
  obtain ⟨rfl, rfl, rfl⟩ := trodAll_nil r0
  obtain rfl : args = #[v0] := by cases args; simp_all
  obtain ⟨rfl, rfl⟩ := trodVars_none hV
  have k0 := h0
  have lt0 : ∀ x ∈ p0, x.block < W.heap.size := by obtain ⟨m, hm⟩ := k0; exact DataW.trod_lt m _ _ _ hm
  obtain ⟨s0, len0, cap0, rfl⟩ := okWide_slice Try.underlying22 (hval 0 22 v0 rfl rfl)
  obtain ⟨l0, rfl, w0, b0⟩ := argSlice (encE := encP) (good := (goodP W)) (size := 4) (fun _ => rfl) (by decide) Try.underlying22 (by kernel_rfl) (fun n cs x hx => decP hx) h0
  clear hA0 hval0
  refine (walk W s0 cap0 l0 w0 b0).mono fun e W' ⟨he, bel⟩ => ?_
  subst he
  exact ⟨_, rfl, _, _, _, [], _, [], hW', trodAll_mk1 (shut_bool Try.underlying4 _), (trodAll_cons_mk (Below.trod laidOut (by kernel_rfl) (of_decide_eq_true (by kernel_rfl)) k0 bel lt0) trodAll_mk0), rfl, bel.frame _, fun h => by cases h⟩

theorem over : Rows.frameCountsRow.holds Try.pinned (OpenSpec.ofChange Rows.frameCountsSpec) :=
  OpenClaim.holds_of_wide 7 Try.f7 rfl rfl rfl rfl rfl rfl rfl ⟨rfl, rfl, rfl, rfl, rfl⟩ rfl rfl rfl rfl rfl (by kernel_rfl) Try.func7 (by kernel_rfl)
    (of_decide_eq_true (by kernel_rfl)) (by unfold Func.isWrapper; first | (rw [if_pos (by decide +kernel)]; kernel_rfl) | (rw [if_neg (by decide +kernel)]; exact ⟨rfl, rfl⟩))
    (fun os started H enc _ => lifted os started H enc)

theorem proved : Rows.FrameCountsSaid := over
#print axioms proved
end Go.Proofs.Ythfjihpfcollfaa.frameCounts
