/- Of what was put into a queue of enough room the highest goes first, and of one band the oldest; at last none waits. No conditions. -/
import Derived.Test.YtgakjgblaaipmabRows
import Derived.Test.YtgakjgblaaipmabArgs
import Derived.Test.YtgakjgblaaipmabBandPlain
import Derived.ProofKit
import Derived.OpenShut
namespace Go.Proofs.Ytgakjgblaaipmab.bandOrder
open Go.ChangeShapes Go.WideShapes Go.ChangeAt Go.RowKit
open Go.ChangeMaps (open_string shut_string)
set_option linter.unusedVariables false

set_option maxHeartbeats 4000000 in
set_option maxRecDepth 100000 in
theorem walk (w : World) (s : Option Addr) (cap : Nat) (l : List Int) (hs : Sl w 1 (.slice s l.length cap) l.length (l.map (Value.int .u8))) (hb : ∀ n ∈ l, (Lit.int .u8 n).wf = true) :
    Calls Try.prog 4 #[.slice s l.length cap] w fun e w' => e = .returned (.bool true) ∧ Below w.heap.size w w' := by
  have HS := hid hs
  have HB := hid hb
  clear hs hb
  by_cases hl : 100 < l.length
  · have hd : decide ((100 : Int) < l.length) = true := by simp; omega
    go_enter Try.func4, Try.ntmps4
    go_wp2_with fail
    refine (first_true _).mono ?_
    rintro e w1 ⟨rfl, k1⟩
    have K1 := hid k1
    clear k1
    go_wp2_with fail
    refine (first_true _).mono ?_
    rintro e w2 ⟨rfl, k2⟩
    have K2 := hid k2
    clear k2
    go_wp2_with fail
    go_ret
    exact ⟨rfl, (K1.out.trans K2.out).toBelow⟩
  · have hd : decide ((100 : Int) < l.length) = false := by simp; omega
    go_enter Try.func4, Try.ntmps4
    go_wp2_with fail
    refine (first_true _).mono ?_
    rintro e w1 ⟨rfl, k1⟩
    have K1 := hid k1
    clear k1
    go_wp2_with fail
    refine (qnew_any 200 200 200 _).mono ?_
    rintro e w2 ⟨qb, rfl, F2, h2, f2, k2⟩
    have hR : ∀ i : Nat, roomOf (if i = 1 then 200 else if i = 2 then 200 else 200) = 200 := fun i => by split <;> (try split) <;> rfl
    simp only [hR] at h2
    have H2 := hid h2
    have O2 := hid (And.intro (fun i hi => Nat.le_trans K1.out.size (f2 i hi)) (K1.out.trans k2))
    clear h2 f2 k2 hR
    go_wp2_with fail
    go_loopw [4] (fun v4 wr => ∃ (k : Nat) (F : Nat → Prop), k ≤ l.length ∧ v4 = .int .i64 k ∧ Hid (QueueE wr qb F (fun _ => 200) (lot false l k)) ∧ Hid ((∀ i, F i → w.heap.size ≤ i) ∧ Keeps No w wr)) (fun v4 _ => l.length - (intOf v4).toNat)
    case atStart => exact ⟨0, _, Nat.zero_le _, rfl, H2, O2⟩
    case round =>
      obtain ⟨k, F, hk, rfl, HQ, HO⟩ := hrel
      by_cases hlt : k < l.length
      · obtain ⟨g, off, rfl, _, hcw⟩ := Sl.cellAt HS.out (show (l.map (Value.int .u8))[k]? = some (.int .u8 l[k]) by simp [hlt])
        have hc := HO.out.2.cell (fun h => h) hcw
        have hbd := bounds_u8 (HB.out l[k] (List.getElem_mem hlt))
        have hls := lot_succ false l hlt
        obtain ⟨x, hx⟩ : ∃ x, l[k] = x := ⟨_, rfl⟩
        rw [hx] at hc hbd hls
        obtain ⟨hb0, hb1⟩ := hbd
        have HL := hid hls
        have hll := length_lot_le false l k (bandOf x)
        have hbo := bandOf_bd x
        clear hx hls hcw
        go_wp2_with fail
        refine (qput_new HQ.out (bandOf_int x).symm hbo.1 hbo.2 ⟨k, false, 0⟩ (fun y hy => lot_new hy) (by omega)).mono ?_
        rintro e w3 ⟨rfl, F3, h3, u3⟩
        rw [← HL.out] at h3
        have H3 := hid h3
        have O3 := hid (newUpd HO.out.1 HO.out.2 u3)
        clear h3 u3
        go_wp2_with fail
        go_roundw
        case rel => exact ⟨k + 1, F3, by omega, by go_num, H3, O3⟩
        case measure => simp [intOf]; omega
      · have hkl : k = l.length := by omega
        subst hkl
        have HI := hid (InOrder.start l)
        have HN := hid (length_lots false l l.length (Nat.le_refl _))
        go_wp2_with fail
        go_loopw [5, 6, 7] (fun v5 v6 v7 wr' => ∃ (i : Nat) (F : Nat → Prop) (L : Nat → List Ev) (last rule : Int), i ≤ l.length ∧ v7 = .int .i64 i ∧ v5 = .int .u8 last ∧ v6 = .int .i64 rule ∧ Hid (QueueE wr' qb F (fun _ => 200) L) ∧ Hid ((∀ i, F i → w.heap.size ≤ i) ∧ Keeps No w wr') ∧ Hid (InOrder l L last rule) ∧ Hid ((tag L).length = l.length - i)) (fun _ _ v7 _ => l.length - (intOf v7).toNat)
        case atStart => exact ⟨0, F, _, 9, -1, Nat.zero_le _, rfl, rfl, rfl, HQ, HO, HI, HN⟩
        case round =>
          obtain ⟨i, F', L', last, rule, hi, rfl, rfl, rfl, HQ', HO', HI', HN'⟩ := hrel
          clear HQ HO HI HN
          by_cases hlt : i < l.length
          · obtain ⟨p, y, rest, ht⟩ : ∃ p y rest, tag L' = (p, y) :: rest := by
              rcases h : tag L' with _ | ⟨⟨p, y⟩, rest⟩
              · have := HN'.out; rw [h] at this; simp at this; omega
              · exact ⟨p, y, rest, rfl⟩
            obtain ⟨hp1, hp3, t, hLp, hno, hrest⟩ := tag_cons ht
            obtain ⟨r, hr, hy, hbr⟩ := HI'.out.good (p, y) (by rw [ht]; exact List.mem_cons_self)
            obtain ⟨hlast, hrule⟩ := HI'.out.behind (p, y) (by rw [ht]; exact List.mem_cons_self)
            simp only at hy hbr hlast hrule
            subst hy
            simp only at hrule
            have hI2 := InOrder.take (L' := upd L' p t) HI'.out (by rw [hrest]; exact ht)
            have hN2 : (tag (upd L' p t)).length = l.length - (i + 1) := by
              have := HN'.out
              rw [ht] at this; rw [hrest]; simp at this; omega
            have htk := qtake_ok HQ'.out hp1 hp3 hLp hno
            obtain ⟨g, off, rfl, _, hcw⟩ := Sl.cellAt HS.out (show (l.map (Value.int .u8))[r]? = some (.int .u8 l[r]) by simp [hr])
            have hbd := bounds_u8 (HB.out l[r] (List.getElem_mem hr))
            have hbi := bandOf_int l[r]
            obtain ⟨x, hx⟩ : ∃ x, l[r] = x := ⟨_, rfl⟩
            rw [hx] at hcw hbd hbr hbi
            rw [hbr] at hbi
            obtain ⟨hb0, hb1⟩ := hbd
            have e1 : decide (last < (p : Int)) = false := by simpa using hlast
            have e2 : ((p : Int) != 1 + x % 3) = false := by simp [hbi]
            have hmod : (r : Int) % (l.length : Int) = r := Int.emod_eq_of_lt (by omega) (by omega)
            have HI2 := hid hI2
            have HN2 := hid hN2
            simp only [Ev.val] at htk
            clear hx hbr hbi ht hrest hno hLp hI2 hN2 hlast
            by_cases hpl : (p : Int) = last
            · have hrl := hrule hpl
              have e3 : ((p : Int) == last) = true := by simpa using hpl
              have e4 : decide ((r : Int) < rule) = false := by simp; omega
              clear hrule hpl
              go_wp2_with fail
              refine htk.mono ?_
              rintro e w4 ⟨rfl, F4, h4, u4⟩
              have H4 := hid h4
              have O4 := hid (newUpd HO'.out.1 HO'.out.2 u4)
              have hc := O4.out.2.cell (fun h => h) hcw
              have hgl : g < w4.heap.size := World.block_lt_of_cell? w4 _ hc
              clear h4 u4 htk hcw
              go_wp2_with fail
              go_quiet (fail)
              go_wp2_with fail
              go_roundw
              case rel => exact ⟨i + 1, F4, _, _, _, by omega, by go_num, rfl, rfl, hid (QueueE.keep H4.out (by exact ((Keeps.refl No _).alloc _).drewN _) (fun _ _ h => h)), hid ⟨O4.out.1, (O4.out.2.alloc _).drewN _⟩, HI2, HN2⟩
              case measure => simp [intOf]; omega
            · have e3 : ((p : Int) == last) = false := by simpa using hpl
              clear hrule hpl
              go_wp2_with fail
              refine htk.mono ?_
              rintro e w4 ⟨rfl, F4, h4, u4⟩
              have H4 := hid h4
              have O4 := hid (newUpd HO'.out.1 HO'.out.2 u4)
              have hc := O4.out.2.cell (fun h => h) hcw
              have hgl : g < w4.heap.size := World.block_lt_of_cell? w4 _ hc
              clear h4 u4 htk hcw
              go_wp2_with fail
              go_quiet (fail)
              go_wp2_with fail
              go_roundw
              case rel => exact ⟨i + 1, F4, _, _, _, by omega, by go_num, rfl, rfl, hid (QueueE.keep H4.out (by exact ((Keeps.refl No _).alloc _).drewN _) (fun _ _ h => h)), hid ⟨O4.out.1, (O4.out.2.alloc _).drewN _⟩, HI2, HN2⟩
              case measure => simp [intOf]; omega
          · have hil : i = l.length := by omega
            subst hil
            have hT := HN'.out
            rw [Nat.sub_self, length_tag] at hT
            have hlen := qlen_any HQ'.out
            rw [hT] at hlen
            clear hT
            go_wp2_with fail
            refine hlen.mono ?_
            rintro e w4 ⟨rfl, rfl⟩
            go_wp2_with fail
            go_ret
            exact ⟨rfl, HO'.out.2.toBelow⟩

theorem own : ownKnob Try.prog.godebug = none := by kernel_rfl
theorem laidOut : laidOutB Try.prog = true := by kernel_rfl
set_option maxRecDepth 100000 in
theorem lifted (os : Os) (started : os.Started) (H : Type) (enc : TypeId × Value → H) :
    ReturnsInHanded {} Try.checked os 4 .any (Rows.bandOrderSpec.pre6 enc Try.prog Try.f4 Rows.bandOrderRow.domain false) (Rows.bandOrderSpec.post enc Try.prog Try.f4 false true false false) := by
  refine returnsInHanded_of_change (C := Try.checked) own started (by kernel_rfl) Try.func4
    (ChangeSpec.witness6 (enc := enc) (C := Try.checked) false ⟨#[], #[.slice none 0 0], []⟩ 8 (by kernel_rfl) (by kernel_rfl) (by kernel_rfl) (by kernel_rfl)) ?_
  intro W base args ds gs before hval0 hW hcnd _
  have hval : ∀ (j : Nat) t v, Try.f4.params[j]? = some t → args[j]? = some v → Value.okWide Try.prog W .any base t v := hval0
  have hW' := hW
  obtain ⟨p, q, hA0, hV, rfl, hfz, hnd⟩ := hW
  have hA : DataW.TrodAll enc Try.prog W 0 (fun _ => true) true Try.f4.params.toList args.toList ds p := hA0
  rw [Try.params4] at hA hval
  obtain ⟨v0, vs0, d0, ds0, p0, q0, hargs, rfl, rfl, h0, r0⟩ := trodAll_cons hA
  obtain ⟨rfl, rfl, rfl⟩ := trodAll_nil r0
  obtain rfl : args = #[v0] := by cases args; simp_all
  obtain ⟨rfl, rfl⟩ := trodVars_none hV
  have k0 := h0
  have lt0 : ∀ x ∈ p0, x.block < W.heap.size := by obtain ⟨m, hm⟩ := k0; exact DataW.trod_lt m _ _ _ hm
  obtain ⟨s0, len0, cap0, rfl⟩ := okWide_slice Try.underlying48 (hval 0 48 v0 rfl rfl)
  obtain ⟨l0, rfl, w0, b0⟩ := argInts .u8 Try.underlying48 Try.underlying5 (by kernel_rfl) h0
  clear hA0 hval0
  refine (walk W s0 cap0 l0 w0 b0).mono fun e W' ⟨he, bel⟩ => ?_
  subst he
  exact ⟨_, rfl, _, _, _, [], _, [], hW', trodAll_mk1 (shut_bool Try.underlying4 _), (trodAll_cons_mk (Below.trod laidOut (by kernel_rfl) (of_decide_eq_true (by kernel_rfl)) k0 bel lt0) trodAll_mk0), rfl, bel.frame _, fun h => by cases h⟩

theorem over : Rows.bandOrderRow.holds Try.pinned (OpenSpec.ofChange Rows.bandOrderSpec) :=
  OpenClaim.holds_of_wide 4 Try.f4 rfl rfl rfl rfl rfl rfl rfl ⟨rfl, rfl, rfl, rfl, rfl⟩ rfl rfl rfl rfl rfl (by kernel_rfl) Try.func4 (by kernel_rfl)
    (of_decide_eq_true (by kernel_rfl)) (by unfold Func.isWrapper; first | (rw [if_pos (by decide +kernel)]; kernel_rfl) | (rw [if_neg (by decide +kernel)]; exact ⟨rfl, rfl⟩))
    (fun os started H enc _ => lifted os started H enc)

theorem proved : Rows.BandOrderSaid := over
#print axioms proved
end Go.Proofs.Ytgakjgblaaipmab.bandOrder
