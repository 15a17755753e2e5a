/- One or two bytes side by side of a closed list that are turned are shown. No conditions. -/
import Derived.Test.YtgakjgblaaipmadRows
import Derived.Test.YtgakjgblaaipmadArgs
import Derived.Test.YtgakjgblaaipmadSum7
import Derived.ProofKit
import Derived.OpenShut
namespace Go.Proofs.Ytgakjgblaaipmad.sumShows
open Go.ChangeShapes Go.WideShapes Go.ChangeAt Go.RowKit
open Go.ChangeMaps (open_string shut_string)
set_option linter.unusedVariables false

set_option maxHeartbeats 2000000 in
set_option maxRecDepth 100000 in
theorem walk (w : World) (s : Option Addr) (cap : Nat) (p : List Int) (hs : Sl w 1 (.slice s p.length cap) p.length (p.map (Value.int .u8))) (hb0 : ∀ n ∈ p, (Lit.int .u8 n).wf = true) (t : Int) (wt : (Lit.int .u16 t).wf = true) (a : Int) (wa : (Lit.int .u8 a).wf = true) (b : Int) (wb : (Lit.int .u8 b).wf = true) :
    Calls Try.prog 6 #[.slice s p.length cap, .int .u16 t, .int .u8 a, .int .u8 b] w fun e w' => e = .returned (.bool true) ∧ Below w.heap.size w w' := by
  have HS := hid hs
  have hb : Bytes p := fun x hx => bounds_u8 (hb0 x hx)
  have HB := hid hb
  clear hs hb0 hb
  have ha := bounds_u8 wa
  have hbb := bounds_u8 wb
  have ht : 0 ≤ t ∧ t ≤ 65535 := bounds_u16 wt
  clear wa wb wt
  by_cases hl : 300 < p.length
  · have hd : decide ((300 : Int) < p.length) = true := by simp; omega
    go_enter Try.func6, Try.ntmps6
    go_wp2_with fail
    refine (letters_true _).mono ?_
    rintro e wz ⟨rfl, kz⟩
    have KZ := hid kz
    clear kz
    go_wp2_with fail
    go_ret
    exact ⟨rfl, KZ.out.toBelow⟩
  · have hd : decide ((300 : Int) < p.length) = false := by simp; omega
    by_cases hz : a = 0 ∧ b = 0
    · obtain ⟨rfl, rfl⟩ := hz
      go_enter Try.func6, Try.ntmps6
      go_wp2_with fail
      refine (letters_true _).mono ?_
      rintro e wz ⟨rfl, kz⟩
      have KZ := hid kz
      clear kz
      go_wp2_with fail
      go_ret
      exact ⟨rfl, KZ.out.toBelow⟩
    · obtain ⟨k, hk⟩ : ∃ k : Nat, t % ((p.length : Int) + 2 - 1) = (k : Int) := ⟨(t % ((p.length : Int) + 2 - 1)).toNat, by have := Int.emod_nonneg t (show ((p.length : Int) + 2 - 1) ≠ 0 by omega); omega⟩
      have hkn : k < p.length + 1 := by have := Int.emod_lt_of_pos t (show 0 < (p.length : Int) + 2 - 1 by omega); omega
      obtain ⟨q, hq⟩ : ∃ q, q = p ++ [((mof p).toNat : Int) / 256, ((mof p).toNat : Int) % 256] := ⟨_, rfl⟩
      have hql : q.length = p.length + 2 := by rw [hq]; simp
      have hlt := (mof p).isLt
      have hqb : Bytes q := fun x hx => by
        rw [hq] at hx
        simp only [List.mem_append, List.mem_cons, List.not_mem_nil, or_false] at hx
        rcases hx with hx | rfl | rfl
        · exact HB.out x hx
        · omega
        · omega
      obtain ⟨m, u, v, hm, hml, hmb, hmn⟩ := turned_bad HB.out (k := k) ha hbb hz q hq (by omega) (by omega)
      have hx := hqb q[k] (List.getElem_mem (by omega))
      have hy := hqb q[k + 1] (List.getElem_mem (by omega))
      have g0 : q[k]? = some q[k] := List.getElem?_eq_getElem _
      have g1 : (q.set k (xb q[k] a))[k + 1]? = some q[k + 1] := by rw [List.getElem?_set_ne (by omega)]; exact List.getElem?_eq_getElem _
      obtain ⟨x, ex⟩ : ∃ x, q[k] = x := ⟨_, rfl⟩
      obtain ⟨y, ey⟩ : ∃ y, q[k + 1] = y := ⟨_, rfl⟩
      rw [ex] at hx g0 g1 hm
      rw [ey] at hy g1 hm
      obtain ⟨ha0, ha1⟩ := ha
      obtain ⟨hb0, hb1⟩ := hbb
      obtain ⟨hx0, hx1⟩ := hx
      obtain ⟨hy0, hy1⟩ := hy
      have ex1 : bits .xor .u8 x a = xb x a := u8_xor x a hx0 (by omega) ha0 (by omega)
      have ey1 : bits .xor .u8 y b = xb y b := u8_xor y b hy0 (by omega) hb0 (by omega)
      have hcl := mclose_any (w := w) HS.out HB.out (by omega)
      rw [← hq] at hcl
      have HM := hid hm
      have HG0 := hid g0
      have HG1 := hid g1
      have HQL := hid hql
      have HML := hid hml
      have hz1 : ((a == 0) = true ∧ (b == 0) = false) ∨ (a == 0) = false := by
        by_cases h1 : a = 0
        · exact Or.inl ⟨by simpa using h1, by simpa using fun h => hz ⟨h1, h⟩⟩
        · exact Or.inr (by simpa using h1)
      have hn3 : p.length ≤ 300 := by omega
      clear hm g0 g1 ex ey hq hql hml hqb hlt hz
      rcases hz1 with ⟨hz1, hz2⟩ | hz1
      all_goals
        go_enter Try.func6, Try.ntmps6
        go_wp2_with fail
        refine hcl.mono ?_
        rintro e w2 ⟨v2, rfl, ho2, k2, hb2⟩
        obtain ⟨g, c2, rfl⟩ := own_some ho2 (by omega)
        have hg : w.heap.size ≤ g := hb2 g rfl
        have c0 : w2.cell? ⟨g, k, none⟩ = some (.int .u8 x) := by rw [ho2.cellAt k (by omega)]; simp [HG0.out]
        have f0 := ho2.frozenAt k
        have ho3 := (ho2.stored k (.int .u8 (xb x a))).1
        rw [← List.map_set] at ho3
        have c1 : (w2.setCell ⟨g, k, none⟩ (.int .u8 (xb x a))).cell? ⟨g, k + 1, none⟩ = some (.int .u8 y) := by rw [ho3.cellAt (k + 1) (by omega), List.getElem?_map, HG1.out]; rfl
        have f1 := ho3.frozenAt (k + 1)
        have ho4 := (ho3.stored (k + 1) (.int .u8 (xb y b))).1
        rw [← List.map_set, HM.out] at ho4
        have h4 : SlB ((w2.setCell ⟨g, k, none⟩ (.int .u8 (xb x a))).setCell ⟨g, k + 1, none⟩ (.int .u8 (xb y b))) (.slice (some ⟨g, 0, none⟩) (p.length + 2) c2) (m ++ [u, v]) := by
          have := Sl.ofOwn ho4
          unfold SlB
          rw [List.length_append, HML.out]; exact this
        have hop := sopen_bad h4 hmb (by rw [HML.out]; omega) hmn
        have K2 := hid ((k2.setCell (p := ⟨g, k, none⟩) (Or.inl hg) (.int .u8 (xb x a))).setCell (p := ⟨g, k + 1, none⟩) (Or.inl hg) (.int .u8 (xb y b)))
        clear ho2 k2 hb2 ho3 ho4 h4 hcl
        go_wp2_with fail
        refine hop.mono ?_
        rintro e w5 ⟨rfl, k5⟩
        have K5 := hid (K2.out.trans k5)
        clear k5 hop
        go_wp2_with fail
        refine (letters_true _).mono ?_
        rintro e w6 ⟨rfl, k6⟩
        have K6 := hid (K5.out.trans k6)
        clear k6
        go_wp2_with fail
        go_ret
        exact ⟨rfl, K6.out.toBelow⟩

theorem own : ownKnob Try.prog.godebug = none := by kernel_rfl
theorem laidOut : laidOutB Try.prog = true := by kernel_rfl
set_option maxRecDepth 100000 in
theorem lifted (os : Os) (started : os.Started) (H : Type) (enc : TypeId × Value → H) :
    ReturnsInHanded {} Try.checked os 6 .any (Rows.sumShowsSpec.pre6 enc Try.prog Try.f6 Rows.sumShowsRow.domain false) (Rows.sumShowsSpec.post enc Try.prog Try.f6 false true false false) := by
  refine returnsInHanded_of_change (C := Try.checked) own started (by kernel_rfl) Try.func6
    (ChangeSpec.witness6 (enc := enc) (C := Try.checked) false ⟨#[], #[.slice none 0 0, .int .u16 0, .int .u8 0, .int .u8 0], []⟩ 8 (by kernel_rfl) (by kernel_rfl) (by kernel_rfl) (by kernel_rfl)) ?_
  intro W base args ds gs before hval0 hW hcnd _
  have hval : ∀ (j : Nat) t v, Try.f6.params[j]? = some t → args[j]? = some v → Value.okWide Try.prog W .any base t v := hval0
  have hW' := hW
  obtain ⟨p, q, hA0, hV, rfl, hfz, hnd⟩ := hW
  have hA : DataW.TrodAll enc Try.prog W 0 (fun _ => true) true Try.f6.params.toList args.toList ds p := hA0
  rw [Try.params6] at hA hval
  obtain ⟨v0, vs0, d0, ds0, p0, q0, hargs, rfl, rfl, h0, r0⟩ := trodAll_cons hA
  obtain ⟨v1, vs1, d1, ds1, p1, q1, rfl, rfl, rfl, h1, r1⟩ := trodAll_cons r0
  obtain ⟨v2, vs2, d2, ds2, p2, q2, rfl, rfl, rfl, h2, r2⟩ := trodAll_cons r1
  obtain ⟨v3, vs3, d3, ds3, p3, q3, rfl, rfl, rfl, h3, r3⟩ := trodAll_cons r2
  obtain ⟨rfl, rfl, rfl⟩ := trodAll_nil r3
  obtain rfl : args = #[v0, v1, v2, v3] := by cases args; simp_all
  obtain ⟨rfl, rfl⟩ := trodVars_none hV
  have k0 := h0
  have lt0 : ∀ x ∈ p0, x.block < W.heap.size := by obtain ⟨m, hm⟩ := k0; exact DataW.trod_lt m _ _ _ hm
  have k1 := h1
  have lt1 : ∀ x ∈ p1, x.block < W.heap.size := by obtain ⟨m, hm⟩ := k1; exact DataW.trod_lt m _ _ _ hm
  have k2 := h2
  have lt2 : ∀ x ∈ p2, x.block < W.heap.size := by obtain ⟨m, hm⟩ := k2; exact DataW.trod_lt m _ _ _ hm
  have k3 := h3
  have lt3 : ∀ x ∈ p3, x.block < W.heap.size := by obtain ⟨m, hm⟩ := k3; exact DataW.trod_lt m _ _ _ hm
  obtain ⟨s0, len0, cap0, rfl⟩ := okWide_slice Try.underlying22 (hval 0 22 v0 rfl rfl)
  obtain ⟨l0, rfl, w0, b0⟩ := argInts .u8 Try.underlying22 Try.underlying5 (by kernel_rfl) h0
  obtain ⟨a1, rfl, rfl, rfl, w1⟩ := open_int Try.underlying24 (hval 1 24 v1 rfl rfl) h1
  obtain ⟨a2, rfl, rfl, rfl, w2⟩ := open_int Try.underlying5 (hval 2 5 v2 rfl rfl) h2
  obtain ⟨a3, rfl, rfl, rfl, w3⟩ := open_int Try.underlying5 (hval 3 5 v3 rfl rfl) h3
  clear hA0 hval0
  refine (walk W s0 cap0 l0 w0 b0 a1 w1 a2 w2 a3 w3).mono fun e W' ⟨he, bel⟩ => ?_
  subst he
  exact ⟨_, rfl, _, _, _, [], _, [], hW', trodAll_mk1 (shut_bool Try.underlying4 _), (trodAll_cons_mk (Below.trod laidOut (by kernel_rfl) (of_decide_eq_true (by kernel_rfl)) k0 bel lt0) (trodAll_cons_mk (Below.trod laidOut (by kernel_rfl) (of_decide_eq_true (by kernel_rfl)) k1 bel lt1) (trodAll_cons_mk (Below.trod laidOut (by kernel_rfl) (of_decide_eq_true (by kernel_rfl)) k2 bel lt2) (trodAll_cons_mk (Below.trod laidOut (by kernel_rfl) (of_decide_eq_true (by kernel_rfl)) k3 bel lt3) trodAll_mk0)))), rfl, bel.frame _, fun h => by cases h⟩

theorem over : Rows.sumShowsRow.holds Try.pinned (OpenSpec.ofChange Rows.sumShowsSpec) :=
  OpenClaim.holds_of_wide 6 Try.f6 rfl rfl rfl rfl rfl rfl rfl ⟨rfl, rfl, rfl, rfl, rfl⟩ rfl rfl rfl rfl rfl (by kernel_rfl) Try.func6 (by kernel_rfl)
    (of_decide_eq_true (by kernel_rfl)) (by unfold Func.isWrapper; first | (rw [if_pos (by decide +kernel)]; kernel_rfl) | (rw [if_neg (by decide +kernel)]; exact ⟨rfl, rfl⟩))
    (fun os started H enc _ => lifted os started H enc)

theorem proved : Rows.SumShowsSaid := over
#print axioms proved
end Go.Proofs.Ytgakjgblaaipmad.sumShows
