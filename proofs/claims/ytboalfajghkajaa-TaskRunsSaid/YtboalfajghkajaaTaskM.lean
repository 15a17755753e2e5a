/-
  A rule that is looked at: the document's.
-/
import Derived.Test.YtboalfajghkajaaTaskP
import Derived.Test.YtboalfajghkajaaGateM
import Derived.Test.YtboalfajghkajaaTrendM
import Derived.Test.YtboalfajghkajaaBlk
import Derived.BigQuiet
namespace Go.Proofs.Ytboalfajghkajaa
open Go.RowKit
set_option linter.unusedVariables false

theorem wrap64_I64 (x : Int) : I64 (wrap64 x) := by
  simp only [wrap64, IntKind.wrap_i64]
  exact ⟨by omega, by omega⟩
theorem change_i64 {l : List SeenD} {k now span d : Int} (h : changeD l k now span = some d) : I64 d := by
  unfold changeD at h
  cases ho : oldestD l k (held (now - span)) with
  | none => rw [ho] at h; cases h
  | some o =>
    cases hv : valueD l k with
    | none => rw [ho, hv] at h; cases h
    | some v =>
      rw [ho, hv] at h
      simp only [Option.bind_some, Option.map_some, Option.some.injEq] at h
      rw [← h]
      exact wrap64_I64 _

set_option maxHeartbeats 4000000 in
set_option maxRecDepth 100000 in
theorem mobs_val {w : World} {p : Value} (k sig lim back delay span : Int) (a6 a7 a8 : Value) (now : Int) (x : Option SeenD) (b : Bool) (q : Int) (c : Option Int)
    (hv : ∀ w', Keeps No w w' → Calls Try.prog 26 #[p, .int .i64 sig] w' fun e w'' => e = .returned (ValueA x) ∧ Keeps No w' w'')
    (hb : ∀ w', Keeps No w w' → Calls Try.prog 27 #[p, .int .i64 sig] w' fun e w'' => e = .returned (.bool b) ∧ Keeps No w' w'')
    (hq : ∀ w', Keeps No w w' → Calls Try.prog 31 #[p, .int .i64 sig, .int .i64 now] w' fun e w'' => e = .returned (.int .i64 q) ∧ Keeps No w' w'')
    (hc : ∀ w', Keeps No w w' → Calls Try.prog 29 #[p, .int .i64 sig, .int .i64 now, .int .i64 span] w' fun e w'' => e = .returned (ChangeA c) ∧ Keeps No w' w'')
    (hcr : ∀ d, c = some d → I64 d) :
    Calls Try.prog 14 #[.agg #[.int .u8 k, .int .i64 sig, .int .i64 lim, .int .i64 back, .int .i64 delay, .int .i64 span, a6, a7, a8], p, .int .i64 now] w fun e w' => e = .returned (ObsA (obsV k lim back span x b q c)) ∧ Keeps No w w' := by
  have HV := hid hv
  have HB := hid hb
  have HQ := hid hq
  have HC := hid hc
  have HCR := hid hcr
  have K0 := hid (Keeps.refl No w)
  have HGC := hid (fun (k v : Int) (w' : World) (_ : Keeps No w w') => mcross_any k lim back v (.int .i64 sig) (.int .i64 delay) (.int .i64 span) a6 a7 a8 w')
  have HTC := hid (fun (k d : Int) (hd : I64 d) (w' : World) (_ : Keeps No w w') => mcrossT_any k lim back d (.int .i64 sig) (.int .i64 delay) (.int .i64 span) a6 a7 a8 w' hd)
  clear hv hb hq hc hcr
  by_cases h1 : k = 1
  · subst h1
    unfold obsV ObsA
    rw [if_pos (by decide)]
    cases x with
    | none =>
      unfold ValueA at HV
      dsimp only
      go_enter Try.func14, Try.ntmps14
      go_wp2_with fail
      refine Calls.mono (HV.out _ (by have hk := K0.out; repeat' (first | with_reducible exact Keeps.refl _ _ | with_reducible assumption | with_reducible refine Keeps.drewN ?_ _ | with_reducible refine Keeps.drew ?_ | with_reducible refine Keeps.alloc ?_ _ | with_reducible refine Keeps.setCell ?_ ?_ _ | exact Or.inl (by simp) | exact Or.inl (by simp; omega) | exact Or.inl (by omega)))) ?_
      rintro e w1 ⟨rfl, kp⟩
      have HR1 : Hid (Bk w1 w.heap.size 27 [.int .u8 1, .int .i64 sig, .int .i64 lim, .int .i64 back, .int .i64 delay, .int .i64 span, a6, a7, a8]) := hid ((Bk.new rfl _ _).kept kp)
      have K1 : Hid (Keeps No w w1) := hid (Keeps.trans (by have hk := K0.out; repeat' (first | with_reducible exact Keeps.refl _ _ | with_reducible assumption | with_reducible refine Keeps.drewN ?_ _ | with_reducible refine Keeps.drew ?_ | with_reducible refine Keeps.alloc ?_ _ | with_reducible refine Keeps.setCell ?_ ?_ _ | exact Or.inl (by simp) | exact Or.inl (by simp; omega) | exact Or.inl (by omega))) kp)
      clear kp
      have x0 := HR1.out.cell 0 rfl
      have x1 := HR1.out.cell 1 rfl
      have x2 := HR1.out.cell 2 rfl
      have x3 := HR1.out.cell 3 rfl
      have x4 := HR1.out.cell 4 rfl
      have x5 := HR1.out.cell 5 rfl
      have x6 := HR1.out.cell 6 rfl
      have x7 := HR1.out.cell 7 rfl
      have x8 := HR1.out.cell 8 rfl
      go_wp2_with fail
      go_ret2
      exact ⟨rfl, by have hk := K1.out; repeat' (first | with_reducible exact Keeps.refl _ _ | with_reducible assumption | with_reducible refine Keeps.drewN ?_ _ | with_reducible refine Keeps.drew ?_ | with_reducible refine Keeps.alloc ?_ _ | with_reducible refine Keeps.setCell ?_ ?_ _ | exact Or.inl (by simp) | exact Or.inl (by simp; omega) | exact Or.inl (by omega))⟩
    | some x =>
      obtain ⟨xa, xs, xq, xv, xb⟩ := x
      unfold ValueA at HV
      dsimp only
      cases b
      · rw [if_neg (by decide)]
        go_enter Try.func14, Try.ntmps14
        go_wp2_with fail
        refine Calls.mono (HV.out _ (by have hk := K0.out; repeat' (first | with_reducible exact Keeps.refl _ _ | with_reducible assumption | with_reducible refine Keeps.drewN ?_ _ | with_reducible refine Keeps.drew ?_ | with_reducible refine Keeps.alloc ?_ _ | with_reducible refine Keeps.setCell ?_ ?_ _ | exact Or.inl (by simp) | exact Or.inl (by simp; omega) | exact Or.inl (by omega)))) ?_
        rintro e w1 ⟨rfl, kp⟩
        have HR1 : Hid (Bk w1 w.heap.size 27 [.int .u8 1, .int .i64 sig, .int .i64 lim, .int .i64 back, .int .i64 delay, .int .i64 span, a6, a7, a8]) := hid ((Bk.new rfl _ _).kept kp)
        have K1 : Hid (Keeps No w w1) := hid (Keeps.trans (by have hk := K0.out; repeat' (first | with_reducible exact Keeps.refl _ _ | with_reducible assumption | with_reducible refine Keeps.drewN ?_ _ | with_reducible refine Keeps.drew ?_ | with_reducible refine Keeps.alloc ?_ _ | with_reducible refine Keeps.setCell ?_ ?_ _ | exact Or.inl (by simp) | exact Or.inl (by simp; omega) | exact Or.inl (by omega))) kp)
        clear kp
        have x0 := HR1.out.cell 0 rfl
        have x1 := HR1.out.cell 1 rfl
        have x2 := HR1.out.cell 2 rfl
        have x3 := HR1.out.cell 3 rfl
        have x4 := HR1.out.cell 4 rfl
        have x5 := HR1.out.cell 5 rfl
        have x6 := HR1.out.cell 6 rfl
        have x7 := HR1.out.cell 7 rfl
        have x8 := HR1.out.cell 8 rfl
        go_wp2_with fail
        refine Calls.mono (HB.out _ (by have hk := K1.out; repeat' (first | with_reducible exact Keeps.refl _ _ | with_reducible assumption | with_reducible refine Keeps.drewN ?_ _ | with_reducible refine Keeps.drew ?_ | with_reducible refine Keeps.alloc ?_ _ | with_reducible refine Keeps.setCell ?_ ?_ _ | exact Or.inl (by simp) | exact Or.inl (by simp; omega) | exact Or.inl (by omega)))) ?_
        rintro e w2 ⟨rfl, kp⟩
        have HR2 := hid (HR1.out.kept kp)
        have K2 : Hid (Keeps No w w2) := hid (Keeps.trans (by have hk := K1.out; repeat' (first | with_reducible exact Keeps.refl _ _ | with_reducible assumption | with_reducible refine Keeps.drewN ?_ _ | with_reducible refine Keeps.drew ?_ | with_reducible refine Keeps.alloc ?_ _ | with_reducible refine Keeps.setCell ?_ ?_ _ | exact Or.inl (by simp) | exact Or.inl (by simp; omega) | exact Or.inl (by omega))) kp)
        clear kp
        clear x0 x1 x2 x3 x4 x5 x6 x7 x8
        have x0 := HR2.out.cell 0 rfl
        have x1 := HR2.out.cell 1 rfl
        have x2 := HR2.out.cell 2 rfl
        have x3 := HR2.out.cell 3 rfl
        have x4 := HR2.out.cell 4 rfl
        have x5 := HR2.out.cell 5 rfl
        have x6 := HR2.out.cell 6 rfl
        have x7 := HR2.out.cell 7 rfl
        have x8 := HR2.out.cell 8 rfl
        go_wp2_with fail
        refine Calls.mono (HGC.out 1 xv _ (by have hk := K2.out; repeat' (first | with_reducible exact Keeps.refl _ _ | with_reducible assumption | with_reducible refine Keeps.drewN ?_ _ | with_reducible refine Keeps.drew ?_ | with_reducible refine Keeps.alloc ?_ _ | with_reducible refine Keeps.setCell ?_ ?_ _ | exact Or.inl (by simp) | exact Or.inl (by simp; omega) | exact Or.inl (by omega)))) ?_
        rintro e w3 ⟨rfl, kp⟩
        have HR3 := hid (HR2.out.kept kp)
        have K3 : Hid (Keeps No w w3) := hid (Keeps.trans (by have hk := K2.out; repeat' (first | with_reducible exact Keeps.refl _ _ | with_reducible assumption | with_reducible refine Keeps.drewN ?_ _ | with_reducible refine Keeps.drew ?_ | with_reducible refine Keeps.alloc ?_ _ | with_reducible refine Keeps.setCell ?_ ?_ _ | exact Or.inl (by simp) | exact Or.inl (by simp; omega) | exact Or.inl (by omega))) kp)
        clear kp
        clear x0 x1 x2 x3 x4 x5 x6 x7 x8
        have x0 := HR3.out.cell 0 rfl
        have x1 := HR3.out.cell 1 rfl
        have x2 := HR3.out.cell 2 rfl
        have x3 := HR3.out.cell 3 rfl
        have x4 := HR3.out.cell 4 rfl
        have x5 := HR3.out.cell 5 rfl
        have x6 := HR3.out.cell 6 rfl
        have x7 := HR3.out.cell 7 rfl
        have x8 := HR3.out.cell 8 rfl
        go_wp2_with fail
        go_ret2
        exact ⟨rfl, by have hk := K3.out; repeat' (first | with_reducible exact Keeps.refl _ _ | with_reducible assumption | with_reducible refine Keeps.drewN ?_ _ | with_reducible refine Keeps.drew ?_ | with_reducible refine Keeps.alloc ?_ _ | with_reducible refine Keeps.setCell ?_ ?_ _ | exact Or.inl (by simp) | exact Or.inl (by simp; omega) | exact Or.inl (by omega))⟩
      · rw [if_pos rfl]
        go_enter Try.func14, Try.ntmps14
        go_wp2_with fail
        refine Calls.mono (HV.out _ (by have hk := K0.out; repeat' (first | with_reducible exact Keeps.refl _ _ | with_reducible assumption | with_reducible refine Keeps.drewN ?_ _ | with_reducible refine Keeps.drew ?_ | with_reducible refine Keeps.alloc ?_ _ | with_reducible refine Keeps.setCell ?_ ?_ _ | exact Or.inl (by simp) | exact Or.inl (by simp; omega) | exact Or.inl (by omega)))) ?_
        rintro e w1 ⟨rfl, kp⟩
        have HR1 : Hid (Bk w1 w.heap.size 27 [.int .u8 1, .int .i64 sig, .int .i64 lim, .int .i64 back, .int .i64 delay, .int .i64 span, a6, a7, a8]) := hid ((Bk.new rfl _ _).kept kp)
        have K1 : Hid (Keeps No w w1) := hid (Keeps.trans (by have hk := K0.out; repeat' (first | with_reducible exact Keeps.refl _ _ | with_reducible assumption | with_reducible refine Keeps.drewN ?_ _ | with_reducible refine Keeps.drew ?_ | with_reducible refine Keeps.alloc ?_ _ | with_reducible refine Keeps.setCell ?_ ?_ _ | exact Or.inl (by simp) | exact Or.inl (by simp; omega) | exact Or.inl (by omega))) kp)
        clear kp
        have x0 := HR1.out.cell 0 rfl
        have x1 := HR1.out.cell 1 rfl
        have x2 := HR1.out.cell 2 rfl
        have x3 := HR1.out.cell 3 rfl
        have x4 := HR1.out.cell 4 rfl
        have x5 := HR1.out.cell 5 rfl
        have x6 := HR1.out.cell 6 rfl
        have x7 := HR1.out.cell 7 rfl
        have x8 := HR1.out.cell 8 rfl
        go_wp2_with fail
        refine Calls.mono (HB.out _ (by have hk := K1.out; repeat' (first | with_reducible exact Keeps.refl _ _ | with_reducible assumption | with_reducible refine Keeps.drewN ?_ _ | with_reducible refine Keeps.drew ?_ | with_reducible refine Keeps.alloc ?_ _ | with_reducible refine Keeps.setCell ?_ ?_ _ | exact Or.inl (by simp) | exact Or.inl (by simp; omega) | exact Or.inl (by omega)))) ?_
        rintro e w2 ⟨rfl, kp⟩
        have HR2 := hid (HR1.out.kept kp)
        have K2 : Hid (Keeps No w w2) := hid (Keeps.trans (by have hk := K1.out; repeat' (first | with_reducible exact Keeps.refl _ _ | with_reducible assumption | with_reducible refine Keeps.drewN ?_ _ | with_reducible refine Keeps.drew ?_ | with_reducible refine Keeps.alloc ?_ _ | with_reducible refine Keeps.setCell ?_ ?_ _ | exact Or.inl (by simp) | exact Or.inl (by simp; omega) | exact Or.inl (by omega))) kp)
        clear kp
        clear x0 x1 x2 x3 x4 x5 x6 x7 x8
        have x0 := HR2.out.cell 0 rfl
        have x1 := HR2.out.cell 1 rfl
        have x2 := HR2.out.cell 2 rfl
        have x3 := HR2.out.cell 3 rfl
        have x4 := HR2.out.cell 4 rfl
        have x5 := HR2.out.cell 5 rfl
        have x6 := HR2.out.cell 6 rfl
        have x7 := HR2.out.cell 7 rfl
        have x8 := HR2.out.cell 8 rfl
        go_wp2_with fail
        go_ret2
        exact ⟨rfl, by have hk := K2.out; repeat' (first | with_reducible exact Keeps.refl _ _ | with_reducible assumption | with_reducible refine Keeps.drewN ?_ _ | with_reducible refine Keeps.drew ?_ | with_reducible refine Keeps.alloc ?_ _ | with_reducible refine Keeps.setCell ?_ ?_ _ | exact Or.inl (by simp) | exact Or.inl (by simp; omega) | exact Or.inl (by omega))⟩
  by_cases h2 : k = 2
  · subst h2
    unfold obsV ObsA
    rw [if_pos (by decide)]
    cases x with
    | none =>
      unfold ValueA at HV
      dsimp only
      go_enter Try.func14, Try.ntmps14
      go_wp2_with fail
      refine Calls.mono (HV.out _ (by have hk := K0.out; repeat' (first | with_reducible exact Keeps.refl _ _ | with_reducible assumption | with_reducible refine Keeps.drewN ?_ _ | with_reducible refine Keeps.drew ?_ | with_reducible refine Keeps.alloc ?_ _ | with_reducible refine Keeps.setCell ?_ ?_ _ | exact Or.inl (by simp) | exact Or.inl (by simp; omega) | exact Or.inl (by omega)))) ?_
      rintro e w1 ⟨rfl, kp⟩
      have HR1 : Hid (Bk w1 w.heap.size 27 [.int .u8 2, .int .i64 sig, .int .i64 lim, .int .i64 back, .int .i64 delay, .int .i64 span, a6, a7, a8]) := hid ((Bk.new rfl _ _).kept kp)
      have K1 : Hid (Keeps No w w1) := hid (Keeps.trans (by have hk := K0.out; repeat' (first | with_reducible exact Keeps.refl _ _ | with_reducible assumption | with_reducible refine Keeps.drewN ?_ _ | with_reducible refine Keeps.drew ?_ | with_reducible refine Keeps.alloc ?_ _ | with_reducible refine Keeps.setCell ?_ ?_ _ | exact Or.inl (by simp) | exact Or.inl (by simp; omega) | exact Or.inl (by omega))) kp)
      clear kp
      have x0 := HR1.out.cell 0 rfl
      have x1 := HR1.out.cell 1 rfl
      have x2 := HR1.out.cell 2 rfl
      have x3 := HR1.out.cell 3 rfl
      have x4 := HR1.out.cell 4 rfl
      have x5 := HR1.out.cell 5 rfl
      have x6 := HR1.out.cell 6 rfl
      have x7 := HR1.out.cell 7 rfl
      have x8 := HR1.out.cell 8 rfl
      go_wp2_with fail
      go_ret2
      exact ⟨rfl, by have hk := K1.out; repeat' (first | with_reducible exact Keeps.refl _ _ | with_reducible assumption | with_reducible refine Keeps.drewN ?_ _ | with_reducible refine Keeps.drew ?_ | with_reducible refine Keeps.alloc ?_ _ | with_reducible refine Keeps.setCell ?_ ?_ _ | exact Or.inl (by simp) | exact Or.inl (by simp; omega) | exact Or.inl (by omega))⟩
    | some x =>
      obtain ⟨xa, xs, xq, xv, xb⟩ := x
      unfold ValueA at HV
      dsimp only
      cases b
      · rw [if_neg (by decide)]
        go_enter Try.func14, Try.ntmps14
        go_wp2_with fail
        refine Calls.mono (HV.out _ (by have hk := K0.out; repeat' (first | with_reducible exact Keeps.refl _ _ | with_reducible assumption | with_reducible refine Keeps.drewN ?_ _ | with_reducible refine Keeps.drew ?_ | with_reducible refine Keeps.alloc ?_ _ | with_reducible refine Keeps.setCell ?_ ?_ _ | exact Or.inl (by simp) | exact Or.inl (by simp; omega) | exact Or.inl (by omega)))) ?_
        rintro e w1 ⟨rfl, kp⟩
        have HR1 : Hid (Bk w1 w.heap.size 27 [.int .u8 2, .int .i64 sig, .int .i64 lim, .int .i64 back, .int .i64 delay, .int .i64 span, a6, a7, a8]) := hid ((Bk.new rfl _ _).kept kp)
        have K1 : Hid (Keeps No w w1) := hid (Keeps.trans (by have hk := K0.out; repeat' (first | with_reducible exact Keeps.refl _ _ | with_reducible assumption | with_reducible refine Keeps.drewN ?_ _ | with_reducible refine Keeps.drew ?_ | with_reducible refine Keeps.alloc ?_ _ | with_reducible refine Keeps.setCell ?_ ?_ _ | exact Or.inl (by simp) | exact Or.inl (by simp; omega) | exact Or.inl (by omega))) kp)
        clear kp
        have x0 := HR1.out.cell 0 rfl
        have x1 := HR1.out.cell 1 rfl
        have x2 := HR1.out.cell 2 rfl
        have x3 := HR1.out.cell 3 rfl
        have x4 := HR1.out.cell 4 rfl
        have x5 := HR1.out.cell 5 rfl
        have x6 := HR1.out.cell 6 rfl
        have x7 := HR1.out.cell 7 rfl
        have x8 := HR1.out.cell 8 rfl
        go_wp2_with fail
        refine Calls.mono (HB.out _ (by have hk := K1.out; repeat' (first | with_reducible exact Keeps.refl _ _ | with_reducible assumption | with_reducible refine Keeps.drewN ?_ _ | with_reducible refine Keeps.drew ?_ | with_reducible refine Keeps.alloc ?_ _ | with_reducible refine Keeps.setCell ?_ ?_ _ | exact Or.inl (by simp) | exact Or.inl (by simp; omega) | exact Or.inl (by omega)))) ?_
        rintro e w2 ⟨rfl, kp⟩
        have HR2 := hid (HR1.out.kept kp)
        have K2 : Hid (Keeps No w w2) := hid (Keeps.trans (by have hk := K1.out; repeat' (first | with_reducible exact Keeps.refl _ _ | with_reducible assumption | with_reducible refine Keeps.drewN ?_ _ | with_reducible refine Keeps.drew ?_ | with_reducible refine Keeps.alloc ?_ _ | with_reducible refine Keeps.setCell ?_ ?_ _ | exact Or.inl (by simp) | exact Or.inl (by simp; omega) | exact Or.inl (by omega))) kp)
        clear kp
        clear x0 x1 x2 x3 x4 x5 x6 x7 x8
        have x0 := HR2.out.cell 0 rfl
        have x1 := HR2.out.cell 1 rfl
        have x2 := HR2.out.cell 2 rfl
        have x3 := HR2.out.cell 3 rfl
        have x4 := HR2.out.cell 4 rfl
        have x5 := HR2.out.cell 5 rfl
        have x6 := HR2.out.cell 6 rfl
        have x7 := HR2.out.cell 7 rfl
        have x8 := HR2.out.cell 8 rfl
        go_wp2_with fail
        refine Calls.mono (HGC.out 2 xv _ (by have hk := K2.out; repeat' (first | with_reducible exact Keeps.refl _ _ | with_reducible assumption | with_reducible refine Keeps.drewN ?_ _ | with_reducible refine Keeps.drew ?_ | with_reducible refine Keeps.alloc ?_ _ | with_reducible refine Keeps.setCell ?_ ?_ _ | exact Or.inl (by simp) | exact Or.inl (by simp; omega) | exact Or.inl (by omega)))) ?_
        rintro e w3 ⟨rfl, kp⟩
        have HR3 := hid (HR2.out.kept kp)
        have K3 : Hid (Keeps No w w3) := hid (Keeps.trans (by have hk := K2.out; repeat' (first | with_reducible exact Keeps.refl _ _ | with_reducible assumption | with_reducible refine Keeps.drewN ?_ _ | with_reducible refine Keeps.drew ?_ | with_reducible refine Keeps.alloc ?_ _ | with_reducible refine Keeps.setCell ?_ ?_ _ | exact Or.inl (by simp) | exact Or.inl (by simp; omega) | exact Or.inl (by omega))) kp)
        clear kp
        clear x0 x1 x2 x3 x4 x5 x6 x7 x8
        have x0 := HR3.out.cell 0 rfl
        have x1 := HR3.out.cell 1 rfl
        have x2 := HR3.out.cell 2 rfl
        have x3 := HR3.out.cell 3 rfl
        have x4 := HR3.out.cell 4 rfl
        have x5 := HR3.out.cell 5 rfl
        have x6 := HR3.out.cell 6 rfl
        have x7 := HR3.out.cell 7 rfl
        have x8 := HR3.out.cell 8 rfl
        go_wp2_with fail
        go_ret2
        exact ⟨rfl, by have hk := K3.out; repeat' (first | with_reducible exact Keeps.refl _ _ | with_reducible assumption | with_reducible refine Keeps.drewN ?_ _ | with_reducible refine Keeps.drew ?_ | with_reducible refine Keeps.alloc ?_ _ | with_reducible refine Keeps.setCell ?_ ?_ _ | exact Or.inl (by simp) | exact Or.inl (by simp; omega) | exact Or.inl (by omega))⟩
      · rw [if_pos rfl]
        go_enter Try.func14, Try.ntmps14
        go_wp2_with fail
        refine Calls.mono (HV.out _ (by have hk := K0.out; repeat' (first | with_reducible exact Keeps.refl _ _ | with_reducible assumption | with_reducible refine Keeps.drewN ?_ _ | with_reducible refine Keeps.drew ?_ | with_reducible refine Keeps.alloc ?_ _ | with_reducible refine Keeps.setCell ?_ ?_ _ | exact Or.inl (by simp) | exact Or.inl (by simp; omega) | exact Or.inl (by omega)))) ?_
        rintro e w1 ⟨rfl, kp⟩
        have HR1 : Hid (Bk w1 w.heap.size 27 [.int .u8 2, .int .i64 sig, .int .i64 lim, .int .i64 back, .int .i64 delay, .int .i64 span, a6, a7, a8]) := hid ((Bk.new rfl _ _).kept kp)
        have K1 : Hid (Keeps No w w1) := hid (Keeps.trans (by have hk := K0.out; repeat' (first | with_reducible exact Keeps.refl _ _ | with_reducible assumption | with_reducible refine Keeps.drewN ?_ _ | with_reducible refine Keeps.drew ?_ | with_reducible refine Keeps.alloc ?_ _ | with_reducible refine Keeps.setCell ?_ ?_ _ | exact Or.inl (by simp) | exact Or.inl (by simp; omega) | exact Or.inl (by omega))) kp)
        clear kp
        have x0 := HR1.out.cell 0 rfl
        have x1 := HR1.out.cell 1 rfl
        have x2 := HR1.out.cell 2 rfl
        have x3 := HR1.out.cell 3 rfl
        have x4 := HR1.out.cell 4 rfl
        have x5 := HR1.out.cell 5 rfl
        have x6 := HR1.out.cell 6 rfl
        have x7 := HR1.out.cell 7 rfl
        have x8 := HR1.out.cell 8 rfl
        go_wp2_with fail
        refine Calls.mono (HB.out _ (by have hk := K1.out; repeat' (first | with_reducible exact Keeps.refl _ _ | with_reducible assumption | with_reducible refine Keeps.drewN ?_ _ | with_reducible refine Keeps.drew ?_ | with_reducible refine Keeps.alloc ?_ _ | with_reducible refine Keeps.setCell ?_ ?_ _ | exact Or.inl (by simp) | exact Or.inl (by simp; omega) | exact Or.inl (by omega)))) ?_
        rintro e w2 ⟨rfl, kp⟩
        have HR2 := hid (HR1.out.kept kp)
        have K2 : Hid (Keeps No w w2) := hid (Keeps.trans (by have hk := K1.out; repeat' (first | with_reducible exact Keeps.refl _ _ | with_reducible assumption | with_reducible refine Keeps.drewN ?_ _ | with_reducible refine Keeps.drew ?_ | with_reducible refine Keeps.alloc ?_ _ | with_reducible refine Keeps.setCell ?_ ?_ _ | exact Or.inl (by simp) | exact Or.inl (by simp; omega) | exact Or.inl (by omega))) kp)
        clear kp
        clear x0 x1 x2 x3 x4 x5 x6 x7 x8
        have x0 := HR2.out.cell 0 rfl
        have x1 := HR2.out.cell 1 rfl
        have x2 := HR2.out.cell 2 rfl
        have x3 := HR2.out.cell 3 rfl
        have x4 := HR2.out.cell 4 rfl
        have x5 := HR2.out.cell 5 rfl
        have x6 := HR2.out.cell 6 rfl
        have x7 := HR2.out.cell 7 rfl
        have x8 := HR2.out.cell 8 rfl
        go_wp2_with fail
        go_ret2
        exact ⟨rfl, by have hk := K2.out; repeat' (first | with_reducible exact Keeps.refl _ _ | with_reducible assumption | with_reducible refine Keeps.drewN ?_ _ | with_reducible refine Keeps.drew ?_ | with_reducible refine Keeps.alloc ?_ _ | with_reducible refine Keeps.setCell ?_ ?_ _ | exact Or.inl (by simp) | exact Or.inl (by simp; omega) | exact Or.inl (by omega))⟩
  by_cases h3 : k = 3
  · subst h3
    unfold obsV ObsA
    rw [if_neg (by decide), if_pos (by decide)]
    cases c with
    | none =>
      unfold ChangeA at HC
      dsimp only
      go_enter Try.func14, Try.ntmps14
      go_wp2_with fail
      refine Calls.mono (HC.out _ (by have hk := K0.out; repeat' (first | with_reducible exact Keeps.refl _ _ | with_reducible assumption | with_reducible refine Keeps.drewN ?_ _ | with_reducible refine Keeps.drew ?_ | with_reducible refine Keeps.alloc ?_ _ | with_reducible refine Keeps.setCell ?_ ?_ _ | exact Or.inl (by simp) | exact Or.inl (by simp; omega) | exact Or.inl (by omega)))) ?_
      rintro e w1 ⟨rfl, kp⟩
      have HR1 : Hid (Bk w1 w.heap.size 27 [.int .u8 3, .int .i64 sig, .int .i64 lim, .int .i64 back, .int .i64 delay, .int .i64 span, a6, a7, a8]) := hid ((Bk.new rfl _ _).kept kp)
      have K1 : Hid (Keeps No w w1) := hid (Keeps.trans (by have hk := K0.out; repeat' (first | with_reducible exact Keeps.refl _ _ | with_reducible assumption | with_reducible refine Keeps.drewN ?_ _ | with_reducible refine Keeps.drew ?_ | with_reducible refine Keeps.alloc ?_ _ | with_reducible refine Keeps.setCell ?_ ?_ _ | exact Or.inl (by simp) | exact Or.inl (by simp; omega) | exact Or.inl (by omega))) kp)
      clear kp
      have x0 := HR1.out.cell 0 rfl
      have x1 := HR1.out.cell 1 rfl
      have x2 := HR1.out.cell 2 rfl
      have x3 := HR1.out.cell 3 rfl
      have x4 := HR1.out.cell 4 rfl
      have x5 := HR1.out.cell 5 rfl
      have x6 := HR1.out.cell 6 rfl
      have x7 := HR1.out.cell 7 rfl
      have x8 := HR1.out.cell 8 rfl
      go_wp2_with fail
      go_ret2
      exact ⟨rfl, by have hk := K1.out; repeat' (first | with_reducible exact Keeps.refl _ _ | with_reducible assumption | with_reducible refine Keeps.drewN ?_ _ | with_reducible refine Keeps.drew ?_ | with_reducible refine Keeps.alloc ?_ _ | with_reducible refine Keeps.setCell ?_ ?_ _ | exact Or.inl (by simp) | exact Or.inl (by simp; omega) | exact Or.inl (by omega))⟩
    | some d =>
      have HD := hid (HCR.out d rfl)
      unfold ChangeA at HC
      dsimp only
      go_enter Try.func14, Try.ntmps14
      go_wp2_with fail
      refine Calls.mono (HC.out _ (by have hk := K0.out; repeat' (first | with_reducible exact Keeps.refl _ _ | with_reducible assumption | with_reducible refine Keeps.drewN ?_ _ | with_reducible refine Keeps.drew ?_ | with_reducible refine Keeps.alloc ?_ _ | with_reducible refine Keeps.setCell ?_ ?_ _ | exact Or.inl (by simp) | exact Or.inl (by simp; omega) | exact Or.inl (by omega)))) ?_
      rintro e w1 ⟨rfl, kp⟩
      have HR1 : Hid (Bk w1 w.heap.size 27 [.int .u8 3, .int .i64 sig, .int .i64 lim, .int .i64 back, .int .i64 delay, .int .i64 span, a6, a7, a8]) := hid ((Bk.new rfl _ _).kept kp)
      have K1 : Hid (Keeps No w w1) := hid (Keeps.trans (by have hk := K0.out; repeat' (first | with_reducible exact Keeps.refl _ _ | with_reducible assumption | with_reducible refine Keeps.drewN ?_ _ | with_reducible refine Keeps.drew ?_ | with_reducible refine Keeps.alloc ?_ _ | with_reducible refine Keeps.setCell ?_ ?_ _ | exact Or.inl (by simp) | exact Or.inl (by simp; omega) | exact Or.inl (by omega))) kp)
      clear kp
      have x0 := HR1.out.cell 0 rfl
      have x1 := HR1.out.cell 1 rfl
      have x2 := HR1.out.cell 2 rfl
      have x3 := HR1.out.cell 3 rfl
      have x4 := HR1.out.cell 4 rfl
      have x5 := HR1.out.cell 5 rfl
      have x6 := HR1.out.cell 6 rfl
      have x7 := HR1.out.cell 7 rfl
      have x8 := HR1.out.cell 8 rfl
      go_wp2_with fail
      refine Calls.mono (HTC.out 3 d HD.out _ (by have hk := K1.out; repeat' (first | with_reducible exact Keeps.refl _ _ | with_reducible assumption | with_reducible refine Keeps.drewN ?_ _ | with_reducible refine Keeps.drew ?_ | with_reducible refine Keeps.alloc ?_ _ | with_reducible refine Keeps.setCell ?_ ?_ _ | exact Or.inl (by simp) | exact Or.inl (by simp; omega) | exact Or.inl (by omega)))) ?_
      rintro e w2 ⟨rfl, kp⟩
      have HR2 := hid (HR1.out.kept kp)
      have K2 : Hid (Keeps No w w2) := hid (Keeps.trans (by have hk := K1.out; repeat' (first | with_reducible exact Keeps.refl _ _ | with_reducible assumption | with_reducible refine Keeps.drewN ?_ _ | with_reducible refine Keeps.drew ?_ | with_reducible refine Keeps.alloc ?_ _ | with_reducible refine Keeps.setCell ?_ ?_ _ | exact Or.inl (by simp) | exact Or.inl (by simp; omega) | exact Or.inl (by omega))) kp)
      clear kp
      clear x0 x1 x2 x3 x4 x5 x6 x7 x8
      have x0 := HR2.out.cell 0 rfl
      have x1 := HR2.out.cell 1 rfl
      have x2 := HR2.out.cell 2 rfl
      have x3 := HR2.out.cell 3 rfl
      have x4 := HR2.out.cell 4 rfl
      have x5 := HR2.out.cell 5 rfl
      have x6 := HR2.out.cell 6 rfl
      have x7 := HR2.out.cell 7 rfl
      have x8 := HR2.out.cell 8 rfl
      go_wp2_with fail
      go_ret2
      exact ⟨rfl, by have hk := K2.out; repeat' (first | with_reducible exact Keeps.refl _ _ | with_reducible assumption | with_reducible refine Keeps.drewN ?_ _ | with_reducible refine Keeps.drew ?_ | with_reducible refine Keeps.alloc ?_ _ | with_reducible refine Keeps.setCell ?_ ?_ _ | exact Or.inl (by simp) | exact Or.inl (by simp; omega) | exact Or.inl (by omega))⟩
  by_cases h4 : k = 4
  · subst h4
    unfold obsV ObsA
    rw [if_neg (by decide), if_pos (by decide)]
    cases c with
    | none =>
      unfold ChangeA at HC
      dsimp only
      go_enter Try.func14, Try.ntmps14
      go_wp2_with fail
      refine Calls.mono (HC.out _ (by have hk := K0.out; repeat' (first | with_reducible exact Keeps.refl _ _ | with_reducible assumption | with_reducible refine Keeps.drewN ?_ _ | with_reducible refine Keeps.drew ?_ | with_reducible refine Keeps.alloc ?_ _ | with_reducible refine Keeps.setCell ?_ ?_ _ | exact Or.inl (by simp) | exact Or.inl (by simp; omega) | exact Or.inl (by omega)))) ?_
      rintro e w1 ⟨rfl, kp⟩
      have HR1 : Hid (Bk w1 w.heap.size 27 [.int .u8 4, .int .i64 sig, .int .i64 lim, .int .i64 back, .int .i64 delay, .int .i64 span, a6, a7, a8]) := hid ((Bk.new rfl _ _).kept kp)
      have K1 : Hid (Keeps No w w1) := hid (Keeps.trans (by have hk := K0.out; repeat' (first | with_reducible exact Keeps.refl _ _ | with_reducible assumption | with_reducible refine Keeps.drewN ?_ _ | with_reducible refine Keeps.drew ?_ | with_reducible refine Keeps.alloc ?_ _ | with_reducible refine Keeps.setCell ?_ ?_ _ | exact Or.inl (by simp) | exact Or.inl (by simp; omega) | exact Or.inl (by omega))) kp)
      clear kp
      have x0 := HR1.out.cell 0 rfl
      have x1 := HR1.out.cell 1 rfl
      have x2 := HR1.out.cell 2 rfl
      have x3 := HR1.out.cell 3 rfl
      have x4 := HR1.out.cell 4 rfl
      have x5 := HR1.out.cell 5 rfl
      have x6 := HR1.out.cell 6 rfl
      have x7 := HR1.out.cell 7 rfl
      have x8 := HR1.out.cell 8 rfl
      go_wp2_with fail
      go_ret2
      exact ⟨rfl, by have hk := K1.out; repeat' (first | with_reducible exact Keeps.refl _ _ | with_reducible assumption | with_reducible refine Keeps.drewN ?_ _ | with_reducible refine Keeps.drew ?_ | with_reducible refine Keeps.alloc ?_ _ | with_reducible refine Keeps.setCell ?_ ?_ _ | exact Or.inl (by simp) | exact Or.inl (by simp; omega) | exact Or.inl (by omega))⟩
    | some d =>
      have HD := hid (HCR.out d rfl)
      unfold ChangeA at HC
      dsimp only
      go_enter Try.func14, Try.ntmps14
      go_wp2_with fail
      refine Calls.mono (HC.out _ (by have hk := K0.out; repeat' (first | with_reducible exact Keeps.refl _ _ | with_reducible assumption | with_reducible refine Keeps.drewN ?_ _ | with_reducible refine Keeps.drew ?_ | with_reducible refine Keeps.alloc ?_ _ | with_reducible refine Keeps.setCell ?_ ?_ _ | exact Or.inl (by simp) | exact Or.inl (by simp; omega) | exact Or.inl (by omega)))) ?_
      rintro e w1 ⟨rfl, kp⟩
      have HR1 : Hid (Bk w1 w.heap.size 27 [.int .u8 4, .int .i64 sig, .int .i64 lim, .int .i64 back, .int .i64 delay, .int .i64 span, a6, a7, a8]) := hid ((Bk.new rfl _ _).kept kp)
      have K1 : Hid (Keeps No w w1) := hid (Keeps.trans (by have hk := K0.out; repeat' (first | with_reducible exact Keeps.refl _ _ | with_reducible assumption | with_reducible refine Keeps.drewN ?_ _ | with_reducible refine Keeps.drew ?_ | with_reducible refine Keeps.alloc ?_ _ | with_reducible refine Keeps.setCell ?_ ?_ _ | exact Or.inl (by simp) | exact Or.inl (by simp; omega) | exact Or.inl (by omega))) kp)
      clear kp
      have x0 := HR1.out.cell 0 rfl
      have x1 := HR1.out.cell 1 rfl
      have x2 := HR1.out.cell 2 rfl
      have x3 := HR1.out.cell 3 rfl
      have x4 := HR1.out.cell 4 rfl
      have x5 := HR1.out.cell 5 rfl
      have x6 := HR1.out.cell 6 rfl
      have x7 := HR1.out.cell 7 rfl
      have x8 := HR1.out.cell 8 rfl
      go_wp2_with fail
      refine Calls.mono (HTC.out 4 d HD.out _ (by have hk := K1.out; repeat' (first | with_reducible exact Keeps.refl _ _ | with_reducible assumption | with_reducible refine Keeps.drewN ?_ _ | with_reducible refine Keeps.drew ?_ | with_reducible refine Keeps.alloc ?_ _ | with_reducible refine Keeps.setCell ?_ ?_ _ | exact Or.inl (by simp) | exact Or.inl (by simp; omega) | exact Or.inl (by omega)))) ?_
      rintro e w2 ⟨rfl, kp⟩
      have HR2 := hid (HR1.out.kept kp)
      have K2 : Hid (Keeps No w w2) := hid (Keeps.trans (by have hk := K1.out; repeat' (first | with_reducible exact Keeps.refl _ _ | with_reducible assumption | with_reducible refine Keeps.drewN ?_ _ | with_reducible refine Keeps.drew ?_ | with_reducible refine Keeps.alloc ?_ _ | with_reducible refine Keeps.setCell ?_ ?_ _ | exact Or.inl (by simp) | exact Or.inl (by simp; omega) | exact Or.inl (by omega))) kp)
      clear kp
      clear x0 x1 x2 x3 x4 x5 x6 x7 x8
      have x0 := HR2.out.cell 0 rfl
      have x1 := HR2.out.cell 1 rfl
      have x2 := HR2.out.cell 2 rfl
      have x3 := HR2.out.cell 3 rfl
      have x4 := HR2.out.cell 4 rfl
      have x5 := HR2.out.cell 5 rfl
      have x6 := HR2.out.cell 6 rfl
      have x7 := HR2.out.cell 7 rfl
      have x8 := HR2.out.cell 8 rfl
      go_wp2_with fail
      go_ret2
      exact ⟨rfl, by have hk := K2.out; repeat' (first | with_reducible exact Keeps.refl _ _ | with_reducible assumption | with_reducible refine Keeps.drewN ?_ _ | with_reducible refine Keeps.drew ?_ | with_reducible refine Keeps.alloc ?_ _ | with_reducible refine Keeps.setCell ?_ ?_ _ | exact Or.inl (by simp) | exact Or.inl (by simp; omega) | exact Or.inl (by omega))⟩
  by_cases h5 : k = 5
  · subst h5
    unfold obsV ObsA
    rw [if_neg (by decide), if_neg (by decide), if_pos rfl]
    go_enter Try.func14, Try.ntmps14
    go_wp2_with fail
    refine Calls.mono (HB.out _ (by have hk := K0.out; repeat' (first | with_reducible exact Keeps.refl _ _ | with_reducible assumption | with_reducible refine Keeps.drewN ?_ _ | with_reducible refine Keeps.drew ?_ | with_reducible refine Keeps.alloc ?_ _ | with_reducible refine Keeps.setCell ?_ ?_ _ | exact Or.inl (by simp) | exact Or.inl (by simp; omega) | exact Or.inl (by omega)))) ?_
    rintro e w1 ⟨rfl, kp⟩
    have HR1 : Hid (Bk w1 w.heap.size 27 [.int .u8 5, .int .i64 sig, .int .i64 lim, .int .i64 back, .int .i64 delay, .int .i64 span, a6, a7, a8]) := hid ((Bk.new rfl _ _).kept kp)
    have K1 : Hid (Keeps No w w1) := hid (Keeps.trans (by have hk := K0.out; repeat' (first | with_reducible exact Keeps.refl _ _ | with_reducible assumption | with_reducible refine Keeps.drewN ?_ _ | with_reducible refine Keeps.drew ?_ | with_reducible refine Keeps.alloc ?_ _ | with_reducible refine Keeps.setCell ?_ ?_ _ | exact Or.inl (by simp) | exact Or.inl (by simp; omega) | exact Or.inl (by omega))) kp)
    clear kp
    have x0 := HR1.out.cell 0 rfl
    have x1 := HR1.out.cell 1 rfl
    have x2 := HR1.out.cell 2 rfl
    have x3 := HR1.out.cell 3 rfl
    have x4 := HR1.out.cell 4 rfl
    have x5 := HR1.out.cell 5 rfl
    have x6 := HR1.out.cell 6 rfl
    have x7 := HR1.out.cell 7 rfl
    have x8 := HR1.out.cell 8 rfl
    go_upto_region 16 with fail
    first | clear x0 | skip
    first | clear x1 | skip
    first | clear x2 | skip
    first | clear x3 | skip
    first | clear x4 | skip
    first | clear x5 | skip
    first | clear x6 | skip
    first | clear x7 | skip
    first | clear x8 | skip
    have x0_0 := HR1.out.cell 0 rfl
    have x0_1 := HR1.out.cell 1 rfl
    have x0_2 := HR1.out.cell 2 rfl
    have x0_3 := HR1.out.cell 3 rfl
    have x0_4 := HR1.out.cell 4 rfl
    have x0_5 := HR1.out.cell 5 rfl
    have x0_6 := HR1.out.cell 6 rfl
    have x0_7 := HR1.out.cell 7 rfl
    have x0_8 := HR1.out.cell 8 rfl
    first | go_region_held3 (fun w' => w'.cell? ⟨w.heap.size, 0, none⟩ = some (.int .u8 5) ∧ w'.cell? ⟨w.heap.size, 1, none⟩ = some (.int .i64 sig) ∧ w'.cell? ⟨w.heap.size, 2, none⟩ = some (.int .i64 lim) ∧ w'.cell? ⟨w.heap.size, 3, none⟩ = some (.int .i64 back) ∧ w'.cell? ⟨w.heap.size, 4, none⟩ = some (.int .i64 delay) ∧ w'.cell? ⟨w.heap.size, 5, none⟩ = some (.int .i64 span) ∧ w'.cell? ⟨w.heap.size, 6, none⟩ = some (a6) ∧ w'.cell? ⟨w.heap.size, 7, none⟩ = some (a7) ∧ w'.cell? ⟨w.heap.size, 8, none⟩ = some (a8)) (first | with_reducible exact ⟨x0_0, x0_1, x0_2, x0_3, x0_4, x0_5, x0_6, x0_7, x0_8⟩ | with_reducible exact ⟨cellDr x0_0, cellDr x0_1, cellDr x0_2, cellDr x0_3, cellDr x0_4, cellDr x0_5, cellDr x0_6, cellDr x0_7, cellDr x0_8⟩ | with_reducible exact ⟨cellA _ x0_0, cellA _ x0_1, cellA _ x0_2, cellA _ x0_3, cellA _ x0_4, cellA _ x0_5, cellA _ x0_6, cellA _ x0_7, cellA _ x0_8⟩ | with_reducible exact ⟨cellDr (cellA _ x0_0), cellDr (cellA _ x0_1), cellDr (cellA _ x0_2), cellDr (cellA _ x0_3), cellDr (cellA _ x0_4), cellDr (cellA _ x0_5), cellDr (cellA _ x0_6), cellDr (cellA _ x0_7), cellDr (cellA _ x0_8)⟩ | (go_keep; done)) (first | (go_at_call 31; (with_reducible refine (HQ.out _ (by have hk := K1.out; repeat' (first | with_reducible exact Keeps.refl _ _ | with_reducible assumption | with_reducible refine Keeps.drewN ?_ _ | with_reducible refine Keeps.drew ?_ | with_reducible refine Keeps.alloc ?_ _))).mono ?_); rintro e w9 ⟨rfl, k⟩; have kk : Keeps No w1 w9 := Keeps.trans (by repeat' (first | with_reducible exact Keeps.refl _ _ | with_reducible assumption | with_reducible refine Keeps.drewN ?_ _ | with_reducible refine Keeps.drew ?_ | with_reducible refine Keeps.alloc ?_ _)) k; have g0 := HR1.out.kept kk; have x0_0 := g0.cell 0 rfl; have x0_1 := g0.cell 1 rfl; have x0_2 := g0.cell 2 rfl; have x0_3 := g0.cell 3 rfl; have x0_4 := g0.cell 4 rfl; have x0_5 := g0.cell 5 rfl; have x0_6 := g0.cell 6 rfl; have x0_7 := g0.cell 7 rfl; have x0_8 := g0.cell 8 rfl; have KX := hid (Keeps.trans K1.out kk); clear k g0)) | fail
    go_wp2_with fail
    go_ret2
    exact ⟨rfl, by have hk := KX.out; repeat' (first | with_reducible exact Keeps.refl _ _ | with_reducible assumption | with_reducible refine Keeps.drewN ?_ _ | with_reducible refine Keeps.drew ?_ | with_reducible refine Keeps.alloc ?_ _)⟩
  by_cases h6 : k = 6
  · subst h6
    unfold obsV ObsA
    rw [if_neg (by decide), if_neg (by decide), if_neg (by decide), if_pos rfl]
    go_enter Try.func14, Try.ntmps14
    go_wp2_with fail
    refine Calls.mono (HB.out _ (by have hk := K0.out; repeat' (first | with_reducible exact Keeps.refl _ _ | with_reducible assumption | with_reducible refine Keeps.drewN ?_ _ | with_reducible refine Keeps.drew ?_ | with_reducible refine Keeps.alloc ?_ _ | with_reducible refine Keeps.setCell ?_ ?_ _ | exact Or.inl (by simp) | exact Or.inl (by simp; omega) | exact Or.inl (by omega)))) ?_
    rintro e w1 ⟨rfl, kp⟩
    have HR1 : Hid (Bk w1 w.heap.size 27 [.int .u8 6, .int .i64 sig, .int .i64 lim, .int .i64 back, .int .i64 delay, .int .i64 span, a6, a7, a8]) := hid ((Bk.new rfl _ _).kept kp)
    have K1 : Hid (Keeps No w w1) := hid (Keeps.trans (by have hk := K0.out; repeat' (first | with_reducible exact Keeps.refl _ _ | with_reducible assumption | with_reducible refine Keeps.drewN ?_ _ | with_reducible refine Keeps.drew ?_ | with_reducible refine Keeps.alloc ?_ _ | with_reducible refine Keeps.setCell ?_ ?_ _ | exact Or.inl (by simp) | exact Or.inl (by simp; omega) | exact Or.inl (by omega))) kp)
    clear kp
    have x0 := HR1.out.cell 0 rfl
    have x1 := HR1.out.cell 1 rfl
    have x2 := HR1.out.cell 2 rfl
    have x3 := HR1.out.cell 3 rfl
    have x4 := HR1.out.cell 4 rfl
    have x5 := HR1.out.cell 5 rfl
    have x6 := HR1.out.cell 6 rfl
    have x7 := HR1.out.cell 7 rfl
    have x8 := HR1.out.cell 8 rfl
    go_wp2_with fail
    go_ret2
    exact ⟨rfl, by have hk := K1.out; repeat' (first | with_reducible exact Keeps.refl _ _ | with_reducible assumption | with_reducible refine Keeps.drewN ?_ _ | with_reducible refine Keeps.drew ?_ | with_reducible refine Keeps.alloc ?_ _ | with_reducible refine Keeps.setCell ?_ ?_ _ | exact Or.inl (by simp) | exact Or.inl (by simp; omega) | exact Or.inl (by omega))⟩
  unfold obsV ObsA
  rw [if_neg (by omega), if_neg (by omega), if_neg h5, if_neg h6]
  have e1 : (k == 1) = false := by simpa using h1
  have e2 : (k == 2) = false := by simpa using h2
  have e3 : (k == 3) = false := by simpa using h3
  have e4 : (k == 4) = false := by simpa using h4
  have e5 : (k == 5) = false := by simpa using h5
  have e6 : (k == 6) = false := by simpa using h6
  have n5 : (k != 5) = true := by simpa using h5
  have n6 : (k != 6) = true := by simpa using h6
  clear h1 h2 h3 h4 h5 h6
  go_enter Try.func14, Try.ntmps14
  go_wp2_with fail
  refine Calls.mono (HB.out _ (by have hk := K0.out; repeat' (first | with_reducible exact Keeps.refl _ _ | with_reducible assumption | with_reducible refine Keeps.drewN ?_ _ | with_reducible refine Keeps.drew ?_ | with_reducible refine Keeps.alloc ?_ _ | with_reducible refine Keeps.setCell ?_ ?_ _ | exact Or.inl (by simp) | exact Or.inl (by simp; omega) | exact Or.inl (by omega)))) ?_
  rintro e w1 ⟨rfl, kp⟩
  have HR1 : Hid (Bk w1 w.heap.size 27 [.int .u8 k, .int .i64 sig, .int .i64 lim, .int .i64 back, .int .i64 delay, .int .i64 span, a6, a7, a8]) := hid ((Bk.new rfl _ _).kept kp)
  have K1 : Hid (Keeps No w w1) := hid (Keeps.trans (by have hk := K0.out; repeat' (first | with_reducible exact Keeps.refl _ _ | with_reducible assumption | with_reducible refine Keeps.drewN ?_ _ | with_reducible refine Keeps.drew ?_ | with_reducible refine Keeps.alloc ?_ _ | with_reducible refine Keeps.setCell ?_ ?_ _ | exact Or.inl (by simp) | exact Or.inl (by simp; omega) | exact Or.inl (by omega))) kp)
  clear kp
  have x0 := HR1.out.cell 0 rfl
  have x1 := HR1.out.cell 1 rfl
  have x2 := HR1.out.cell 2 rfl
  have x3 := HR1.out.cell 3 rfl
  have x4 := HR1.out.cell 4 rfl
  have x5 := HR1.out.cell 5 rfl
  have x6 := HR1.out.cell 6 rfl
  have x7 := HR1.out.cell 7 rfl
  have x8 := HR1.out.cell 8 rfl
  go_wp2_with fail
  go_ret2
  exact ⟨rfl, by have hk := K1.out; repeat' (first | with_reducible exact Keeps.refl _ _ | with_reducible assumption | with_reducible refine Keeps.drewN ?_ _ | with_reducible refine Keeps.drew ?_ | with_reducible refine Keeps.alloc ?_ _ | with_reducible refine Keeps.setCell ?_ ?_ _ | exact Or.inl (by simp) | exact Or.inl (by simp; omega) | exact Or.inl (by omega))⟩

theorem mobs_any {w : World} {v : Value} {l : List SeenD} (h : Sl w 5 v l.length (l.flatMap encSn)) (k sig lim back delay span : Int) (a6 a7 a8 : Value) (now : Int) (hl : l.length ≤ 100000) (hn : I64 now) (hs : I64 span) (ha : ∀ x ∈ l, I64 x.at_) :
    Calls Try.prog 14 #[.agg #[.int .u8 k, .int .i64 sig, .int .i64 lim, .int .i64 back, .int .i64 delay, .int .i64 span, a6, a7, a8], v, .int .i64 now] w fun e w' => e = .returned (ObsA (obsD k sig lim back span l now)) ∧ Keeps No w w' :=
  mobs_val k sig lim back delay span a6 a7 a8 now _ _ _ _
    (fun w' kw => mvalue_any (h.keep kw (fun _ _ h => h)) sig hl) (fun w' kw => mbad_any (h.keep kw (fun _ _ h => h)) sig hl)
    (fun w' kw => mquiet_any (h.keep kw (fun _ _ h => h)) sig now hl hn ha) (fun w' kw => mchange_any (h.keep kw (fun _ _ h => h)) sig now span hl hn hs)
    (fun d hd => change_i64 hd)

end Go.Proofs.Ytboalfajghkajaa
