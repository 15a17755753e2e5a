/-
  A rule that is looked at: the program's.
-/
import Derived.Test.YtboalfajghkajaaTaskP
import Derived.Test.YtboalfajghkajaaGateS
import Derived.Test.YtboalfajghkajaaTrendS
import Derived.Test.YtboalfajghkajaaBlk
import Derived.BigQuiet
namespace Go.Proofs.Ytboalfajghkajaa
open Go.RowKit
set_option linter.unusedVariables false

theorem s_wrap64_I64 (x : Int) : I64 (wrap64 x) := by
  simp only [wrap64, IntKind.wrap_i64]
  exact ⟨by omega, by omega⟩
theorem s_change_i64 {l : List SeenD} {k now span d : Int} (h : changeD l k now span = some d) : I64 d := by
  unfold changeD at h
  cases ho : oldestD l k (held (now - span)) with
  | none => rw [ho] at h; cases h
  | some o =>
    cases hv : valueD l k with
    | none => rw [ho, hv] at h; cases h
    | some v =>
      rw [ho, hv] at h
      simp only [Option.bind_some, Option.map_some, Option.some.injEq] at h
      rw [← h]
      exact s_wrap64_I64 _

/-- what a value tells -/
def valO (k lim back : Int) (x : Option SeenD) (b : Bool) : Bool × Bool := match x with
  | none => (false, false)
  | some v => if b then (false, false) else crossD k lim back v.val
/-- what a change tells -/
def chgO (k lim back : Int) (c : Option Int) : Bool × Bool := match c with
  | none => (false, true)
  | some d => crossT k lim back d

set_option maxHeartbeats 4000000 in
set_option maxRecDepth 100000 in
theorem tov_any {w : World} {p : Value} (k sig lim back delay span : Int) (a6 a7 a8 : Value) (x : Option SeenD) (b : Bool)
    (hv : ∀ w', Keeps No w w' → Calls Try.prog 36 #[p, .int .i64 sig] w' fun e w'' => e = .returned (ValueA x) ∧ Keeps No w' w'')
    (hb : ∀ w', Keeps No w w' → Calls Try.prog 25 #[p, .int .i64 sig] w' fun e w'' => e = .returned (.bool b) ∧ Keeps No w' w'') :
    Calls Try.prog 22 #[.agg #[.int .u8 k, .int .i64 sig, .int .i64 lim, .int .i64 back, .int .i64 delay, .int .i64 span, a6, a7, a8], p] w fun e w' => e = .returned (ObsA (valO k lim back x b)) ∧ Keeps No w w' := by
  have HV := hid hv
  have HB := hid hb
  have K0 := hid (Keeps.refl No w)
  have HGC := hid (fun (v : Int) (w' : World) (_ : Keeps No w w') => gcross_any k lim back v (.int .i64 sig) (.int .i64 delay) (.int .i64 span) a6 a7 a8 w')
  clear hv hb
  unfold valO ObsA
  cases x with
  | none =>
    unfold ValueA at HV
    dsimp only
    go_enter Try.func22, Try.ntmps22
    go_wp2_with fail
    refine Calls.mono (HV.out _ (by have hk := K0.out; repeat' (first | with_reducible exact Keeps.refl _ _ | with_reducible assumption | with_reducible refine Keeps.drewN ?_ _ | with_reducible refine Keeps.drew ?_ | with_reducible refine Keeps.alloc ?_ _ | with_reducible refine Keeps.setCell ?_ ?_ _ | exact Or.inl (by simp) | exact Or.inl (by simp; omega) | exact Or.inl (by omega)))) ?_
    rintro e w1 ⟨rfl, kp⟩
    have HR1 : Hid (Bk w1 w.heap.size 27 [.int .u8 k, .int .i64 sig, .int .i64 lim, .int .i64 back, .int .i64 delay, .int .i64 span, a6, a7, a8]) := hid ((Bk.new rfl _ _).kept kp)
    have K1 : Hid (Keeps No w w1) := hid (Keeps.trans (by have hk := K0.out; repeat' (first | with_reducible exact Keeps.refl _ _ | with_reducible assumption | with_reducible refine Keeps.drewN ?_ _ | with_reducible refine Keeps.drew ?_ | with_reducible refine Keeps.alloc ?_ _ | with_reducible refine Keeps.setCell ?_ ?_ _ | exact Or.inl (by simp) | exact Or.inl (by simp; omega) | exact Or.inl (by omega))) kp)
    clear kp
    have x0 := HR1.out.cell 0 rfl
    have x1 := HR1.out.cell 1 rfl
    have x2 := HR1.out.cell 2 rfl
    have x3 := HR1.out.cell 3 rfl
    have x4 := HR1.out.cell 4 rfl
    have x5 := HR1.out.cell 5 rfl
    have x6 := HR1.out.cell 6 rfl
    have x7 := HR1.out.cell 7 rfl
    have x8 := HR1.out.cell 8 rfl
    go_wp2_with fail
    go_ret2
    exact ⟨rfl, by have hk := K1.out; repeat' (first | with_reducible exact Keeps.refl _ _ | with_reducible assumption | with_reducible refine Keeps.drewN ?_ _ | with_reducible refine Keeps.drew ?_ | with_reducible refine Keeps.alloc ?_ _ | with_reducible refine Keeps.setCell ?_ ?_ _ | exact Or.inl (by simp) | exact Or.inl (by simp; omega) | exact Or.inl (by omega))⟩
  | some x =>
    obtain ⟨xa, xs, xq, xv, xb⟩ := x
    unfold ValueA at HV
    dsimp only
    cases b
    · rw [if_neg (by decide)]
      go_enter Try.func22, Try.ntmps22
      go_wp2_with fail
      refine Calls.mono (HV.out _ (by have hk := K0.out; repeat' (first | with_reducible exact Keeps.refl _ _ | with_reducible assumption | with_reducible refine Keeps.drewN ?_ _ | with_reducible refine Keeps.drew ?_ | with_reducible refine Keeps.alloc ?_ _ | with_reducible refine Keeps.setCell ?_ ?_ _ | exact Or.inl (by simp) | exact Or.inl (by simp; omega) | exact Or.inl (by omega)))) ?_
      rintro e w1 ⟨rfl, kp⟩
      have HR1 : Hid (Bk w1 w.heap.size 27 [.int .u8 k, .int .i64 sig, .int .i64 lim, .int .i64 back, .int .i64 delay, .int .i64 span, a6, a7, a8]) := hid ((Bk.new rfl _ _).kept kp)
      have K1 : Hid (Keeps No w w1) := hid (Keeps.trans (by have hk := K0.out; repeat' (first | with_reducible exact Keeps.refl _ _ | with_reducible assumption | with_reducible refine Keeps.drewN ?_ _ | with_reducible refine Keeps.drew ?_ | with_reducible refine Keeps.alloc ?_ _ | with_reducible refine Keeps.setCell ?_ ?_ _ | exact Or.inl (by simp) | exact Or.inl (by simp; omega) | exact Or.inl (by omega))) kp)
      clear kp
      have x0 := HR1.out.cell 0 rfl
      have x1 := HR1.out.cell 1 rfl
      have x2 := HR1.out.cell 2 rfl
      have x3 := HR1.out.cell 3 rfl
      have x4 := HR1.out.cell 4 rfl
      have x5 := HR1.out.cell 5 rfl
      have x6 := HR1.out.cell 6 rfl
      have x7 := HR1.out.cell 7 rfl
      have x8 := HR1.out.cell 8 rfl
      go_wp2_with fail
      refine Calls.mono (HB.out _ (by have hk := K1.out; repeat' (first | with_reducible exact Keeps.refl _ _ | with_reducible assumption | with_reducible refine Keeps.drewN ?_ _ | with_reducible refine Keeps.drew ?_ | with_reducible refine Keeps.alloc ?_ _ | with_reducible refine Keeps.setCell ?_ ?_ _ | exact Or.inl (by simp) | exact Or.inl (by simp; omega) | exact Or.inl (by omega)))) ?_
      rintro e w2 ⟨rfl, kp⟩
      have HR2 := hid (HR1.out.kept kp)
      have K2 : Hid (Keeps No w w2) := hid (Keeps.trans (by have hk := K1.out; repeat' (first | with_reducible exact Keeps.refl _ _ | with_reducible assumption | with_reducible refine Keeps.drewN ?_ _ | with_reducible refine Keeps.drew ?_ | with_reducible refine Keeps.alloc ?_ _ | with_reducible refine Keeps.setCell ?_ ?_ _ | exact Or.inl (by simp) | exact Or.inl (by simp; omega) | exact Or.inl (by omega))) kp)
      clear kp
      clear x0 x1 x2 x3 x4 x5 x6 x7 x8
      have x0 := HR2.out.cell 0 rfl
      have x1 := HR2.out.cell 1 rfl
      have x2 := HR2.out.cell 2 rfl
      have x3 := HR2.out.cell 3 rfl
      have x4 := HR2.out.cell 4 rfl
      have x5 := HR2.out.cell 5 rfl
      have x6 := HR2.out.cell 6 rfl
      have x7 := HR2.out.cell 7 rfl
      have x8 := HR2.out.cell 8 rfl
      go_wp2_with fail
      refine Calls.mono (HGC.out xv _ (by have hk := K2.out; repeat' (first | with_reducible exact Keeps.refl _ _ | with_reducible assumption | with_reducible refine Keeps.drewN ?_ _ | with_reducible refine Keeps.drew ?_ | with_reducible refine Keeps.alloc ?_ _ | with_reducible refine Keeps.setCell ?_ ?_ _ | exact Or.inl (by simp) | exact Or.inl (by simp; omega) | exact Or.inl (by omega)))) ?_
      rintro e w3 ⟨rfl, kp⟩
      have HR3 := hid (HR2.out.kept kp)
      have K3 : Hid (Keeps No w w3) := hid (Keeps.trans (by have hk := K2.out; repeat' (first | with_reducible exact Keeps.refl _ _ | with_reducible assumption | with_reducible refine Keeps.drewN ?_ _ | with_reducible refine Keeps.drew ?_ | with_reducible refine Keeps.alloc ?_ _ | with_reducible refine Keeps.setCell ?_ ?_ _ | exact Or.inl (by simp) | exact Or.inl (by simp; omega) | exact Or.inl (by omega))) kp)
      clear kp
      clear x0 x1 x2 x3 x4 x5 x6 x7 x8
      have x0 := HR3.out.cell 0 rfl
      have x1 := HR3.out.cell 1 rfl
      have x2 := HR3.out.cell 2 rfl
      have x3 := HR3.out.cell 3 rfl
      have x4 := HR3.out.cell 4 rfl
      have x5 := HR3.out.cell 5 rfl
      have x6 := HR3.out.cell 6 rfl
      have x7 := HR3.out.cell 7 rfl
      have x8 := HR3.out.cell 8 rfl
      go_wp2_with fail
      go_ret2
      exact ⟨rfl, by have hk := K3.out; repeat' (first | with_reducible exact Keeps.refl _ _ | with_reducible assumption | with_reducible refine Keeps.drewN ?_ _ | with_reducible refine Keeps.drew ?_ | with_reducible refine Keeps.alloc ?_ _ | with_reducible refine Keeps.setCell ?_ ?_ _ | exact Or.inl (by simp) | exact Or.inl (by simp; omega) | exact Or.inl (by omega))⟩
    · rw [if_pos rfl]
      go_enter Try.func22, Try.ntmps22
      go_wp2_with fail
      refine Calls.mono (HV.out _ (by have hk := K0.out; repeat' (first | with_reducible exact Keeps.refl _ _ | with_reducible assumption | with_reducible refine Keeps.drewN ?_ _ | with_reducible refine Keeps.drew ?_ | with_reducible refine Keeps.alloc ?_ _ | with_reducible refine Keeps.setCell ?_ ?_ _ | exact Or.inl (by simp) | exact Or.inl (by simp; omega) | exact Or.inl (by omega)))) ?_
      rintro e w1 ⟨rfl, kp⟩
      have HR1 : Hid (Bk w1 w.heap.size 27 [.int .u8 k, .int .i64 sig, .int .i64 lim, .int .i64 back, .int .i64 delay, .int .i64 span, a6, a7, a8]) := hid ((Bk.new rfl _ _).kept kp)
      have K1 : Hid (Keeps No w w1) := hid (Keeps.trans (by have hk := K0.out; repeat' (first | with_reducible exact Keeps.refl _ _ | with_reducible assumption | with_reducible refine Keeps.drewN ?_ _ | with_reducible refine Keeps.drew ?_ | with_reducible refine Keeps.alloc ?_ _ | with_reducible refine Keeps.setCell ?_ ?_ _ | exact Or.inl (by simp) | exact Or.inl (by simp; omega) | exact Or.inl (by omega))) kp)
      clear kp
      have x0 := HR1.out.cell 0 rfl
      have x1 := HR1.out.cell 1 rfl
      have x2 := HR1.out.cell 2 rfl
      have x3 := HR1.out.cell 3 rfl
      have x4 := HR1.out.cell 4 rfl
      have x5 := HR1.out.cell 5 rfl
      have x6 := HR1.out.cell 6 rfl
      have x7 := HR1.out.cell 7 rfl
      have x8 := HR1.out.cell 8 rfl
      go_wp2_with fail
      refine Calls.mono (HB.out _ (by have hk := K1.out; repeat' (first | with_reducible exact Keeps.refl _ _ | with_reducible assumption | with_reducible refine Keeps.drewN ?_ _ | with_reducible refine Keeps.drew ?_ | with_reducible refine Keeps.alloc ?_ _ | with_reducible refine Keeps.setCell ?_ ?_ _ | exact Or.inl (by simp) | exact Or.inl (by simp; omega) | exact Or.inl (by omega)))) ?_
      rintro e w2 ⟨rfl, kp⟩
      have HR2 := hid (HR1.out.kept kp)
      have K2 : Hid (Keeps No w w2) := hid (Keeps.trans (by have hk := K1.out; repeat' (first | with_reducible exact Keeps.refl _ _ | with_reducible assumption | with_reducible refine Keeps.drewN ?_ _ | with_reducible refine Keeps.drew ?_ | with_reducible refine Keeps.alloc ?_ _ | with_reducible refine Keeps.setCell ?_ ?_ _ | exact Or.inl (by simp) | exact Or.inl (by simp; omega) | exact Or.inl (by omega))) kp)
      clear kp
      clear x0 x1 x2 x3 x4 x5 x6 x7 x8
      have x0 := HR2.out.cell 0 rfl
      have x1 := HR2.out.cell 1 rfl
      have x2 := HR2.out.cell 2 rfl
      have x3 := HR2.out.cell 3 rfl
      have x4 := HR2.out.cell 4 rfl
      have x5 := HR2.out.cell 5 rfl
      have x6 := HR2.out.cell 6 rfl
      have x7 := HR2.out.cell 7 rfl
      have x8 := HR2.out.cell 8 rfl
      go_wp2_with fail
      go_ret2
      exact ⟨rfl, by have hk := K2.out; repeat' (first | with_reducible exact Keeps.refl _ _ | with_reducible assumption | with_reducible refine Keeps.drewN ?_ _ | with_reducible refine Keeps.drew ?_ | with_reducible refine Keeps.alloc ?_ _ | with_reducible refine Keeps.setCell ?_ ?_ _ | exact Or.inl (by simp) | exact Or.inl (by simp; omega) | exact Or.inl (by omega))⟩

set_option maxHeartbeats 4000000 in
set_option maxRecDepth 100000 in
theorem toc_any {w : World} {p : Value} (k sig lim back delay span : Int) (a6 a7 a8 : Value) (now : Int) (c : Option Int)
    (hc : ∀ w', Keeps No w w' → Calls Try.prog 38 #[p, .int .i64 sig, .int .i64 now, .int .i64 span] w' fun e w'' => e = .returned (ChangeA c) ∧ Keeps No w' w'')
    (hcr : ∀ d, c = some d → I64 d) :
    Calls Try.prog 23 #[.agg #[.int .u8 k, .int .i64 sig, .int .i64 lim, .int .i64 back, .int .i64 delay, .int .i64 span, a6, a7, a8], p, .int .i64 now] w fun e w' => e = .returned (ObsA (chgO k lim back c)) ∧ Keeps No w w' := by
  have HC := hid hc
  have HCR := hid hcr
  have K0 := hid (Keeps.refl No w)
  have HTC := hid (fun (d : Int) (hd : I64 d) (w' : World) (_ : Keeps No w w') => tcrossT_any k lim back d (.int .i64 sig) (.int .i64 delay) (.int .i64 span) a6 a7 a8 w' hd)
  clear hc hcr
  unfold chgO ObsA
  cases c with
  | none =>
    unfold ChangeA at HC
    dsimp only
    go_enter Try.func23, Try.ntmps23
    go_wp2_with fail
    refine Calls.mono (HC.out _ (by have hk := K0.out; repeat' (first | with_reducible exact Keeps.refl _ _ | with_reducible assumption | with_reducible refine Keeps.drewN ?_ _ | with_reducible refine Keeps.drew ?_ | with_reducible refine Keeps.alloc ?_ _ | with_reducible refine Keeps.setCell ?_ ?_ _ | exact Or.inl (by simp) | exact Or.inl (by simp; omega) | exact Or.inl (by omega)))) ?_
    rintro e w1 ⟨rfl, kp⟩
    have HR1 : Hid (Bk w1 w.heap.size 27 [.int .u8 k, .int .i64 sig, .int .i64 lim, .int .i64 back, .int .i64 delay, .int .i64 span, a6, a7, a8]) := hid ((Bk.new rfl _ _).kept kp)
    have K1 : Hid (Keeps No w w1) := hid (Keeps.trans (by have hk := K0.out; repeat' (first | with_reducible exact Keeps.refl _ _ | with_reducible assumption | with_reducible refine Keeps.drewN ?_ _ | with_reducible refine Keeps.drew ?_ | with_reducible refine Keeps.alloc ?_ _ | with_reducible refine Keeps.setCell ?_ ?_ _ | exact Or.inl (by simp) | exact Or.inl (by simp; omega) | exact Or.inl (by omega))) kp)
    clear kp
    have x0 := HR1.out.cell 0 rfl
    have x1 := HR1.out.cell 1 rfl
    have x2 := HR1.out.cell 2 rfl
    have x3 := HR1.out.cell 3 rfl
    have x4 := HR1.out.cell 4 rfl
    have x5 := HR1.out.cell 5 rfl
    have x6 := HR1.out.cell 6 rfl
    have x7 := HR1.out.cell 7 rfl
    have x8 := HR1.out.cell 8 rfl
    go_wp2_with fail
    go_ret2
    exact ⟨rfl, by have hk := K1.out; repeat' (first | with_reducible exact Keeps.refl _ _ | with_reducible assumption | with_reducible refine Keeps.drewN ?_ _ | with_reducible refine Keeps.drew ?_ | with_reducible refine Keeps.alloc ?_ _ | with_reducible refine Keeps.setCell ?_ ?_ _ | exact Or.inl (by simp) | exact Or.inl (by simp; omega) | exact Or.inl (by omega))⟩
  | some d =>
    have HD := hid (HCR.out d rfl)
    unfold ChangeA at HC
    dsimp only
    go_enter Try.func23, Try.ntmps23
    go_wp2_with fail
    refine Calls.mono (HC.out _ (by have hk := K0.out; repeat' (first | with_reducible exact Keeps.refl _ _ | with_reducible assumption | with_reducible refine Keeps.drewN ?_ _ | with_reducible refine Keeps.drew ?_ | with_reducible refine Keeps.alloc ?_ _ | with_reducible refine Keeps.setCell ?_ ?_ _ | exact Or.inl (by simp) | exact Or.inl (by simp; omega) | exact Or.inl (by omega)))) ?_
    rintro e w1 ⟨rfl, kp⟩
    have HR1 : Hid (Bk w1 w.heap.size 27 [.int .u8 k, .int .i64 sig, .int .i64 lim, .int .i64 back, .int .i64 delay, .int .i64 span, a6, a7, a8]) := hid ((Bk.new rfl _ _).kept kp)
    have K1 : Hid (Keeps No w w1) := hid (Keeps.trans (by have hk := K0.out; repeat' (first | with_reducible exact Keeps.refl _ _ | with_reducible assumption | with_reducible refine Keeps.drewN ?_ _ | with_reducible refine Keeps.drew ?_ | with_reducible refine Keeps.alloc ?_ _ | with_reducible refine Keeps.setCell ?_ ?_ _ | exact Or.inl (by simp) | exact Or.inl (by simp; omega) | exact Or.inl (by omega))) kp)
    clear kp
    have x0 := HR1.out.cell 0 rfl
    have x1 := HR1.out.cell 1 rfl
    have x2 := HR1.out.cell 2 rfl
    have x3 := HR1.out.cell 3 rfl
    have x4 := HR1.out.cell 4 rfl
    have x5 := HR1.out.cell 5 rfl
    have x6 := HR1.out.cell 6 rfl
    have x7 := HR1.out.cell 7 rfl
    have x8 := HR1.out.cell 8 rfl
    go_wp2_with fail
    refine Calls.mono (HTC.out d HD.out _ (by have hk := K1.out; repeat' (first | with_reducible exact Keeps.refl _ _ | with_reducible assumption | with_reducible refine Keeps.drewN ?_ _ | with_reducible refine Keeps.drew ?_ | with_reducible refine Keeps.alloc ?_ _ | with_reducible refine Keeps.setCell ?_ ?_ _ | exact Or.inl (by simp) | exact Or.inl (by simp; omega) | exact Or.inl (by omega)))) ?_
    rintro e w2 ⟨rfl, kp⟩
    have HR2 := hid (HR1.out.kept kp)
    have K2 : Hid (Keeps No w w2) := hid (Keeps.trans (by have hk := K1.out; repeat' (first | with_reducible exact Keeps.refl _ _ | with_reducible assumption | with_reducible refine Keeps.drewN ?_ _ | with_reducible refine Keeps.drew ?_ | with_reducible refine Keeps.alloc ?_ _ | with_reducible refine Keeps.setCell ?_ ?_ _ | exact Or.inl (by simp) | exact Or.inl (by simp; omega) | exact Or.inl (by omega))) kp)
    clear kp
    clear x0 x1 x2 x3 x4 x5 x6 x7 x8
    have x0 := HR2.out.cell 0 rfl
    have x1 := HR2.out.cell 1 rfl
    have x2 := HR2.out.cell 2 rfl
    have x3 := HR2.out.cell 3 rfl
    have x4 := HR2.out.cell 4 rfl
    have x5 := HR2.out.cell 5 rfl
    have x6 := HR2.out.cell 6 rfl
    have x7 := HR2.out.cell 7 rfl
    have x8 := HR2.out.cell 8 rfl
    go_wp2_with fail
    go_ret2
    exact ⟨rfl, by have hk := K2.out; repeat' (first | with_reducible exact Keeps.refl _ _ | with_reducible assumption | with_reducible refine Keeps.drewN ?_ _ | with_reducible refine Keeps.drew ?_ | with_reducible refine Keeps.alloc ?_ _ | with_reducible refine Keeps.setCell ?_ ?_ _ | exact Or.inl (by simp) | exact Or.inl (by simp; omega) | exact Or.inl (by omega))⟩

set_option maxHeartbeats 4000000 in
set_option maxRecDepth 100000 in
theorem tobs_val {w : World} {p : Value} (k sig lim back delay span : Int) (a6 a7 a8 : Value) (now : Int) (x : Option SeenD) (b : Bool) (q : Int) (c : Option Int)
    (hv : ∀ w', Keeps No w w' → Calls Try.prog 36 #[p, .int .i64 sig] w' fun e w'' => e = .returned (ValueA x) ∧ Keeps No w' w'')
    (hb : ∀ w', Keeps No w w' → Calls Try.prog 25 #[p, .int .i64 sig] w' fun e w'' => e = .returned (.bool b) ∧ Keeps No w' w'')
    (hq : ∀ w', Keeps No w w' → Calls Try.prog 24 #[p, .int .i64 sig, .int .i64 now] w' fun e w'' => e = .returned (.int .i64 q) ∧ Keeps No w' w'')
    (hc : ∀ w', Keeps No w w' → Calls Try.prog 38 #[p, .int .i64 sig, .int .i64 now, .int .i64 span] w' fun e w'' => e = .returned (ChangeA c) ∧ Keeps No w' w'')
    (hcr : ∀ d, c = some d → I64 d) :
    Calls Try.prog 13 #[.agg #[.int .u8 k, .int .i64 sig, .int .i64 lim, .int .i64 back, .int .i64 delay, .int .i64 span, a6, a7, a8], p, .int .i64 now] w fun e w' => e = .returned (ObsA (obsV k lim back span x b q c)) ∧ Keeps No w w' := by
  have HB := hid hb
  have HQ := hid hq
  have K0 := hid (Keeps.refl No w)
  have HOV := hid (fun (k : Int) (w' : World) (kw : Keeps No w w') => tov_any (w := w') (p := p) k sig lim back delay span a6 a7 a8 x b (fun w2 k2 => hv w2 (Keeps.trans kw k2)) (fun w2 k2 => hb w2 (Keeps.trans kw k2)))
  have HOC := hid (fun (k : Int) (w' : World) (kw : Keeps No w w') => toc_any (w := w') (p := p) k sig lim back delay span a6 a7 a8 now c (fun w2 k2 => hc w2 (Keeps.trans kw k2)) hcr)
  clear hv hb hq hc hcr
  by_cases h1 : k = 1
  · subst h1
    rw [show obsV 1 lim back span x b q c = valO 1 lim back x b from rfl]
    obtain ⟨o1, o2, ho⟩ : ∃ o1 o2, valO 1 lim back x b = (o1, o2) := ⟨_, _, rfl⟩
    have HW := (HOV.out 1)
    rw [ho] at HW
    rw [ho]
    clear ho HOV
    unfold ObsA at HW
    unfold ObsA
    dsimp only at HW
    replace HW := hid HW
    dsimp only
    go_enter Try.func13, Try.ntmps13
    go_wp2_with fail
    refine Calls.mono (HW.out _ (by have hk := K0.out; repeat' (first | with_reducible exact Keeps.refl _ _ | with_reducible assumption | with_reducible refine Keeps.drewN ?_ _ | with_reducible refine Keeps.drew ?_ | with_reducible refine Keeps.alloc ?_ _ | with_reducible refine Keeps.setCell ?_ ?_ _ | exact Or.inl (by simp) | exact Or.inl (by simp; omega) | exact Or.inl (by omega)))) ?_
    rintro e w1 ⟨rfl, kp⟩
    have HR1 : Hid (Bk w1 w.heap.size 27 [.int .u8 1, .int .i64 sig, .int .i64 lim, .int .i64 back, .int .i64 delay, .int .i64 span, a6, a7, a8]) := hid ((Bk.new rfl _ _).kept kp)
    have K1 : Hid (Keeps No w w1) := hid (Keeps.trans (by have hk := K0.out; repeat' (first | with_reducible exact Keeps.refl _ _ | with_reducible assumption | with_reducible refine Keeps.drewN ?_ _ | with_reducible refine Keeps.drew ?_ | with_reducible refine Keeps.alloc ?_ _ | with_reducible refine Keeps.setCell ?_ ?_ _ | exact Or.inl (by simp) | exact Or.inl (by simp; omega) | exact Or.inl (by omega))) kp)
    clear kp
    have x0 := HR1.out.cell 0 rfl
    have x1 := HR1.out.cell 1 rfl
    have x2 := HR1.out.cell 2 rfl
    have x3 := HR1.out.cell 3 rfl
    have x4 := HR1.out.cell 4 rfl
    have x5 := HR1.out.cell 5 rfl
    have x6 := HR1.out.cell 6 rfl
    have x7 := HR1.out.cell 7 rfl
    have x8 := HR1.out.cell 8 rfl
    go_wp2_with fail
    go_ret2
    exact ⟨rfl, by have hk := K1.out; repeat' (first | with_reducible exact Keeps.refl _ _ | with_reducible assumption | with_reducible refine Keeps.drewN ?_ _ | with_reducible refine Keeps.drew ?_ | with_reducible refine Keeps.alloc ?_ _ | with_reducible refine Keeps.setCell ?_ ?_ _ | exact Or.inl (by simp) | exact Or.inl (by simp; omega) | exact Or.inl (by omega))⟩
  by_cases h2 : k = 2
  · subst h2
    rw [show obsV 2 lim back span x b q c = valO 2 lim back x b from rfl]
    obtain ⟨o1, o2, ho⟩ : ∃ o1 o2, valO 2 lim back x b = (o1, o2) := ⟨_, _, rfl⟩
    have HW := (HOV.out 2)
    rw [ho] at HW
    rw [ho]
    clear ho HOV
    unfold ObsA at HW
    unfold ObsA
    dsimp only at HW
    replace HW := hid HW
    dsimp only
    go_enter Try.func13, Try.ntmps13
    go_wp2_with fail
    refine Calls.mono (HW.out _ (by have hk := K0.out; repeat' (first | with_reducible exact Keeps.refl _ _ | with_reducible assumption | with_reducible refine Keeps.drewN ?_ _ | with_reducible refine Keeps.drew ?_ | with_reducible refine Keeps.alloc ?_ _ | with_reducible refine Keeps.setCell ?_ ?_ _ | exact Or.inl (by simp) | exact Or.inl (by simp; omega) | exact Or.inl (by omega)))) ?_
    rintro e w1 ⟨rfl, kp⟩
    have HR1 : Hid (Bk w1 w.heap.size 27 [.int .u8 2, .int .i64 sig, .int .i64 lim, .int .i64 back, .int .i64 delay, .int .i64 span, a6, a7, a8]) := hid ((Bk.new rfl _ _).kept kp)
    have K1 : Hid (Keeps No w w1) := hid (Keeps.trans (by have hk := K0.out; repeat' (first | with_reducible exact Keeps.refl _ _ | with_reducible assumption | with_reducible refine Keeps.drewN ?_ _ | with_reducible refine Keeps.drew ?_ | with_reducible refine Keeps.alloc ?_ _ | with_reducible refine Keeps.setCell ?_ ?_ _ | exact Or.inl (by simp) | exact Or.inl (by simp; omega) | exact Or.inl (by omega))) kp)
    clear kp
    have x0 := HR1.out.cell 0 rfl
    have x1 := HR1.out.cell 1 rfl
    have x2 := HR1.out.cell 2 rfl
    have x3 := HR1.out.cell 3 rfl
    have x4 := HR1.out.cell 4 rfl
    have x5 := HR1.out.cell 5 rfl
    have x6 := HR1.out.cell 6 rfl
    have x7 := HR1.out.cell 7 rfl
    have x8 := HR1.out.cell 8 rfl
    go_wp2_with fail
    go_ret2
    exact ⟨rfl, by have hk := K1.out; repeat' (first | with_reducible exact Keeps.refl _ _ | with_reducible assumption | with_reducible refine Keeps.drewN ?_ _ | with_reducible refine Keeps.drew ?_ | with_reducible refine Keeps.alloc ?_ _ | with_reducible refine Keeps.setCell ?_ ?_ _ | exact Or.inl (by simp) | exact Or.inl (by simp; omega) | exact Or.inl (by omega))⟩
  by_cases h3 : k = 3
  · subst h3
    rw [show obsV 3 lim back span x b q c = chgO 3 lim back c from rfl]
    obtain ⟨o1, o2, ho⟩ : ∃ o1 o2, chgO 3 lim back c = (o1, o2) := ⟨_, _, rfl⟩
    have HW := (HOC.out 3)
    rw [ho] at HW
    rw [ho]
    clear ho HOC
    unfold ObsA at HW
    unfold ObsA
    dsimp only at HW
    replace HW := hid HW
    dsimp only
    go_enter Try.func13, Try.ntmps13
    go_wp2_with fail
    refine Calls.mono (HW.out _ (by have hk := K0.out; repeat' (first | with_reducible exact Keeps.refl _ _ | with_reducible assumption | with_reducible refine Keeps.drewN ?_ _ | with_reducible refine Keeps.drew ?_ | with_reducible refine Keeps.alloc ?_ _ | with_reducible refine Keeps.setCell ?_ ?_ _ | exact Or.inl (by simp) | exact Or.inl (by simp; omega) | exact Or.inl (by omega)))) ?_
    rintro e w1 ⟨rfl, kp⟩
    have HR1 : Hid (Bk w1 w.heap.size 27 [.int .u8 3, .int .i64 sig, .int .i64 lim, .int .i64 back, .int .i64 delay, .int .i64 span, a6, a7, a8]) := hid ((Bk.new rfl _ _).kept kp)
    have K1 : Hid (Keeps No w w1) := hid (Keeps.trans (by have hk := K0.out; repeat' (first | with_reducible exact Keeps.refl _ _ | with_reducible assumption | with_reducible refine Keeps.drewN ?_ _ | with_reducible refine Keeps.drew ?_ | with_reducible refine Keeps.alloc ?_ _ | with_reducible refine Keeps.setCell ?_ ?_ _ | exact Or.inl (by simp) | exact Or.inl (by simp; omega) | exact Or.inl (by omega))) kp)
    clear kp
    have x0 := HR1.out.cell 0 rfl
    have x1 := HR1.out.cell 1 rfl
    have x2 := HR1.out.cell 2 rfl
    have x3 := HR1.out.cell 3 rfl
    have x4 := HR1.out.cell 4 rfl
    have x5 := HR1.out.cell 5 rfl
    have x6 := HR1.out.cell 6 rfl
    have x7 := HR1.out.cell 7 rfl
    have x8 := HR1.out.cell 8 rfl
    go_wp2_with fail
    go_ret2
    exact ⟨rfl, by have hk := K1.out; repeat' (first | with_reducible exact Keeps.refl _ _ | with_reducible assumption | with_reducible refine Keeps.drewN ?_ _ | with_reducible refine Keeps.drew ?_ | with_reducible refine Keeps.alloc ?_ _ | with_reducible refine Keeps.setCell ?_ ?_ _ | exact Or.inl (by simp) | exact Or.inl (by simp; omega) | exact Or.inl (by omega))⟩
  by_cases h4 : k = 4
  · subst h4
    rw [show obsV 4 lim back span x b q c = chgO 4 lim back c from rfl]
    obtain ⟨o1, o2, ho⟩ : ∃ o1 o2, chgO 4 lim back c = (o1, o2) := ⟨_, _, rfl⟩
    have HW := (HOC.out 4)
    rw [ho] at HW
    rw [ho]
    clear ho HOC
    unfold ObsA at HW
    unfold ObsA
    dsimp only at HW
    replace HW := hid HW
    dsimp only
    go_enter Try.func13, Try.ntmps13
    go_wp2_with fail
    refine Calls.mono (HW.out _ (by have hk := K0.out; repeat' (first | with_reducible exact Keeps.refl _ _ | with_reducible assumption | with_reducible refine Keeps.drewN ?_ _ | with_reducible refine Keeps.drew ?_ | with_reducible refine Keeps.alloc ?_ _ | with_reducible refine Keeps.setCell ?_ ?_ _ | exact Or.inl (by simp) | exact Or.inl (by simp; omega) | exact Or.inl (by omega)))) ?_
    rintro e w1 ⟨rfl, kp⟩
    have HR1 : Hid (Bk w1 w.heap.size 27 [.int .u8 4, .int .i64 sig, .int .i64 lim, .int .i64 back, .int .i64 delay, .int .i64 span, a6, a7, a8]) := hid ((Bk.new rfl _ _).kept kp)
    have K1 : Hid (Keeps No w w1) := hid (Keeps.trans (by have hk := K0.out; repeat' (first | with_reducible exact Keeps.refl _ _ | with_reducible assumption | with_reducible refine Keeps.drewN ?_ _ | with_reducible refine Keeps.drew ?_ | with_reducible refine Keeps.alloc ?_ _ | with_reducible refine Keeps.setCell ?_ ?_ _ | exact Or.inl (by simp) | exact Or.inl (by simp; omega) | exact Or.inl (by omega))) kp)
    clear kp
    have x0 := HR1.out.cell 0 rfl
    have x1 := HR1.out.cell 1 rfl
    have x2 := HR1.out.cell 2 rfl
    have x3 := HR1.out.cell 3 rfl
    have x4 := HR1.out.cell 4 rfl
    have x5 := HR1.out.cell 5 rfl
    have x6 := HR1.out.cell 6 rfl
    have x7 := HR1.out.cell 7 rfl
    have x8 := HR1.out.cell 8 rfl
    go_wp2_with fail
    go_ret2
    exact ⟨rfl, by have hk := K1.out; repeat' (first | with_reducible exact Keeps.refl _ _ | with_reducible assumption | with_reducible refine Keeps.drewN ?_ _ | with_reducible refine Keeps.drew ?_ | with_reducible refine Keeps.alloc ?_ _ | with_reducible refine Keeps.setCell ?_ ?_ _ | exact Or.inl (by simp) | exact Or.inl (by simp; omega) | exact Or.inl (by omega))⟩
  by_cases h5 : k = 5
  · subst h5
    unfold obsV ObsA
    rw [if_neg (by decide), if_neg (by decide), if_pos rfl]
    go_enter Try.func13, Try.ntmps13
    go_upto_region 9 with fail
    obtain ⟨W0, hW⟩ : ∃ W, w.alloc (.cells #[.int .u8 5, .int .i64 sig, .int .i64 lim, .int .i64 back, .int .i64 delay, .int .i64 span, a6, a7, a8] 27) = W := ⟨_, rfl⟩
    have HR0 : Hid (Bk W0 w.heap.size 27 [.int .u8 5, .int .i64 sig, .int .i64 lim, .int .i64 back, .int .i64 delay, .int .i64 span, a6, a7, a8]) := hid (by rw [← hW]; exact Bk.new rfl _ _)
    have K1 : Hid (Keeps No w W0) := hid (by rw [← hW]; exact (Keeps.refl _ _).alloc _)
    rw [hW]
    clear hW
    first | clear x0 | skip
    first | clear x1 | skip
    first | clear x2 | skip
    first | clear x3 | skip
    first | clear x4 | skip
    first | clear x5 | skip
    first | clear x6 | skip
    first | clear x7 | skip
    first | clear x8 | skip
    have x0_0 := HR0.out.cell 0 rfl
    have x0_1 := HR0.out.cell 1 rfl
    have x0_2 := HR0.out.cell 2 rfl
    have x0_3 := HR0.out.cell 3 rfl
    have x0_4 := HR0.out.cell 4 rfl
    have x0_5 := HR0.out.cell 5 rfl
    have x0_6 := HR0.out.cell 6 rfl
    have x0_7 := HR0.out.cell 7 rfl
    have x0_8 := HR0.out.cell 8 rfl
    first | go_region_held3 (fun w' => w'.cell? ⟨w.heap.size, 0, none⟩ = some (.int .u8 5) ∧ w'.cell? ⟨w.heap.size, 1, none⟩ = some (.int .i64 sig) ∧ w'.cell? ⟨w.heap.size, 2, none⟩ = some (.int .i64 lim) ∧ w'.cell? ⟨w.heap.size, 3, none⟩ = some (.int .i64 back) ∧ w'.cell? ⟨w.heap.size, 4, none⟩ = some (.int .i64 delay) ∧ w'.cell? ⟨w.heap.size, 5, none⟩ = some (.int .i64 span) ∧ w'.cell? ⟨w.heap.size, 6, none⟩ = some (a6) ∧ w'.cell? ⟨w.heap.size, 7, none⟩ = some (a7) ∧ w'.cell? ⟨w.heap.size, 8, none⟩ = some (a8)) (first | with_reducible exact ⟨x0_0, x0_1, x0_2, x0_3, x0_4, x0_5, x0_6, x0_7, x0_8⟩ | with_reducible exact ⟨cellDr x0_0, cellDr x0_1, cellDr x0_2, cellDr x0_3, cellDr x0_4, cellDr x0_5, cellDr x0_6, cellDr x0_7, cellDr x0_8⟩ | with_reducible exact ⟨cellA _ x0_0, cellA _ x0_1, cellA _ x0_2, cellA _ x0_3, cellA _ x0_4, cellA _ x0_5, cellA _ x0_6, cellA _ x0_7, cellA _ x0_8⟩ | with_reducible exact ⟨cellDr (cellA _ x0_0), cellDr (cellA _ x0_1), cellDr (cellA _ x0_2), cellDr (cellA _ x0_3), cellDr (cellA _ x0_4), cellDr (cellA _ x0_5), cellDr (cellA _ x0_6), cellDr (cellA _ x0_7), cellDr (cellA _ x0_8)⟩ | (go_keep; done)) (first | (go_at_call 24; (with_reducible refine (HQ.out _ (by have hk := K1.out; repeat' (first | with_reducible exact Keeps.refl _ _ | with_reducible assumption | with_reducible refine Keeps.drewN ?_ _ | with_reducible refine Keeps.drew ?_ | with_reducible refine Keeps.alloc ?_ _))).mono ?_); rintro e w9 ⟨rfl, k⟩; have kk : Keeps No W0 w9 := Keeps.trans (by repeat' (first | with_reducible exact Keeps.refl _ _ | with_reducible assumption | with_reducible refine Keeps.drewN ?_ _ | with_reducible refine Keeps.drew ?_ | with_reducible refine Keeps.alloc ?_ _)) k; have g0 := HR0.out.kept kk; have x0_0 := g0.cell 0 rfl; have x0_1 := g0.cell 1 rfl; have x0_2 := g0.cell 2 rfl; have x0_3 := g0.cell 3 rfl; have x0_4 := g0.cell 4 rfl; have x0_5 := g0.cell 5 rfl; have x0_6 := g0.cell 6 rfl; have x0_7 := g0.cell 7 rfl; have x0_8 := g0.cell 8 rfl; have KX := hid (Keeps.trans K1.out kk); clear k g0)) | fail
    go_wp2_with fail
    go_ret2
    exact ⟨rfl, by have hk := KX.out; repeat' (first | with_reducible exact Keeps.refl _ _ | with_reducible assumption | with_reducible refine Keeps.drewN ?_ _ | with_reducible refine Keeps.drew ?_ | with_reducible refine Keeps.alloc ?_ _)⟩
  by_cases h6 : k = 6
  · subst h6
    unfold obsV ObsA
    rw [if_neg (by decide), if_neg (by decide), if_neg (by decide), if_pos rfl]
    go_enter Try.func13, Try.ntmps13
    go_wp2_with fail
    refine Calls.mono (HB.out _ (by have hk := K0.out; repeat' (first | with_reducible exact Keeps.refl _ _ | with_reducible assumption | with_reducible refine Keeps.drewN ?_ _ | with_reducible refine Keeps.drew ?_ | with_reducible refine Keeps.alloc ?_ _ | with_reducible refine Keeps.setCell ?_ ?_ _ | exact Or.inl (by simp) | exact Or.inl (by simp; omega) | exact Or.inl (by omega)))) ?_
    rintro e w1 ⟨rfl, kp⟩
    have HR1 : Hid (Bk w1 w.heap.size 27 [.int .u8 6, .int .i64 sig, .int .i64 lim, .int .i64 back, .int .i64 delay, .int .i64 span, a6, a7, a8]) := hid ((Bk.new rfl _ _).kept kp)
    have K1 : Hid (Keeps No w w1) := hid (Keeps.trans (by have hk := K0.out; repeat' (first | with_reducible exact Keeps.refl _ _ | with_reducible assumption | with_reducible refine Keeps.drewN ?_ _ | with_reducible refine Keeps.drew ?_ | with_reducible refine Keeps.alloc ?_ _ | with_reducible refine Keeps.setCell ?_ ?_ _ | exact Or.inl (by simp) | exact Or.inl (by simp; omega) | exact Or.inl (by omega))) kp)
    clear kp
    have x0 := HR1.out.cell 0 rfl
    have x1 := HR1.out.cell 1 rfl
    have x2 := HR1.out.cell 2 rfl
    have x3 := HR1.out.cell 3 rfl
    have x4 := HR1.out.cell 4 rfl
    have x5 := HR1.out.cell 5 rfl
    have x6 := HR1.out.cell 6 rfl
    have x7 := HR1.out.cell 7 rfl
    have x8 := HR1.out.cell 8 rfl
    go_wp2_with fail
    go_ret2
    exact ⟨rfl, by have hk := K1.out; repeat' (first | with_reducible exact Keeps.refl _ _ | with_reducible assumption | with_reducible refine Keeps.drewN ?_ _ | with_reducible refine Keeps.drew ?_ | with_reducible refine Keeps.alloc ?_ _ | with_reducible refine Keeps.setCell ?_ ?_ _ | exact Or.inl (by simp) | exact Or.inl (by simp; omega) | exact Or.inl (by omega))⟩
  unfold obsV ObsA
  rw [if_neg (by omega), if_neg (by omega), if_neg h5, if_neg h6]
  have e1 : (k == 1) = false := by simpa using h1
  have e2 : (k == 2) = false := by simpa using h2
  have e3 : (k == 3) = false := by simpa using h3
  have e4 : (k == 4) = false := by simpa using h4
  have e5 : (k == 5) = false := by simpa using h5
  have e6 : (k == 6) = false := by simpa using h6
  have n5 : (k != 5) = true := by simpa using h5
  have n6 : (k != 6) = true := by simpa using h6
  clear h1 h2 h3 h4 h5 h6
  go_enter Try.func13, Try.ntmps13
  go_wp2_with fail
  go_ret2
  exact ⟨rfl, by have hk := K0.out; repeat' (first | with_reducible exact Keeps.refl _ _ | with_reducible assumption | with_reducible refine Keeps.drewN ?_ _ | with_reducible refine Keeps.drew ?_ | with_reducible refine Keeps.alloc ?_ _ | with_reducible refine Keeps.setCell ?_ ?_ _ | exact Or.inl (by simp) | exact Or.inl (by simp; omega) | exact Or.inl (by omega))⟩

theorem tobs_any {w : World} {sb : Nat} {F : Nat → Prop} {n : Nat} {l : List SeenD} (h : Sto w sb F n l) (k sig lim back delay span : Int) (a6 a7 a8 : Value) (now : Int) (hn : I64 now) (hs : I64 span) :
    Calls Try.prog 13 #[.agg #[.int .u8 k, .int .i64 sig, .int .i64 lim, .int .i64 back, .int .i64 delay, .int .i64 span, a6, a7, a8], .pointer (some ⟨sb, 0, none⟩), .int .i64 now] w fun e w' => e = .returned (ObsA (obsD k sig lim back span l now)) ∧ Keeps No w w' :=
  tobs_val k sig lim back delay span a6 a7 a8 now _ _ _ _
    (fun w' kw => cvalue_any (h.keep kw (fun _ _ h => h)) sig) (fun w' kw => cbad_any (h.keep kw (fun _ _ h => h)) sig)
    (fun w' kw => cquiet_any (h.keep kw (fun _ _ h => h)) sig now hn) (fun w' kw => tchange_any (h.keep kw (fun _ _ h => h)) sig now span hn hs)
    (fun d hd => s_change_i64 hd)

theorem nobs_any (w : World) (k sig lim back delay span : Int) (a6 a7 a8 : Value) (now : Int) (hn : I64 now) (hs : I64 span) :
    Calls Try.prog 13 #[.agg #[.int .u8 k, .int .i64 sig, .int .i64 lim, .int .i64 back, .int .i64 delay, .int .i64 span, a6, a7, a8], .pointer none, .int .i64 now] w fun e w' => e = .returned (ObsA (obsV k lim back span none false (held now) none)) ∧ Keeps No w w' :=
  tobs_val k sig lim back delay span a6 a7 a8 now _ _ _ _
    (fun w' kw => nvalue_any w' sig) (fun w' kw => nbad_any w' sig)
    (fun w' kw => nquiet_any w' sig now hn) (fun w' kw => nchange_any w' sig now span hn hs)
    (fun d hd => by cases hd)

end Go.Proofs.Ytboalfajghkajaa
