/-
  The errors of an image's reader: errors.Is; where, which, meet.
-/
import Derived.Test.YtlenhccdkhgfgaaDoorErr
namespace Go.Proofs.YtlenhccdkhgfgaaDoor
open Go.RowKit Go.Extern.Stop Go.Stop Go.Extern
set_option linter.unusedVariables false

theorem fTypeOfE (v : Value) (w : World) : (ReflectliteType.typeOf #[.iface 36 v]).run Tryd.prog w = .ok (.iface 152 (.agg #[.pointer (some ⟨1, 36, none⟩)])) w := by kernel_rfl
def comparableRow : Array Value → Sem Value := Extern.ReflectliteType.method fun t => do Go.Extern.Rtype.noPackHeld "Comparable" t; pure (.bool (← typeInfo t).comparable)

theorem fComparableE  (w : World) : (comparableRow #[.agg #[.pointer (some ⟨1, 36, none⟩)]]).run Tryd.prog w = .ok (.bool true) w := by kernel_rfl
theorem fMethodComparable (v : Value) (w : World) : (Go.method 293 152 v "Comparable").run Tryd.prog w = .ok (112, v) w := by kernel_rfl
theorem fNoIsM (v : Value) (xT : TypeId) (w : World) : (Instr.typeAssert (.iface 109 v) xT 164 true).run Tryd.prog w = .ok (.tuple #[.nilIface, .bool false]) w := run_typeAssert_lacksB Tryd.underlying164 (by kernel_rfl) (by kernel_rfl) v xT w
theorem fNoIsE (v : Value) (xT : TypeId) (w : World) : (Instr.typeAssert (.iface 36 v) xT 164 true).run Tryd.prog w = .ok (.tuple #[.nilIface, .bool false]) w := run_typeAssert_lacksB Tryd.underlying164 (by kernel_rfl) (by kernel_rfl) v xT w
theorem fNoUnwrapE (v : Value) (xT : TypeId) (w : World) : (Instr.typeAssert (.iface 36 v) xT 159 true).run Tryd.prog w = .ok (.tuple #[.nilIface, .bool false]) w := run_typeAssert_lacksB Tryd.underlying159 (by kernel_rfl) (by kernel_rfl) v xT w
theorem fNoUnwrapsE (v : Value) (xT : TypeId) (w : World) : (Instr.typeAssert (.iface 36 v) xT 161 true).run Tryd.prog w = .ok (.tuple #[.nilIface, .bool false]) w := run_typeAssert_lacksB Tryd.underlying161 (by kernel_rfl) (by kernel_rfl) v xT w
theorem fHasUnwrapM (v : Value) (xT : TypeId) (w : World) : (Instr.typeAssert (.iface 109 v) xT 159 true).run Tryd.prog w = .ok (.tuple #[.iface 109 v, .bool true]) w := run_typeAssert_hasB Tryd.underlying159 (by kernel_rfl) v xT w
theorem fMethodUnwrap (v : Value) (w : World) : (Go.method 293 109 v "Unwrap").run Tryd.prog w = .ok (106, v) w := by kernel_rfl
theorem fInfoE : (Tryd.prog.info? 36).map (·.comparable) = some true := by kernel_rfl
theorem fEqlE (c d : Int) (w : World) : (binOp .eql 71 (.iface 36 (.int .i64 c)) (.iface 36 (.int .i64 d))).run Tryd.prog w = .ok (.bool (c == d)) w := by
  obtain ⟨i, hi, hc⟩ := Option.map_eq_some_iff.1 fInfoE
  have h : ∀ n : Nat, (Op.equalIn (n + 2) 71 (.iface 36 (.int .i64 c)) (.iface 36 (.int .i64 d))).run Tryd.prog w = .ok (c == d) w := fun n => by
    simp [Op.equalIn, run_underlying Tryd.underlying71, typeInfo, hi, hc, run_underlying Tryd.underlying36]
  simp only [binOp]
  simp [Op.equal, Op.maxDepth, h 9998]

/-- An image's error: the place, the error. -/
def Met (w : World) (mb : Nat) (at_ code : Int) : Prop := w.heap[mb]? = some (.cells #[.int .i64 at_, .iface 36 (.int .i64 code)] 113 (0, 0))

set_option maxHeartbeats 4000000 in
set_option maxRecDepth 100000 in
theorem is_met (mb : Nat) (at_ code d : Int) (w : World) (hm : Met w mb at_ code) :
    Calls Tryd.prog 54 #[.iface 109 (.pointer (some ⟨mb, 0, none⟩)), .iface 36 (.int .i64 d)] w fun e w' => e = .returned (.bool (code == d)) ∧ w = w' := by
  have h8 := @run_callFunc_extern Tryd.prog 76 _ (Extern.ReflectliteType.typeOf) Tryd.func76 (by kernel_rfl) (by kernel_rfl) (by kernel_rfl) (by kernel_rfl)
  have h32 := @run_callFunc_extern Tryd.prog 112 _ (comparableRow) Tryd.func112 (by kernel_rfl) (by kernel_rfl) (by kernel_rfl) (by kernel_rfl)
  have tT := fTypeOfE
  have cT := fComparableE
  have mR := fMethodComparable
  have nM := fNoIsM
  have nE := fNoIsE
  have uE := fNoUnwrapE
  have vE := fNoUnwrapsE
  have uM := fHasUnwrapM
  have mU := fMethodUnwrap
  have hty := run_eql_iface_types (P := Tryd.prog) 109 36 (.pointer (some ⟨mb, 0, none⟩)) (.int .i64 d) Tryd.underlying71 (by decide) w
  have heq := fEqlE code d w
  have c1 := cell_at (i := 1) hm rfl
  clear hm
  rcases hcd : (code == d) with _ | _
  all_goals
    rw [hcd] at heq
    go_enter Tryd.func54, Tryd.ntmps54
    go_wp2
    refine wp_loop_rounds 2 ?_
    rw [rounds_succ]
    go_wp2
    rw [rounds_succ]
    go_wp2
    go_ret
    exact ⟨rfl, rfl⟩

end Go.Proofs.YtlenhccdkhgfgaaDoor
