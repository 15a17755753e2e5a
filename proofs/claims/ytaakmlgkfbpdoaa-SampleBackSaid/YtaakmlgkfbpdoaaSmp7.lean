/-
  What the laws of reading share: the document's Read of any bytes, the three signals, samples held against each other.
-/
import Derived.Test.YtaakmlgkfbpdoaaSmp6
import Derived.Laws.StructEq
namespace Go.Proofs.Ytaakmlgkfbpdoaa
open Go.RowKit

theorem rread_any {w : World} {pv sv : Value} {p : List Int} {L : List Sig} (hp : SlB w pv p) (hb : Bytes p) (hl : p.length ≤ 100000) (hs : Sl w 2 sv L.length (L.flatMap encSig)) (hL : L.length ≤ 1000) :
    Calls Try.prog 18 #[pv, sv] w fun e w' => e = .returned (rdSmp p L).val ∧ Keeps No w w' := by
  by_cases h7 : p.length = 7
  · rcases p with _ | ⟨a, _ | ⟨b, _ | ⟨c, _ | ⟨d, _ | ⟨e, _ | ⟨g, _ | ⟨h, _ | ⟨z, t⟩⟩⟩⟩⟩⟩⟩⟩
    all_goals first | (simp at h7; done) | exact rr_seven hp hb hs hL
  · have : rdSmp p L = ⟨0, 0, 0, false, 2⟩ := by
      unfold rdSmp
      split
      · simp at h7
      · rfl
    rw [this]
    exact rr_len hp hl h7 hs hL

def sigs3 : List Sig := [⟨-100, 300⟩, ⟨5, 5⟩, ⟨-2147483648, 2147483647⟩]

set_option maxHeartbeats 1000000 in
set_option maxRecDepth 100000 in
theorem signals_any (w : World) :
    Calls Try.prog 17 #[] w fun e w' => e = .returned (.slice (some ⟨w.heap.size, 0, none⟩) 3 3) ∧ Sl w' 2 (.slice (some ⟨w.heap.size, 0, none⟩) 3 3) 3 (sigs3.flatMap encSig) ∧ Keeps No w w' := by
  go_enter Try.func17, Try.ntmps17
  go_wp2_with fail
  go_ret
  exact ⟨rfl, Sl.new w #[.int .i64 (-100), .int .i64 300, .int .i64 5, .int .i64 5, .int .i64 (-2147483648), .int .i64 2147483647] _ 2 3 rfl (by decide), (Keeps.refl _ _).alloc _⟩

set_option maxRecDepth 100000 in
theorem smp_equal (a b c : Int) (d : Bool) (w : World) : (Op.equalIn 10000 47 (.agg #[.int .i64 a, .int .u8 b, .int .i64 c, .bool d]) (.agg #[.int .i64 a, .int .u8 b, .int .i64 c, .bool d])).run Try.prog w = .ok true w := by
  have u3 := Try.underlying3
  have a3 := Try.isAgg3
  have z3 := Try.sizeOf3
  have u4 := Try.underlying4
  have a4 := Try.isAgg4
  have z4 := Try.sizeOf4
  have u2 := Try.underlying5
  have a2 := Try.isAgg5
  have z2 := Try.sizeOf5
  have hS : Try.prog.underlying 47 = some (.struct (Try.prog.fieldsOf 47)) := by kernel_rfl
  have hp : Try.prog.stoodInHeld 47 = false := by kernel_rfl
  rw [show (10000 : Nat) = 9999 + 1 from rfl, run_equalIn_agg w 9999 47 _ _ hS hp]
  simp only [Program.fieldsOf, Try.underlying47]
  go_simp

theorem smp_eql (a b c : Int) (d : Bool) (w : World) : (binOp .eql 47 (.agg #[.int .i64 a, .int .u8 b, .int .i64 c, .bool d]) (.agg #[.int .i64 a, .int .u8 b, .int .i64 c, .bool d])).run Try.prog w = .ok (.bool true) w := by
  rw [run_eql_struct, smp_equal]; rfl

theorem smp_guard : Try.prog.eqGuardType Try.prog.depth 47 = false := by kernel_rfl

end Go.Proofs.Ytaakmlgkfbpdoaa
