/-
  The program's First and Right: the rules one behind the other.
-/
import Derived.Test.YtaakmlgkfbpdoaaChk7
import Derived.Test.YtaakmlgkfbpdoaaChk8
namespace Go.Proofs.Ytaakmlgkfbpdoaa
open Go.RowKit

def fidAt (i : Nat) : FuncId :=
  match i with
  | 0 => 57
  | 1 => 58
  | 2 => 59
  | 3 => 60
  | 4 => 61
  | 5 => 62
  | 6 => 63
  | 7 => 64
  | 8 => 65
  | 9 => 66
  | 10 => 67
  | 11 => 68
  | 12 => 69
  | 13 => 70
  | 14 => 71
  | 15 => 72
  | 16 => 73
  | _ => 0

/-- The rules as the program lays them: at how many places, by which function. -/
def lawsL (C : Cfg) : List Value := [.int .i64 1, .func (.func 57) #[] #[], .int .i64 (C.sigs.length : Nat), .func (.func 58) #[] #[], .int .i64 1, .func (.func 59) #[] #[], .int .i64 (C.ruls.length : Nat), .func (.func 60) #[] #[], .int .i64 (C.ruls.length : Nat), .func (.func 61) #[] #[], .int .i64 (C.ruls.length : Nat), .func (.func 62) #[] #[], .int .i64 (C.ruls.length : Nat), .func (.func 63) #[] #[], .int .i64 (C.ruls.length : Nat), .func (.func 64) #[] #[], .int .i64 (C.ruls.length : Nat), .func (.func 65) #[] #[], .int .i64 (C.ruls.length : Nat), .func (.func 66) #[] #[], .int .i64 1, .func (.func 67) #[] #[], .int .i64 (C.tab.length : Nat), .func (.func 68) #[] #[], .int .i64 (C.ruls.length : Nat), .func (.func 69) #[] #[], .int .i64 3, .func (.func 70) #[] #[], .int .i64 1, .func (.func 71) #[] #[], .int .i64 1, .func (.func 72) #[] #[], .int .i64 1, .func (.func 73) #[] #[]]

theorem lawsL_at (C : Cfg) : ∀ i : Nat, i < 17 → (lawsL C)[i * 2]? = some (.int .i64 (placesB C i : Nat)) ∧ (lawsL C)[i * 2 + 1]? = some (.func (.func (fidAt i)) #[] #[])
  | 0, _ => ⟨rfl, rfl⟩
  | 1, _ => ⟨rfl, rfl⟩
  | 2, _ => ⟨rfl, rfl⟩
  | 3, _ => ⟨rfl, rfl⟩
  | 4, _ => ⟨rfl, rfl⟩
  | 5, _ => ⟨rfl, rfl⟩
  | 6, _ => ⟨rfl, rfl⟩
  | 7, _ => ⟨rfl, rfl⟩
  | 8, _ => ⟨rfl, rfl⟩
  | 9, _ => ⟨rfl, rfl⟩
  | 10, _ => ⟨rfl, rfl⟩
  | 11, _ => ⟨rfl, rfl⟩
  | 12, _ => ⟨rfl, rfl⟩
  | 13, _ => ⟨rfl, rfl⟩
  | 14, _ => ⟨rfl, rfl⟩
  | 15, _ => ⟨rfl, rfl⟩
  | 16, _ => ⟨rfl, rfl⟩
  | _ + 17, h => absurd h (by omega)

section
variable {w : World} {b : Nat} {C : Cfg} {sa ra ta : Option Addr} {sc rc tc : Nat}

theorem law_any (h : CfgB w b C sa ra ta sc rc tc) (he : entries (C.tab.map (·.1)) ≤ 1000000) (ht : C.tab.length ≤ 1000) (i : Nat) (hi : i < 17) (a : Nat) (ha : a < placesB C i) : Calls Try.prog (fidAt i) #[.pointer (some ⟨b, 0, none⟩), .int .i64 a] w fun e w' => e = .returned (.bool (keepB rulP C i a)) ∧ Keeps No w w' := by
  match i, hi, ha with
  | 0, _, ha => exact kp0_any h a
  | 1, _, ha => exact kp1_any h ha
  | 2, _, ha => exact kp2_any h a
  | 3, _, ha => exact kp3_any h ha
  | 4, _, ha => exact kp4_any h ha
  | 5, _, ha => exact kp5_any h ha
  | 6, _, ha => exact kp6_any h ha
  | 7, _, ha => exact kp7_any h ha
  | 8, _, ha => exact kp8_any h ha
  | 9, _, ha => exact kp9_any h ha
  | 10, _, ha => exact kp10_any h a
  | 11, _, ha => exact kp11_any h ha
  | 12, _, ha => exact kp12_any h a
  | 13, _, ha => exact kp13_any h ha
  | 14, _, ha => exact kp14_any h he ht a
  | 15, _, ha => exact kp15_any h a
  | 16, _, ha => exact kp16_any h a
  | _ + 17, h, _ => omega

set_option maxHeartbeats 2000000 in
set_option maxRecDepth 100000 in
theorem laws_any (h : CfgB w b C sa ra ta sc rc tc) : Calls Try.prog 45 #[.pointer (some ⟨b, 0, none⟩)] w fun e w' => e = .returned (.slice (some ⟨w.heap.size, 0, none⟩) 17 17) ∧ BlkL w' w.heap.size 107 (lawsL C) ∧ Keeps No w w' := by
  have c0 := h.blk.cell (o := 0) rfl
  have c1 := h.blk.cell (o := 1) rfl
  have c2 := h.blk.cell (o := 2) rfl
  clear h
  go_enter Try.func45, Try.ntmps45
  go_wp2_with fail
  simp only [List.append_eq, List.cons_append, List.nil_append]
  go_still_tail 67, (by kernel_rfl)
  all_goals
    go_wp2_with fail
    go_ret
    exact ⟨rfl, heap_alloc_new _ _, by repeat' (first | with_reducible exact Keeps.refl _ _ | with_reducible refine Keeps.drewN ?_ _ | with_reducible refine Keeps.drew ?_ | with_reducible refine Keeps.alloc ?_ _)⟩

end
end Go.Proofs.Ytaakmlgkfbpdoaa
