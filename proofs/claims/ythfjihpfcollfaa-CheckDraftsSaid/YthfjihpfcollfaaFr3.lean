/-
  What stands at a place: the program's look.
-/
import Derived.Test.YthfjihpfcollfaaFr2
import Derived.Lib.Bytes
namespace Go.Proofs.Ythfjihpfcollfaa
open Go.RowKit

set_option maxRecDepth 100000 in
theorem conv_sl {w : World} {v : Value} {q : List Int} (h : SlB w v q) : (convert 26 9 v).run Try.prog w = .ok (.string (strOfNums q)) w := by
  obtain ⟨h1, _, a, cap, rfl, hc, hn, hx⟩ := h
  cases a with
  | none =>
    obtain rfl := List.length_eq_zero_iff.1 (hn rfl).1
    exact run_convert_bytes_nil w 26 5 Try.underlying26 Try.underlying5 _ _ 9 Try.underlying9
  | some a =>
    rw [run_convert_bytes_string w 26 9 5 (some a) q.length cap Try.underlying26 Try.underlying5 Try.underlying9]
    have hl : (loadCells a q.length).run Try.prog w = .ok (q.map (Value.int .u8)).toArray w := by
      have := run_loadCells_list (P := Try.prog) w a (q.map (Value.int .u8)) (fun j v hj => by
        have hjl : j < q.length := by
          have := (List.getElem?_eq_some_iff.1 hj).1
          simpa using this
        obtain ⟨g, off, ha, _, hy⟩ := hx (by omega)
        simp only [Option.some.injEq] at ha
        subst ha
        rw [addr_add]
        exact hy j v hj)
      simpa using this
    rw [run_bytesToString w a q.length cap q hl, foldl_push_bytes]
    have e : (⟨ByteArray.empty.data ++ (q.map fun n => UInt8.ofNat n.toNat).toArray⟩ : ByteArray) = strOfNums q := by
      unfold strOfNums
      congr 1
      exact Array.empty_append
    rw [e]


theorem u8_eq {a : Int} (ha : 0 ≤ a ∧ a ≤ 255) (k : Nat) (hk : k < 256) : (UInt8.ofNat a.toNat = UInt8.ofNat k) ↔ a = k := by
  constructor
  · intro h
    have := congrArg UInt8.toNat h
    simp only [UInt8.toNat_ofNat'] at this
    omega
  · rintro rfl; simp

theorem str_eq1 {a : Int} (ha : 0 ≤ a ∧ a ≤ 255) : ((strOfNums [a]).toList == ((⟨#[85, 170]⟩ : ByteArray).extract 0 1).toList) = decide (a = 85) := by
  have e : ((⟨#[85, 170]⟩ : ByteArray).extract 0 1).toList = [85] := by decide +kernel
  rw [e, Lib.strOfNums_toList]
  have := u8_eq ha 85 (by omega)
  rw [Bool.eq_iff_iff]
  simpa [Lib.bytesOf] using this

theorem str_eq2 {a b : Int} (ha : 0 ≤ a ∧ a ≤ 255) (hb : 0 ≤ b ∧ b ≤ 255) : ((strOfNums [a, b]).toList == ((⟨#[85, 170]⟩ : ByteArray).extract 0 2).toList) = decide (a = 85 ∧ b = 170) := by
  have e : ((⟨#[85, 170]⟩ : ByteArray).extract 0 2).toList = [85, 170] := by decide +kernel
  rw [e, Lib.strOfNums_toList]
  have h1 := u8_eq ha 85 (by omega)
  have h2 := u8_eq hb 170 (by omega)
  rw [Bool.eq_iff_iff]
  simpa [Lib.bytesOf] using and_congr h1 h2

section
variable {w : World} {v : Value}


set_option maxHeartbeats 1000000 in
set_option maxRecDepth 100000 in
theorem slook_nil (h : SlB w v []) :
    Calls Try.prog 37 #[v] w fun e w' => e = .returned (.tuple #[.int .i64 1, .slice none 0 0]) ∧ Keeps No w w' := by
  obtain ⟨ao, cap, rfl⟩ := h.any
  have hcv : ∀ n, (convert 26 9 (.slice ao 0 cap)).run Try.prog (w.drewN n) = .ok (.string ByteArray.empty) (w.drewN n) := fun n => conv_sl (w := w.drewN n) (v := .slice ao 0 cap) (h.drewN n)
  clear h
  go_enter Try.func37, Try.ntmps37
  go_wp2_with fail
  go_quiet (fail)
  go_wp2_with fail
  go_ret2
  exact ⟨rfl, (Keeps.refl _ _).drewN _⟩

set_option maxHeartbeats 1000000 in
set_option maxRecDepth 100000 in
theorem slook_one {a : Int} (h : SlB w v [a]) (ha : 0 ≤ a ∧ a ≤ 255) :
    Calls Try.prog 37 #[v] w fun e w' => e = .returned (.tuple #[.int .i64 (if a = 85 then 1 else 0), .slice none 0 0]) ∧ Keeps No w w' := by
  obtain ⟨ao, cap, rfl⟩ := h.any
  obtain ⟨S, hS⟩ : ∃ S, strOfNums [a] = S := ⟨_, rfl⟩
  have hcv : ∀ n, (convert 26 9 (.slice ao 1 cap)).run Try.prog (w.drewN n) = .ok (.string S) (w.drewN n) := fun n => hS ▸ conv_sl (w := w.drewN n) (v := .slice ao 1 cap) (h.drewN n)
  have hcap : 1 ≤ cap := Sl.cap h
  have hE := str_eq1 ha
  rw [hS] at hE
  clear h hS
  by_cases ea : a = 85
  · rw [if_pos ea]
    rw [decide_eq_true ea] at hE
    go_enter Try.func37, Try.ntmps37
    go_wp2_with fail
    go_quiet (fail)
    go_wp2_with fail
    go_ret2
    exact ⟨rfl, (Keeps.refl _ _).drewN _⟩
  · rw [if_neg ea]
    rw [decide_eq_false ea] at hE
    go_enter Try.func37, Try.ntmps37
    go_wp2_with fail
    go_quiet (fail)
    go_wp2_with fail
    go_ret2
    exact ⟨rfl, (Keeps.refl _ _).drewN _⟩
end

end Go.Proofs.Ythfjihpfcollfaa
