/-
  The document's cell, more: Quiet.
-/
import Derived.Test.YtboalfajghkajaaCellM2
import Derived.Test.YtboalfajghkajaaTimeM
namespace Go.Proofs.Ytboalfajghkajaa
open Go.RowKit
set_option linter.unusedVariables false

/-- How long nothing came. -/
def quietD (l : List SeenD) (k now : Int) : Int := held (now - (lastE l k).elim 0 (·.at_))

section
variable {w : World} {v : Value} {l : List SeenD}

set_option maxHeartbeats 4000000 in
set_option maxRecDepth 100000 in
theorem mquiet_any (h : Sl w 5 v l.length (l.flatMap encSn)) (k now : Int) (hl : l.length ≤ 100000) (hn : I64 now) (ha : ∀ x ∈ l, I64 x.at_) :
    Calls Try.prog 31 #[v, .int .i64 k, .int .i64 now] w fun e w' => e = .returned (.int .i64 (quietD l k now)) ∧ Keeps No w w' := by
  have HL := hid (mlast_any h k hl)
  obtain ⟨ao, cap, rfl⟩ := h.any
  rcases lastI_all l k with ⟨h1, h2⟩ | ⟨i, ⟨at_, sg, sq, vl, bd⟩, h1, h2, h3, h4⟩
  · have HR : Hid (quietD l k now = held (now - 0)) := hid (by unfold quietD; rw [h2]; rfl)
    have HT := hid (fun w' => msince_any now 0 w' hn ⟨by omega, by omega⟩)
    rw [h1] at HL
    obtain ⟨N, hN⟩ : ∃ N, l.length = N := ⟨_, rfl⟩
    rw [hN] at HL ⊢
    clear h h1 h2 hl hN hn ha
    go_enter Try.func31, Try.ntmps31
    go_wp2_with fail
    refine HL.out.mono ?_
    rintro e w1 ⟨rfl, k1⟩
    have K1 := hid k1
    clear k1 HL
    go_wp2_with fail
    refine (HT.out _).mono ?_
    rintro e w2 ⟨rfl, rfl⟩
    go_wp2_with fail
    go_ret
    rw [HR.out]
    exact ⟨by rw [Int.sub_zero]; rfl, K1.out⟩
  · have hx : l[i] = ⟨at_, sg, sq, vl, bd⟩ := by rw [List.getElem?_eq_getElem h2] at h3; exact Option.some.inj h3
    have hat : I64 at_ := ha ⟨at_, sg, sq, vl, bd⟩ (by rw [← hx]; exact List.getElem_mem h2)
    have HR : Hid (quietD l k now = held (now - at_)) := hid (by unfold quietD; rw [h4]; rfl)
    have HT := hid (fun w' => msince_any now at_ w' hn hat)
    obtain ⟨g, off, rfl, _, hc⟩ := Sl.itemC (enc := encSn) (size := 5) (fun _ => rfl) (by decide) h h2 hx
    have HC := hid (hc 0 _ rfl)
    rw [h1] at HL
    obtain ⟨N, hN⟩ : ∃ N, l.length = N := ⟨_, rfl⟩
    rw [hN] at HL h2 ⊢
    have hd : decide ((i : Int) < 0) = false := decide_eq_false (by omega)
    clear h h1 hl hN hx h3 h4 hc hn ha hat
    go_enter Try.func31, Try.ntmps31
    go_wp2_with fail
    refine HL.out.mono ?_
    rintro e w1 ⟨rfl, k1⟩
    have K1 := hid k1
    have c0 := k1.cell (fun h => h) HC.out
    simp only [Nat.add_zero] at c0
    clear k1 HL
    go_wp2_with fail
    refine (HT.out _).mono ?_
    rintro e w2 ⟨rfl, rfl⟩
    go_wp2_with fail
    go_ret
    rw [HR.out]
    exact ⟨rfl, K1.out⟩

end

end Go.Proofs.Ytboalfajghkajaa
