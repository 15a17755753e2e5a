/-
  The store: all that the laws ask of it.
-/
import Derived.Test.YtboalfajghkajaaCellS4
namespace Go.Proofs.Ytboalfajghkajaa
open Go.RowKit
set_option linter.unusedVariables false

section
variable {w : World} {p : Value} {k : Int}
set_option maxHeartbeats 1000000 in
set_option maxRecDepth 100000 in
theorem cvalue_none (hof : Calls Try.prog 20 #[p, .int .i64 k] w fun e w' => e = .returned (.pointer none) ∧ w = w') :
    Calls Try.prog 36 #[p, .int .i64 k] w fun e w' => e = .returned (.tuple #[.int .i64 0, .int .i64 0, .bool false]) ∧ Keeps No w w' := by
  go_enter Try.func36, Try.ntmps36
  go_wp2_with fail
  refine hof.mono ?_
  rintro e w' ⟨rfl, rfl⟩
  go_wp2_with fail
  refine bodyPost_ret (v := .tuple #[.int .i64 0, .int .i64 0, .bool false]) (by simp [results, Try.results36, go_sem]) rfl ?_
  exact ⟨rfl, Keeps.refl _ _⟩

set_option maxHeartbeats 1000000 in
set_option maxRecDepth 100000 in
theorem coldest_none (hof : Calls Try.prog 20 #[p, .int .i64 k] w fun e w' => e = .returned (.pointer none) ∧ w = w') (from_ : Int) :
    Calls Try.prog 49 #[p, .int .i64 k, .int .i64 from_] w fun e w' => e = .returned (.tuple #[.int .i64 0, .bool false]) ∧ Keeps No w w' := by
  go_enter Try.func49, Try.ntmps49
  go_wp2_with fail
  refine hof.mono ?_
  rintro e w' ⟨rfl, rfl⟩
  go_wp2_with fail
  go_ret2
  exact ⟨rfl, Keeps.refl _ _⟩

set_option maxHeartbeats 1000000 in
set_option maxRecDepth 100000 in
theorem cquiet_none (hof : Calls Try.prog 20 #[p, .int .i64 k] w fun e w' => e = .returned (.pointer none) ∧ w = w') (now : Int) (hn : I64 now) :
    Calls Try.prog 24 #[p, .int .i64 k, .int .i64 now] w fun e w' => e = .returned (.int .i64 (held now)) ∧ Keeps No w w' := by
  go_enter Try.func24, Try.ntmps24
  go_wp2_with fail
  refine hof.mono ?_
  rintro e w' ⟨rfl, rfl⟩
  go_wp2_with fail
  refine (since_any now 0 _ hn ⟨by decide, by decide⟩).mono ?_
  rintro e w' ⟨rfl, rfl⟩
  go_wp2_with fail
  go_ret
  exact ⟨rfl, Keeps.refl _ _⟩

set_option maxHeartbeats 1000000 in
set_option maxRecDepth 100000 in
theorem cbad_none (hof : Calls Try.prog 20 #[p, .int .i64 k] w fun e w' => e = .returned (.pointer none) ∧ w = w') :
    Calls Try.prog 25 #[p, .int .i64 k] w fun e w' => e = .returned (.bool false) ∧ Keeps No w w' := by
  go_enter Try.func25, Try.ntmps25
  go_wp2_with fail
  refine hof.mono ?_
  rintro e w' ⟨rfl, rfl⟩
  go_wp2_with fail
  go_ret
  exact ⟨rfl, Keeps.refl _ _⟩

set_option maxHeartbeats 1000000 in
set_option maxRecDepth 100000 in
theorem cput_none (x : SeenD) (hof : Calls Try.prog 20 #[p, .int .i64 x.sig] (w.alloc (.cells #[.int .i64 x.sig, .int .u8 x.seq, .int .i64 x.val, .bool x.bad] 39)) fun e w' => e = .returned (.pointer none) ∧ (w.alloc (.cells #[.int .i64 x.sig, .int .u8 x.seq, .int .i64 x.val, .bool x.bad] 39)) = w') :
    Calls Try.prog 12 #[p, .int .i64 x.at_, .agg #[.int .i64 x.sig, .int .u8 x.seq, .int .i64 x.val, .bool x.bad]] w fun e w' => e = .returned (.bool false) ∧ Keeps No w w' := by
  go_enter Try.func12, Try.ntmps12
  go_wp2_with fail
  refine hof.mono ?_
  rintro e w' ⟨rfl, rfl⟩
  go_wp2_with fail
  go_ret
  exact ⟨rfl, (Keeps.refl _ _).alloc _⟩

end

/-- The store at the block sb: n signals, of which the samples l came; F are the blocks that it stands in. -/
def Sto (w : World) (sb : Nat) (F : Nat → Prop) (n : Nat) (l : List SeenD) : Prop := Sto0 w sb F n l ∧ ∀ y ∈ l, I64 y.at_ ∧ takes n y = true

theorem Sto.keep {S : Nat → Prop} {w w' : World} {sb : Nat} {F : Nat → Prop} {n : Nat} {l : List SeenD} (h : Sto w sb F n l) (k : Keeps S w w') (hs : ∀ i, F i → ¬ S i) : Sto w' sb F n l := ⟨h.1.keep k hs, h.2⟩

theorem Sto.lt {w : World} {sb : Nat} {F : Nat → Prop} {n : Nat} {l : List SeenD} (h : Sto w sb F n l) : ∀ i, F i → i < w.heap.size := h.1.lt

theorem cnew_any (z : Int) (w : World) (hz : I64 z) : Calls Try.prog 11 #[.int .i64 z] w fun e w' => ∃ sb F, e = .returned (.pointer (some ⟨sb, 0, none⟩)) ∧ Sto w' sb F (clampS z) [] ∧ Keeps No w w' ∧ (∀ i, F i → w.heap.size ≤ i) :=
  (cnew0 z w hz).mono (fun e w' ⟨sb, F, h1, h2, h3, h4⟩ => ⟨sb, F, h1, ⟨h2, fun y hy => by simp at hy⟩, h3, h4⟩)

theorem good_none {l : List SeenD} {n : Nat} {k : Int} (h : ∀ y ∈ l, I64 y.at_ ∧ takes n y = true) (hk : ¬ (0 ≤ k ∧ k < n)) : goodD l k = [] ∧ lastE l k = none := by
  have hne : ∀ y ∈ l, ¬ y.sig = k := fun y hy e => by
    have h1 := (h y hy).2
    unfold takes at h1
    rw [e] at h1
    exact hk (of_decide_eq_true h1)
  constructor
  · have hg : goodAll l k = [] := by
      unfold goodAll
      rw [List.filter_eq_nil_iff]
      intro y hy
      unfold ofSig
      simp [hne y hy]
    unfold goodD
    rw [hg]; rfl
  · unfold lastE
    have : l.filter (fun x => x.sig == k) = [] := by
      rw [List.filter_eq_nil_iff]
      intro y hy
      simp [hne y hy]
    rw [this]; rfl

theorem came_i64 {l : List SeenD} {n : Nat} {k : Int} (h : ∀ y ∈ l, I64 y.at_ ∧ takes n y = true) : I64 (cameD l k) := by
  unfold cameD lastE
  cases hl : (l.filter (fun x => x.sig == k)).getLast? with
  | none => exact ⟨by decide, by decide⟩
  | some y =>
    have := List.mem_of_getLast? hl
    exact (h y (List.mem_filter.1 this).1).1

section
variable {w : World} {sb : Nat} {F : Nat → Prop} {n : Nat} {l : List SeenD}

theorem Sto.of_none (h : Sto w sb F n l) (k : Int) (hk : ¬ (0 ≤ k ∧ k < n)) : Calls Try.prog 20 #[.pointer (some ⟨sb, 0, none⟩), .int .i64 k] w fun e w' => e = .returned (.pointer none) ∧ w = w' := by
  obtain ⟨cb, h8, hb, _⟩ := h.1.sig
  exact cof_none hb h8 k hk

theorem cput_any (h : Sto w sb F n l) (x : SeenD) (hl : l.length ≤ 100) (hx : I64 x.at_) (hr : ∀ y ∈ l, y.at_ ≤ x.at_) :
    Calls Try.prog 12 #[.pointer (some ⟨sb, 0, none⟩), .int .i64 x.at_, .agg #[.int .i64 x.sig, .int .u8 x.seq, .int .i64 x.val, .bool x.bad]] w fun e w' => e = .returned (.bool (takes n x)) ∧ ∃ F', Sto w' sb F' n (if takes n x then l ++ [x] else l) ∧ Upd F w w' F' := by
  by_cases hk : 0 ≤ x.sig ∧ x.sig < n
  · have ht : takes n x = true := decide_eq_true hk
    obtain ⟨at_, sg, sq, vl, bd⟩ := x
    obtain ⟨s, rfl⟩ : ∃ s : Nat, sg = s := ⟨sg.toNat, by have := hk.1; dsimp only at this; omega⟩
    have hsn : s < n := by have := hk.2; dsimp only at this; omega
    refine (cput_ok h.1 at_ sq vl bd s hsn _ rfl).mono ?_
    rintro e w' ⟨rfl, F', h1, h2⟩
    rw [ht]
    refine ⟨rfl, F', ⟨h1, fun y hy => ?_⟩, h2⟩
    rcases List.mem_append.1 hy with hy | hy
    · exact h.2 y hy
    · rw [List.mem_singleton] at hy
      subst hy
      exact ⟨hx, ht⟩
  · have ht : takes n x = false := decide_eq_false hk
    refine (cput_none x (Sto.of_none (h.keep ((Keeps.refl No w).alloc _) (fun _ _ h => h)) x.sig hk)).mono ?_
    rintro e w' ⟨rfl, h1⟩
    rw [ht]
    exact ⟨rfl, F, h.keep h1 (fun _ _ h => h), h1.no, fun k hk => Or.inl hk⟩

theorem cvalue_any (h : Sto w sb F n l) (k : Int) :
    Calls Try.prog 36 #[.pointer (some ⟨sb, 0, none⟩), .int .i64 k] w fun e w' => e = .returned (ValueA (valueD l k)) ∧ Keeps No w w' := by
  by_cases hk : 0 ≤ k ∧ k < n
  · obtain ⟨s, rfl⟩ : ∃ s : Nat, k = s := ⟨k.toNat, by omega⟩
    exact cvalue_ok h.1 s (by omega)
  · have := cvalue_none (h.of_none k hk)
    rwa [show valueD l k = none by unfold valueD; rw [(good_none h.2 hk).1]; rfl]

theorem coldest_any (h : Sto w sb F n l) (k from_ : Int) :
    Calls Try.prog 49 #[.pointer (some ⟨sb, 0, none⟩), .int .i64 k, .int .i64 from_] w fun e w' => e = .returned (OldestA (oldestD l k from_)) ∧ Keeps No w w' := by
  by_cases hk : 0 ≤ k ∧ k < n
  · obtain ⟨s, rfl⟩ : ∃ s : Nat, k = s := ⟨k.toNat, by omega⟩
    exact coldest_ok h.1 s (by omega) from_
  · have := coldest_none (h.of_none k hk) from_
    rwa [show oldestD l k from_ = none by unfold oldestD; rw [(good_none h.2 hk).1]; rfl]

theorem cquiet_any (h : Sto w sb F n l) (k now : Int) (hn : I64 now) :
    Calls Try.prog 24 #[.pointer (some ⟨sb, 0, none⟩), .int .i64 k, .int .i64 now] w fun e w' => e = .returned (.int .i64 (quietD l k now)) ∧ Keeps No w w' := by
  by_cases hk : 0 ≤ k ∧ k < n
  · obtain ⟨s, rfl⟩ : ∃ s : Nat, k = s := ⟨k.toNat, by omega⟩
    exact cquiet_ok h.1 s (by omega) now hn (came_i64 h.2)
  · have := cquiet_none (h.of_none k hk) now hn
    rwa [show quietD l k now = held now by unfold quietD; rw [(good_none h.2 hk).2]; show held (now - 0) = held now; rw [Int.sub_zero]]

theorem cbad_any (h : Sto w sb F n l) (k : Int) :
    Calls Try.prog 25 #[.pointer (some ⟨sb, 0, none⟩), .int .i64 k] w fun e w' => e = .returned (.bool (badD l k)) ∧ Keeps No w w' := by
  by_cases hk : 0 ≤ k ∧ k < n
  · obtain ⟨s, rfl⟩ : ∃ s : Nat, k = s := ⟨k.toNat, by omega⟩
    exact cbad_ok h.1 s (by omega)
  · have := cbad_none (h.of_none k hk)
    rwa [show badD l k = false by unfold badD; rw [(good_none h.2 hk).2]; rfl]

end

/-! Of no store. -/
theorem nput_any (w : World) (x : SeenD) : Calls Try.prog 12 #[.pointer none, .int .i64 x.at_, .agg #[.int .i64 x.sig, .int .u8 x.seq, .int .i64 x.val, .bool x.bad]] w fun e w' => e = .returned (.bool false) ∧ Keeps No w w' := cput_none x (cof_nil _ _)
theorem nvalue_any (w : World) (k : Int) : Calls Try.prog 36 #[.pointer none, .int .i64 k] w fun e w' => e = .returned (ValueA none) ∧ Keeps No w w' := cvalue_none (cof_nil _ _)
theorem noldest_any (w : World) (k from_ : Int) : Calls Try.prog 49 #[.pointer none, .int .i64 k, .int .i64 from_] w fun e w' => e = .returned (OldestA none) ∧ Keeps No w w' := coldest_none (cof_nil _ _) _
theorem nquiet_any (w : World) (k now : Int) (hn : I64 now) : Calls Try.prog 24 #[.pointer none, .int .i64 k, .int .i64 now] w fun e w' => e = .returned (.int .i64 (held now)) ∧ Keeps No w w' := cquiet_none (cof_nil _ _) _ hn
theorem nbad_any (w : World) (k : Int) : Calls Try.prog 25 #[.pointer none, .int .i64 k] w fun e w' => e = .returned (.bool false) ∧ Keeps No w w' := cbad_none (cof_nil _ _)
end Go.Proofs.Ytboalfajghkajaa
