/-
  Who is looked at when: the program's.
-/
import Derived.Test.YtfiijbpcaceibaaTblP
import Derived.Test.YtfiijbpcaceibaaBlk
import Derived.BigQuiet
import Derived.Lib.SliceRun
import Derived.Deep.RegionHeld3
namespace Go.Proofs.Ytfiijbpcaceibaa
open Go.RowKit
set_option linter.unusedVariables false

set_option maxHeartbeats 2000000 in
set_option maxRecDepth 100000 in
/-- A slice of the call's own, new since w, that reads l. -/
def NewI (w w' : World) (v : Value) (l : List Int) : Prop := ∃ a c, v = .slice a l.length c ∧ w'.ownsRow 0 3 1 v l.length (l.map (Value.int .i64)) ∧ ∀ b, v.ownBlock = some b → w.heap.size ≤ b

theorem NewI.nil (w w' : World) : NewI w w' (.slice none 0 0) [] := ⟨none, 0, rfl, World.ownsRow_nil _ _ _ _, fun b hb => by simp [Value.ownBlock] at hb⟩
theorem NewI.sl {w w' : World} {v : Value} {l : List Int} (h : NewI w w' v l) : SlI w' v l := by obtain ⟨a, c, rfl, h1, _⟩ := h; exact Sl.ofOwn h1
theorem NewI.back {w0 w w' : World} {v : Value} {l : List Int} (h : NewI w w' v l) (k : Keeps No w0 w) : NewI w0 w' v l := by
  obtain ⟨a, c, h1, h2, h3⟩ := h
  exact ⟨a, c, h1, h2, fun b hb => Nat.le_trans k.size (h3 b hb)⟩

set_option maxHeartbeats 4000000 in
set_option maxRecDepth 100000 in
theorem clone_any {w : World} {v : Value} {l : List Int} (h : SlI w v l) (hl : l.length ≤ 100000) :
    Calls Try.prog 20 #[v] w fun e w' => ∃ v', e = .returned v' ∧ NewI w w' v' l ∧ Keeps No w w' := by
  obtain ⟨i0, hi, hy0, hy1, hy2⟩ := info_parts info_intA
  have HI := hid hi
  have hm := h.2.1
  obtain ⟨a, c, rfl⟩ := h.any
  have HS := hid h
  have q36 : ∀ (w : World) (a : Option Addr) (n c : Nat), (binOp .eql 36 (.slice a n c) (.slice none 0 0)).run Try.prog w = .ok (.bool a.isNone) w := fun w a n c => Lib.run_eql_slice_nil w _ _ a n c 0 0 Try.underlying36
  rcases a with _ | a
  · have hz : l = [] ∧ c = 0 := by
      obtain ⟨_, _, a', c', e, _, hnone, hsome⟩ := h
      injection e with e1 e2 e3
      subst e1 e3
      obtain ⟨h1, h2⟩ := hnone rfl
      refine ⟨?_, h2⟩
      cases l with
      | nil => rfl
      | cons x t => obtain ⟨g, off, e, _⟩ := hsome (by simp); cases e
    obtain ⟨rfl, rfl⟩ := hz
    clear h hm HS hi
    go_enter Try.func20, Try.ntmps20
    go_wp2_with fail
    go_ret
    exact ⟨_, rfl, NewI.nil _ _, Keeps.refl _ _⟩
  · obtain ⟨n, hn⟩ : ∃ n, l.length = n := ⟨_, rfl⟩
    rw [hn] at hl hm
    have HN := hid hn
    have HS2 : Hid (Sl w 1 (.slice (some a) n c) n (l.map (Value.int .i64))) := hid (by rw [← hn]; exact h)
    rw [hn]
    clear h hi HS hn
    go_enter Try.func20, Try.ntmps20
    go_wp2_with (at_builtin; refine wpl_append rfl _ _ 36 rfl 3 i0 (.int .i64 0) 1 8 Try.underlying36 HI.out hy0 hy1 hy2 rfl (by decide) _ _ _ _ _ _ rfl rfl (World.ownsRow_made w #[] 0 (Nat.zero_le _) (by unfold maxLen; omega) rfl) (HS2.out.keep ((Keeps.refl No w).alloc _) (fun _ _ h => h)) (by intro u hu; simp at hu; obtain ⟨x, _, rfl⟩ := hu; rfl) ?c3 ?c4 ?_)
    case c3 => omega
    case c4 => omega
    intro v2 w8 ho2 kk2 hb2
    obtain ⟨a2, c2', rfl⟩ := own_any ho2
    have K8 : Hid (Keeps No w w8) := hid ((((Keeps.refl No w).alloc _)).trans' kk2 (fun _ _ h => h) (fun b hb e => by simp [Bl, Value.ownBlock] at e; omega))
    have HO := hid ho2
    have HB := hid hb2
    clear ho2 kk2 hb2
    go_wp2_with fail
    go_ret
    refine ⟨_, rfl, ⟨a2, c2', by rw [HN.out]; simp, ?_, ?_⟩, K8.out⟩
    · have := HO.out
      rw [HN.out]
      simpa using this
    · intro b hb
      rcases HB.out b (by simpa using hb) with h' | h'
      · simp [Value.ownBlock] at h'; omega
      · have h'' : w.heap.size + 1 ≤ b := by simpa using h'
        omega

section
variable {w : World} {sa ra ta : Option Addr} {sn sc rn rc tc : Nat} {t : List (List Int × Value)}

set_option maxHeartbeats 4000000 in
set_option maxRecDepth 100000 in
theorem tslot_any (h : TabR w (.slice ta t.length tc) t) (hL : 1 ≤ t.length) (now : Int) (hn : -9223372036854775808 ≤ now ∧ now ≤ 9223372036854775807) (hm : ∀ l ∈ t, l.1.length ≤ 100000) (i0 i1 i2 i3 i4 i5 i6 : Int) (b : Bool) :
    Calls Try.prog 12 #[cfgV (.slice sa sn sc) (.slice ra rn rc) (.slice ta t.length tc) i0 i1 i2 i3 i4 i5 b i6, .int .i64 now] w fun e w' => ∃ v, e = .returned v ∧ NewI w w' v (slotD (t.map (·.1)) now) ∧ Keeps No w w' := by
  unfold cfgV
  obtain ⟨W1, hW1⟩ : ∃ W1, W1 = w.alloc (.cells #[.slice sa sn sc, .slice ra rn rc, .slice ta t.length tc, .int .i64 i0, .int .i64 i1, .int .i64 i2, .int .i64 i3, .int .i64 i4, .int .i64 i5, .bool b, .int .i64 i6] 33) := ⟨_, rfl⟩
  have k1 : Keeps No w W1 := by rw [hW1]; exact (Keeps.refl _ _).alloc _
  have hb : BlkL W1 w.heap.size 33 [.slice sa sn sc, .slice ra rn rc, .slice ta t.length tc, .int .i64 i0, .int .i64 i1, .int .i64 i2, .int .i64 i3, .int .i64 i4, .int .i64 i5, .bool b, .int .i64 i6] := by rw [hW1]; exact heap_alloc_new w _
  have c2 : W1.cell? ⟨w.heap.size, 2, none⟩ = some (.slice ta t.length tc) := hb.cell rfl
  have H := hid (h.calm k1)
  have hl : (t.length : Int) ≤ 9223372036854775807 := by
    have := h.row.2.1
    unfold maxLen at this
    omega
  have HW1 := hid hW1.symm
  have K1 := hid k1
  clear h hW1 k1 hb
  obtain ⟨n0, n1⟩ := hn
  by_cases h1 : now < 1
  · have d1 : decide (now < 1) = true := decide_eq_true h1
    have e : slotD (t.map (·.1)) now = [] := by unfold slotD; rw [if_pos h1]
    rw [e]
    clear e
    go_enter Try.func12, Try.ntmps12
    go_upto_region 1 with fail
    rw [HW1.out]
    go_wp2_with fail
    go_ret
    exact ⟨_, rfl, NewI.nil _ _, K1.out⟩
  have d1 : decide (now < 1) = false := decide_eq_false h1
  obtain ⟨k, hk⟩ : ∃ k : Nat, (now - 1) % (t.length : Int) = k := ⟨((now - 1) % (t.length : Int)).toNat, by have := Int.emod_nonneg (now - 1) (show (t.length : Int) ≠ 0 by omega); omega⟩
  have hkL : k < t.length := by have := Int.emod_lt_of_pos (now - 1) (show 0 < (t.length : Int) by omega); omega
  have e : slotD (t.map (·.1)) now = t[k].1 := by
    unfold slotD
    rw [if_neg h1, List.length_map, hk]
    simp [hkL]
  have hml := hm _ (List.getElem_mem hkL)
  obtain ⟨g, off, la, lc, rfl, hg, hc, hs, _⟩ := TabR.at H.out hkL
  rw [e]
  obtain ⟨l, hle⟩ : ∃ l, t[k].1 = l := ⟨_, rfl⟩
  rw [hle] at hc hs hml ⊢
  have HS := hid hs
  have HML := hid hml
  obtain ⟨L, hLL⟩ : ∃ L, t.length = L := ⟨_, rfl⟩
  have hw1 : IntKind.i64.wrap (now - 1) = now - 1 := by simp only [IntKind.wrap_i64]; omega
  have htm : (now - 1).tmod (L : Int) = (k : Int) := by rw [Int.tmod_eq_emod_of_nonneg (by omega), ← hLL, hk]
  have hwk : IntKind.i64.wrap (k : Int) = (k : Int) := by simp only [IntKind.wrap_i64]; omega
  have hz : ¬ ((L : Int) = 0) := by omega
  have hz2 : ((L : Int) == 0) = false := by simpa using hz
  have hz3 : ¬ (L = 0) := by omega
  have hz4 : (L == 0) = false := by simpa using hz3
  have HLL := hid hLL
  have HW2 : Hid (w.alloc (.cells #[.slice sa sn sc, .slice ra rn rc, .slice (some ⟨g, off, none⟩) t.length tc, .int .i64 i0, .int .i64 i1, .int .i64 i2, .int .i64 i3, .int .i64 i4, .int .i64 i5, .bool b, .int .i64 i6] 33) = W1) := HW1
  rw [hLL] at c2 hl hkL hL ⊢
  rw [hLL] at HW2
  clear HW1
  clear hk e hle hs hml hm hLL
  have k9 : (k : Int) ≤ 9223372036854775807 := by omega
  go_enter Try.func12, Try.ntmps12
  go_upto_region 1 with fail
  rw [HW2.out]
  go_upto_region 4 with fail
  first | go_region_held3 (fun w' => w'.cell? ⟨w.heap.size, 2, none⟩ = some (.slice (some ⟨g, off, none⟩) L tc) ∧ w'.cell? ⟨g, off + k, none⟩ = some (.slice la l.length lc)) (first | with_reducible exact ⟨c2, hc⟩ | with_reducible exact ⟨cellDr c2, cellDr hc⟩ | (go_keep; done)) (first | (go_at_call 20; (with_reducible refine (clone_any (HS.out.keep (S := No) (w' := _) (by repeat' (first | with_reducible exact Keeps.refl _ _ | with_reducible assumption | with_reducible refine Keeps.drewN ?_ _ | with_reducible refine Keeps.drew ?_ | with_reducible refine Keeps.alloc ?_ _)) (fun _ _ h => h)) HML.out).mono ?_); rintro e w2 ⟨v', rfl, hv, kp⟩; have kk : Keeps No W1 w2 := Keeps.trans (by repeat' (first | with_reducible exact Keeps.refl _ _ | with_reducible assumption | with_reducible refine Keeps.drewN ?_ _ | with_reducible refine Keeps.drew ?_ | with_reducible refine Keeps.alloc ?_ _)) kp; have hsz : W1.heap.size ≤ W1.heap.size := Nat.le_refl _; have HV := hid (NewI.back (w0 := w) hv (Keeps.trans K1.out (by repeat' (first | with_reducible exact Keeps.refl _ _ | with_reducible assumption | with_reducible refine Keeps.drewN ?_ _ | with_reducible refine Keeps.drew ?_ | with_reducible refine Keeps.alloc ?_ _)))); have K2 := hid (K1.out.trans kk); have c2 := kk.cell (fun h => h) c2; have hc := kk.cell (fun h => h) hc; clear hv kp kk hsz)) | fail
  go_wp2_with fail
  go_ret
  exact ⟨_, rfl, HV.out, K2.out⟩

end
end Go.Proofs.Ytfiijbpcaceibaa
