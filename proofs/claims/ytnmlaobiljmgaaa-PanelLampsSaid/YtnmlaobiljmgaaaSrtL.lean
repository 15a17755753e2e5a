/-
  Lamps put in order: the library's sort by the program's comparison.
-/
import Derived.Test.YtnmlaobiljmgaaaSrtL0
import Derived.Test.YtnmlaobiljmgaaaOrd
import Derived.Test.YtnmlaobiljmgaaaPanM
namespace Go.Proofs.Ytnmlaobiljmgaaa
open Go.RowKit Go.Sort Go.Shelf
set_option linter.unusedVariables false

instance : Inhabited LampD := ⟨LampD.zero⟩

theorem flat_at (d : Array LampD) (j : Nat) (hj : j < d.size * 5) : (d.toList.flatMap encLa)[j]? = some (flatK encLa 5 d)[j]! := by
  rw [get_flatK _ _ _ _ hj]
  have hp : j / 5 < d.toList.length := by rw [Array.length_toList]; omega
  have hr : j % 5 < 5 := Nat.mod_lt _ (by decide)
  have hjj : j / 5 * 5 + j % 5 = j := by omega
  have h := getElem?_flatMap_enc (size := 5) (enc := encLa) (fun _ => rfl) d.toList (j / 5) (j % 5) hr hp
  rw [hjj] at h
  rw [h]
  have e : d.toList[j / 5] = d[j / 5]! := by
    rw [Array.getElem_toList, getElem!_pos d (j / 5) (by simpa using hp)]
  rw [e]
  have hl : j % 5 < (encLa d[j / 5]!).length := by show j % 5 < 5; exact hr
  rw [List.getElem?_eq_getElem hl, getElem!_pos (encLa d[j / 5]!) (j % 5) hl]

theorem holds_own {w : World} {base g n cap : Nat} {d : Array LampD} (h : w.ownsRow base 77 5 (.slice (some ⟨g, 0, none⟩) n cap) n (d.toList.flatMap encLa)) (hn : d.size = n) : HoldsK encLa 5 w g 0 d := by
  intro j hj
  rw [size_flatK] at hj
  rw [Nat.zero_add]
  refine ⟨?_, h.frozenAt j⟩
  rw [h.cellAt j (by omega), flat_at d j hj]
  rfl

theorem keeps_sort {w : World} {blk off m : Nat} {d : Array LampD} {os : Array Obj} : Keeps (fun i => i = blk) w (sortWorldK encLa 5 w blk off m d os) := by
  refine ⟨rfl, rfl, rfl, ?_, fun k hk hs => ?_⟩
  · show w.heap.size ≤ (w.heap.modify blk _ ++ os).size
    simp
  · show (w.heap.modify blk _ ++ os)[k]? = w.heap[k]?
    rw [Array.getElem?_append_left (by simpa using hk), Array.getElem?_modify, if_neg (fun e => hs e.symm)]

theorem sl_sort {w : World} {g n cap m : Nat} {d : Array LampD} {os : Array Obj} {d0 : Array LampD} (h0 : HoldsK encLa 5 w g 0 d0) (hb : g < w.heap.size) (hs : d.size = d0.size) (hn : d.size = n) (hm : n ≤ maxLen) (hc : n ≤ cap) :
    Sl (sortWorldK encLa 5 w g 0 m d os) 5 (.slice (some ⟨g, 0, none⟩) n cap) n (d.toList.flatMap encLa) := by
  have hh := holdsK_sortWorldK encLa 5 w g 0 m d0 d os hb h0 hs
  have hk := keeps_sort (w := w) (blk := g) (off := 0) (m := m) (d := d) (os := os)
  refine ⟨by rw [length_flatMap_enc (size := 5) (enc := encLa) (fun _ => rfl), Array.length_toList, hn], hm, _, cap, rfl, hc, (fun h => by cases h), fun _ => ⟨g, 0, rfl, Nat.lt_of_lt_of_le hb hk.size, fun j u hu => ?_⟩⟩
  have hj : j < d.size * 5 := by
    have := (List.getElem?_eq_some_iff.1 hu).1
    rwa [length_flatMap_enc (size := 5) (enc := encLa) (fun _ => rfl), Array.length_toList] at this
  rw [flat_at d j hj] at hu
  have h1 := (hh j (by rw [size_flatK]; exact hj)).1
  rw [h1, ← hu]
  rfl

theorem lays_order (blk off size : Nat) (w : World) : CmpLays Try.prog 34 #[] encLa 5 cmpL blk off size w :=
  fun m os dk hs x y => order_any x.cond x.pri x.stage x.cause x.acked y.cond y.pri y.stage y.cause y.acked _

set_option maxHeartbeats 4000000 in
set_option maxRecDepth 100000 in
/-- What is new may be put in order. -/
theorem sortL_any {w : World} {v : Value} {n base : Nat} {l : List LampD} (h : w.ownsRow base 77 5 v n (l.flatMap encLa)) (hn : l.length = n) (hb : n ≤ 1000) (hu : l.Pairwise (fun a b => a.cond ≠ b.cond)) :
    Calls Try.prog 33 #[v, .func (.func 34) #[] #[]] w fun e w' => e = .returned (.tuple #[]) ∧ ∃ m, m.Perm l ∧ SortedL m ∧ Sl w' 5 v n (m.flatMap encLa) ∧ Keeps (Bl v) w w' := by
  have h1000 : 1000 ≤ maxLen := by unfold maxLen; omega
  by_cases h0 : n = 0
  · subst h0
    have hl : l = [] := List.length_eq_zero_iff.1 hn
    subst hl
    obtain ⟨ao, cap, rfl⟩ := own_any h
    refine (AnyF.slices_SortFunc_none sortLamp ao cap _ w).mono ?_
    rintro e w' ⟨rfl, rfl⟩
    exact ⟨rfl, [], List.Perm.refl _, by simp [SortedL], Sl.ofOwn h, Keeps.refl _ _⟩
  · obtain ⟨g, cap, rfl⟩ := own_some h (by omega)
    have hsz : l.toArray.size = n := by simpa using hn
    have hH := holds_own (d := l.toArray) (by simpa using h) hsz
    have hlt := h.lt g rfl
    have hcap : n ≤ cap := by
      rcases h.2 with ⟨hv, _⟩ | ⟨g', cap', cur, hv, _, _, hc, _⟩
      · cases hv
      · cases hv; exact hc
    have eg : ∀ args w, (callFunc 34 args).run Try.prog w = .ok (.enter 34 args) w := enters_of Try.func34 (by kernel_rfl) rfl
    have hcon := AnyQ.slices_SortFunc sortLamp 5 Try.isAgg77 Try.sizeOf77 encLa (fun _ => rfl) (fun x v hv => by simp [encLa] at hv; rcases hv with rfl | rfl | rfl | rfl | rfl <;> rfl) cmpL swo_cmpL 34 #[] g 0 cap l.toArray w eg (lays_order g 0 l.toArray.size w) hH hlt.2 (by rw [hsz]; omega)
    rw [hsz] at hcon
    refine Calls.mono hcon ?_
    rintro e w' ⟨rfl, d', q, os, hp, hs, rfl⟩
    have hds : d'.size = l.toArray.size := hp.1
    have hperm : d'.toList.Perm l := by
      have h2 := hp.2.2
      rw [← hsz, ← hds] at h2
      rw [Array.extract_size] at h2
      have e2 : l.toArray.extract 0 d'.size = l.toArray := by rw [hds, Array.extract_size]
      rw [e2] at h2
      exact h2
    refine ⟨rfl, d'.toList, hperm, ?_, sl_sort hH hlt.2 hds (hds.trans hsz) (by omega) hcap, keeps_sort.mono (fun k _ e => by subst e; rfl)⟩
    have hu' : d'.toList.Pairwise (fun a b => a.cond ≠ b.cond) := (hperm.pairwise_iff (fun {a b} h e => h e.symm)).2 hu
    unfold SortedL
    rw [List.pairwise_iff_getElem] at hu' ⊢
    intro i j hi hj hij
    have hne := hu' i j hi hj hij
    rw [Array.length_toList] at hi hj
    have hsij := hs i j (Nat.zero_le _) hij (by rw [← hsz, ← hds]; exact hj)
    rw [ltOf_cmpL, getElem!_pos d' j hj, getElem!_pos d' i hi] at hsij
    rw [Array.getElem_toList, Array.getElem_toList] at hne ⊢
    exact ahead_total (fun e => hne e.symm) hsij

end Go.Proofs.Ytnmlaobiljmgaaa
