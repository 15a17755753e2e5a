/-
  What Make gives can be told by an image; how long an image is.
-/
import Derived.Test.YtlenhccdkhgfgaaDoorImgP
import Derived.Test.YtlenhccdkhgfgaaDoorMake
namespace Go.Proofs.YtlenhccdkhgfgaaDoor
open Go.RowKit
set_option linter.unusedVariables false

/-- An image's length, by what it tells. -/
theorem cfgB_len (C : Cfg) : (cfgB C).length = 22 + C.sigs.length * 8 + (C.ruls.map (fun r => 21 + r.1.stages.length * 5)).sum + C.tab.length + entries (C.tab.map (·.1)) + 1 := by
  have h1 : (C.sigs.flatMap sigB).length = C.sigs.length * 8 := by
    have : ∀ l : List Sig, (l.flatMap sigB).length = l.length * 8 := fun l => by
      induction l with
      | nil => rfl
      | cons x l ih => simp only [List.flatMap_cons, List.length_append, ih, List.length_cons]; show 8 + _ = _; omega
    exact this _
  have hst : ∀ l : List Stg, (l.flatMap stgB).length = l.length * 5 := fun l => by
    induction l with
    | nil => rfl
    | cons x l ih => simp only [List.flatMap_cons, List.length_append, ih, List.length_cons]; show 5 + _ = _; omega
  have hrl : ∀ r : Rul, (rulB r).length = 21 + r.stages.length * 5 := fun r => by
    unfold rulB
    simp only [List.length_append, List.length_singleton, hst]
    show 1 + 1 + 4 + 4 + 4 + 4 + 1 + 1 + (1 + _) = _
    omega
  have h2 : (C.ruls.flatMap (fun r => rulB r.1)).length = (C.ruls.map (fun r => 21 + r.1.stages.length * 5)).sum := by
    have : ∀ l : List (Rul × Value), (l.flatMap (fun r => rulB r.1)).length = (l.map (fun r => 21 + r.1.stages.length * 5)).sum := fun l => by
      induction l with
      | nil => rfl
      | cons x l ih => simp only [List.flatMap_cons, List.length_append, ih, List.map_cons, List.sum_cons, hrl]
    exact this _
  have hsl : ∀ l : List Int, (l.flatMap (fun n => [n % 256])).length = l.length := fun l => by
    induction l with
    | nil => rfl
    | cons x l ih => simp only [List.flatMap_cons, List.length_append, ih, List.length_cons, List.length_nil]; omega
  have h3 : (C.tab.flatMap (fun l => slotB l.1)).length = C.tab.length + entries (C.tab.map (·.1)) := by
    have : ∀ l : List (List Int × Value), (l.flatMap (fun l => slotB l.1)).length = l.length + entries (l.map (·.1)) := fun l => by
      induction l with
      | nil => rfl
      | cons x l ih =>
        simp only [List.flatMap_cons, List.length_append, ih, List.map_cons, List.length_cons]
        unfold slotB entries
        simp only [List.length_append, List.length_singleton, hsl, List.flatten_cons]
        omega
    exact this _
  unfold cfgB
  simp only [List.length_append, List.length_singleton, h1, h2, h3]
  show 3 + _ + _ + _ + 1 + 1 + 1 + 1 + 4 + 4 + 1 + 4 = _
  omega

theorem sum_le {α : Type} (f : α → Nat) (m : Nat) : ∀ l : List α, (∀ x ∈ l, f x ≤ m) → (l.map f).sum ≤ l.length * m
  | [], _ => by simp
  | x :: l, h => by
    have h1 := h x (List.mem_cons_self ..)
    have h2 := sum_le f m l (fun y hy => h y (List.mem_cons_of_mem _ hy))
    simp only [List.map_cons, List.sum_cons, List.length_cons, Nat.succ_mul]
    omega

theorem int4_bytes (n : Int) : Bytes (int4 n) := by
  intro x hx
  simp [int4] at hx
  rcases hx with rfl | rfl | rfl | rfl <;> omega

theorem Bytes.app {p q : List Int} (h : Bytes p) (k : Bytes q) : Bytes (p ++ q) := fun x hx => by
  rcases List.mem_append.1 hx with h' | h'
  · exact h x h'
  · exact k x h'

theorem Bytes.one {b : Int} (h : 0 ≤ b ∧ b ≤ 255) : Bytes [b] := fun x hx => by simp at hx; subst hx; exact h

theorem Bytes.flat {α : Type} {f : α → List Int} {l : List α} (h : ∀ x ∈ l, Bytes (f x)) : Bytes (l.flatMap f) := fun x hx => by
  obtain ⟨y, hy, hx⟩ := List.mem_flatMap.1 hx
  exact h y hy x hx

theorem mod_byte (n : Int) : 0 ≤ n % 256 ∧ n % 256 ≤ 255 := by omega

/-- The numbers of one byte that are laid as they are. -/
structure Laid (C : Cfg) : Prop where
  rul : ∀ r ∈ C.ruls, (0 ≤ r.1.kind ∧ r.1.kind ≤ 255) ∧ (0 ≤ r.1.pri ∧ r.1.pri ≤ 255) ∧ ∀ s ∈ r.1.stages, 0 ≤ s.pri ∧ s.pri ≤ 255

theorem Laid.bytes {C : Cfg} (h : Laid C) : Bytes (cfgB C) := by
  have hf : ∀ b : Bool, 0 ≤ flagB b ∧ flagB b ≤ 255 := fun b => by cases b <;> decide
  have h1 : Bytes (C.sigs.flatMap sigB) := Bytes.flat (fun s _ => (int4_bytes _).app (int4_bytes _))
  have h2 : Bytes (C.ruls.flatMap (fun r => rulB r.1)) := Bytes.flat (fun r hr => by
    obtain ⟨a, b, c⟩ := h.rul r hr
    have hs : Bytes (r.1.stages.flatMap stgB) := Bytes.flat (fun s hs => (int4_bytes _).app (Bytes.one (c s hs)))
    exact ((((((((Bytes.one a).app (Bytes.one (mod_byte _))).app (int4_bytes _)).app (int4_bytes _)).app (int4_bytes _)).app (int4_bytes _)).app (Bytes.one b)).app (Bytes.one (hf _))).app ((Bytes.one (mod_byte _)).app hs))
  have h3 : Bytes (C.tab.flatMap (fun l => slotB l.1)) := Bytes.flat (fun l _ => (Bytes.one (mod_byte _)).app (Bytes.flat (fun n _ => Bytes.one (mod_byte _))))
  have h0 : Bytes [72, 66, 49] := by intro x hx; simp at hx; omega
  exact (((((((((((h0.app ((Bytes.one (mod_byte _)).app h1)).app ((Bytes.one (mod_byte _)).app h2)).app ((Bytes.one (mod_byte _)).app h3)).app (Bytes.one (mod_byte _))).app (Bytes.one (mod_byte _))).app (Bytes.one (mod_byte _))).app (Bytes.one (mod_byte _))).app (int4_bytes _)).app (int4_bytes _)).app (Bytes.one (hf _))).app (int4_bytes _))

theorem StOk.all : ∀ {p : Int} {l : List Stg}, StOk p l → 1 ≤ p → ∀ s ∈ l, (1 ≤ s.wait ∧ s.wait ≤ 12) ∧ 1 ≤ s.pri ∧ s.pri ≤ 3
  | _, [], _, _, s, hs => by simp at hs
  | p, x :: l, h, hp, s, hs => by
    obtain ⟨h1, h2, h3, h4, h5⟩ := h
    rcases List.mem_cons.1 hs with rfl | hs
    · exact ⟨⟨h1, h2⟩, by omega, h4⟩
    · exact StOk.all h5 (by omega) s hs

theorem Made.laid {C : Cfg} (h : Made C) : Laid C := ⟨fun r hr => by
  have hk := (h.ruls r hr).num.kind
  have hp := (h.ruls r hr).num.pri
  refine ⟨by omega, by omega, fun s hs => ?_⟩
  have := ((h.ruls r hr).stg.all (by omega) s hs).2
  omega⟩

theorem Made.short {C : Cfg} (h : Made C) : (cfgB C).length ≤ 898 := by
  have h5 : C.sigs.length = 3 := by rw [h.sigs]; rfl
  have h2 := h.few
  have h3 := h.slots
  have h4 := h.room
  have hd := h.drain
  have h6 : C.drain * (C.tab.length : Int) ≤ 64 * 6 := Int.mul_le_mul (by omega) (by omega) (by omega) (by omega)
  have hs := sum_le (fun r : Rul × Value => 21 + r.1.stages.length * 5) 41 C.ruls (fun r hr => by have := (h.ruls r hr).few; show 21 + r.1.stages.length * 5 ≤ 41; omega)
  have h7 : C.ruls.length * 41 ≤ 8 * 41 := Nat.mul_le_mul_right _ h2.2
  rw [cfgB_len]
  omega

theorem nodup_few : ∀ (n : Nat) (l : List Int), l.Nodup → (∀ x ∈ l, 0 ≤ x ∧ x < n) → l.length ≤ n
  | 0, l, _, h => by
    match l with
    | [] => simp
    | x :: t => have := h x (List.mem_cons_self ..); omega
  | n + 1, l, hn, h => by
    by_cases hm : (n : Int) ∈ l
    · have h1 := nodup_few n (l.erase n) (hn.erase _) (fun x hx => by
        have h2 := h x (List.mem_of_mem_erase hx)
        have h3 : x ≠ n := fun e => by
          subst e
          exact (hn.mem_erase_iff.1 hx).1 rfl
        omega)
      have := List.length_erase_of_mem hm
      omega
    · have h1 := nodup_few n l hn (fun x hx => by
        have h2 := h x hx
        have h3 : x ≠ n := fun e => by subst e; exact hm hx
        omega)
      omega

theorem Made.entr {C : Cfg} (h : Made C) : entries (C.tab.map (·.1)) ≤ 400 := by
  have h3 := h.slots
  have h4 := h.room
  have hd := h.drain
  have h6 : C.drain * (C.tab.length : Int) ≤ 64 * 6 := Int.mul_le_mul (by omega) (by omega) (by omega) (by omega)
  omega

theorem sum_split : ∀ l : List (Rul × Value), (l.map (fun r => 21 + r.1.stages.length * 5)).sum = 20 * l.length + (l.map (fun r => 1 + 5 * r.1.stages.length)).sum
  | [] => rfl
  | x :: l => by
    have := sum_split l
    simp only [List.map_cons, List.sum_cons, List.length_cons]
    omega

theorem fits_of_short {C : Cfg} (h : (cfgB C).length ≤ 900) : Fits C := by
  unfold Fits
  rw [flatten_flatMap, flatten_flatMap]
  have h1 : (C.sigs.flatMap sigB).length = C.sigs.length * 8 := by rw [← flatten_flatMap]; exact len_flatten_const sigB 8 len_sigB _
  unfold cfgB at h
  simp only [List.length_append, List.length_singleton, h1] at h
  omega

theorem Made.tells {C : Cfg} (h : Made C) : Tells C := by
  have h5 : C.sigs.length = 3 := by rw [h.sigs]; rfl
  have h2 := h.few
  have h3 := h.slots
  have h4 := h.room
  have hd := h.drain
  have hb0 := h.b0
  have hb1 := h.b1
  have hb2 := h.b2
  have hp := h.pause
  have ho := h.off
  have hl := h.log
  have h6 : C.drain * (C.tab.length : Int) ≤ 64 * 6 := Int.mul_le_mul (by omega) (by omega) (by omega) (by omega)
  refine ⟨by omega, by omega, by omega, fun s hs => ?_, fun r hr => ?_, fun l hl => ?_, ⟨by omega, by omega⟩, ⟨by omega, by omega⟩, ⟨by omega, by omega⟩, ⟨by omega, by omega⟩, ⟨by omega, by omega⟩, ⟨by omega, by omega⟩, ⟨by omega, by omega⟩⟩
  · rw [h.sigs] at hs
    simp at hs
    rcases hs with rfl | rfl | rfl <;> exact ⟨by constructor <;> decide, by constructor <;> decide⟩
  · obtain ⟨hn, hf, hst⟩ := h.ruls r hr
    have k1 := hn.sig
    have k2 := hn.limit
    have k3 := hn.back
    have k4 := hn.delay
    have k5 := hn.pri
    have k6 : 0 ≤ r.1.span ∧ r.1.span ≤ 12 := by
      have := hn.kind
      rcases (show r.1.kind = 1 ∨ r.1.kind = 2 ∨ r.1.kind = 3 ∨ r.1.kind = 4 ∨ r.1.kind = 5 ∨ r.1.kind = 6 by omega) with e | e | e | e | e | e
      · have := hn.span0 (Or.inl e); omega
      · have := hn.span0 (Or.inr (Or.inl e)); omega
      · have := hn.span (Or.inl e); omega
      · have := hn.span (Or.inr (Or.inl e)); omega
      · have := hn.span (Or.inr (Or.inr e)); omega
      · have := hn.span0 (Or.inr (Or.inr e)); omega
    exact ⟨⟨by omega, by omega⟩, ⟨by omega, by omega⟩, ⟨by omega, by omega⟩, ⟨by omega, by omega⟩, ⟨by omega, by omega⟩, by omega, fun s hs => by have := (hst.all (by omega) s hs).1; exact ⟨by omega, by omega⟩⟩
  · have ht := h.tab l hl
    refine ⟨?_, fun x hx => ?_⟩
    · have := nodup_few _ l.1 ht.nodup ht.rul; omega
    · have := ht.rul x hx
      exact ⟨by omega, by omega⟩

end Go.Proofs.YtlenhccdkhgfgaaDoor
