/-
  What a configuration must keep, rule by rule: as the program asks it, and as the document does; the first that is broken is the same.
-/
import Derived.Test.YtaakmlgkfbpdoaaTab
namespace Go.Proofs.Ytaakmlgkfbpdoaa
open Go.RowKit

def inB (n a b : Int) : Bool := decide (a ≤ n) && decide (n ≤ b)

theorem inB_true {n a b : Int} : inB n a b = true ↔ a ≤ n ∧ n ≤ b := by simp [inB]
theorem inB_false {n a b : Int} : inB n a b = false ↔ n < a ∨ b < n := by
  unfold inB
  by_cases h1 : a ≤ n <;> by_cases h2 : n ≤ b <;> simp [h1, h2] <;> omega

def i32B (n : Int) : Bool := inB n (-2147483648) 2147483647

/-- Do stages follow one another as they must, from a priority on? -/
def stB : Int → List Stg → Bool
  | _, [] => true
  | p, s :: l => inB s.wait 1 100000 && inB s.pri p 3 && stB s.pri l

/-- .. as the document asks it. -/
def stR : Int → List Stg → Bool
  | _, [] => true
  | p, s :: l => inB s.wait 1 100000 && inB s.pri 1 3 && decide (p ≤ s.pri) && stR s.pri l

theorem stR_eq : ∀ (p : Int) (l : List Stg), 1 ≤ p → p ≤ 3 → stR p l = stB p l
  | _, [], _, _ => rfl
  | p, s :: l, h1, h3 => by
    unfold stR stB
    by_cases hw : inB s.wait 1 100000 = true
    · by_cases hp : inB s.pri p 3 = true
      · obtain ⟨ha, hb⟩ := inB_true.1 hp
        rw [hw, hp, inB_true.2 ⟨(by omega : 1 ≤ s.pri), hb⟩, decide_eq_true ha, stR_eq s.pri l (by omega) hb]
        rfl
      · have hp' : inB s.pri p 3 = false := by simpa using hp
        have : (inB s.pri 1 3 && decide (p ≤ s.pri)) = false := by
          rcases inB_false.1 hp' with h | h
          · rw [decide_eq_false (by omega), Bool.and_false]
          · rw [inB_false.2 (Or.inr h), Bool.false_and]
        rw [hp', Bool.and_assoc (inB s.wait 1 100000), this, Bool.and_false, Bool.false_and, Bool.false_and]
    · have hw' : inB s.wait 1 100000 = false := by simpa using hw
      rw [hw']; rfl

/-- A rule's own rules, 4 to 10 (numbers 3 to 9 here): as the program asks them. -/
def rulP (ns : Nat) (r : Rul) : Nat → Bool
  | 3 => inB r.kind 1 6
  | 4 => inB r.sig 0 (ns - 1)
  | 5 => i32B r.limit && i32B r.back && (if r.kind = 1 then decide (r.back ≤ r.limit) else if r.kind = 2 then decide (r.limit ≤ r.back) else if r.kind = 3 ∨ r.kind = 4 then decide (1 ≤ r.limit) && inB r.back 0 r.limit else decide (r.limit = 0) && decide (r.back = 0))
  | 6 => if r.kind = 3 ∨ r.kind = 4 ∨ r.kind = 5 then inB r.span 1 10000 else decide (r.span = 0)
  | 7 => inB r.delay 0 10000
  | 8 => inB r.pri 1 3
  | 9 => decide (r.stages.length ≤ 4) && stB r.pri r.stages
  | _ => true

/-- .. as the document asks them. -/
def rulR (ns : Nat) (r : Rul) : Nat → Bool
  | 3 => inB r.kind 1 6
  | 4 => inB r.sig 0 (ns - 1)
  | 5 => if r.kind = 1 then i32B r.limit && i32B r.back && decide (r.back ≤ r.limit) else if r.kind = 2 then i32B r.limit && i32B r.back && decide (r.limit ≤ r.back) else if r.kind = 3 ∨ r.kind = 4 then i32B r.limit && decide (1 ≤ r.limit) && inB r.back 0 r.limit else decide (r.limit = 0) && decide (r.back = 0)
  | 6 => if r.kind = 3 ∨ r.kind = 4 ∨ r.kind = 5 then inB r.span 1 10000 else decide (r.span = 0)
  | 7 => inB r.delay 0 10000
  | 8 => inB r.pri 1 3
  | 9 => stR r.pri r.stages && decide (r.stages.length ≤ 4)
  | _ => true

theorem rulP_eq (ns : Nat) (r : Rul) : ∀ i : Nat, (i = 9 → rulP ns r 8 = true) → rulP ns r i = rulR ns r i
  | 0, _ => rfl
  | 1, _ => rfl
  | 2, _ => rfl
  | 3, _ => rfl
  | 4, _ => rfl
  | 5, _ => by
    unfold rulP rulR
    by_cases h1 : r.kind = 1
    · simp only [if_pos h1]
    · by_cases h2 : r.kind = 2
      · simp only [if_neg h1, if_pos h2]
      · by_cases h3 : r.kind = 3 ∨ r.kind = 4
        · simp only [if_neg h1, if_neg h2, if_pos h3]
          by_cases hl : i32B r.limit = true
          · by_cases hb : inB r.back 0 r.limit = true
            · have := (inB_true.1 hl).2
              have hb' := inB_true.1 hb
              have : i32B r.back = true := inB_true.2 ⟨by omega, by omega⟩
              rw [this, Bool.and_true, Bool.and_assoc]
            · have : inB r.back 0 r.limit = false := by simpa using hb
              rw [this]; simp
          · have : i32B r.limit = false := by simpa using hl
            rw [this]; simp
        · simp only [if_neg h1, if_neg h2, if_neg h3]
          by_cases hl : r.limit = 0
          · by_cases hb : r.back = 0
            · rw [hl, hb]; decide
            · rw [decide_eq_false hb]; simp
          · rw [decide_eq_false hl]; simp
  | 6, _ => rfl
  | 7, _ => rfl
  | 8, _ => rfl
  | 9, h => by
    have hp := inB_true.1 (h rfl : inB r.pri 1 3 = true)
    show (decide (r.stages.length ≤ 4) && stB r.pri r.stages) = (stR r.pri r.stages && decide (r.stages.length ≤ 4))
    rw [stR_eq _ _ hp.1 hp.2, Bool.and_comm]
  | _ + 10, _ => rfl

def sigP (s : Sig) : Bool := i32B s.mn && i32B s.mx && decide (s.mn ≤ s.mx)

/-- A slot's numbers are rules', each once. -/
def slotK (n : Nat) (l : List Int) : Bool := l.all (fun x => inB x 0 (n - 1)) && decide l.Nodup

/-- What all of it must keep, number by number (0 is the chapter's first), at a place. f: a rule's own. -/
def keepB (f : Nat → Rul → Nat → Bool) (C : Cfg) (i a : Nat) : Bool :=
  match i with
  | 0 => inB C.sigs.length 1 8
  | 1 => (C.sigs[a]?).all sigP
  | 2 => inB C.ruls.length 1 32
  | 3 => (C.ruls[a]?).all (fun x => f C.sigs.length x.1 3)
  | 4 => (C.ruls[a]?).all (fun x => f C.sigs.length x.1 4)
  | 5 => (C.ruls[a]?).all (fun x => f C.sigs.length x.1 5)
  | 6 => (C.ruls[a]?).all (fun x => f C.sigs.length x.1 6)
  | 7 => (C.ruls[a]?).all (fun x => f C.sigs.length x.1 7)
  | 8 => (C.ruls[a]?).all (fun x => f C.sigs.length x.1 8)
  | 9 => (C.ruls[a]?).all (fun x => f C.sigs.length x.1 9)
  | 10 => inB C.tab.length 1 64
  | 11 => (C.tab[a]?).all (fun x => slotK C.ruls.length x.1)
  | 12 => standsB (C.tab.map (·.1)) a
  | 13 => inB (if a = 0 then C.b0 else if a = 1 then C.b1 else C.b2) 1 32
  | 14 => inB C.drain 1 64 && decide ((entries (C.tab.map (·.1)) : Int) < C.drain * C.tab.length)
  | 15 => inB C.pause 1 100000 && inB C.off 1 100000
  | 16 => inB C.log 1 256
  | _ => true

/-- At how many places it is asked. -/
def placesB (C : Cfg) (i : Nat) : Nat :=
  match i with
  | 1 => C.sigs.length
  | 3 | 4 | 5 | 6 | 7 | 8 | 9 | 12 => C.ruls.length
  | 11 => C.tab.length
  | 13 => 3
  | _ => 1

/-- n, a: the first that is broken, and where. -/
def IsFirst (f : Nat → Rul → Nat → Bool) (C : Cfg) (n a : Nat) : Prop :=
  (n = 0 ∧ a = 0 ∧ ∀ i, i < 17 → ∀ b, b < placesB C i → keepB f C i b = true) ∨
  (∃ m, n = m + 1 ∧ m < 17 ∧ a < placesB C m ∧ keepB f C m a = false ∧ (∀ b, b < a → keepB f C m b = true) ∧ ∀ i, i < m → ∀ b, b < placesB C i → keepB f C i b = true)

theorem IsFirst.only {f : Nat → Rul → Nat → Bool} {C : Cfg} {n a n' a' : Nat} (h : IsFirst f C n a) (h' : IsFirst f C n' a') : n = n' ∧ a = a' := by
  rcases h with ⟨rfl, rfl, hk⟩ | ⟨m, rfl, hm, hp, hb, hl, hk⟩
  · rcases h' with ⟨rfl, rfl, _⟩ | ⟨m', rfl, hm', hp', hb', _, _⟩
    · exact ⟨rfl, rfl⟩
    · rw [hk m' hm' a' hp'] at hb'; cases hb'
  · rcases h' with ⟨rfl, rfl, hk'⟩ | ⟨m', rfl, hm', hp', hb', hl', hk'⟩
    · rw [hk' m hm a hp] at hb; cases hb
    · rcases Nat.lt_trichotomy m m' with h | rfl | h
      · rw [hk' m h a hp] at hb; cases hb
      · rcases Nat.lt_trichotomy a a' with h | rfl | h
        · rw [hl' a h] at hb; cases hb
        · exact ⟨rfl, rfl⟩
        · rw [hl a' h] at hb'; cases hb'
      · rw [hk m' h a' hp'] at hb'; cases hb'

theorem keepB_eq (C : Cfg) {i a : Nat} (ha : a < placesB C i) (h : i = 9 → ∀ b, b < placesB C 8 → keepB rulP C 8 b = true) : keepB rulP C i a = keepB rulR C i a := by
  have hr : ∀ k, k ≠ 9 → (C.ruls[a]?).all (fun x => rulP C.sigs.length x.1 k) = (C.ruls[a]?).all (fun x => rulR C.sigs.length x.1 k) := fun k hk => by
    congr 1
    funext x
    exact rulP_eq _ _ k (fun e => absurd e hk)
  match i with
  | 0 | 1 | 2 | 10 | 11 | 12 | 13 | 14 | 15 | 16 => rfl
  | 3 => exact hr 3 (by decide)
  | 4 => exact hr 4 (by decide)
  | 5 => exact hr 5 (by decide)
  | 6 => exact hr 6 (by decide)
  | 7 => exact hr 7 (by decide)
  | 8 => exact hr 8 (by decide)
  | 9 =>
    have ha' : a < C.ruls.length := ha
    have h8 : (C.ruls[a]?).all (fun x => rulP C.sigs.length x.1 8) = true := h rfl a ha
    show (C.ruls[a]?).all _ = (C.ruls[a]?).all _
    rw [List.getElem?_eq_getElem ha'] at h8 ⊢
    exact rulP_eq C.sigs.length C.ruls[a].1 9 (fun _ => h8)
  | _ + 17 => rfl

/-- Both ways of asking tell the same first. -/
theorem IsFirst.turn {C : Cfg} {n a : Nat} (h : IsFirst rulP C n a) : IsFirst rulR C n a := by
  rcases h with ⟨rfl, rfl, hk⟩ | ⟨m, rfl, hm, hp, hb, hl, hk⟩
  · exact Or.inl ⟨rfl, rfl, fun i hi b hb => by rw [← keepB_eq C hb (fun _ b hb => hk 8 (by decide) b hb)]; exact hk i hi b hb⟩
  · refine Or.inr ⟨m, rfl, hm, hp, ?_, fun b hb => ?_, fun i hi b hb => ?_⟩
    · rw [← keepB_eq C hp (fun e b hb => hk 8 (by omega) b hb)]; exact hb
    · rw [← keepB_eq C (Nat.lt_trans hb hp) (fun e b hb => hk 8 (by omega) b hb)]; exact hl b hb
    · rw [← keepB_eq C hb (fun e b hb => hk 8 (by omega) b hb)]; exact hk i hi b hb

theorem StOk.stB : ∀ {p : Int} {l : List Stg}, StOk p l → stB p l = true
  | _, [], _ => rfl
  | p, s :: l, h => by
    show (inB s.wait 1 100000 && inB s.pri p 3 && Go.Proofs.Ytaakmlgkfbpdoaa.stB s.pri l) = true
    rw [inB_true.2 ⟨h.1, by have := h.2.1; omega⟩, inB_true.2 ⟨h.2.2.1, h.2.2.2.1⟩, StOk.stB h.2.2.2.2]; rfl

theorem RulOk.keeps {r : Rul} (h : RulOk r) (k : Nat) : rulP 3 r k = true := by
  have n := h.num
  match k with
  | 0 | 1 | 2 => rfl
  | 3 => exact inB_true.2 n.kind
  | 4 => exact inB_true.2 n.sig
  | 5 =>
    have hl : i32B r.limit = true := inB_true.2 ⟨by have := n.limit; omega, by have := n.limit; omega⟩
    have hb : i32B r.back = true := inB_true.2 ⟨by have := n.back; omega, by have := n.back; omega⟩
    unfold rulP
    simp only [hl, hb, Bool.true_and]
    by_cases h1 : r.kind = 1
    · rw [if_pos h1, decide_eq_true (n.above h1)]
    · by_cases h2 : r.kind = 2
      · rw [if_neg h1, if_pos h2, decide_eq_true (n.below h2)]
      · by_cases h3 : r.kind = 3 ∨ r.kind = 4
        · obtain ⟨x, y, z⟩ := n.rise h3
          rw [if_neg h1, if_neg h2, if_pos h3, decide_eq_true x, inB_true.2 ⟨y, z⟩]; rfl
        · obtain ⟨x, y⟩ := n.none_ (by have := n.kind; omega)
          rw [if_neg h1, if_neg h2, if_neg h3, x, y]; decide
  | 6 =>
    unfold rulP
    by_cases h3 : r.kind = 3 ∨ r.kind = 4 ∨ r.kind = 5
    · rw [if_pos h3]; exact inB_true.2 ⟨(n.span h3).1, by have := (n.span h3).2; omega⟩
    · rw [if_neg h3]; exact decide_eq_true (n.span0 (by have := n.kind; omega))
  | 7 => exact inB_true.2 ⟨n.delay.1, by have := n.delay.2; omega⟩
  | 8 => exact inB_true.2 n.pri
  | 9 =>
    show (decide (r.stages.length ≤ 4) && stB r.pri r.stages) = true
    rw [decide_eq_true h.few, h.stg.stB]; rfl
  | _ + 10 => rfl

theorem SlotOk.keeps {n : Nat} {l : List Int} (h : SlotOk n l) : slotK n l = true := by
  unfold slotK
  rw [decide_eq_true h.nodup, Bool.and_true, List.all_eq_true]
  intro x hx
  exact inB_true.2 ⟨(h.rul x hx).1, by have := (h.rul x hx).2; omega⟩

/-- What a draft tells is right. -/
theorem Made.right {C : Cfg} (h : Made C) (i : Nat) (hi : i < 17) (b : Nat) : b < placesB C i → keepB rulP C i b = true := by
  have hs : C.sigs.length = 3 := by rw [h.sigs]; rfl
  have hr : ∀ k, (C.ruls[b]?).all (fun x => rulP C.sigs.length x.1 k) = true := fun k => by
    cases e : C.ruls[b]? with
    | none => rfl
    | some x => rw [hs]; exact (h.ruls x (List.mem_of_getElem? e)).keeps k
  match i, hi with
  | 0, _ => intro _; show inB C.sigs.length 1 8 = true; rw [hs]; decide
  | 1, _ =>
    intro hb
    show (C.sigs[b]?).all sigP = true
    rw [h.sigs]
    match b with
    | 0 | 1 | 2 => decide
    | _ + 3 => rfl
  | 2, _ => intro _; exact inB_true.2 ⟨by have := h.few; omega, by have := h.few; omega⟩
  | 3, _ => intro _; exact hr 3
  | 4, _ => intro _; exact hr 4
  | 5, _ => intro _; exact hr 5
  | 6, _ => intro _; exact hr 6
  | 7, _ => intro _; exact hr 7
  | 8, _ => intro _; exact hr 8
  | 9, _ => intro _; exact hr 9
  | 10, _ => intro _; exact inB_true.2 ⟨by have := h.slots; omega, by have := h.slots; omega⟩
  | 11, _ =>
    intro _
    show (C.tab[b]?).all (fun x => slotK C.ruls.length x.1) = true
    cases e : C.tab[b]? with
    | none => rfl
    | some x => exact (h.tab x (List.mem_of_getElem? e)).keeps
  | 12, _ =>
    intro hb
    obtain ⟨x, hx, hi⟩ := h.stands b hb
    show List.any _ _ = true
    rw [List.any_eq_true]
    exact ⟨x.1, List.mem_map_of_mem hx, by simpa using hi⟩
  | 13, _ =>
    intro _
    refine inB_true.2 ?_
    have := h.b0; have := h.b1; have := h.b2
    split
    · omega
    · split <;> omega
  | 14, _ =>
    intro _
    show (inB C.drain 1 64 && decide _) = true
    rw [inB_true.2 h.drain, decide_eq_true h.room]; rfl
  | 15, _ =>
    intro _
    show (inB C.pause 1 100000 && inB C.off 1 100000) = true
    rw [inB_true.2 ⟨h.pause.1, by have := h.pause.2; omega⟩, inB_true.2 ⟨h.off.1, by have := h.off.2; omega⟩]; rfl
  | 16, _ => intro _; exact inB_true.2 ⟨h.log.1, by have := h.log.2; omega⟩
  | _ + 17, h => omega

end Go.Proofs.Ytaakmlgkfbpdoaa
