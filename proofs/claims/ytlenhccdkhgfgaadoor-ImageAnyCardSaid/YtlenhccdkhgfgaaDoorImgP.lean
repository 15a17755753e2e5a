/-
  What is laid is read: a configuration's bytes, read, are it.
-/
import Derived.Test.YtlenhccdkhgfgaaDoorDec4
namespace Go.Proofs.YtlenhccdkhgfgaaDoor
open Go.RowKit
set_option linter.unusedVariables false

def I32 (n : Int) : Prop := -2147483648 ≤ n ∧ n ≤ 2147483647
def By (n : Int) : Prop := 0 ≤ n ∧ n ≤ 255

theorem int32_back {n : Int} (h : I32 n) : int32Of (n / 16777216 % 256) (n / 65536 % 256) (n / 256 % 256) (n % 256) = n := by
  obtain ⟨h0, h1⟩ := h
  unfold int32Of
  split <;> omega

theorem byte_at (b : Int) (t : List Int) (k : Nat) : (RS.byte ⟨b :: t, k, 0⟩) = (b, ⟨t, k + 1, 0⟩) := rfl

theorem int_at {n : Int} (h : I32 n) (t : List Int) (k : Nat) : (RS.int ⟨int4 n ++ t, k, 0⟩) = (n, ⟨t, k + 4, 0⟩) := by
  have := int32_back h
  show (int32Of (n / 16777216 % 256) (n / 65536 % 256) (n / 256 % 256) (n % 256), _) = _
  rw [this]
  rfl

theorem flag_at (b : Bool) (t : List Int) (k : Nat) : (RS.flag ⟨flagB b :: t, k, 0⟩) = (b, ⟨t, k + 1, 0⟩) := by cases b <;> rfl

theorem rdN_back {α : Type} {f : RS → α × RS} {enc : α → List Int} : ∀ (l : List α) (t : List Int) (k : Nat), (∀ x ∈ l, ∀ t k, f ⟨enc x ++ t, k, 0⟩ = (x, ⟨t, k + (enc x).length, 0⟩)) →
    rdN f l.length ⟨l.flatMap enc ++ t, k, 0⟩ = (l, ⟨t, k + (l.flatMap enc).length, 0⟩)
  | [], t, k, _ => by simp [rdN]
  | x :: l, t, k, h => by
    have hx := h x List.mem_cons_self (l.flatMap enc ++ t) k
    have hr := rdN_back l t (k + (enc x).length) (fun y hy => h y (List.mem_cons_of_mem _ hy))
    simp only [List.length_cons, rdN, List.flatMap_cons, List.append_assoc]
    rw [hx]
    simp only [hr, List.length_append, Nat.add_assoc]

theorem rdList_back {α : Type} {f : RS → α × RS} {enc : α → List Int} (l : List α) (t : List Int) (k : Nat) (hl : l.length ≤ 255) (h : ∀ x ∈ l, ∀ t k, f ⟨enc x ++ t, k, 0⟩ = (x, ⟨t, k + (enc x).length, 0⟩)) :
    rdList f ⟨[(l.length : Int) % 256] ++ l.flatMap enc ++ t, k, 0⟩ = (l, ⟨t, k + (1 + (l.flatMap enc).length), 0⟩) := by
  unfold rdList
  have hm : ((l.length : Int) % 256).toNat = l.length := by omega
  show rdN f (((l.length : Int) % 256).toNat) ⟨l.flatMap enc ++ t, k + 1, 0⟩ = _
  rw [hm, rdN_back l t (k + 1) h, Nat.add_assoc]

structure TellsS (s : Sig) : Prop where
  mn : I32 s.mn
  mx : I32 s.mx

theorem sig_back {s : Sig} (h : TellsS s) (t : List Int) (k : Nat) : rdSig ⟨sigB s ++ t, k, 0⟩ = (s, ⟨t, k + (sigB s).length, 0⟩) := by
  unfold rdSig sigB
  simp only [List.append_assoc, int_at h.mn, int_at h.mx]
  rfl

theorem stg_back {s : Stg} (h : I32 s.wait) (t : List Int) (k : Nat) : rdStg ⟨stgB s ++ t, k, 0⟩ = (s, ⟨t, k + (stgB s).length, 0⟩) := by
  unfold rdStg stgB
  simp only [List.append_assoc, int_at h, List.cons_append, List.nil_append, byte_at]
  rfl

structure TellsR (r : Rul) : Prop where
  sig : By r.sig
  limit : I32 r.limit
  back : I32 r.back
  delay : I32 r.delay
  span : I32 r.span
  few : r.stages.length ≤ 255
  stg : ∀ s ∈ r.stages, I32 s.wait

theorem rul_back {r : Rul} (h : TellsR r) (t : List Int) (k : Nat) : rdRul ⟨rulB r ++ t, k, 0⟩ = (r, ⟨t, k + (rulB r).length, 0⟩) := by
  have hs : r.sig % 256 = r.sig := by have := h.sig.1; have := h.sig.2; omega
  have hl := rdList_back (f := rdStg) (enc := stgB) r.stages t
  have hl2 := fun k => hl k h.few (fun x hx t k => stg_back (h.stg x hx) t k)
  have hlen := rulB_len r
  have hst := len_flatten_const stgB 5 len_stgB r.stages
  rw [flatten_flatMap] at hst
  unfold rdRul ru8 ru7 ru6 ru5 ru4 ru3 ru2 ru1
  rw [hlen]
  unfold rulB
  simp only [List.append_assoc, List.cons_append, List.nil_append, byte_at, int_at h.limit, int_at h.back, int_at h.delay, int_at h.span, flag_at, hs]
  simp only [List.cons_append, List.nil_append] at hl2
  simp only [hl2, hst]
  refine Prod.ext rfl ?_
  show RS.mk _ _ _ = RS.mk _ _ _
  congr 1
  omega

theorem slot_back {l : List Int} (hl : l.length ≤ 255) (h : ∀ x ∈ l, By x) (t : List Int) (k : Nat) : rdSlot ⟨slotB l ++ t, k, 0⟩ = (l, ⟨t, k + (slotB l).length, 0⟩) := by
  have := rdList_back (f := rdNum) (enc := fun n => [n % 256]) l t k hl (fun x hx t k => by
    have hx := h x hx
    obtain ⟨h0, h1⟩ := hx
    have e : x % 256 = x := by omega
    show (x % 256, _) = _
    rw [e]; rfl)
  unfold rdSlot slotB
  rw [this]
  simp only [List.length_append, List.length_singleton]

structure Tells (C : Cfg) : Prop where
  s255 : C.sigs.length ≤ 255
  r255 : C.ruls.length ≤ 255
  t255 : C.tab.length ≤ 255
  sigs : ∀ s ∈ C.sigs, TellsS s
  ruls : ∀ r ∈ C.ruls, TellsR r.1
  tab : ∀ l ∈ C.tab, l.1.length ≤ 255 ∧ ∀ x ∈ l.1, By x
  b0 : By C.b0
  b1 : By C.b1
  b2 : By C.b2
  drain : By C.drain
  pause : I32 C.pause
  off : I32 C.off
  log : I32 C.log

theorem map_flatMap {α β γ : Type} (f : α → β) (g : β → List γ) (l : List α) : l.flatMap (fun x => g (f x)) = (l.map f).flatMap g := by
  induction l with
  | nil => rfl
  | cons x l ih => simp only [List.flatMap_cons, List.map_cons, ih]

/-- What was laid is read as it was; nothing is left. -/
theorem cfg_back {C : Cfg} (h : Tells C) : (rdCfg ⟨cfgB C, 0, 0⟩).1 = C.pure ∧ (rdCfg ⟨cfgB C, 0, 0⟩).2.l = [] ∧ (rdCfg ⟨cfgB C, 0, 0⟩).2.f = 0 := by
  have m : ∀ {n : Int}, By n → n % 256 = n := fun hn => by have := hn.1; have := hn.2; omega
  have h1 := fun t k => rdList_back (f := rdSig) (enc := sigB) C.sigs t k h.s255 (fun x hx t k => sig_back (h.sigs x hx) t k)
  have h2 := fun t k => rdList_back (f := rdRul) (enc := rulB) (C.ruls.map (·.1)) t k (by simpa using h.r255) (fun x hx t k => by
    obtain ⟨y, hy, rfl⟩ := List.mem_map.1 hx
    exact rul_back (h.ruls y hy) t k)
  have h3 := fun t k => rdList_back (f := rdSlot) (enc := slotB) (C.tab.map (·.1)) t k (by simpa using h.t255) (fun x hx t k => by
    obtain ⟨y, hy, rfl⟩ := List.mem_map.1 hx
    exact slot_back (h.tab y hy).1 (h.tab y hy).2 t k)
  simp only [List.cons_append, List.nil_append, List.length_map] at h1 h2 h3
  have e : cfgB C = 72 :: 66 :: 49 :: ((C.sigs.length : Int) % 256 :: (C.sigs.flatMap sigB ++ ((C.ruls.length : Int) % 256 :: ((C.ruls.map (·.1)).flatMap rulB ++ ((C.tab.length : Int) % 256 :: ((C.tab.map (·.1)).flatMap slotB ++ (C.b0 :: C.b1 :: C.b2 :: C.drain :: (int4 C.pause ++ (int4 C.off ++ (flagB C.brk :: (int4 C.log ++ []))))))))))) := by
    unfold cfgB
    rw [m h.b0, m h.b1, m h.b2, m h.drain, map_flatMap (fun x : Rul × Value => x.1) rulB, map_flatMap (fun x : List Int × Value => x.1) slotB]
    simp only [List.append_assoc, List.cons_append, List.nil_append, List.append_nil]
  rw [e]
  unfold rdCfg ct13 ct12 ct11 ct10 ct9 ct6 ct5 ct4 ct3
  simp only [skipB, byte_at, h1, h2, h3, int_at h.pause, int_at h.off, flag_at, int_at h.log]
  refine ⟨rfl, ?_, ?_⟩ <;> simp

end Go.Proofs.YtlenhccdkhgfgaaDoor
