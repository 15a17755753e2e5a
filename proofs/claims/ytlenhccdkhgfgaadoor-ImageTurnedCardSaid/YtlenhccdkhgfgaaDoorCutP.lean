/-
  What was laid, cut, ends too soon: where its reading ends. And one byte that is turned is shown.
-/
import Derived.Test.YtlenhccdkhgfgaaDoorDecM
namespace Go.Proofs.YtlenhccdkhgfgaaDoor
open Go.RowKit
set_option linter.unusedVariables false

/-- A reading of what was cut, beside the one of all: it has ended too soon, or it is at the same. -/
def CutR (K : Nat) (s s' : RS) : Prop := (s'.f = 4 ∧ s'.l = [] ∧ 3 ≤ s'.k ∧ s'.k ≤ K) ∨ (s'.f = 0 ∧ s.f = 0 ∧ 3 ≤ s'.k ∧ s'.k + s'.l.length = K ∧ ∃ r, r ≠ [] ∧ s.l = s'.l ++ r)

def CutS (g : RS → RS) : Prop := ∀ K s s', CutR K s s' → (g s).f = 0 → CutR K (g s) (g s')
def StayS (g : RS → RS) : Prop := ∀ s : RS, s.f ≠ 0 → g s = s

theorem CutR.dead {K : Nat} {s t s' : RS} (h : CutR K s s') (hf : s'.f ≠ 0) : CutR K t s' := by
  rcases h with h | h
  · exact Or.inl h
  · exact absurd h.1 hf

theorem cut_byte : CutS (fun s => s.byte.2) := fun K s s' h hf => by
  rcases h with ⟨h1, h2, h3, h4⟩ | ⟨h1, h0, h2, h3, r, hr, hl⟩
  · have h5 : s'.byte.2 = s' := RS.byte_stay (by omega)
    show CutR K _ s'.byte.2
    rw [h5]
    exact Or.inl ⟨h1, h2, h3, h4⟩
  · obtain ⟨l, k, f⟩ := s
    obtain ⟨l', k', f'⟩ := s'
    simp only at h0 h1 h2 h3 hl
    subst h0 h1 hl
    rcases l' with _ | ⟨b, t⟩
    · exact Or.inl ⟨rfl, rfl, h2, by show k' ≤ K; simp at h3; omega⟩
    · exact Or.inr ⟨rfl, rfl, by show 3 ≤ k' + 1; omega, by show k' + 1 + t.length = K; simp at h3; omega, r, hr, rfl⟩

theorem cut_flag : CutS (fun s => s.flag.2) := fun K s s' h hf => by
  rcases h with ⟨h1, h2, h3, h4⟩ | ⟨h1, h0, h2, h3, r, hr, hl⟩
  · have h5 : s'.flag.2 = s' := RS.flag_stay (by omega)
    show CutR K _ s'.flag.2
    rw [h5]
    exact Or.inl ⟨h1, h2, h3, h4⟩
  · obtain ⟨l, k, f⟩ := s
    obtain ⟨l', k', f'⟩ := s'
    simp only at h0 h1 h2 h3 hl
    subst h0 h1 hl
    rcases l' with _ | ⟨b, t⟩
    · exact Or.inl ⟨rfl, rfl, h2, by show k' ≤ K; simp at h3; omega⟩
    · by_cases hb : 1 < b
      · exfalso
        simp [RS.flag, hb] at hf
      · refine Or.inr ⟨?_, ?_, ?_, ?_, r, hr, ?_⟩
        all_goals simp only [RS.flag, if_true, List.cons_append, if_neg hb]
        · omega
        · simp at h3; omega

theorem cut_int : CutS (fun s => s.int.2) := fun K s s' h hf => by
  rcases h with ⟨h1, h2, h3, h4⟩ | ⟨h1, h0, h2, h3, r, hr, hl⟩
  · have h5 : s'.int.2 = s' := RS.int_stay (by omega)
    show CutR K _ s'.int.2
    rw [h5]
    exact Or.inl ⟨h1, h2, h3, h4⟩
  · obtain ⟨l, k, f⟩ := s
    obtain ⟨l', k', f'⟩ := s'
    simp only at h0 h1 h2 h3 hl
    subst h0 h1 hl
    rcases l' with _ | ⟨a, _ | ⟨b, _ | ⟨c, _ | ⟨d, t⟩⟩⟩⟩
    · exact Or.inl ⟨rfl, rfl, h2, by show k' ≤ K; simp at h3; omega⟩
    · exact Or.inl ⟨rfl, rfl, h2, by show k' ≤ K; simp at h3; omega⟩
    · exact Or.inl ⟨rfl, rfl, h2, by show k' ≤ K; simp at h3; omega⟩
    · exact Or.inl ⟨rfl, rfl, h2, by show k' ≤ K; simp at h3; omega⟩
    · exact Or.inr ⟨rfl, rfl, by show 3 ≤ k' + 4; omega, by show k' + 4 + t.length = K; simp at h3; omega, r, hr, rfl⟩

theorem stay_ok {g : RS → RS} (hg : StayS g) {s : RS} (h : (g s).f = 0) : s.f = 0 := by
  rcases Classical.em (s.f = 0) with e | e
  · exact e
  · rw [hg s e] at h; exact h

theorem cut_comp {g f : RS → RS} (hg : CutS g) (hf : CutS f) (sg : StayS g) : CutS (fun s => g (f s)) := fun K s s' h h0 => hg K _ _ (hf K s s' h (stay_ok sg h0)) h0

theorem stay_comp {g f : RS → RS} (hg : StayS g) (hf : StayS f) : StayS (fun s => g (f s)) := fun s h => by
  show g (f s) = s
  rw [hf s h, hg s h]

theorem st_byte : StayS (fun s => s.byte.2) := fun _ h => RS.byte_stay h
theorem st_int : StayS (fun s => s.int.2) := fun _ h => RS.int_stay h
theorem st_flag : StayS (fun s => s.flag.2) := fun _ h => RS.flag_stay h

theorem cut_rdN {α : Type} {f : RS → α × RS} (hc : CutS (fun s => (f s).2)) (hs : Stay f) : ∀ n, CutS (fun s => (rdN f n s).2)
  | 0 => fun K s s' h _ => h
  | n + 1 => fun K s s' h h0 => by
    have h1 : (f s).2.f = 0 := stay_ok (g := fun s => (rdN f n s).2) (fun s h => rdN_stay hs n s h) h0
    exact cut_rdN hc hs n K _ _ (hc K s s' h h1) h0

theorem byte_val {K : Nat} {s s' : RS} (h : CutR K s s') (hf : s'.byte.2.f = 0) : s'.byte.1 = s.byte.1 := by
  rcases h with ⟨h1, h2, h3, h4⟩ | ⟨h1, h0, h2, h3, r, hr, hl⟩
  · rw [RS.byte_stay (by omega)] at hf; omega
  · obtain ⟨l, k, f⟩ := s
    obtain ⟨l', k', f'⟩ := s'
    simp only at h0 h1 h2 h3 hl
    subst h0 h1 hl
    rcases l' with _ | ⟨b, t⟩
    · simp [RS.byte] at hf
    · rfl

theorem cut_rdList {α : Type} {f : RS → α × RS} (hc : CutS (fun s => (f s).2)) (hs : Stay f) : CutS (fun s => (rdList f s).2) := fun K s s' h h0 => by
  have h1 : s.byte.2.f = 0 := stay_ok (g := fun t => (rdN f s.byte.1.toNat t).2) (fun s h => rdN_stay hs _ s h) h0
  have h2 := cut_byte K s s' h h1
  show CutR K _ (rdN f s'.byte.1.toNat s'.byte.2).2
  by_cases hf : s'.byte.2.f = 0
  · rw [byte_val h hf]
    exact cut_rdN hc hs _ K _ _ h2 h0
  · rw [rdN_stay hs _ _ hf]
    exact h2.dead hf

theorem cut_sig : CutS (fun s => (rdSig s).2) := cut_comp (g := fun s => s.int.2) (f := fun s => s.int.2) cut_int cut_int st_int
theorem cut_stg : CutS (fun s => (rdStg s).2) := cut_comp (g := fun s => s.byte.2) (f := fun s => s.int.2) cut_byte cut_int st_byte
theorem cut_slot : CutS (fun s => (rdSlot s).2) := cut_rdList cut_byte num_stay
theorem cut_ru1 : CutS ru1 := cut_byte
theorem cut_ru2 : CutS ru2 := cut_comp (g := fun s => s.byte.2) (f := ru1) cut_byte cut_ru1 st_byte
theorem cut_ru3 : CutS ru3 := cut_comp (g := fun s => s.int.2) (f := ru2) cut_int cut_ru2 st_int
theorem cut_ru4 : CutS ru4 := cut_comp (g := fun s => s.int.2) (f := ru3) cut_int cut_ru3 st_int
theorem cut_ru5 : CutS ru5 := cut_comp (g := fun s => s.int.2) (f := ru4) cut_int cut_ru4 st_int
theorem cut_ru6 : CutS ru6 := cut_comp (g := fun s => s.int.2) (f := ru5) cut_int cut_ru5 st_int
theorem cut_ru7 : CutS ru7 := cut_comp (g := fun s => s.byte.2) (f := ru6) cut_byte cut_ru6 st_byte
theorem cut_ru8 : CutS ru8 := cut_comp (g := fun s => s.flag.2) (f := ru7) cut_flag cut_ru7 st_flag
theorem cut_rul : CutS (fun s => (rdRul s).2) := cut_comp (g := fun s => (rdList rdStg s).2) (f := ru8) (cut_rdList cut_stg stg_stay) cut_ru8 (fun s h => rdList_stay stg_stay s h)

/-- .. from the letters on. -/
def t1 (s : RS) : RS := (rdList rdSig s).2
def t2 (s : RS) : RS := (rdList rdRul (t1 s)).2
def t3 (s : RS) : RS := (rdList rdSlot (t2 s)).2
def t4 (s : RS) : RS := (t3 s).byte.2
def t5 (s : RS) : RS := (t4 s).byte.2
def t6 (s : RS) : RS := (t5 s).byte.2
def t7 (s : RS) : RS := (t6 s).byte.2
def t8 (s : RS) : RS := (t7 s).int.2
def t9 (s : RS) : RS := (t8 s).int.2
def t10 (s : RS) : RS := (t9 s).flag.2
def rdTail (s : RS) : RS := (t10 s).int.2

theorem rdCfg_tail (s : RS) : (rdCfg s).2 = rdTail (ct3 s) := by
  have h : ct6 s = t3 (ct3 s) := by unfold t3 t2 t1 ct6 ct5 ct4; rfl
  have h9 : ct9 s = t6 (ct3 s) := by unfold ct9 t6 t5 t4; rw [← h]; rfl
  show (ct13 s).int.2 = _
  unfold ct13 ct12 ct11 ct10 rdTail t10 t9 t8 t7
  rw [h9]

theorem cut_t1 : CutS t1 := cut_rdList cut_sig sig_stay
theorem cut_t2 : CutS t2 := cut_comp (g := fun s => (rdList rdRul s).2) (f := t1) (cut_rdList cut_rul rul_stay) cut_t1 (fun s h => rdList_stay rul_stay s h)
theorem cut_t3 : CutS t3 := cut_comp (g := fun s => (rdList rdSlot s).2) (f := t2) (cut_rdList cut_slot slot_stay) cut_t2 (fun s h => rdList_stay slot_stay s h)
theorem cut_t4 : CutS t4 := cut_comp (g := fun s => s.byte.2) (f := t3) cut_byte cut_t3 st_byte
theorem cut_t5 : CutS t5 := cut_comp (g := fun s => s.byte.2) (f := t4) cut_byte cut_t4 st_byte
theorem cut_t6 : CutS t6 := cut_comp (g := fun s => s.byte.2) (f := t5) cut_byte cut_t5 st_byte
theorem cut_t7 : CutS t7 := cut_comp (g := fun s => s.byte.2) (f := t6) cut_byte cut_t6 st_byte
theorem cut_t8 : CutS t8 := cut_comp (g := fun s => s.int.2) (f := t7) cut_int cut_t7 st_int
theorem cut_t9 : CutS t9 := cut_comp (g := fun s => s.int.2) (f := t8) cut_int cut_t8 st_int
theorem cut_t10 : CutS t10 := cut_comp (g := fun s => s.flag.2) (f := t9) cut_flag cut_t9 st_flag
theorem cut_tail : CutS rdTail := cut_comp (g := fun s => s.int.2) (f := t10) cut_int cut_t10 st_int

theorem cfgB_head (C : Cfg) : ∃ t, cfgB C = 72 :: 66 :: 49 :: t := ⟨_, by unfold cfgB; rfl⟩

/-- An image's front: it ends too soon, at a place within. -/
theorem cut_fin {C : Cfg} (hT : Tells C) {k : Nat} (h3 : 3 ≤ k) (hk : k < (cfgB C).length) : (rdCfg ⟨(cfgB C).take k, 0, 0⟩).2.fin.2 = 4 ∧ 3 ≤ (rdCfg ⟨(cfgB C).take k, 0, 0⟩).2.fin.1 ∧ (rdCfg ⟨(cfgB C).take k, 0, 0⟩).2.fin.1 ≤ k := by
  obtain ⟨_, hl, hf⟩ := cfg_back hT
  obtain ⟨t, ht⟩ := cfgB_head C
  rw [rdCfg_tail] at hl hf ⊢
  rw [ht] at hk hl hf ⊢
  obtain ⟨j, rfl⟩ : ∃ j, k = j + 3 := ⟨k - 3, by omega⟩
  have hc1 : ct3 ⟨72 :: 66 :: 49 :: t, 0, 0⟩ = ⟨t, 3, 0⟩ := rfl
  have hc2 : ct3 ⟨(72 :: 66 :: 49 :: t).take (j + 3), 0, 0⟩ = ⟨t.take j, 3, 0⟩ := rfl
  rw [hc1] at hl hf
  rw [hc2]
  simp only [List.length_cons] at hk
  have h0 : CutR (j + 3) ⟨t, 3, 0⟩ ⟨t.take j, 3, 0⟩ := Or.inr ⟨rfl, rfl, Nat.le_refl _, by show 3 + (t.take j).length = j + 3; rw [List.length_take]; omega, t.drop j, fun e => by have := congrArg List.length e; rw [List.length_drop] at this; simp at this; omega, (List.take_append_drop j t).symm⟩
  rcases cut_tail _ _ _ h0 hf with ⟨h1, h2, h4, h5⟩ | ⟨_, _, _, _, r, hr, hlr⟩
  · unfold RS.fin RS.fault
    rw [h2, h1]
    simp
    omega
  · rw [hl] at hlr
    have := congrArg List.length hlr
    simp at this
    exact absurd (List.length_eq_zero_iff.1 (by omega)) hr

theorem begins_take {C : Cfg} {k : Nat} (h3 : 3 ≤ k) : begins ((cfgB C).take k) = true := by
  obtain ⟨t, ht⟩ := cfgB_head C
  obtain ⟨j, rfl⟩ : ∃ j, k = j + 3 := ⟨k - 3, by omega⟩
  rw [ht]
  rfl

/-- What such a front, closed, is. -/
theorem cut_dec {C : Cfg} (hT : Tells C) {k : Nat} (h3 : 3 ≤ k) (hk : k < (cfgB C).length) {o : Option PCfg} {at_ c : Int}
    (h : DecS ((cfgB C).take k ++ [((mof ((cfgB C).take k)).toNat : Int) / 256, ((mof ((cfgB C).take k)).toNat : Int) % 256]) o at_ c) : c = 4 ∧ 3 ≤ at_ ∧ at_ ≤ k := by
  obtain ⟨f1, f2, f3⟩ := cut_fin hT h3 hk
  have h1 := h.long
  unfold decF at h1
  rw [if_neg (fun e => e (word_back _).symm), if_neg (by rw [begins_take h3]; decide), if_neg (by rw [f1]; decide)] at h1
  simp only [Prod.mk.injEq] at h1
  obtain ⟨_, rfl, rfl⟩ := h1
  exact ⟨f1, f2, f3⟩

/-- One byte that is turned is shown: whatever bytes, if their sum was right. -/
theorem turn_mof {p : List Int} (hp : Bytes p) (h2 : 2 ≤ p.length) {i : Nat} (hi : i < p.length) {t : Int} (ht : 0 ≤ t ∧ t ≤ 255) (h0 : t ≠ 0) : mof (p.set i (xb p[i] t)) ≠ mof p := fun e => by
  have hx := hp _ (List.getElem_mem hi)
  by_cases hl : i + 1 < p.length
  · have hy := hp _ (List.getElem_mem hl)
    have e1 : p = p.take i ++ p[i] :: p[i + 1] :: p.drop (i + 2) := by
      conv => lhs; rw [← List.take_append_drop i p, List.drop_eq_getElem_cons hi, List.drop_eq_getElem_cons hl]
    have e2 : p.set i (xb p[i] t) = p.take i ++ xb p[i] t :: xb p[i + 1] 0 :: p.drop (i + 2) := by
      have hx0 : xb p[i + 1] 0 = p[i + 1] := by unfold xb; simp; omega
      rw [hx0]
      rw [List.set_eq_take_append_cons_drop, if_pos hi, List.drop_eq_getElem_cons hl]
    rw [e2] at e
    have e3 := e.trans (congrArg mof e1)
    exact h0 (shown _ _ hx hy ht ⟨by decide, by decide⟩ e3).1
  · obtain ⟨j, rfl⟩ : ∃ j, i = j + 1 := ⟨i - 1, by omega⟩
    have hj : j < p.length := by omega
    have hy := hp _ (List.getElem_mem hj)
    have e1 : p = p.take j ++ p[j] :: p[j + 1] :: p.drop (j + 2) := by
      conv => lhs; rw [← List.take_append_drop j p, List.drop_eq_getElem_cons hj, List.drop_eq_getElem_cons hi]
    have e2 : p.set (j + 1) (xb p[j + 1] t) = p.take j ++ xb p[j] 0 :: xb p[j + 1] t :: p.drop (j + 2) := by
      have hx0 : xb p[j] 0 = p[j] := by unfold xb; simp; omega
      rw [hx0]
      rw [List.set_eq_take_append_cons_drop, if_pos hi, List.take_succ_eq_append_getElem hj, List.append_assoc]
      rfl
    rw [e2] at e
    have e3 := e.trans (congrArg mof e1)
    exact h0 (shown _ _ hy hx ⟨by decide, by decide⟩ ht e3).2

theorem set_bytes {p : List Int} (hp : Bytes p) (i : Nat) {t : Int} (ht : 0 ≤ t ∧ t ≤ 255) : Bytes (p.set i t) := fun x hx => by
  rcases List.mem_or_eq_of_mem_set hx with h | rfl
  · exact hp x h
  · exact ht

/-- An image in which a byte is turned is refused: its sum is another one. -/
theorem turn_dec {p : List Int} (hp : Bytes p) (h2 : 2 ≤ p.length) (hz : mof p = 0#16) {i : Nat} (hi : i < p.length) {t : Int} (ht : 0 ≤ t ∧ t ≤ 255) (h0 : t ≠ 0) {o : Option PCfg} {at_ c : Int}
    (h : DecS (p.set i (xb p[i] t)) o at_ c) : c = 3 := by
  have hb : Bytes (p.set i (xb p[i] t)) := set_bytes hp i (xb_byte (hp _ (List.getElem_mem hi)) ht)
  have hl : (p.set i (xb p[i] t)).length = p.length := List.length_set
  have hne := turn_mof hp h2 hi ht h0
  obtain ⟨q, hq⟩ : ∃ q, p.set i (xb p[i] t) = q := ⟨_, rfl⟩
  rw [hq] at h hb hl hne
  obtain ⟨m, a, b, rfl⟩ := last_two q (by omega)
  have h1 := h.long
  unfold decF at h1
  rw [if_pos (fun e => hne (by rw [hz]; exact (mof_right m (fun x hx => hb x (List.mem_append_right _ hx))).2 e))] at h1
  simp only [Prod.mk.injEq] at h1
  exact h1.2.2

theorem img_zero (C : Cfg) (h : Bytes (cfgB C)) : mof (imgL C) = 0#16 := by
  unfold imgL
  exact (mof_right _ (sum_bytes _)).2 (word_back _).symm

end Go.Proofs.YtlenhccdkhgfgaaDoor
