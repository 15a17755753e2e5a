/-
  Together: MD1, MDec, MD3.
-/
import Derived.Test.YtlenhccdkhgfgaaDoorInM
import Derived.Test.YtlenhccdkhgfgaaDoorErr6
import Derived.Test.YtlenhccdkhgfgaaDoorSumM
import Derived.Deep.CutBlock
import Derived.Deep.DeepCutAuto
import Derived.Deep.RegionHeld3
import Derived.Test.YtlenhccdkhgfgaaDoorSame7
import Derived.Test.YtlenhccdkhgfgaaDoorImL
/-
  The document's Decode, what it is: lists that are read up to the first fault; what its walk holds.
-/
namespace Go.Proofs.YtlenhccdkhgfgaaDoor
open Go.RowKit
set_option linter.unusedVariables false

/-- Up to n, and no further than a fault. -/
def mdN {α : Type} (f : RS → α × RS) : Nat → RS → List α × RS
  | 0, s => ([], s)
  | n + 1, s => if s.f = 0 then ((f s).1 :: (mdN f n (f s).2).1, (mdN f n (f s).2).2) else ([], s)

def mdList {α : Type} (f : RS → α × RS) (s : RS) : List α × RS := mdN f s.byte.1.toNat s.byte.2

def MdRest {α : Type} (f : RS → α × RS) (n : Nat) (s : RS) (done : List α) (k : Nat) (s' : RS) : Prop := mdN f n s = (done ++ (mdN f k s').1, (mdN f k s').2)

theorem MdRest.start {α : Type} (f : RS → α × RS) (n : Nat) (s : RS) : MdRest f n s [] n s := rfl
theorem MdRest.next {α : Type} {f : RS → α × RS} {n k : Nat} {s s' : RS} {done : List α} (h : MdRest f n s done (k + 1) s') (hf : s'.f = 0) : MdRest f n s (done ++ [(f s').1]) k (f s').2 := by
  unfold MdRest at *
  rw [h]
  simp [mdN, hf]
theorem MdRest.last {α : Type} {f : RS → α × RS} {n k : Nat} {s s' : RS} {done : List α} (h : MdRest f n s done k s') (hk : ¬ (0 < k ∧ s'.f = 0)) : mdN f n s = (done, s') := by
  unfold MdRest at h
  match k, hk, h with
  | 0, _, h => simpa [mdN] using h
  | k + 1, hk, h =>
    have hf : s'.f ≠ 0 := fun e => hk ⟨Nat.succ_pos _, e⟩
    simpa [mdN, hf] using h

theorem RS.byte_stay {s : RS} (h : s.f ≠ 0) : s.byte.2 = s := by simp [RS.byte, h]
theorem RS.int_stay {s : RS} (h : s.f ≠ 0) : s.int.2 = s := by simp [RS.int, h]
theorem RS.flag_stay {s : RS} (h : s.f ≠ 0) : s.flag.2 = s := by simp [RS.flag, h]

def Stay {α : Type} (f : RS → α × RS) : Prop := ∀ s : RS, s.f ≠ 0 → (f s).2 = s

theorem rdN_stay {α : Type} {f : RS → α × RS} (hf : Stay f) : ∀ (n : Nat) (s : RS), s.f ≠ 0 → (rdN f n s).2 = s
  | 0, _, _ => rfl
  | n + 1, s, h => by
    have h1 := hf s h
    show (rdN f n (f s).2).2 = s
    rw [h1]; exact rdN_stay hf n s h

theorem rdList_stay {α : Type} {f : RS → α × RS} (hf : Stay f) : Stay (rdList f) := fun s h => by
  unfold rdList
  rw [RS.byte_stay h]; exact rdN_stay hf _ s h

theorem sig_stay : Stay rdSig := fun s h => by show s.int.2.int.2 = s; rw [RS.int_stay h, RS.int_stay h]
theorem stg_stay : Stay rdStg := fun s h => by show s.int.2.byte.2 = s; rw [RS.int_stay h, RS.byte_stay h]
theorem num_stay : Stay rdNum := fun s h => RS.byte_stay h
theorem slot_stay : Stay rdSlot := rdList_stay num_stay
theorem ru8_stay {s : RS} (h : s.f ≠ 0) : ru8 s = s := by
  unfold ru8 ru7 ru6 ru5 ru4 ru3 ru2 ru1
  simp only [RS.byte_stay h, RS.int_stay h, RS.flag_stay h]
theorem rul_stay : Stay rdRul := fun s h => by
  show (rdList rdStg (ru8 s)).2 = s
  rw [ru8_stay h]; exact rdList_stay stg_stay s h

/-- What is read up to a fault is what is read, where there is none; and it ends where that ends. -/
def Alike {α : Type} (g f : RS → α × RS) : Prop := ∀ s, (g s).2 = (f s).2 ∧ ((f s).2.f = 0 → g s = f s)

theorem Alike.refl {α : Type} (f : RS → α × RS) : Alike f f := fun _ => ⟨rfl, fun _ => rfl⟩

theorem md_rd {α : Type} {g f : RS → α × RS} (h : Alike g f) (hf : Stay f) : ∀ (n : Nat) (s : RS), (mdN g n s).2 = (rdN f n s).2 ∧ ((rdN f n s).2.f = 0 → mdN g n s = rdN f n s)
  | 0, s => ⟨rfl, fun _ => rfl⟩
  | n + 1, s => by
    by_cases hs : s.f = 0
    · obtain ⟨h1, h2⟩ := md_rd h hf n (f s).2
      obtain ⟨h3, h4⟩ := h s
      simp only [mdN, rdN, hs, if_true, h3]
      refine ⟨h1, fun h0 => ?_⟩
      have hfs : (f s).2.f = 0 := by
        rcases Classical.em ((f s).2.f = 0) with e | e
        · exact e
        · rw [rdN_stay hf n _ e] at h0; exact h0
      rw [h2 h0, h4 hfs]
    · have h1 := rdN_stay hf (n + 1) s hs
      simp only [mdN, if_neg hs]
      exact ⟨h1.symm, fun h0 => by rw [h1] at h0; exact absurd h0 hs⟩

theorem md_list {α : Type} {g f : RS → α × RS} (h : Alike g f) (hf : Stay f) : Alike (mdList g) (rdList f) := fun s => md_rd h hf _ _

def mdRul (s : RS) : Rul × RS := (⟨s.byte.1, (ru1 s).byte.1, (ru2 s).int.1, (ru3 s).int.1, (ru4 s).int.1, (ru5 s).int.1, (ru6 s).byte.1, (ru7 s).flag.1, (mdList rdStg (ru8 s)).1⟩, (mdList rdStg (ru8 s)).2)
def mdSlot (s : RS) : List Int × RS := mdList rdNum s

theorem rul_alike : Alike mdRul rdRul := fun s => by
  obtain ⟨h1, h2⟩ := md_list (Alike.refl rdStg) stg_stay (ru8 s)
  refine ⟨h1, fun h0 => ?_⟩
  unfold mdRul rdRul
  rw [h2 h0]

theorem slot_alike : Alike mdSlot rdSlot := md_list (Alike.refl rdNum) num_stay

def md4 (s : RS) : RS := (mdList rdSig s).2
def md5 (s : RS) : RS := (mdList mdRul (md4 s)).2
def md6 (s : RS) : RS := (mdList mdSlot (md5 s)).2

theorem md4_ct (s : RS) : md4 (ct3 s) = ct4 s := (md_list (Alike.refl rdSig) sig_stay (ct3 s)).1
theorem md5_ct (s : RS) : md5 (ct3 s) = ct5 s := by unfold md5; rw [md4_ct]; exact (md_list rul_alike rul_stay (ct4 s)).1
theorem md6_ct (s : RS) : md6 (ct3 s) = ct6 s := by unfold md6; rw [md5_ct]; exact (md_list slot_alike slot_stay (ct5 s)).1

theorem ct_stay {s : RS} (h : (ct6 s).f ≠ 0) : (rdCfg s).2 = ct6 s := by
  show (ct13 s).int.2 = ct6 s
  unfold ct13 ct12 ct11 ct10 ct9
  simp only [skipB]
  simp only [RS.byte_stay h, RS.int_stay h, RS.flag_stay h]

theorem ct_ok {s : RS} (h : (rdCfg s).2.f = 0) : (ct4 s).f = 0 ∧ (ct5 s).f = 0 ∧ (ct6 s).f = 0 := by
  have h6 : (ct6 s).f = 0 := by
    rcases Classical.em ((ct6 s).f = 0) with e | e
    · exact e
    · rw [ct_stay e] at h; exact h
  have h5 : (ct5 s).f = 0 := by
    rcases Classical.em ((ct5 s).f = 0) with e | e
    · exact e
    · have h1 : ct6 s = ct5 s := rdList_stay slot_stay _ e
      rw [h1] at h6; exact h6
  have h4 : (ct4 s).f = 0 := by
    rcases Classical.em ((ct4 s).f = 0) with e | e
    · exact e
    · have h1 : ct5 s = ct4 s := rdList_stay rul_stay _ e
      rw [h1] at h5; exact h5
  exact ⟨h4, h5, h6⟩

/-- What the document has read, where there was no fault. -/
theorem md_cfg {s : RS} (h : (rdCfg s).2.f = 0) : (mdList rdSig (ct3 s)).1 = (rdCfg s).1.sigs ∧ (mdList mdRul (ct4 s)).1 = (rdCfg s).1.ruls ∧ (mdList mdSlot (ct5 s)).1 = (rdCfg s).1.tab := by
  obtain ⟨h4, h5, h6⟩ := ct_ok h
  refine ⟨?_, ?_, ?_⟩
  · rw [(md_list (Alike.refl rdSig) sig_stay (ct3 s)).2 h4]; rfl
  · rw [(md_list rul_alike rul_stay (ct4 s)).2 h5]; rfl
  · rw [(md_list slot_alike slot_stay (ct5 s)).2 h6]; rfl

theorem fin_zero {s : RS} (h : s.fin.2 = 0) : s.f = 0 := by
  unfold RS.fin RS.fault at h
  split at h
  · simp at h
  · split at h
    · assumption
    · simp at h; assumption

theorem In.bytes {w : World} {mb : Nat} {F : Nat → Prop} {p : List Int} {s : RS} (h : In w mb F p s) : Bytes s.l := by
  obtain ⟨pv, h⟩ := h
  rw [h.left]
  split
  · exact fun x hx => h.byt x (List.mem_of_mem_drop hx)
  · exact fun x hx => by simp at hx

theorem In.fmb {w : World} {mb : Nat} {F : Nat → Prop} {p : List Int} {s : RS} (h : In w mb F p s) : F mb := by
  obtain ⟨pv, h⟩ := h
  exact h.mb

theorem In.fault {w : World} {mb : Nat} {F : Nat → Prop} {p : List Int} {s : RS} (h : In w mb F p s) : w.cell? ⟨mb, 2, none⟩ = some (.int .i64 s.f) := by
  obtain ⟨pv, h⟩ := h
  exact cell_at h.blk rfl

/-- A variable at block ub that is being filled out of the reader at ib; since wb, of what there was, these two alone were written. -/
structure MD (wb wr : World) (ib ub : Nat) (T : TypeId) (F : Nat → Prop) (m : List Int) (xs : List Value) (s : RS) : Prop where
  inn : In wr ib F m s
  blk : BlkL wr ub T xs
  keep : Keeps (Two ib ub) wb wr
  nf : ¬ F ub
  lt : ∀ k, F k → k < wb.heap.size
  ub : ub < wb.heap.size

section
variable {wb wr w' : World} {ib ub : Nat} {T : TypeId} {F : Nat → Prop} {m : List Int} {xs : List Value} {s s' : RS}

theorem MD.ne (h : MD wb wr ib ub T F m xs s) : ¬ ub = ib := fun e => h.nf (e ▸ h.inn.fmb)
theorem MD.ne' (h : MD wb wr ib ub T F m xs s) : ¬ ib = ub := fun e => h.ne e.symm

theorem MD.read (h : MD wb wr ib ub T F m xs s) (hi : In w' ib F m s') (k : Keeps (fun k => k = ib) wr w') : MD wb w' ib ub T F m xs s' :=
  ⟨hi, h.blk.keep k h.ne, h.keep.trans (k.mono (fun _ _ e => Or.inl e)), h.nf, h.lt, h.ub⟩

theorem MD.calm (h : MD wb wr ib ub T F m xs s) (k : Keeps No wr w') : MD wb w' ib ub T F m xs s :=
  ⟨h.inn.keep k (fun _ _ h => h), h.blk.keep k (fun h => h), h.keep.trans k.no, h.nf, h.lt, h.ub⟩

theorem MD.put (h : MD wb wr ib ub T F m xs s) (o : Nat) (v : Value) {ys : List Value} (e : xs.set o v = ys) : MD wb (wr.setCell ⟨ub, o, none⟩ v) ib ub T F m ys s :=
  ⟨h.inn.keep (S := fun k => k = ub) ((Keeps.refl _ _).at) (fun i hi e => h.nf (e ▸ hi)), h.blk.put o v e, h.keep.setCell (p := ⟨ub, o, none⟩) (Or.inr (Or.inr rfl)) v, h.nf, h.lt, h.ub⟩

theorem MD.start (hi : In wb ib F m s) (hb : BlkL wb ub T xs) (nf : ¬ F ub) (lt : ∀ k, F k → k < wb.heap.size) : MD wb wb ib ub T F m xs s := ⟨hi, hb, Keeps.refl _ _, nf, lt, hb.lt⟩

/-- A variable within, made anew: the outer one stands. -/
theorem MD.over {wi wz : World} {vb : Nat} {T' : TypeId} {ys : List Value} (h : MD wb wr ib ub T F m xs s) (k : Keeps No wr wi) (hv : wr.heap.size ≤ vb) (h' : MD wi wz ib vb T' F m ys s') : MD wb wz ib ub T F m xs s' := by
  have hs := h.keep.size
  have hu := h.ub
  refine ⟨h'.inn, (h.blk.keep k (fun h => h)).keep h'.keep (fun e => ?_), (h.keep.trans k.no).trans' h'.keep (fun _ _ h => h) (fun i hi e => ?_), h.nf, h.lt, h.ub⟩
  · rcases e with e | e
    · exact h.ne e
    · omega
  · rcases e with e | e
    · exact Or.inl e
    · omega

/-- What a row of the call's own was appended to. -/
theorem MD.app {v : Value} {w1 w2 : World} (h : MD wb wr ib ub T F m xs s) (k : Keeps No wr w1) (hv : ∀ b, v.ownBlock = some b → wb.heap.size ≤ b) (k2 : Keeps (Bl v) w1 w2) : MD wb w2 ib ub T F m xs s := by
  have hu := h.ub
  refine ⟨(h.inn.keep k (fun _ _ h => h)).keep k2 (fun i hi e => ?_), (h.blk.keep k (fun h => h)).keep k2 (fun e => ?_), (h.keep.trans k.no).trans' k2 (fun _ _ h => h) (fun i hi e => ?_), h.nf, h.lt, h.ub⟩
  · have h1 := h.lt i hi; have h2 := hv i e; omega
  · have h2 := hv ub e; omega
  · have h2 := hv i e; omega

end

theorem MD.trans {wa wb wc : World} {ib ub : Nat} {T : TypeId} {F : Nat → Prop} {m : List Int} {xs ys : List Value} {s s' : RS} (h : MD wa wb ib ub T F m xs s) (h' : MD wb wc ib ub T F m ys s') : MD wa wc ib ub T F m ys s' :=
  ⟨h'.inn, h'.blk, h.keep.trans h'.keep, h'.nf, h.lt, h.ub⟩

theorem MD.anew {wa wb : World} {ib ub : Nat} {T : TypeId} {F : Nat → Prop} {m : List Int} {xs : List Value} {s : RS} (h : MD wa wb ib ub T F m xs s) : MD wb wb ib ub T F m xs s :=
  ⟨h.inn, h.blk, Keeps.refl _ _, h.nf, fun k hk => Nat.lt_of_lt_of_le (h.lt k hk) h.keep.size, Nat.lt_of_lt_of_le h.ub h.keep.size⟩

/-- A row of the call's own stands while a variable within is filled. -/
theorem MD.row {wi wz wr : World} {ib vb : Nat} {T : TypeId} {F : Nat → Prop} {m : List Int} {ys : List Value} {s : RS} (h : MD wi wz ib vb T F m ys s) (k : Keeps No wr wi) (hv : wr.heap.size ≤ vb)
    {e : TypeId} {size n : Nat} {v : Value} {xs : List Value} (ho : wr.ownsRow 0 e size v n xs) (hi : ∀ b, v.ownBlock = some b → b ≠ ib) : wz.ownsRow 0 e size v n xs :=
  Keeps.own h.keep (Keeps.own k ho (fun _ _ h => h)) (fun b hb e => by
    have h1 := (ho.lt b hb).2
    rcases e with e | e
    · exact hi b hb e
    · omega)

/-- Items that were read, each with where its list stands: behind wb, and none in the row. -/
def ItD {α : Type} (sz : Nat) (len : α → Nat) (cells : α → List Value) (wb wr : World) (rv : Value) (done : List (α × Value)) : Prop :=
  ∀ x ∈ done, Sl wr sz x.2 (len x.1) (cells x.1) ∧ ∀ b, x.2.ownBlock = some b → wb.heap.size ≤ b ∧ b < wr.heap.size ∧ rv.ownBlock ≠ some b

section
variable {α : Type} {sz : Nat} {len : α → Nat} {cells : α → List Value} {wb wr w' w2 : World} {rv rv2 : Value} {done : List (α × Value)}

theorem ItD.nil : ItD sz len cells wb wr rv [] := fun x hx => by simp at hx

theorem ItD.keep {S : Nat → Prop} (h : ItD sz len cells wb wr rv done) (k : Keeps S wr w') (hS : ∀ b, wb.heap.size ≤ b → b < wr.heap.size → ¬ S b) : ItD sz len cells wb w' rv done := fun x hx => by
  obtain ⟨h1, h2⟩ := h x hx
  exact ⟨h1.keep k (fun b hb => hS b (h2 b hb).1 (h2 b hb).2.1), fun b hb => ⟨(h2 b hb).1, Nat.lt_of_lt_of_le (h2 b hb).2.1 k.size, (h2 b hb).2.2⟩⟩

theorem ItD.grow (h : ItD sz len cells wb wr rv done) (k : Keeps No wr w') (k2 : Keeps (Bl rv) w' w2) (hb2 : ∀ b, rv2.ownBlock = some b → rv.ownBlock = some b ∨ wr.heap.size ≤ b) : ItD sz len cells wb w2 rv2 done := fun x hx => by
  obtain ⟨h1, h2⟩ := h x hx
  refine ⟨(h1.keep k (fun _ _ h => h)).keep k2 (fun b hb e => (h2 b hb).2.2 e), fun b hb => ⟨(h2 b hb).1, Nat.lt_of_lt_of_le (h2 b hb).2.1 (Nat.le_trans k.size k2.size), fun e => ?_⟩⟩
  rcases hb2 b e with h3 | h3
  · exact (h2 b hb).2.2 h3
  · have := (h2 b hb).2.1; omega

theorem ItD.add (h : ItD sz len cells wb wr rv done) {a : α} {v : Value} (h1 : Sl wr sz v (len a) (cells a)) (h2 : ∀ b, v.ownBlock = some b → wb.heap.size ≤ b ∧ b < wr.heap.size ∧ rv.ownBlock ≠ some b) : ItD sz len cells wb wr rv (done ++ [(a, v)]) := fun x hx => by
  rcases List.mem_append.1 hx with hx | hx
  · exact h x hx
  · simp at hx; subst hx; exact ⟨h1, h2⟩

end

/-- What Decode answers. -/
def MDecPost (p : List Int) (w : World) (e : Ending) (w' : World) : Prop := ∃ (o : Option PCfg) (at_ c : Int) (cv : Value), DecS p o at_ c ∧ e = .returned (.tuple #[cv, .int .i64 at_, .int .i64 c]) ∧ CfgO w' cv o ∧ Keeps No w w'

/-- A row of the call's own has grown, and is stored into the variable. -/
theorem MD.push {wb wy w1 w2 : World} {ib ub : Nat} {T : TypeId} {F : Nat → Prop} {m : List Int} {xs xs' : List Value} {s : RS} {v v2 : Value} {e : TypeId} {size n2 : Nat} {ys : List Value} (h : MD wb wy ib ub T F m xs s) (hnw : ∀ b, v.ownBlock = some b → wb.heap.size ≤ b) (k : Keeps No wy w1)
    (ho : w2.ownsRow 0 e size v2 n2 ys) (kk : Keeps (Bl v) w1 w2) (hb2 : ∀ b, v2.ownBlock = some b → v.ownBlock = some b ∨ wy.heap.size ≤ b) (j : Nat) (hset : xs.set j v2 = xs') :
    MD wb w2 ib ub T F m xs s ∧ MD wb (w2.setCell ⟨ub, j, none⟩ v2) ib ub T F m xs' s ∧ (w2.setCell ⟨ub, j, none⟩ v2).ownsRow 0 e size v2 n2 ys ∧ (∀ b, v2.ownBlock = some b → wb.heap.size ≤ b) := by
  have h2 := h.app k hnw kk
  have hs := h.keep.size
  have hn : ∀ b, v2.ownBlock = some b → wb.heap.size ≤ b := fun b hb => by
    rcases hb2 b hb with h' | h'
    · exact hnw b h'
    · omega
  have hu := h.ub
  exact ⟨h2, h2.put j v2 hset, ownsRow_setCell_other (a := ⟨ub, j, none⟩) ho (fun e => by have := hn ub e; omega) v2, hn⟩

theorem MD.ibne {wb wr : World} {ib ub : Nat} {T : TypeId} {F : Nat → Prop} {m : List Int} {xs : List Value} {s : RS} {v : Value} (h : MD wb wr ib ub T F m xs s) (hnw : ∀ b, v.ownBlock = some b → wb.heap.size ≤ b) : ∀ b, v.ownBlock = some b → b ≠ ib := fun b hb e => by
  have h1 := hnw b hb
  have h2 := h.lt ib h.inn.fmb
  omega

theorem MD.items {α : Type} {sz : Nat} {len : α → Nat} {cells : α → List Value} {wb wr wi wz : World} {ib vb : Nat} {T : TypeId} {F : Nat → Prop} {m : List Int} {ys : List Value} {s : RS} {rv : Value} {done : List (α × Value)} (h : MD wi wz ib vb T F m ys s) (k : Keeps No wr wi) (hv : wr.heap.size ≤ vb ∨ vb < wb.heap.size) (hit : ItD sz len cells wb wr rv done) (hib : ib < wb.heap.size) : ItD sz len cells wb wz rv done :=
  hit.keep (k.no.trans h.keep) (fun b h1 h2 e => by
    rcases e with e | e
    · omega
    · omega)

theorem MD.ownk {wb wi wz : World} {ib vb : Nat} {T : TypeId} {F : Nat → Prop} {m : List Int} {ys : List Value} {s : RS} {e : TypeId} {size n : Nat} {v : Value} {xs : List Value} (h : MD wi wz ib vb T F m ys s) (ho : wi.ownsRow 0 e size v n xs) (hn : ∀ b, v.ownBlock = some b → wb.heap.size ≤ b) (hib : ib < wb.heap.size) (hvb : vb < wb.heap.size) : wz.ownsRow 0 e size v n xs :=
  Keeps.own h.keep ho (fun b hb e => by
    have h1 := hn b hb
    rcases e with e | e <;> omega)

theorem MD.slk {wi wz : World} {ib vb size n : Nat} {T : TypeId} {F : Nat → Prop} {m : List Int} {ys : List Value} {s : RS} {v : Value} {xs : List Value} (h : MD wi wz ib vb T F m ys s) (hs : Sl wi size v n xs) (hn : ∀ b, v.ownBlock = some b → vb < b) (hiv : ib < vb) : Sl wz size v n xs :=
  hs.keep h.keep (fun b hb e => by
    have h1 := hn b hb
    rcases e with e | e <;> omega)

theorem MD.ib {wi wz : World} {ib vb : Nat} {T : TypeId} {F : Nat → Prop} {m : List Int} {ys : List Value} {s : RS} (h : MD wi wz ib vb T F m ys s) : ib < wi.heap.size := h.lt ib h.inn.fmb

/-- Items as a configuration has them. -/
theorem ItD.sl {α : Type} {sz : Nat} {len : α → Nat} {cells : α → List Value} {wb wr w' : World} {rv : Value} {done : List (α × Value)} (h : ItD sz len cells wb wr rv done) {S : Nat → Prop} (k : Keeps S wr w') (hS : ∀ b, S b → b < wb.heap.size) : ∀ x ∈ done, Sl w' sz x.2 (len x.1) (cells x.1) := fun x hx => by
  obtain ⟨h1, h2⟩ := h x hx
  exact h1.keep k (fun b hb e => by have h3 := hS b e; have h4 := (h2 b hb).1; omega)

end Go.Proofs.YtlenhccdkhgfgaaDoor

/-
  The document's Decode: what any bytes are.
-/
namespace Go.Proofs.YtlenhccdkhgfgaaDoor
open Go.RowKit
set_option linter.unusedVariables false

theorem info_sigD : (Tryd.prog.info? 51).map (fun i => (i.zero, i.size, i.bytes)) = some (some (.agg #[.int .i64 0, .int .i64 0]), 2, 16) := by kernel_rfl
theorem info_stgD : (Tryd.prog.info? 57).map (fun i => (i.zero, i.size, i.bytes)) = some (some (.agg #[.int .i64 0, .int .u8 0]), 2, 16) := by kernel_rfl
theorem info_rulD : (Tryd.prog.info? 49).map (fun i => (i.zero, i.size, i.bytes)) = some (some (.agg #[.int .u8 0, .int .i64 0, .int .i64 0, .int .i64 0, .int .i64 0, .int .i64 0, .int .u8 0, .bool false, .slice none 0 0]), 9, 80) := by kernel_rfl
theorem info_intD : (Tryd.prog.info? 3).map (fun i => (i.zero, i.size, i.bytes)) = some (some (.int .i64 0), 1, 8) := by kernel_rfl
theorem info_slotD : (Tryd.prog.info? 58).map (fun i => (i.zero, i.size, i.bytes)) = some (some (.slice none 0 0), 1, 24) := by kernel_rfl

set_option maxHeartbeats 8000000 in
set_option maxRecDepth 100000 in
theorem mdecode_short {w : World} {v : Value} {p : List Int} (h : SlB w v p) (hl : p.length < 2) :
    Calls Tryd.prog 31 #[v] w fun e w' => e = .returned (.tuple #[zeroV, .int .i64 0, .int .i64 4]) ∧ Keeps No w w' := by
  obtain ⟨ao, cap, rfl⟩ := h.any
  obtain ⟨W1, hW1⟩ : ∃ W1, w.alloc (.cells #[.slice none 0 0, .slice none 0 0, .slice none 0 0, .int .i64 0, .int .i64 0, .int .i64 0, .int .i64 0, .int .i64 0, .int .i64 0, .bool false, .int .i64 0] 33) = W1 := ⟨_, rfl⟩
  have k1 : Keeps No w W1 := by rw [← hW1]; exact (Keeps.refl _ _).alloc _
  have hb1 : BlkL W1 w.heap.size 33 [.slice none 0 0, .slice none 0 0, .slice none 0 0, .int .i64 0, .int .i64 0, .int .i64 0, .int .i64 0, .int .i64 0, .int .i64 0, .bool false, .int .i64 0] := by rw [← hW1]; exact heap_alloc_new w _
  have HB := hid hb1
  have HW1 := hid hW1
  have K1 := hid k1
  have HO := hid (mopen_short (h.keep k1 (fun _ _ h => h)) hl)
  unfold zeroV zeroCfg
  clear h hl hW1 k1 hb1
  go_enter Tryd.func31, Tryd.ntmps31
  go_upto_region 1 with fail
  rw [HW1.out]
  go_wp2_with fail
  refine HO.out.mono ?_
  rintro e w2 ⟨rfl, rfl⟩
  have K2 := K1
  obtain ⟨x0, x1, x2, x3, x4, x5, x6, x7, x8, x9, x10⟩ := cells11 HB.out
  obtain ⟨f0, f1, f2, f3, f4, f5, f6, f7, f8, f9, f10⟩ := frees11 HB.out
  clear HO
  go_wp2_with fail
  refine bodyPost_ret (v := .tuple #[.agg #[.slice none 0 0, .slice none 0 0, .slice none 0 0, .int .i64 0, .int .i64 0, .int .i64 0, .int .i64 0, .int .i64 0, .int .i64 0, .bool false, .int .i64 0], .int .i64 0, .int .i64 4]) (by simp [results, Tryd.results31, go_sem, x0, x1, x2, x3, x4, x5, x6, x7, x8, x9, x10]) rfl ?_
  refine ⟨rfl, ?_⟩
  have hk := K2.out
  repeat' (first | with_reducible exact hk | with_reducible refine Keeps.setCell ?_ ?_ _ | exact Or.inl (Nat.le_refl _))

set_option maxHeartbeats 8000000 in
set_option maxRecDepth 100000 in
theorem mdecode_sum {w : World} {v : Value} {p m : List Int} {a b : Int} (h : SlB w v p) (hp : p = m ++ [a, b]) (hb : Bytes (m ++ [a, b])) (hl : m.length ≤ 1000) (hne : mof m ≠ word a b) :
    Calls Tryd.prog 31 #[v] w fun e w' => e = .returned (.tuple #[zeroV, .int .i64 0, .int .i64 3]) ∧ Keeps No w w' := by
  obtain ⟨ao, cap, rfl⟩ := h.any
  obtain ⟨W1, hW1⟩ : ∃ W1, w.alloc (.cells #[.slice none 0 0, .slice none 0 0, .slice none 0 0, .int .i64 0, .int .i64 0, .int .i64 0, .int .i64 0, .int .i64 0, .int .i64 0, .bool false, .int .i64 0] 33) = W1 := ⟨_, rfl⟩
  have k1 : Keeps No w W1 := by rw [← hW1]; exact (Keeps.refl _ _).alloc _
  have hb1 : BlkL W1 w.heap.size 33 [.slice none 0 0, .slice none 0 0, .slice none 0 0, .int .i64 0, .int .i64 0, .int .i64 0, .int .i64 0, .int .i64 0, .int .i64 0, .bool false, .int .i64 0] := by rw [← hW1]; exact heap_alloc_new w _
  have HB := hid hb1
  have HW1 := hid hW1
  have K1 := hid k1
  have HO := hid (mopen_bad (by rw [← hp]; exact h.keep k1 (fun _ _ h => h)) hb hl hne)
  unfold zeroV zeroCfg
  clear h hl hW1 k1 hb1 hp hb hne
  go_enter Tryd.func31, Tryd.ntmps31
  go_upto_region 1 with fail
  rw [HW1.out]
  go_wp2_with fail
  refine HO.out.mono ?_
  rintro e w2 ⟨rfl, k2⟩
  have K2 := hid (K1.out.trans k2)
  have HB2 := hid (HB.out.keep k2 (fun h => h))
  obtain ⟨x0, x1, x2, x3, x4, x5, x6, x7, x8, x9, x10⟩ := cells11 HB2.out
  obtain ⟨f0, f1, f2, f3, f4, f5, f6, f7, f8, f9, f10⟩ := frees11 HB2.out
  clear HO k2
  go_wp2_with fail
  refine bodyPost_ret (v := .tuple #[.agg #[.slice none 0 0, .slice none 0 0, .slice none 0 0, .int .i64 0, .int .i64 0, .int .i64 0, .int .i64 0, .int .i64 0, .int .i64 0, .bool false, .int .i64 0], .int .i64 0, .int .i64 3]) (by simp [results, Tryd.results31, go_sem, x0, x1, x2, x3, x4, x5, x6, x7, x8, x9, x10]) rfl ?_
  refine ⟨rfl, ?_⟩
  have hk := K2.out
  repeat' (first | with_reducible exact hk | with_reducible refine Keeps.setCell ?_ ?_ _ | exact Or.inl (Nat.le_refl _))

set_option maxHeartbeats 8000000 in
set_option maxRecDepth 100000 in
theorem mbytes_ne {w : World} {va vb : Value} {la lb : List Int} {n : Nat} (ha : Sl w 1 va n (la.map (Value.int .u8))) (hb : Sl w 1 vb n (lb.map (Value.int .u8))) (hne : la ≠ lb) :
    Calls Tryd.prog 14 #[va, vb] w fun e w' => e = .returned (.bool false) ∧ Keeps No w w' := by
  obtain ⟨aa, ca, rfl⟩ := ha.any
  obtain ⟨ab, cb, rfl⟩ := hb.any
  have hla : la.length = n := by simpa using ha.1
  have hlb : lb.length = n := by simpa using hb.1
  have hlen := ha.2.1
  unfold maxLen at hlen
  have HA := hid ha
  have HB := hid hb
  have HLA := hid hla
  have HLB := hid hlb
  have HNE := hid hne
  clear ha hb hla hlb hne
  go_enter Tryd.func14, Tryd.ntmps14
  go_wp2
  go_loopw [5] (fun v5 wr => ∃ k : Nat, k ≤ n ∧ v5 = .int .i64 k ∧ Hid (∃ n, wr = w.drewN n) ∧ Hid (la.take k = lb.take k)) (fun v5 _ => n - (intOf v5).toNat)
  case atStart => exact ⟨0, Nat.zero_le _, rfl, hid ⟨0, rfl⟩, hid rfl⟩
  case round =>
    obtain ⟨k, hk, rfl, HN, HT⟩ := hrel
    obtain ⟨n0, rfl⟩ := HN.out
    by_cases hlt : k < n
    · have hka : k < la.length := by rw [HLA.out]; exact hlt
      have hkb : k < lb.length := by rw [HLB.out]; exact hlt
      obtain ⟨x, hx⟩ : ∃ x, la[k] = x := ⟨_, rfl⟩
      obtain ⟨y, hy⟩ : ∃ x, lb[k] = x := ⟨_, rfl⟩
      obtain ⟨ga, offa, rfl, _, hca⟩ := Sl.cellAt HA.out (j := k) (u := .int .u8 x) (by rw [List.getElem?_map, List.getElem?_eq_getElem hka, hx]; rfl)
      obtain ⟨gb, offb, rfl, _, hcb⟩ := Sl.cellAt HB.out (j := k) (u := .int .u8 y) (by rw [List.getElem?_map, List.getElem?_eq_getElem hkb, hy]; rfl)
      have HX : Hid (x = y → la.take (k + 1) = lb.take (k + 1)) := hid (fun e => by rw [List.take_succ_eq_append_getElem hka, List.take_succ_eq_append_getElem hkb, HT.out, hx, hy, e])
      clear hx hy hka hkb
      by_cases hxy : x = y
      · subst hxy
        go_wp2
        go_quiet (fail)
        go_wp2
        go_roundw
        case rel => exact ⟨k + 1, by omega, by go_num, hid ⟨_, rfl⟩, hid (by first | exact HX.out rfl | exact HX.out trivial)⟩
        case measure => simp [intOf]; omega
      · have hq : (x == y) = false := by simpa using hxy
        have hq2 : (x != y) = true := by simpa using hxy
        clear hxy
        go_wp2
        go_quiet (fail)
        go_wp2
        go_ret
        exact ⟨rfl, ((Keeps.refl _ _).drewN _).drewN _⟩
    · exfalso
      have e := HT.out
      rw [List.take_of_length_le (by rw [HLA.out]; omega), List.take_of_length_le (by rw [HLB.out]; omega)] at e
      exact HNE.out e

set_option maxHeartbeats 8000000 in
set_option maxRecDepth 100000 in
theorem mdecode_form0 {w : World} {v : Value} {p m : List Int} {a b : Int} (h : SlB w v p) (hp : p = m ++ [a, b]) (hb : Bytes (m ++ [a, b])) (hl : m.length ≤ 1000) (he : mof m = word a b) (h3 : m.length < 3) :
    Calls Tryd.prog 31 #[v] w fun e w' => e = .returned (.tuple #[zeroV, .int .i64 0, .int .i64 2]) ∧ Keeps No w w' := by
  obtain ⟨ao, cap, rfl⟩ := h.any
  obtain ⟨W1, hW1⟩ : ∃ W1, w.alloc (.cells #[.slice none 0 0, .slice none 0 0, .slice none 0 0, .int .i64 0, .int .i64 0, .int .i64 0, .int .i64 0, .int .i64 0, .int .i64 0, .bool false, .int .i64 0] 33) = W1 := ⟨_, rfl⟩
  have k1 : Keeps No w W1 := by rw [← hW1]; exact (Keeps.refl _ _).alloc _
  have hb1 : BlkL W1 w.heap.size 33 [.slice none 0 0, .slice none 0 0, .slice none 0 0, .int .i64 0, .int .i64 0, .int .i64 0, .int .i64 0, .int .i64 0, .int .i64 0, .bool false, .int .i64 0] := by rw [← hW1]; exact heap_alloc_new w _
  have HB := hid hb1
  have HW1 := hid hW1
  have K1 := hid k1
  have hk := h.keep k1 (fun _ _ h => h)
  have ho := mopen_ok (m := m) (a := a) (b := b) (ao := ao) (cap := cap) (w := W1) (by rw [← hp]; exact hk) hb hl he
  rw [← hp] at ho
  have hm := SlB.front (m := m) (t := [a, b]) (a := ao) (cap := cap) (w := W1) (by rw [← hp]; exact hk)
  have HO := hid ho
  have HM := hid hm
  unfold zeroV zeroCfg
  clear h hW1 k1 hb1 hb he hk ho hm hp
  go_enter Tryd.func31, Tryd.ntmps31
  go_upto_region 1 with fail
  rw [HW1.out]
  go_wp2_with fail
  refine HO.out.mono ?_
  rintro e w2 ⟨rfl, k2⟩
  have K2 := hid (K1.out.trans k2)
  have HB2 := hid (HB.out.keep k2 (fun h => h))
  have HM2 := hid (HM.out.keep k2 (fun _ _ h => h))
  clear HO HB HM
  obtain ⟨x0, x1, x2, x3, x4, x5, x6, x7, x8, x9, x10⟩ := cells11 HB2.out
  obtain ⟨f0, f1, f2, f3, f4, f5, f6, f7, f8, f9, f10⟩ := frees11 HB2.out
  have hd3 : decide ((m.length : Int) < 3) = true := decide_eq_true (by omega)
  clear k2
  go_wp2_with fail
  refine bodyPost_ret (v := .tuple #[.agg #[.slice none 0 0, .slice none 0 0, .slice none 0 0, .int .i64 0, .int .i64 0, .int .i64 0, .int .i64 0, .int .i64 0, .int .i64 0, .bool false, .int .i64 0], .int .i64 0, .int .i64 2]) (by simp [results, Tryd.results31, go_sem, x0, x1, x2, x3, x4, x5, x6, x7, x8, x9, x10]) rfl ?_
  refine ⟨rfl, ?_⟩
  have hk := K2.out
  repeat' (first | with_reducible exact hk | with_reducible refine Keeps.setCell ?_ ?_ _ | exact Or.inl (Nat.le_refl _))

set_option maxHeartbeats 8000000 in
set_option maxRecDepth 100000 in
theorem mdecode_form1 {w : World} {v : Value} {p m : List Int} {a b : Int} (h : SlB w v p) (hp : p = m ++ [a, b]) (hb : Bytes (m ++ [a, b])) (hl : m.length ≤ 1000) (he : mof m = word a b) (h3 : 3 ≤ m.length) (hbg : m.take 3 ≠ [72, 66, 49]) :
    Calls Tryd.prog 31 #[v] w fun e w' => e = .returned (.tuple #[zeroV, .int .i64 0, .int .i64 2]) ∧ Keeps No w w' := by
  obtain ⟨ao, cap, rfl⟩ := h.any
  obtain ⟨W1, hW1⟩ : ∃ W1, w.alloc (.cells #[.slice none 0 0, .slice none 0 0, .slice none 0 0, .int .i64 0, .int .i64 0, .int .i64 0, .int .i64 0, .int .i64 0, .int .i64 0, .bool false, .int .i64 0] 33) = W1 := ⟨_, rfl⟩
  have k1 : Keeps No w W1 := by rw [← hW1]; exact (Keeps.refl _ _).alloc _
  have hb1 : BlkL W1 w.heap.size 33 [.slice none 0 0, .slice none 0 0, .slice none 0 0, .int .i64 0, .int .i64 0, .int .i64 0, .int .i64 0, .int .i64 0, .int .i64 0, .bool false, .int .i64 0] := by rw [← hW1]; exact heap_alloc_new w _
  have HB := hid hb1
  have HW1 := hid hW1
  have K1 := hid k1
  have hk := h.keep k1 (fun _ _ h => h)
  have ho := mopen_ok (m := m) (a := a) (b := b) (ao := ao) (cap := cap) (w := W1) (by rw [← hp]; exact hk) hb hl he
  rw [← hp] at ho
  have hm := SlB.front (m := m) (t := [a, b]) (a := ao) (cap := cap) (w := W1) (by rw [← hp]; exact hk)
  have HO := hid ho
  have HM := hid hm
  unfold zeroV zeroCfg
  clear h hW1 k1 hb1 hb he hk ho hm hp
  go_enter Tryd.func31, Tryd.ntmps31
  go_upto_region 1 with fail
  rw [HW1.out]
  go_wp2_with fail
  refine HO.out.mono ?_
  rintro e w2 ⟨rfl, k2⟩
  have K2 := hid (K1.out.trans k2)
  have HB2 := hid (HB.out.keep k2 (fun h => h))
  have HM2 := hid (HM.out.keep k2 (fun _ _ h => h))
  clear HO HB HM
  obtain ⟨W3, hW3⟩ : ∃ W3, w2.alloc (.cells #[.int .u8 72, .int .u8 66, .int .u8 49] 5 (3, 4)) = W3 := ⟨_, rfl⟩
  have hcv := Go.Joins.run_convert_bytes_const_at (P := Tryd.prog) w2 23 5 #[.int .u8 72, .int .u8 66, .int .u8 49] 3 3 w2.heap.size rfl Tryd.underlying23 Tryd.underlying5
  have hs3 : Sl W3 1 (.slice (some ⟨w2.heap.size, 0, none⟩) 3 3) 3 ([72, 66, 49].map (Value.int .u8)) := by
    refine ⟨rfl, by decide, _, 3, rfl, Nat.le_refl _, fun h => (by cases h), fun _ => ⟨w2.heap.size, 0, rfl, by rw [← hW3]; simp, fun j u hu => ?_⟩⟩
    rw [Nat.zero_add, ← hW3]
    exact cell_at (heap_alloc_new w2 _) (by simpa using hu)
  have k3 : Keeps No w2 W3 := by rw [← hW3]; exact (Keeps.refl _ _).alloc _
  simp only [show (#[.int .u8 72, .int .u8 66, .int .u8 49] : Array Value).size = 3 from rfl, hW3] at hcv
  have hm3 := Sl.front (HM2.out.keep k3 (fun _ _ h => h)) h3
  rw [Nat.mul_one, ← List.map_take] at hm3
  have hc := mbytes_ne hm3 hs3 hbg
  have HC := hid hc
  have HW3 := hid hW3
  have K3 := hid k3
  have hcm := Sl.cap HM2.out
  have hd3 : decide ((m.length : Int) < 3) = false := decide_eq_false (by omega)
  clear hc hm3 hs3 hbg hW3 k3 k2
  go_wp2_with fail
  refine HC.out.mono ?_
  rintro e w4 ⟨rfl, k4⟩
  have k24 := K3.out.trans k4
  have HB4 := hid (HB2.out.keep k24 (fun h => h))
  have K4 := hid (K2.out.trans k24)
  obtain ⟨x0, x1, x2, x3, x4, x5, x6, x7, x8, x9, x10⟩ := cells11 HB4.out
  obtain ⟨f0, f1, f2, f3, f4, f5, f6, f7, f8, f9, f10⟩ := frees11 HB4.out
  clear K2 k24 k4 hcv
  have K2 := K4
  go_wp2_with fail
  refine bodyPost_ret (v := .tuple #[.agg #[.slice none 0 0, .slice none 0 0, .slice none 0 0, .int .i64 0, .int .i64 0, .int .i64 0, .int .i64 0, .int .i64 0, .int .i64 0, .bool false, .int .i64 0], .int .i64 0, .int .i64 2]) (by simp [results, Tryd.results31, go_sem, x0, x1, x2, x3, x4, x5, x6, x7, x8, x9, x10]) rfl ?_
  refine ⟨rfl, ?_⟩
  have hk := K2.out
  repeat' (first | with_reducible exact hk | with_reducible refine Keeps.setCell ?_ ?_ _ | exact Or.inl (Nat.le_refl _))

set_option maxHeartbeats 8000000 in
set_option maxRecDepth 100000 in
theorem mdecode_read {w : World} {v : Value} {p m : List Int} {a b : Int} (h : SlB w v p) (hp : p = m ++ [a, b]) (hb : Bytes (m ++ [a, b])) (hl : m.length ≤ 1000) (he : mof m = word a b) (hbg : begins m = true) :
    Calls Tryd.prog 31 #[v] w (MDecPost p w) := by
  have hbt : m.take 3 = [72, 66, 49] := by simpa [begins, lettersB] using hbg
  have h3 : 3 ≤ m.length := by
    have h4 := congrArg List.length hbt
    rw [List.length_take] at h4
    simp at h4
    omega
  have hct : ct3 ⟨m, 0, 0⟩ = ⟨m.drop 3, 3, 0⟩ := by
    match m, hbt, h3 with
    | x :: y :: z :: t, _, _ => rfl
  have HP := hid (show p = m ++ [a, b] ∧ mof m = word a b ∧ begins m = true from ⟨hp, he, hbg⟩)
  have HCT := hid hct
  have HBM := hid (show Bytes m from fun x hx => hb x (List.mem_append_left _ hx))
  clear hbg hct
  obtain ⟨ao, cap, rfl⟩ := h.any
  obtain ⟨W1, hW1⟩ : ∃ W1, w.alloc (.cells #[.slice none 0 0, .slice none 0 0, .slice none 0 0, .int .i64 0, .int .i64 0, .int .i64 0, .int .i64 0, .int .i64 0, .int .i64 0, .bool false, .int .i64 0] 33) = W1 := ⟨_, rfl⟩
  have k1 : Keeps No w W1 := by rw [← hW1]; exact (Keeps.refl _ _).alloc _
  have hb1 : BlkL W1 w.heap.size 33 [.slice none 0 0, .slice none 0 0, .slice none 0 0, .int .i64 0, .int .i64 0, .int .i64 0, .int .i64 0, .int .i64 0, .int .i64 0, .bool false, .int .i64 0] := by rw [← hW1]; exact heap_alloc_new w _
  have HB := hid hb1
  have HW1 := hid hW1
  have K1 := hid k1
  have hk := h.keep k1 (fun _ _ h => h)
  have ho := mopen_ok (m := m) (a := a) (b := b) (ao := ao) (cap := cap) (w := W1) (by rw [← hp]; exact hk) hb hl he
  rw [← hp] at ho
  have hm := SlB.front (m := m) (t := [a, b]) (a := ao) (cap := cap) (w := W1) (by rw [← hp]; exact hk)
  have HO := hid ho
  have HM := hid hm
  have HK1 := hid (show w.heap.size < W1.heap.size from hb1.lt)
  clear h hW1 k1 hb1 hb he hk ho hm hp
  go_enter Tryd.func31, Tryd.ntmps31
  go_upto_region 1 with fail
  rw [HW1.out]
  go_wp2_with fail
  refine HO.out.mono ?_
  rintro e w2 ⟨rfl, k2⟩
  have K2 := hid (K1.out.trans k2)
  have HB2 := hid (HB.out.keep k2 (fun h => h))
  have HM2 := hid (HM.out.keep k2 (fun _ _ h => h))
  clear HO HB HM
  obtain ⟨W3, hW3⟩ : ∃ W3, w2.alloc (.cells #[.int .u8 72, .int .u8 66, .int .u8 49] 5 (3, 4)) = W3 := ⟨_, rfl⟩
  have hcv := Go.Joins.run_convert_bytes_const_at (P := Tryd.prog) w2 23 5 #[.int .u8 72, .int .u8 66, .int .u8 49] 3 3 w2.heap.size rfl Tryd.underlying23 Tryd.underlying5
  have hs3 : Sl W3 1 (.slice (some ⟨w2.heap.size, 0, none⟩) 3 3) 3 ([72, 66, 49].map (Value.int .u8)) := by
    refine ⟨rfl, by decide, _, 3, rfl, Nat.le_refl _, fun h => (by cases h), fun _ => ⟨w2.heap.size, 0, rfl, by rw [← hW3]; simp, fun j u hu => ?_⟩⟩
    rw [Nat.zero_add, ← hW3]
    exact cell_at (heap_alloc_new w2 _) (by simpa using hu)
  have k3 : Keeps No w2 W3 := by rw [← hW3]; exact (Keeps.refl _ _).alloc _
  simp only [show (#[.int .u8 72, .int .u8 66, .int .u8 49] : Array Value).size = 3 from rfl, hW3] at hcv
  have hm3 := Sl.front (HM2.out.keep k3 (fun _ _ h => h)) h3
  rw [Nat.mul_one, ← List.map_take] at hm3
  rw [hbt] at hm3
  have hc := mbytes_true (l := [72, 66, 49]) hm3 hs3
  have HC := hid hc
  have HW3 := hid hW3
  have K3 := hid k3
  have hcm := Sl.cap HM2.out
  have hd3 : decide ((m.length : Int) < 3) = false := decide_eq_false (by omega)
  clear hc hm3 hs3 hbt hW3 k3 k2
  go_wp2_with fail
  refine HC.out.mono ?_
  rintro e w4 ⟨rfl, k4⟩
  have k24 := K3.out.trans k4
  have HB4 := hid (HB2.out.keep k24 (fun h => h))
  have HM4 := hid (HM2.out.keep k24 (fun _ _ h => h))
  have K4 := hid (K2.out.trans k24)
  clear K2 k24 k4 hcv HC HB2 HM2 K3 HW3 hd3
  obtain ⟨ib, hib⟩ : ∃ ib, w4.heap.size = ib := ⟨_, rfl⟩
  obtain ⟨W5, hW5⟩ : ∃ W5, w4.alloc (.cells #[.slice ao m.length cap, .int .i64 3, .int .i64 0] 119) = W5 := ⟨_, rfl⟩
  obtain ⟨W6, hW6⟩ : ∃ W6, W5.alloc (.cells #[.slice none 0 0, .slice none 0 0, .slice none 0 0, .int .i64 0, .int .i64 0, .int .i64 0, .int .i64 0, .int .i64 0, .int .i64 0, .bool false, .int .i64 0] 33) = W6 := ⟨_, rfl⟩
  have z5 : W5.heap.size = ib + 1 := by rw [← hW5]; simp [hib]
  have z6 : W6.heap.size = ib + 2 := by rw [← hW6]; simp [z5]
  have k5 : Keeps No w4 W5 := by rw [← hW5]; exact (Keeps.refl _ _).alloc _
  have k6 : Keeps No W5 W6 := by rw [← hW6]; exact (Keeps.refl _ _).alloc _
  have hi5 : W5.heap[ib]? = some (.cells #[.slice ao m.length cap, .int .i64 3, .int .i64 0] 119 (0, 0)) := by rw [← hW5, ← hib]; exact heap_alloc_new w4 _
  have hb6 : BlkL W6 (ib + 1) 33 [.slice none 0 0, .slice none 0 0, .slice none 0 0, .int .i64 0, .int .i64 0, .int .i64 0, .int .i64 0, .int .i64 0, .int .i64 0, .bool false, .int .i64 0] := by rw [← hW6, ← z5]; exact heap_alloc_new W5 _
  have hin : In W6 ib (fun k => k ≤ ib) m ⟨m.drop 3, 3, 0⟩ := ⟨_, k6.heap (fun h => h) hi5, HM4.out.keep (k5.trans k6) (fun _ _ h => h), fun h0 e => by have h1 := HM4.out.lt h0 ib e; omega, Nat.le_refl _, fun h0 k hk => by have h1 := HM4.out.lt h0 k hk; omega, by omega, HBM.out, h3, by simp⟩
  have H0 := hid (MD.start (T := 33) hin hb6 (by omega) (fun k hk => by omega))
  obtain ⟨F, hF⟩ : ∃ F : Nat → Prop, (fun k => k ≤ ib) = F := ⟨_, rfl⟩
  rw [hF] at H0
  have KW6 := hid (K4.out.trans (k5.trans k6))
  have HB6 := hid (HB4.out.keep (k5.trans k6) (fun h => h))
  have hrb := HB4.out.lt
  rw [hib] at hrb
  obtain ⟨cb, hcb⟩ : ∃ cb, ib + 1 = cb := ⟨_, rfl⟩
  rw [hcb] at H0
  have HIB := hid hib
  have HZ5 := hid z5
  have HZ6 := hid z6
  have HW5 := hid hW5
  have HW6 := hid hW6
  have HCB := hid hcb
  obtain ⟨s0, hs0⟩ : ∃ s, RS.mk (m.drop 3) 3 0 = s := ⟨_, rfl⟩
  rw [hs0] at H0
  have HS0 := hid (HCT.out.trans hs0)
  clear hF hin hb6 hi5 k5 k6 hW5 hW6 z5 z6 HB4 K4 HM4 hib hcb hs0 HCT HBM HW1 HK1 K1
  go_upto_region 7 with fail
  rw [HIB.out, HW5.out]
  go_upto_region 8 with fail
  rw [HZ5.out, HCB.out, HW6.out]
  obtain ⟨i0, hi, hz0, hz1, hz2⟩ := info_parts info_sigD
  have HI0 := hid hi
  clear hi HW5 HW6
  obtain ⟨⟨b1, s1⟩, hs1⟩ : ∃ y, s0.byte = y := ⟨_, rfl⟩
  have hc := ibyte_any H0.out.inn
  rw [hs1] at hc
  dsimp only at hc
  have HC := hid hc
  have hbb := RS.byte_le (s := s0) H0.out.inn.bytes
  rw [hs1] at hbb
  obtain ⟨hbl1, hbh1⟩ := hbb
  dsimp only at hbl1 hbh1
  have HS1 := hid hs1
  clear hc hs1
  go_wp2_with fail
  refine HC.out.mono ?_
  rintro e wz ⟨rfl, hin, hk⟩
  replace H0 := hid (H0.out.read hin hk)
  clear hin hk HC
  obtain ⟨N1, hN1⟩ : ∃ N : Nat, b1 = N := ⟨b1.toNat, by omega⟩
  subst hN1
  have hN1 : N1 ≤ 255 := by omega
  obtain ⟨wb, hwb⟩ : ∃ x, wz = x := ⟨_, rfl⟩
  rw [hwb] at H0 ⊢
  have KX := hid H0.out.keep
  have H1 := hid H0.out.anew
  clear hwb H0
  go_wp2_with fail
  go_loopw [9] (fun v9 wr => ∃ (k n : Nat) (done : List Sig) (sa : Option Addr) (sc : Nat) (s : RS), n + k ≤ N1 ∧ v9 = .int .u8 k ∧ Hid (MD wb wr ib cb 33 F m [.slice sa n sc, .slice none 0 0, .slice none 0 0, .int .i64 0, .int .i64 0, .int .i64 0, .int .i64 0, .int .i64 0, .int .i64 0, .bool false, .int .i64 0] s) ∧ Hid (wr.ownsRow 0 51 2 (.slice sa n sc) n (done.flatMap encSig)) ∧ Hid (∀ b, (Value.slice sa n sc).ownBlock = some b → wb.heap.size ≤ b) ∧ Hid (MdRest rdSig N1 s1 done k s)) (fun v9 _ => (intOf v9).toNat)
  case atStart => exact ⟨N1, 0, [], none, 0, s1, by omega, rfl, H1, hid (World.ownsRow_nil _ _ _ _), hid (fun b hb => by simp [Value.ownBlock] at hb), hid (MdRest.start _ _ _)⟩
  case round =>
    obtain ⟨k, n, done, sa, sc, s, hnk, rfl, HO, HR, HNW, HMD⟩ := hrel
    have c2 := HO.out.inn.fault
    go_upto_region 9 with fail
    go_cut [54] from 46 to 54 (fun v54 wx => v54 = .bool (decide (0 < k ∧ s.f = 0)) ∧ Hid (wx = wr))
    case first =>
      by_cases hk0 : 0 < k
      · have hd : decide ((k : Int) > 0) = true := decide_eq_true (by omega)
        by_cases hf : s.f = 0
        · have hq : (s.f == 0) = true := by simpa using hf
          have HQ : Hid (decide (0 < k ∧ s.f = 0) = true) := hid (decide_eq_true ⟨hk0, hf⟩)
          clear hf
          go_wp2_with fail
          go_meet
          exact ⟨by rw [HQ.out], hid rfl⟩
        · have hq : (s.f == 0) = false := by simpa using hf
          have HQ : Hid (decide (0 < k ∧ s.f = 0) = false) := hid (decide_eq_false (fun e => hf e.2))
          clear hf
          go_wp2_with fail
          go_meet
          exact ⟨by rw [HQ.out], hid rfl⟩
      · have hd : decide ((k : Int) > 0) = false := decide_eq_false (by omega)
        have HQ : Hid (decide (0 < k ∧ s.f = 0) = false) := hid (decide_eq_false (fun e => hk0 e.1))
        go_wp2_with fail
        go_meet
        exact ⟨by rw [HQ.out], hid rfl⟩
    case rest =>
      obtain ⟨rfl, HWX⟩ := hcut
      have hwx := HWX.out
      subst hwx
      obtain ⟨wr, rfl⟩ : ∃ x, x = wc := ⟨_, rfl⟩
      clear HWX c2
      by_cases hgo : 0 < k ∧ s.f = 0
      · rw [show decide (0 < k ∧ s.f = 0) = true from decide_eq_true hgo]
        obtain ⟨hk0, hf⟩ := hgo
        obtain ⟨k, rfl⟩ : ∃ k', k = k' + 1 := ⟨k - 1, by omega⟩
        have HF := hid hf
        clear hf
        obtain ⟨W7, hW⟩ : ∃ x, wr.alloc (.cells #[.int .i64 0, .int .i64 0] 51) = x := ⟨_, rfl⟩
        have kW : Keeps No wr W7 := by rw [← hW]; exact (Keeps.refl _ _).alloc _
        have hbW : BlkL W7 wr.heap.size 51 [.int .i64 0, .int .i64 0] := by rw [← hW]; exact heap_alloc_new wr _
        have hnW : ¬ F wr.heap.size := fun h => by have h1 := HO.out.lt _ h; have h2 := HO.out.keep.size; omega
        have HI := hid (MD.start (HO.out.inn.keep kW (fun _ _ h => h)) hbW hnW (fun k hk => by have h1 := HO.out.lt k hk; have h2 := HO.out.keep.size; have h3 := kW.size; omega))
        have KW7 := hid kW
        have HW7 := hid hW
        clear hW kW hbW hnW
        go_upto_region 12 with fail
        rw [HW7.out]
        obtain ⟨ub, hub⟩ : ∃ x, wr.heap.size = x := ⟨_, rfl⟩
        rw [hub] at HI ⊢
        have Hub := hid hub
        clear hub HW7
        obtain ⟨⟨b2, s2⟩, hs2⟩ : ∃ y, s.int = y := ⟨_, rfl⟩
        have hc := iint_any HI.out.inn
        rw [hs2] at hc
        dsimp only at hc
        have HC := hid hc
        have HS2 := hid hs2
        clear hc hs2
        go_wp2_with fail
        refine HC.out.mono ?_
        rintro e wz ⟨rfl, hin, hk⟩
        replace HI := hid (HI.out.read hin hk)
        clear hin hk HC
        have f0 := HI.out.blk.free 0
        have x0 := HI.out.blk.cell (o := 0) rfl
        replace HI := hid (HI.out.put 0 (.int .i64 b2) (ys := [.int .i64 b2, .int .i64 0]) rfl)
        obtain ⟨⟨b3, s3⟩, hs3⟩ : ∃ y, s2.int = y := ⟨_, rfl⟩
        have hc := iint_any HI.out.inn
        rw [hs3] at hc
        dsimp only at hc
        have HC := hid hc
        have HS3 := hid hs3
        clear hc hs3
        go_wp2_with fail
        refine HC.out.mono ?_
        rintro e wz ⟨rfl, hin, hk⟩
        replace HI := hid (HI.out.read hin hk)
        clear hin hk HC
        clear f0 x0
        have f1 := HI.out.blk.free 1
        have x1 := HI.out.blk.cell (o := 1) rfl
        replace HI := hid (HI.out.put 1 (.int .i64 b3) (ys := [.int .i64 b2, .int .i64 b3]) rfl)
        go_upto_region 14 with fail
        clear f1 x1
        obtain ⟨wy, hwy⟩ : ∃ x, wz.setCell ⟨ub, 1, none⟩ (.int .i64 b3) = x := ⟨_, rfl⟩
        rw [hwy] at HI ⊢
        clear hwy
        have HO2 := hid (HO.out.over KW7.out (Nat.le_of_eq Hub.out) HI.out)
        have HR2 := hid (HI.out.row KW7.out (Nat.le_of_eq Hub.out) HR.out (HO.out.ibne HNW.out))
        have x0 := HO2.out.blk.cell (o := 0) rfl
        have y0 := HI.out.blk.cell (o := 0) rfl
        have y1 := HI.out.blk.cell (o := 1) rfl
        clear HO HI Hub KW7 HR
        go_wp2_with (at_builtin; refine wpl_append rfl _ _ 28 rfl 51 i0 (.agg #[.int .i64 0, .int .i64 0]) 2 16 Tryd.underlying28 HI0.out hz0 hz1 hz2 rfl (by decide) _ _ _ _ _ _ rfl rfl (Keeps.own (S := No) (by repeat' (first | with_reducible exact Keeps.refl _ _ | with_reducible assumption | with_reducible refine Keeps.drewN ?_ _ | with_reducible refine Keeps.drew ?_ | with_reducible refine Keeps.alloc ?_ _)) HR2.out (fun _ _ h => h)) (Sl.new _ _ _ 2 1 rfl (by decide)) (by intro u hu; simp at hu; rcases hu with rfl | rfl <;> rfl) ?c3 ?c4 ?_)
        case c3 => unfold maxLen; omega
        case c4 => omega
        intro v2 w2 ho kk hb2
        obtain ⟨a2, c2, rfl⟩ := own_any ho
        obtain ⟨hm2, hm3, hr3, hn3⟩ := HO2.out.push HNW.out (by repeat' (first | with_reducible exact Keeps.refl _ _ | with_reducible assumption | with_reducible refine Keeps.drewN ?_ _ | with_reducible refine Keeps.drew ?_ | with_reducible refine Keeps.alloc ?_ _)) ho kk (fun b hb => (hb2 b hb).imp id (fun h => by first | exact h | exact Nat.le_of_succ_le h)) 0 rfl
        have g0 := hm2.blk.cell (o := 0) rfl
        have e0 := hm2.blk.free 0
        have HO3 := hid hm3
        have HR3 := hid hr3
        have HN3 := hid hn3
        have HMD3 := hid (HMD.out.next HF.out)
        clear hm2 hm3 hr3 hn3 ho kk hb2 HO2 HR2 x0 y0 y1 HNW HMD
        go_wp2_with fail
        go_roundw
        case rel => exact ⟨k, n + 1, done ++ [⟨b2, b3⟩], a2, c2, s3, by omega, by go_num, HO3, hid (by have h1 := HR3.out; rw [List.flatMap_append]; simpa [encSig] using h1), HN3, hid (by have h1 := HMD3.out; simpa only [rdSig, HS2.out, HS3.out] using h1)⟩
        case measure => simp [intOf]
      · rw [show decide (0 < k ∧ s.f = 0) = false from decide_eq_false hgo]
        have HL1 := hid (HMD.out.last hgo)
        clear HMD hgo
        have HSL := hid (Sl.ofOwn HR.out)
        have HCW := hid HO.out.ub
        have HSN := hid (fun b hb => Nat.lt_of_lt_of_le HCW.out (HNW.out b hb))
        have KX1 := hid (KX.out.trans HO.out.keep)
        have HZ := hid HO.out.anew
        obtain ⟨sgs, rfl⟩ : ∃ x, x = done := ⟨_, rfl⟩
        obtain ⟨sga, rfl⟩ : ∃ x, x = sa := ⟨_, rfl⟩
        obtain ⟨sgc, rfl⟩ : ∃ x, x = sc := ⟨_, rfl⟩
        obtain ⟨sgn, rfl⟩ : ∃ x, x = n := ⟨_, rfl⟩
        obtain ⟨s4, rfl⟩ : ∃ x, x = s := ⟨_, rfl⟩
        clear HO HR HNW HCW KX
        obtain ⟨⟨b5, s5⟩, hs5⟩ : ∃ y, s4.byte = y := ⟨_, rfl⟩
        have hc := ibyte_any HZ.out.inn
        rw [hs5] at hc
        dsimp only at hc
        have HC := hid hc
        have hbb := RS.byte_le (s := s4) HZ.out.inn.bytes
        rw [hs5] at hbb
        obtain ⟨hbl5, hbh5⟩ := hbb
        dsimp only at hbl5 hbh5
        have HS5 := hid hs5
        clear hc hs5
        go_wp2_with fail
        refine HC.out.mono ?_
        rintro e wz ⟨rfl, hin, hk⟩
        replace HZ := hid (HZ.out.read hin hk)
        clear hin hk HC
        obtain ⟨N2, hN⟩ : ∃ N : Nat, b5 = N := ⟨b5.toNat, by omega⟩
        subst hN
        have hN2 : N2 ≤ 255 := by omega
        obtain ⟨wb2, hwb⟩ : ∃ x, wz = x := ⟨_, rfl⟩
        rw [hwb] at HZ ⊢
        clear hwb
        have KX := hid (KX1.out.trans HZ.out.keep)
        have HSL2 := hid (HZ.out.slk HSL.out HSN.out (by have := HCB.out; omega))
        have HY := hid HZ.out.anew
        clear HZ KX1 HSL
        obtain ⟨i1, hi, hr0, hr1, hr2⟩ := info_parts info_rulD
        have HI1 := hid hi
        obtain ⟨i2, hi2, ht0, ht1, ht2⟩ := info_parts info_stgD
        have HI2 := hid hi2
        clear hi hi2 HI0 hz0 hz1 hz2
        obtain ⟨SV, hSV⟩ : ∃ x, Value.slice sga sgn sgc = x := ⟨_, rfl⟩
        rw [hSV] at HY HSL2 HSN
        have HSV := hid hSV
        go_wp2_with fail
        go_loopw [11] (fun v11 wr => ∃ (k n : Nat) (done : List (Rul × Value)) (ra : Option Addr) (rc : Nat) (s : RS), n + k ≤ N2 ∧ v11 = .int .u8 k ∧ Hid (MD wb2 wr ib cb 33 F m [SV, .slice ra n rc, .slice none 0 0, .int .i64 0, .int .i64 0, .int .i64 0, .int .i64 0, .int .i64 0, .int .i64 0, .bool false, .int .i64 0] s) ∧ Hid (wr.ownsRow 0 49 9 (.slice ra n rc) n (done.flatMap encRul)) ∧ Hid (∀ b, (Value.slice ra n rc).ownBlock = some b → wb2.heap.size ≤ b) ∧ Hid (ItD 2 (fun r : Rul => r.stages.length) (fun r => r.stages.flatMap encStg) wb2 wr (.slice ra n rc) done) ∧ Hid (MdRest mdRul N2 s5 (done.map (·.1)) k s)) (fun v11 _ => (intOf v11).toNat)
        case atStart => exact ⟨N2, 0, [], none, 0, s5, by omega, rfl, HY, hid (World.ownsRow_nil _ _ _ _), hid (fun b hb => by simp [Value.ownBlock] at hb), hid ItD.nil, hid (MdRest.start _ _ _)⟩
        case round =>
          clear HY hSV
          obtain ⟨k, n, done, ra, rc, s, hnk, rfl, HO, HR, HNW, HIT, HMD⟩ := hrel
          have c2 := HO.out.inn.fault
          go_upto_region 16 with fail
          go_cut [79] from 71 to 79 (fun vt wx => vt = .bool (decide (0 < k ∧ s.f = 0)) ∧ Hid (wx = wr))
          case first =>
            by_cases hk0 : 0 < k
            · have hd : decide ((k : Int) > 0) = true := decide_eq_true (by omega)
              by_cases hf : s.f = 0
              · have hq : (s.f == 0) = true := by simpa using hf
                have HQ : Hid (decide (0 < k ∧ s.f = 0) = true) := hid (decide_eq_true ⟨hk0, hf⟩)
                clear hf
                go_wp2_with fail
                go_meet
                exact ⟨by rw [HQ.out], hid rfl⟩
              · have hq : (s.f == 0) = false := by simpa using hf
                have HQ : Hid (decide (0 < k ∧ s.f = 0) = false) := hid (decide_eq_false (fun e => hf e.2))
                clear hf
                go_wp2_with fail
                go_meet
                exact ⟨by rw [HQ.out], hid rfl⟩
            · have hd : decide ((k : Int) > 0) = false := decide_eq_false (by omega)
              have HQ : Hid (decide (0 < k ∧ s.f = 0) = false) := hid (decide_eq_false (fun e => hk0 e.1))
              go_wp2_with fail
              go_meet
              exact ⟨by rw [HQ.out], hid rfl⟩
          case rest =>
            obtain ⟨rfl, HWX⟩ := hcut
            have hwx := HWX.out
            subst hwx
            obtain ⟨wr, rfl⟩ : ∃ x, x = wc := ⟨_, rfl⟩
            clear HWX c2
            by_cases hgo : 0 < k ∧ s.f = 0
            · rw [show decide (0 < k ∧ s.f = 0) = true from decide_eq_true hgo]
              obtain ⟨hk0, hf⟩ := hgo
              obtain ⟨k, rfl⟩ : ∃ k', k = k' + 1 := ⟨k - 1, by omega⟩
              have HF := hid hf
              clear hf
              obtain ⟨W8, hW⟩ : ∃ x, wr.alloc (.cells #[.int .u8 0, .int .i64 0, .int .i64 0, .int .i64 0, .int .i64 0, .int .i64 0, .int .u8 0, .bool false, .slice none 0 0] 49) = x := ⟨_, rfl⟩
              have kW : Keeps No wr W8 := by rw [← hW]; exact (Keeps.refl _ _).alloc _
              have hbW : BlkL W8 wr.heap.size 49 [.int .u8 0, .int .i64 0, .int .i64 0, .int .i64 0, .int .i64 0, .int .i64 0, .int .u8 0, .bool false, .slice none 0 0] := by rw [← hW]; exact heap_alloc_new wr _
              have hnW : ¬ F wr.heap.size := fun h => by have h1 := HO.out.lt _ h; have h2 := HO.out.keep.size; omega
              have HI := hid (MD.start (HO.out.inn.keep kW (fun _ _ h => h)) hbW hnW (fun k hk => by have h1 := HO.out.lt k hk; have h2 := HO.out.keep.size; have h3 := kW.size; omega))
              have KW8 := hid kW
              have HW8 := hid hW
              clear hW kW hbW hnW
              go_upto_region 19 with fail
              rw [HW8.out]
              obtain ⟨ub, hub⟩ : ∃ x, wr.heap.size = x := ⟨_, rfl⟩
              rw [hub] at HI ⊢
              have Hub := hid hub
              clear hub HW8
              obtain ⟨⟨b10, s10⟩, hs10⟩ : ∃ y, s.byte = y := ⟨_, rfl⟩
              have hc := ibyte_any HI.out.inn
              rw [hs10] at hc
              dsimp only at hc
              have HC := hid hc
              have hbb := RS.byte_le (s := s) HI.out.inn.bytes
              rw [hs10] at hbb
              obtain ⟨hbl10, hbh10⟩ := hbb
              dsimp only at hbl10 hbh10
              have HS10 := hid hs10
              clear hc hs10
              go_wp2_with fail
              refine HC.out.mono ?_
              rintro e wz ⟨rfl, hin, hk⟩
              replace HI := hid (HI.out.read hin hk)
              clear hin hk HC
              have f0 := HI.out.blk.free 0
              have x0 := HI.out.blk.cell (o := 0) rfl
              replace HI := hid (HI.out.put 0 (.int .u8 b10) (ys := [.int .u8 b10, .int .i64 0, .int .i64 0, .int .i64 0, .int .i64 0, .int .i64 0, .int .u8 0, .bool false, .slice none 0 0]) rfl)
              obtain ⟨⟨b11, s11⟩, hs11⟩ : ∃ y, s10.byte = y := ⟨_, rfl⟩
              have hc := ibyte_any HI.out.inn
              rw [hs11] at hc
              dsimp only at hc
              have HC := hid hc
              have hbb := RS.byte_le (s := s10) HI.out.inn.bytes
              rw [hs11] at hbb
              obtain ⟨hbl11, hbh11⟩ := hbb
              dsimp only at hbl11 hbh11
              have HS11 := hid hs11
              clear hc hs11
              go_wp2_with fail
              refine HC.out.mono ?_
              rintro e wz ⟨rfl, hin, hk⟩
              replace HI := hid (HI.out.read hin hk)
              clear hin hk HC
              clear f0 x0
              have f1 := HI.out.blk.free 1
              have x1 := HI.out.blk.cell (o := 1) rfl
              replace HI := hid (HI.out.put 1 (.int .i64 b11) (ys := [.int .u8 b10, .int .i64 b11, .int .i64 0, .int .i64 0, .int .i64 0, .int .i64 0, .int .u8 0, .bool false, .slice none 0 0]) rfl)
              obtain ⟨⟨b12, s12⟩, hs12⟩ : ∃ y, s11.int = y := ⟨_, rfl⟩
              have hc := iint_any HI.out.inn
              rw [hs12] at hc
              dsimp only at hc
              have HC := hid hc
              have HS12 := hid hs12
              clear hc hs12
              go_wp2_with fail
              refine HC.out.mono ?_
              rintro e wz ⟨rfl, hin, hk⟩
              replace HI := hid (HI.out.read hin hk)
              clear hin hk HC
              clear f1 x1
              have f2 := HI.out.blk.free 2
              have x2 := HI.out.blk.cell (o := 2) rfl
              replace HI := hid (HI.out.put 2 (.int .i64 b12) (ys := [.int .u8 b10, .int .i64 b11, .int .i64 b12, .int .i64 0, .int .i64 0, .int .i64 0, .int .u8 0, .bool false, .slice none 0 0]) rfl)
              obtain ⟨⟨b13, s13⟩, hs13⟩ : ∃ y, s12.int = y := ⟨_, rfl⟩
              have hc := iint_any HI.out.inn
              rw [hs13] at hc
              dsimp only at hc
              have HC := hid hc
              have HS13 := hid hs13
              clear hc hs13
              go_wp2_with fail
              refine HC.out.mono ?_
              rintro e wz ⟨rfl, hin, hk⟩
              replace HI := hid (HI.out.read hin hk)
              clear hin hk HC
              clear f2 x2
              have f3 := HI.out.blk.free 3
              have x3 := HI.out.blk.cell (o := 3) rfl
              replace HI := hid (HI.out.put 3 (.int .i64 b13) (ys := [.int .u8 b10, .int .i64 b11, .int .i64 b12, .int .i64 b13, .int .i64 0, .int .i64 0, .int .u8 0, .bool false, .slice none 0 0]) rfl)
              obtain ⟨⟨b14, s14⟩, hs14⟩ : ∃ y, s13.int = y := ⟨_, rfl⟩
              have hc := iint_any HI.out.inn
              rw [hs14] at hc
              dsimp only at hc
              have HC := hid hc
              have HS14 := hid hs14
              clear hc hs14
              go_wp2_with fail
              refine HC.out.mono ?_
              rintro e wz ⟨rfl, hin, hk⟩
              replace HI := hid (HI.out.read hin hk)
              clear hin hk HC
              clear f3 x3
              have f4 := HI.out.blk.free 4
              have x4 := HI.out.blk.cell (o := 4) rfl
              replace HI := hid (HI.out.put 4 (.int .i64 b14) (ys := [.int .u8 b10, .int .i64 b11, .int .i64 b12, .int .i64 b13, .int .i64 b14, .int .i64 0, .int .u8 0, .bool false, .slice none 0 0]) rfl)
              obtain ⟨⟨b15, s15⟩, hs15⟩ : ∃ y, s14.int = y := ⟨_, rfl⟩
              have hc := iint_any HI.out.inn
              rw [hs15] at hc
              dsimp only at hc
              have HC := hid hc
              have HS15 := hid hs15
              clear hc hs15
              go_wp2_with fail
              refine HC.out.mono ?_
              rintro e wz ⟨rfl, hin, hk⟩
              replace HI := hid (HI.out.read hin hk)
              clear hin hk HC
              clear f4 x4
              have f5 := HI.out.blk.free 5
              have x5 := HI.out.blk.cell (o := 5) rfl
              replace HI := hid (HI.out.put 5 (.int .i64 b15) (ys := [.int .u8 b10, .int .i64 b11, .int .i64 b12, .int .i64 b13, .int .i64 b14, .int .i64 b15, .int .u8 0, .bool false, .slice none 0 0]) rfl)
              obtain ⟨⟨b16, s16⟩, hs16⟩ : ∃ y, s15.byte = y := ⟨_, rfl⟩
              have hc := ibyte_any HI.out.inn
              rw [hs16] at hc
              dsimp only at hc
              have HC := hid hc
              have hbb := RS.byte_le (s := s15) HI.out.inn.bytes
              rw [hs16] at hbb
              obtain ⟨hbl16, hbh16⟩ := hbb
              dsimp only at hbl16 hbh16
              have HS16 := hid hs16
              clear hc hs16
              go_wp2_with fail
              refine HC.out.mono ?_
              rintro e wz ⟨rfl, hin, hk⟩
              replace HI := hid (HI.out.read hin hk)
              clear hin hk HC
              clear f5 x5
              have f6 := HI.out.blk.free 6
              have x6 := HI.out.blk.cell (o := 6) rfl
              replace HI := hid (HI.out.put 6 (.int .u8 b16) (ys := [.int .u8 b10, .int .i64 b11, .int .i64 b12, .int .i64 b13, .int .i64 b14, .int .i64 b15, .int .u8 b16, .bool false, .slice none 0 0]) rfl)
              obtain ⟨⟨b17, s17⟩, hs17⟩ : ∃ y, s16.flag = y := ⟨_, rfl⟩
              have hc := iflag_any HI.out.inn
              rw [hs17] at hc
              dsimp only at hc
              have HC := hid hc
              have HS17 := hid hs17
              clear hc hs17
              go_wp2_with fail
              refine HC.out.mono ?_
              rintro e wz ⟨rfl, hin, hk⟩
              replace HI := hid (HI.out.read hin hk)
              clear hin hk HC
              clear f6 x6
              have f7 := HI.out.blk.free 7
              have x7 := HI.out.blk.cell (o := 7) rfl
              replace HI := hid (HI.out.put 7 (.bool b17) (ys := [.int .u8 b10, .int .i64 b11, .int .i64 b12, .int .i64 b13, .int .i64 b14, .int .i64 b15, .int .u8 b16, .bool b17, .slice none 0 0]) rfl)
              obtain ⟨⟨b18, s18⟩, hs18⟩ : ∃ y, s17.byte = y := ⟨_, rfl⟩
              have hc := ibyte_any HI.out.inn
              rw [hs18] at hc
              dsimp only at hc
              have HC := hid hc
              have hbb := RS.byte_le (s := s17) HI.out.inn.bytes
              rw [hs18] at hbb
              obtain ⟨hbl18, hbh18⟩ := hbb
              dsimp only at hbl18 hbh18
              have HS18 := hid hs18
              clear hc hs18
              go_wp2_with fail
              refine HC.out.mono ?_
              rintro e wz ⟨rfl, hin, hk⟩
              replace HI := hid (HI.out.read hin hk)
              clear hin hk HC
              clear f7 x7
              obtain ⟨N3, hN⟩ : ∃ N : Nat, b18 = N := ⟨b18.toNat, by omega⟩
              subst hN
              have hN3 : N3 ≤ 255 := by omega
              obtain ⟨wi, hwb⟩ : ∃ x, wz = x := ⟨_, rfl⟩
              rw [hwb] at HI ⊢
              clear hwb
              have HJ0 := hid HI.out.anew
              have HO0 := HO
              have HR0 := HR
              have HNW0 := HNW
              have HIT0 := HIT
              have HMD0 := HMD
              have HF0 := HF
              have HI0 := HI
              obtain ⟨k0, rfl⟩ : ∃ x, x = k := ⟨_, rfl⟩
              obtain ⟨n0, rfl⟩ : ∃ x, x = n := ⟨_, rfl⟩
              obtain ⟨wr0, rfl⟩ : ∃ x, x = wr := ⟨_, rfl⟩
              obtain ⟨sr, rfl⟩ : ∃ x, x = s := ⟨_, rfl⟩
              clear HO HR HNW HIT HMD HF HI
              go_wp2_with fail
              go_loopw [13] (fun v13 wr => ∃ (k n : Nat) (dst : List Stg) (a : Option Addr) (c : Nat) (s : RS), n + k ≤ N3 ∧ v13 = .int .u8 k ∧ Hid (MD wi wr ib ub 49 F m [.int .u8 b10, .int .i64 b11, .int .i64 b12, .int .i64 b13, .int .i64 b14, .int .i64 b15, .int .u8 b16, .bool b17, .slice a n c] s) ∧ Hid (wr.ownsRow 0 57 2 (.slice a n c) n (dst.flatMap encStg)) ∧ Hid (∀ b, (Value.slice a n c).ownBlock = some b → wi.heap.size ≤ b) ∧ Hid (MdRest rdStg N3 s18 dst k s)) (fun v13 _ => (intOf v13).toNat)
              case atStart => exact ⟨N3, 0, [], none, 0, s18, by omega, rfl, HJ0, hid (World.ownsRow_nil _ _ _ _), hid (fun b hb => by simp [Value.ownBlock] at hb), hid (MdRest.start _ _ _)⟩
              case round =>
                clear HJ0
                obtain ⟨k, n, dst, a, c, s, hnk3, rfl, HO, HR, HNW, HMD⟩ := hrel
                have c2 := HO.out.inn.fault
                go_upto_region 28 with fail
                go_cut [117] from 109 to 117 (fun vt wx => vt = .bool (decide (0 < k ∧ s.f = 0)) ∧ Hid (wx = wr))
                case first =>
                  by_cases hk0 : 0 < k
                  · have hd : decide ((k : Int) > 0) = true := decide_eq_true (by omega)
                    by_cases hf : s.f = 0
                    · have hq : (s.f == 0) = true := by simpa using hf
                      have HQ : Hid (decide (0 < k ∧ s.f = 0) = true) := hid (decide_eq_true ⟨hk0, hf⟩)
                      clear hf
                      go_wp2_with fail
                      go_meet
                      exact ⟨by rw [HQ.out], hid rfl⟩
                    · have hq : (s.f == 0) = false := by simpa using hf
                      have HQ : Hid (decide (0 < k ∧ s.f = 0) = false) := hid (decide_eq_false (fun e => hf e.2))
                      clear hf
                      go_wp2_with fail
                      go_meet
                      exact ⟨by rw [HQ.out], hid rfl⟩
                  · have hd : decide ((k : Int) > 0) = false := decide_eq_false (by omega)
                    have HQ : Hid (decide (0 < k ∧ s.f = 0) = false) := hid (decide_eq_false (fun e => hk0 e.1))
                    go_wp2_with fail
                    go_meet
                    exact ⟨by rw [HQ.out], hid rfl⟩
                case rest =>
                  obtain ⟨rfl, HWX⟩ := hcut
                  have hwx := HWX.out
                  subst hwx
                  obtain ⟨wr, rfl⟩ : ∃ x, x = wc := ⟨_, rfl⟩
                  clear HWX c2
                  by_cases hgo : 0 < k ∧ s.f = 0
                  · rw [show decide (0 < k ∧ s.f = 0) = true from decide_eq_true hgo]
                    obtain ⟨hk0, hf⟩ := hgo
                    obtain ⟨k, rfl⟩ : ∃ k', k = k' + 1 := ⟨k - 1, by omega⟩
                    have HF := hid hf
                    clear hf
                    obtain ⟨W9, hW⟩ : ∃ x, wr.alloc (.cells #[.int .i64 0, .int .u8 0] 57) = x := ⟨_, rfl⟩
                    have kW : Keeps No wr W9 := by rw [← hW]; exact (Keeps.refl _ _).alloc _
                    have hbW : BlkL W9 wr.heap.size 57 [.int .i64 0, .int .u8 0] := by rw [← hW]; exact heap_alloc_new wr _
                    have hnW : ¬ F wr.heap.size := fun h => by have h1 := HO.out.lt _ h; have h2 := HO.out.keep.size; omega
                    have HI := hid (MD.start (HO.out.inn.keep kW (fun _ _ h => h)) hbW hnW (fun k hk => by have h1 := HO.out.lt k hk; have h2 := HO.out.keep.size; have h3 := kW.size; omega))
                    have KW9 := hid kW
                    have HW9 := hid hW
                    clear hW kW hbW hnW
                    go_upto_region 31 with fail
                    rw [HW9.out]
                    obtain ⟨tb, hub⟩ : ∃ x, wr.heap.size = x := ⟨_, rfl⟩
                    rw [hub] at HI ⊢
                    have Htb := hid hub
                    clear hub HW9
                    obtain ⟨⟨b20, s20⟩, hs20⟩ : ∃ y, s.int = y := ⟨_, rfl⟩
                    have hc := iint_any HI.out.inn
                    rw [hs20] at hc
                    dsimp only at hc
                    have HC := hid hc
                    have HS20 := hid hs20
                    clear hc hs20
                    go_wp2_with fail
                    refine HC.out.mono ?_
                    rintro e wz ⟨rfl, hin, hk⟩
                    replace HI := hid (HI.out.read hin hk)
                    clear hin hk HC
                    have f0 := HI.out.blk.free 0
                    have x0 := HI.out.blk.cell (o := 0) rfl
                    replace HI := hid (HI.out.put 0 (.int .i64 b20) (ys := [.int .i64 b20, .int .u8 0]) rfl)
                    obtain ⟨⟨b21, s21⟩, hs21⟩ : ∃ y, s20.byte = y := ⟨_, rfl⟩
                    have hc := ibyte_any HI.out.inn
                    rw [hs21] at hc
                    dsimp only at hc
                    have HC := hid hc
                    have hbb := RS.byte_le (s := s20) HI.out.inn.bytes
                    rw [hs21] at hbb
                    obtain ⟨hbl21, hbh21⟩ := hbb
                    dsimp only at hbl21 hbh21
                    have HS21 := hid hs21
                    clear hc hs21
                    go_wp2_with fail
                    refine HC.out.mono ?_
                    rintro e wz ⟨rfl, hin, hk⟩
                    replace HI := hid (HI.out.read hin hk)
                    clear hin hk HC
                    clear f0 x0
                    have f1 := HI.out.blk.free 1
                    have x1 := HI.out.blk.cell (o := 1) rfl
                    replace HI := hid (HI.out.put 1 (.int .u8 b21) (ys := [.int .i64 b20, .int .u8 b21]) rfl)
                    go_upto_region 33 with fail
                    clear f1 x1
                    obtain ⟨wy, hwy⟩ : ∃ x, wz.setCell ⟨tb, 1, none⟩ (.int .u8 b21) = x := ⟨_, rfl⟩
                    rw [hwy] at HI ⊢
                    clear hwy
                    have HO2 := hid (HO.out.over KW9.out (Nat.le_of_eq Htb.out) HI.out)
                    have HR2 := hid (HI.out.row KW9.out (Nat.le_of_eq Htb.out) HR.out (HO.out.ibne HNW.out))
                    have x8 := HO2.out.blk.cell (o := 8) rfl
                    have y0 := HI.out.blk.cell (o := 0) rfl
                    have y1 := HI.out.blk.cell (o := 1) rfl
                    clear HO HI Htb KW9 HR
                    go_wp2_with (at_builtin; refine wpl_append rfl _ _ 47 rfl 57 i2 (.agg #[.int .i64 0, .int .u8 0]) 2 16 Tryd.underlying47 HI2.out ht0 ht1 ht2 rfl (by decide) _ _ _ _ _ _ rfl rfl (Keeps.own (S := No) (by repeat' (first | with_reducible exact Keeps.refl _ _ | with_reducible assumption | with_reducible refine Keeps.drewN ?_ _ | with_reducible refine Keeps.drew ?_ | with_reducible refine Keeps.alloc ?_ _)) HR2.out (fun _ _ h => h)) (Sl.new _ _ _ 2 1 rfl (by decide)) (by intro u hu; simp at hu; rcases hu with rfl | rfl <;> rfl) ?c3 ?c4 ?_)
                    case c3 => unfold maxLen; omega
                    case c4 => omega
                    intro v2 w2 ho kk hb2
                    obtain ⟨a2, c2, rfl⟩ := own_any ho
                    obtain ⟨hm2, hm3, hr3, hn3⟩ := HO2.out.push HNW.out (by repeat' (first | with_reducible exact Keeps.refl _ _ | with_reducible assumption | with_reducible refine Keeps.drewN ?_ _ | with_reducible refine Keeps.drew ?_ | with_reducible refine Keeps.alloc ?_ _)) ho kk (fun b hb => (hb2 b hb).imp id (fun h => by first | exact h | exact Nat.le_of_succ_le h)) 8 rfl
                    have g0 := hm2.blk.cell (o := 8) rfl
                    have e0 := hm2.blk.free 8
                    have HO3 := hid hm3
                    have HR3 := hid hr3
                    have HN3 := hid hn3
                    have HMD3 := hid (HMD.out.next HF.out)
                    clear hm2 hm3 hr3 hn3 ho kk hb2 HO2 HR2 x8 y0 y1 HNW HMD
                    go_wp2_with fail
                    go_roundw
                    case rel => exact ⟨k, n + 1, dst ++ [⟨b20, b21⟩], a2, c2, s21, by omega, by go_num, HO3, hid (by have h1 := HR3.out; rw [List.flatMap_append]; simpa [encStg] using h1), HN3, hid (by have h1 := HMD3.out; simpa only [rdStg, HS20.out, HS21.out] using h1)⟩
                    case measure => simp [intOf]
                  · rw [show decide (0 < k ∧ s.f = 0) = false from decide_eq_false hgo]
                    have HL3 := hid (HMD.out.last hgo)
                    clear HMD hgo
                    have HI2x := hid (HI0.out.trans HO.out)
                    have HO2 := hid (HO0.out.over KW8.out (Nat.le_of_eq Hub.out) HI2x.out)
                    have HR2 := hid (HI2x.out.row KW8.out (Nat.le_of_eq Hub.out) HR0.out (HO0.out.ibne HNW0.out))
                    have HIT2 := hid (HI2x.out.items KW8.out (Or.inl (Nat.le_of_eq Hub.out)) HIT0.out HO0.out.ib)
                    have hrl : ∀ b, (Value.slice ra n0 rc).ownBlock = some b → b < wr0.heap.size := fun b hb => (HR0.out.lt b hb).2
                    have hz1 := KW8.out.size
                    have hz2 := HI0.out.keep.size
                    have hz3 := HO0.out.keep.size
                    have hdl : dst.length = n := by
                      have h3 := HR.out.1
                      rw [length_flatMap_enc (size := 2) (fun _ => rfl)] at h3
                      omega
                    have hsl : Sl wr 2 (.slice a n c) dst.length (dst.flatMap encStg) := by rw [hdl]; exact Sl.ofOwn HR.out
                    have HIT3 := hid (HIT2.out.add (a := (⟨b10, b11, b12, b13, b14, b15, b16, b17, dst⟩ : Rul)) (v := .slice a n c) hsl (fun b hb => by have h1 := HNW.out b hb; have h2 := (HR.out.lt b hb).2; exact ⟨by omega, h2, fun e => by have h3 := hrl b e; omega⟩))
                    clear hsl hdl
                    have x1 := HO2.out.blk.cell (o := 1) rfl
                    have y0 := HI2x.out.blk.cell (o := 0) rfl
                    have y1 := HI2x.out.blk.cell (o := 1) rfl
                    have y2 := HI2x.out.blk.cell (o := 2) rfl
                    have y3 := HI2x.out.blk.cell (o := 3) rfl
                    have y4 := HI2x.out.blk.cell (o := 4) rfl
                    have y5 := HI2x.out.blk.cell (o := 5) rfl
                    have y6 := HI2x.out.blk.cell (o := 6) rfl
                    have y7 := HI2x.out.blk.cell (o := 7) rfl
                    have y8 := HI2x.out.blk.cell (o := 8) rfl
                    have HNW1 := HNW0
                    clear HO HR HNW HO0 HI0 HR0 HIT0 HIT2 KW8 Hub hrl hz1 hz2 hz3 HI2x
                    go_wp2_with (at_builtin; refine wpl_append rfl _ _ 29 rfl 49 i1 (.agg #[.int .u8 0, .int .i64 0, .int .i64 0, .int .i64 0, .int .i64 0, .int .i64 0, .int .u8 0, .bool false, .slice none 0 0]) 9 80 Tryd.underlying29 HI1.out hr0 hr1 hr2 rfl (by decide) _ _ _ _ _ _ rfl rfl (Keeps.own (S := No) (by repeat' (first | with_reducible exact Keeps.refl _ _ | with_reducible assumption | with_reducible refine Keeps.drewN ?_ _ | with_reducible refine Keeps.drew ?_ | with_reducible refine Keeps.alloc ?_ _)) HR2.out (fun _ _ h => h)) (Sl.new _ _ _ 9 1 rfl (by decide)) (by intro u hu; simp at hu; rcases hu with rfl | rfl | rfl | rfl | rfl | rfl | rfl | rfl | rfl <;> rfl) ?c3 ?c4 ?_)
                    case c3 => unfold maxLen; omega
                    case c4 => omega
                    intro v2 w2 ho kk hb2
                    obtain ⟨a2, c2, rfl⟩ := own_any ho
                    have hb3 : ∀ b, (Value.slice a2 (n0 + 1) c2).ownBlock = some b → (Value.slice ra n0 rc).ownBlock = some b ∨ wr.heap.size ≤ b := fun b hb => (hb2 b hb).imp id (fun h => by first | exact h | exact Nat.le_of_succ_le h)
                    have hit := HIT3.out.grow (by repeat' (first | with_reducible exact Keeps.refl _ _ | with_reducible assumption | with_reducible refine Keeps.drewN ?_ _ | with_reducible refine Keeps.drew ?_ | with_reducible refine Keeps.alloc ?_ _)) kk hb3
                    obtain ⟨hm2, hm3, hr3, hn3⟩ := HO2.out.push HNW0.out (by repeat' (first | with_reducible exact Keeps.refl _ _ | with_reducible assumption | with_reducible refine Keeps.drewN ?_ _ | with_reducible refine Keeps.drew ?_ | with_reducible refine Keeps.alloc ?_ _)) ho kk hb3 1 rfl
                    have g0 := hm2.blk.cell (o := 1) rfl
                    have e0 := hm2.blk.free 1
                    have hub2 := hm2.ub
                    have HO3 := hid hm3
                    have HR3 := hid hr3
                    have HN3 := hid hn3
                    have HIT4 := hid (hit.keep (S := fun k => k = cb) (show Keeps (fun k => k = cb) w2 (w2.setCell ⟨cb, 1, none⟩ (.slice a2 (n0 + 1) c2)) from (Keeps.refl _ w2).at) (fun b h1 h2 e => by omega))
                    have HMD3 := hid (HMD0.out.next HF0.out)
                    clear hm2 hm3 hr3 hn3 ho kk hb2 hb3 hit hub2 HO2 HR2 HIT3 x1 y0 y1 y2 y3 y4 y5 y6 y7 y8 HNW0 HNW1 HMD0
                    go_wp2_with fail
                    go_roundw
                    case rel => exact ⟨k0, n0 + 1, done ++ [((⟨b10, b11, b12, b13, b14, b15, b16, b17, dst⟩ : Rul), .slice a n c)], a2, c2, s, by omega, by go_num, HO3, hid (by have h1 := HR3.out; rw [List.flatMap_append]; simpa [encRul] using h1), HN3, HIT4, hid (by
                      have h1 := HMD3.out
                      have h2 : mdRul sr = (⟨b10, b11, b12, b13, b14, b15, b16, b17, dst⟩, s) := by
                        unfold mdRul mdList ru8 ru7 ru6 ru5 ru4 ru3 ru2 ru1
                        simp only [HS10.out, HS11.out, HS12.out, HS13.out, HS14.out, HS15.out, HS16.out, HS17.out, HS18.out, Int.toNat_natCast, HL3.out]
                      rw [h2] at h1
                      rw [List.map_append]
                      exact h1)⟩
                    case measure => simp [intOf]
            · rw [show decide (0 < k ∧ s.f = 0) = false from decide_eq_false hgo]
              have HL2 := hid (HMD.out.last hgo)
              clear HMD hgo
              have HRL := hid (Sl.ofOwn HR.out)
              have HCW := hid HO.out.ub
              have HRN := hid (fun b hb => Nat.lt_of_lt_of_le HCW.out (HNW.out b hb))
              have HIR := HIT
              have KX1 := hid (KX.out.trans HO.out.keep)
              have hic : ib < cb := by have := HCB.out; omega
              have HSL3 := hid (HO.out.slk HSL2.out HSN.out hic)
              have HZ := hid HO.out.anew
              obtain ⟨rls, rfl⟩ : ∃ x, x = done := ⟨_, rfl⟩
              obtain ⟨rla, rfl⟩ : ∃ x, x = ra := ⟨_, rfl⟩
              obtain ⟨rlc, rfl⟩ : ∃ x, x = rc := ⟨_, rfl⟩
              obtain ⟨rln, rfl⟩ : ∃ x, x = n := ⟨_, rfl⟩
              obtain ⟨s6, rfl⟩ : ∃ x, x = s := ⟨_, rfl⟩
              have HCB2 := hid HO.out.ub
              have HIB2 := hid HO.out.ib
              clear HO HR HNW HCW KX HIT HSL2
              obtain ⟨⟨b30, s30⟩, hs30⟩ : ∃ y, s6.byte = y := ⟨_, rfl⟩
              have hc := ibyte_any HZ.out.inn
              rw [hs30] at hc
              dsimp only at hc
              have HC := hid hc
              have hbb := RS.byte_le (s := s6) HZ.out.inn.bytes
              rw [hs30] at hbb
              obtain ⟨hbl30, hbh30⟩ := hbb
              dsimp only at hbl30 hbh30
              have HS30 := hid hs30
              clear hc hs30
              go_wp2_with fail
              refine HC.out.mono ?_
              rintro e wz ⟨rfl, hin, hk⟩
              replace HZ := hid (HZ.out.read hin hk)
              clear hin hk HC
              obtain ⟨N4, hN⟩ : ∃ N : Nat, b30 = N := ⟨b30.toNat, by omega⟩
              subst hN
              have hN4 : N4 ≤ 255 := by omega
              obtain ⟨wb3, hwb⟩ : ∃ x, wz = x := ⟨_, rfl⟩
              rw [hwb] at HZ ⊢
              clear hwb
              have KX := hid (KX1.out.trans HZ.out.keep)
              have HSL4 := hid (HZ.out.slk HSL3.out HSN.out hic)
              have HRL4 := hid (HZ.out.slk HRL.out HRN.out hic)
              have HIR4 := hid (HIR.out.keep HZ.out.keep (fun b h1 h2 e => by have h3 := HCB2.out; have h4 := HIB2.out; rcases e with e | e <;> omega))
              have HY := hid HZ.out.anew
              clear HZ KX1 HSL3 HRL HIR
              obtain ⟨i3, hi, hv0, hv1, hv2⟩ := info_parts info_slotD
              have HI3 := hid hi
              obtain ⟨i4, hi2, hw0, hw1, hw2⟩ := info_parts info_intD
              have HI4 := hid hi2
              clear hi hi2 HI1 hr0 hr1 hr2 HI2 ht0 ht1 ht2
              obtain ⟨RV, hRV⟩ : ∃ x, Value.slice rla rln rlc = x := ⟨_, rfl⟩
              rw [hRV] at HY HRL4 HRN HIR4
              have HRV := hid hRV
              go_wp2_with fail
              go_loopw [15] (fun v15 wr => ∃ (k n : Nat) (done : List (List Int × Value)) (ta : Option Addr) (tc : Nat) (s : RS), n + k ≤ N4 ∧ v15 = .int .u8 k ∧ Hid (MD wb3 wr ib cb 33 F m [SV, RV, .slice ta n tc, .int .i64 0, .int .i64 0, .int .i64 0, .int .i64 0, .int .i64 0, .int .i64 0, .bool false, .int .i64 0] s) ∧ Hid (wr.ownsRow 0 58 1 (.slice ta n tc) n (done.map (·.2))) ∧ Hid (∀ b, (Value.slice ta n tc).ownBlock = some b → wb3.heap.size ≤ b) ∧ Hid (ItD 1 List.length (fun l : List Int => l.map (Value.int .i64)) wb3 wr (.slice ta n tc) done) ∧ Hid (MdRest mdSlot N4 s30 (done.map (·.1)) k s)) (fun v15 _ => (intOf v15).toNat)
              case atStart => exact ⟨N4, 0, [], none, 0, s30, by omega, rfl, HY, hid (World.ownsRow_nil _ _ _ _), hid (fun b hb => by simp [Value.ownBlock] at hb), hid ItD.nil, hid (MdRest.start _ _ _)⟩
              case round =>
                clear HY hRV
                obtain ⟨k, n, done, ta, tc, s, hnk, rfl, HO, HR, HNW, HIT, HMD⟩ := hrel
                have c2 := HO.out.inn.fault
                go_upto_region 36 with fail
                go_cut [148] from 140 to 148 (fun vt wx => vt = .bool (decide (0 < k ∧ s.f = 0)) ∧ Hid (wx = wr))
                case first =>
                  by_cases hk0 : 0 < k
                  · have hd : decide ((k : Int) > 0) = true := decide_eq_true (by omega)
                    by_cases hf : s.f = 0
                    · have hq : (s.f == 0) = true := by simpa using hf
                      have HQ : Hid (decide (0 < k ∧ s.f = 0) = true) := hid (decide_eq_true ⟨hk0, hf⟩)
                      clear hf
                      go_wp2_with fail
                      go_meet
                      exact ⟨by rw [HQ.out], hid rfl⟩
                    · have hq : (s.f == 0) = false := by simpa using hf
                      have HQ : Hid (decide (0 < k ∧ s.f = 0) = false) := hid (decide_eq_false (fun e => hf e.2))
                      clear hf
                      go_wp2_with fail
                      go_meet
                      exact ⟨by rw [HQ.out], hid rfl⟩
                  · have hd : decide ((k : Int) > 0) = false := decide_eq_false (by omega)
                    have HQ : Hid (decide (0 < k ∧ s.f = 0) = false) := hid (decide_eq_false (fun e => hk0 e.1))
                    go_wp2_with fail
                    go_meet
                    exact ⟨by rw [HQ.out], hid rfl⟩
                case rest =>
                  obtain ⟨rfl, HWX⟩ := hcut
                  have hwx := HWX.out
                  subst hwx
                  obtain ⟨wr, rfl⟩ : ∃ x, x = wc := ⟨_, rfl⟩
                  clear HWX c2
                  by_cases hgo : 0 < k ∧ s.f = 0
                  · rw [show decide (0 < k ∧ s.f = 0) = true from decide_eq_true hgo]
                    obtain ⟨hk0, hf⟩ := hgo
                    obtain ⟨k, rfl⟩ : ∃ k', k = k' + 1 := ⟨k - 1, by omega⟩
                    have HF := hid hf
                    clear hf
                    have HI := hid HO.out.anew
                    have hiw := HO.out.ib
                    have hcw := HO.out.ub
                    obtain ⟨⟨b31, s31⟩, hs31⟩ : ∃ y, s.byte = y := ⟨_, rfl⟩
                    have hc := ibyte_any HI.out.inn
                    rw [hs31] at hc
                    dsimp only at hc
                    have HC := hid hc
                    have hbb := RS.byte_le (s := s) HI.out.inn.bytes
                    rw [hs31] at hbb
                    obtain ⟨hbl31, hbh31⟩ := hbb
                    dsimp only at hbl31 hbh31
                    have HS31 := hid hs31
                    clear hc hs31
                    go_wp2_with fail
                    refine HC.out.mono ?_
                    rintro e wz ⟨rfl, hin, hk⟩
                    replace HI := hid (HI.out.read hin hk)
                    clear hin hk HC
                    obtain ⟨N5, hN⟩ : ∃ N : Nat, b31 = N := ⟨b31.toNat, by omega⟩
                    subst hN
                    have hN5 : N5 ≤ 255 := by omega
                    obtain ⟨wi, hwb⟩ : ∃ x, wz = x := ⟨_, rfl⟩
                    rw [hwb] at HI ⊢
                    clear hwb
                    have HO0 := hid (HO.out.trans HI.out)
                    have HR0 := hid (HI.out.ownk HR.out HNW.out hiw hcw)
                    have HIT0 := hid (HIT.out.keep HI.out.keep (fun b h1 h2 e => by rcases e with e | e <;> omega))
                    have HNW0 := HNW
                    have HMD0 := HMD
                    have HF0 := HF
                    have HJ0 := hid HI.out.anew
                    obtain ⟨k0, rfl⟩ : ∃ x, x = k := ⟨_, rfl⟩
                    obtain ⟨n0, rfl⟩ : ∃ x, x = n := ⟨_, rfl⟩
                    obtain ⟨wr0, rfl⟩ : ∃ x, x = wr := ⟨_, rfl⟩
                    obtain ⟨sr, rfl⟩ : ∃ x, x = s := ⟨_, rfl⟩
                    have hzi := HI.out.keep.size
                    have hzo := HO.out.keep.size
                    clear HO HR HNW HIT HMD HF HI
                    go_wp2_with fail
                    go_loopw [16, 17] (fun v16 v17 wr => ∃ (k n : Nat) (l : List Int) (a : Option Addr) (c : Nat) (s : RS), n + k ≤ N5 ∧ v17 = .int .u8 k ∧ v16 = .slice a n c ∧ Hid (MD wi wr ib cb 33 F m [SV, RV, .slice ta n0 tc, .int .i64 0, .int .i64 0, .int .i64 0, .int .i64 0, .int .i64 0, .int .i64 0, .bool false, .int .i64 0] s) ∧ Hid (wr.ownsRow 0 3 1 (.slice a n c) n (l.map (Value.int .i64))) ∧ Hid (∀ b, (Value.slice a n c).ownBlock = some b → wi.heap.size ≤ b) ∧ Hid (MdRest rdNum N5 s31 l k s)) (fun _ v17 _ => (intOf v17).toNat)
                    case atStart => exact ⟨N5, 0, [], none, 0, s31, by omega, rfl, rfl, HJ0, hid (World.ownsRow_nil _ _ _ _), hid (fun b hb => by simp [Value.ownBlock] at hb), hid (MdRest.start _ _ _)⟩
                    case round =>
                      clear HJ0
                      obtain ⟨k, n, l, a, c, s, hnk3, rfl, rfl, HO, HR, HNW, HMD⟩ := hrel
                      have c2 := HO.out.inn.fault
                      go_upto_region 40 with fail
                      go_cut [161] from 153 to 161 (fun vt wx => vt = .bool (decide (0 < k ∧ s.f = 0)) ∧ Hid (wx = wr))
                      case first =>
                        by_cases hk0 : 0 < k
                        · have hd : decide ((k : Int) > 0) = true := decide_eq_true (by omega)
                          by_cases hf : s.f = 0
                          · have hq : (s.f == 0) = true := by simpa using hf
                            have HQ : Hid (decide (0 < k ∧ s.f = 0) = true) := hid (decide_eq_true ⟨hk0, hf⟩)
                            clear hf
                            go_wp2_with fail
                            go_meet
                            exact ⟨by rw [HQ.out], hid rfl⟩
                          · have hq : (s.f == 0) = false := by simpa using hf
                            have HQ : Hid (decide (0 < k ∧ s.f = 0) = false) := hid (decide_eq_false (fun e => hf e.2))
                            clear hf
                            go_wp2_with fail
                            go_meet
                            exact ⟨by rw [HQ.out], hid rfl⟩
                        · have hd : decide ((k : Int) > 0) = false := decide_eq_false (by omega)
                          have HQ : Hid (decide (0 < k ∧ s.f = 0) = false) := hid (decide_eq_false (fun e => hk0 e.1))
                          go_wp2_with fail
                          go_meet
                          exact ⟨by rw [HQ.out], hid rfl⟩
                      case rest =>
                        obtain ⟨rfl, HWX⟩ := hcut
                        have hwx := HWX.out
                        subst hwx
                        obtain ⟨wr, rfl⟩ : ∃ x, x = wc := ⟨_, rfl⟩
                        clear HWX c2
                        by_cases hgo : 0 < k ∧ s.f = 0
                        · rw [show decide (0 < k ∧ s.f = 0) = true from decide_eq_true hgo]
                          obtain ⟨hk0, hf⟩ := hgo
                          obtain ⟨k, rfl⟩ : ∃ k', k = k' + 1 := ⟨k - 1, by omega⟩
                          have HF := hid hf
                          clear hf
                          have HI := hid HO.out.anew
                          have hiw2 := HO.out.ib
                          have hcw2 := HO.out.ub
                          obtain ⟨⟨b33, s33⟩, hs33⟩ : ∃ y, s.byte = y := ⟨_, rfl⟩
                          have hc := ibyte_any HI.out.inn
                          rw [hs33] at hc
                          dsimp only at hc
                          have HC := hid hc
                          have hbb := RS.byte_le (s := s) HI.out.inn.bytes
                          rw [hs33] at hbb
                          obtain ⟨hbl33, hbh33⟩ := hbb
                          dsimp only at hbl33 hbh33
                          have HS33 := hid hs33
                          clear hc hs33
                          go_wp2_with fail
                          refine HC.out.mono ?_
                          rintro e wz ⟨rfl, hin, hk⟩
                          replace HI := hid (HI.out.read hin hk)
                          clear hin hk HC
                          have HO2 := hid (HO.out.trans HI.out)
                          have HR2 := hid (HI.out.ownk HR.out HNW.out hiw2 hcw2)
                          clear HO HI HR
                          go_wp2_with (at_builtin; refine wpl_append rfl _ _ 58 rfl 3 i4 (.int .i64 0) 1 8 Tryd.underlying58 HI4.out hw0 hw1 hw2 rfl (by decide) _ _ _ _ _ _ rfl rfl (Keeps.own (S := No) (by repeat' (first | with_reducible exact Keeps.refl _ _ | with_reducible assumption | with_reducible refine Keeps.drewN ?_ _ | with_reducible refine Keeps.drew ?_ | with_reducible refine Keeps.alloc ?_ _)) HR2.out (fun _ _ h => h)) (Sl.new _ _ _ 1 1 rfl (by decide)) (by intro u hu; simp at hu; subst hu; rfl) ?c3 ?c4 ?_)
                          case c3 => unfold maxLen; omega
                          case c4 => omega
                          intro v2 w2 ho kk hb2
                          obtain ⟨a2, c2, rfl⟩ := own_any ho
                          have hb3 : ∀ b, (Value.slice a2 (n + 1) c2).ownBlock = some b → wi.heap.size ≤ b := fun b hb => by
                            have hzz := HO2.out.keep.size
                            rcases hb2 b hb with h | h
                            · exact HNW.out b h
                            · omega
                          have hm2 := HO2.out.app (by repeat' (first | with_reducible exact Keeps.refl _ _ | with_reducible assumption | with_reducible refine Keeps.drewN ?_ _ | with_reducible refine Keeps.drew ?_ | with_reducible refine Keeps.alloc ?_ _)) HNW.out kk
                          have HO3 := hid hm2
                          have HR3 := hid ho
                          have HN3 := hid hb3
                          have HMD3 := hid (HMD.out.next HF.out)
                          clear hm2 hb3 ho kk hb2 HO2 HR2 HNW HMD
                          go_wp2_with fail
                          go_roundw
                          case rel => exact ⟨k, n + 1, l ++ [b33], a2, c2, s33, by omega, by go_num, rfl, HO3, hid (by have h1 := HR3.out; rw [List.map_append]; simpa using h1), HN3, hid (by have h1 := HMD3.out; simpa only [rdNum, HS33.out] using h1)⟩
                          case measure => simp [intOf]
                        · rw [show decide (0 < k ∧ s.f = 0) = false from decide_eq_false hgo]
                          have HL3 := hid (HMD.out.last hgo)
                          clear HMD hgo
                          have hdl : l.length = n := by simpa using HR.out.1
                          have hsl : SlI wr (.slice a n c) l := by
                            show Sl wr 1 _ l.length _
                            rw [hdl]; exact Sl.ofOwn HR.out
                          have HO2 := hid (HO0.out.trans HO.out)
                          have HR2 := hid (HO.out.ownk HR0.out HNW0.out hiw hcw)
                          have HIT2 := hid (HIT0.out.keep HO.out.keep (fun b h1 h2 e => by rcases e with e | e <;> omega))
                          have hrl : ∀ b, (Value.slice ta n0 tc).ownBlock = some b → b < wi.heap.size := fun b hb => (HR0.out.lt b hb).2
                          have HIT3 := hid (HIT2.out.add (a := l) (v := .slice a n c) hsl (fun b hb => by have h1 := HNW.out b hb; have h2 := (HR.out.lt b hb).2; exact ⟨by omega, h2, fun e => by have h3 := hrl b e; omega⟩))
                          have x2 := HO2.out.blk.cell (o := 2) rfl
                          clear hsl hdl hrl HO HR HNW HO0 HR0 HIT0 HIT2
                          go_wp2_with (at_builtin; refine wpl_append rfl _ _ 30 rfl 58 i3 (.slice none 0 0) 1 24 Tryd.underlying30 HI3.out hv0 hv1 hv2 rfl (by decide) _ _ _ _ _ _ rfl rfl (Keeps.own (S := No) (by repeat' (first | with_reducible exact Keeps.refl _ _ | with_reducible assumption | with_reducible refine Keeps.drewN ?_ _ | with_reducible refine Keeps.drew ?_ | with_reducible refine Keeps.alloc ?_ _)) HR2.out (fun _ _ h => h)) (Sl.new _ _ _ 1 1 rfl (by decide)) (by intro u hu; simp at hu; subst hu; rfl) ?c3 ?c4 ?_)
                          case c3 => unfold maxLen; omega
                          case c4 => omega
                          intro v2 w2 ho kk hb2
                          obtain ⟨a2, c2, rfl⟩ := own_any ho
                          have hb3 : ∀ b, (Value.slice a2 (n0 + 1) c2).ownBlock = some b → (Value.slice ta n0 tc).ownBlock = some b ∨ wr.heap.size ≤ b := fun b hb => (hb2 b hb).imp id (fun h => by first | exact h | exact Nat.le_of_succ_le h)
                          have hit := HIT3.out.grow (by repeat' (first | with_reducible exact Keeps.refl _ _ | with_reducible assumption | with_reducible refine Keeps.drewN ?_ _ | with_reducible refine Keeps.drew ?_ | with_reducible refine Keeps.alloc ?_ _)) kk hb3
                          obtain ⟨hm2, hm3, hr3, hn3⟩ := HO2.out.push HNW0.out (by repeat' (first | with_reducible exact Keeps.refl _ _ | with_reducible assumption | with_reducible refine Keeps.drewN ?_ _ | with_reducible refine Keeps.drew ?_ | with_reducible refine Keeps.alloc ?_ _)) ho kk hb3 2 rfl
                          have g0 := hm2.blk.cell (o := 2) rfl
                          have e0 := hm2.blk.free 2
                          have HO3 := hid hm3
                          have HR3 := hid hr3
                          have HN3 := hid hn3
                          have HIT4 := hid (hit.keep (S := fun k => k = cb) (show Keeps (fun k => k = cb) w2 (w2.setCell ⟨cb, 2, none⟩ (.slice a2 (n0 + 1) c2)) from (Keeps.refl _ w2).at) (fun b h1 h2 e => by omega))
                          have HMD3 := hid (HMD0.out.next HF0.out)
                          clear hm2 hm3 hr3 hn3 ho kk hb2 hb3 hit HO2 HR2 HIT3 x2 HNW0 HMD0
                          go_wp2_with fail
                          go_roundw
                          case rel => exact ⟨k0, n0 + 1, done ++ [(l, .slice a n c)], a2, c2, s, by omega, by go_num, HO3, hid (by have h1 := HR3.out; rw [List.map_append]; simpa using h1), HN3, HIT4, hid (by
                            have h1 := HMD3.out
                            have h2 : mdSlot sr = (l, s) := by
                              unfold mdSlot mdList
                              simp only [HS31.out, Int.toNat_natCast, HL3.out]
                            rw [h2] at h1
                            rw [List.map_append]
                            exact h1)⟩
                          case measure => simp [intOf]
                  · rw [show decide (0 < k ∧ s.f = 0) = false from decide_eq_false hgo]
                    have HL4 := hid (HMD.out.last hgo)
                    clear HMD hgo
                    have HTL := hid (Sl.ofOwn HR.out)
                    have HCW := hid HO.out.ub
                    have HTN := hid (fun b hb => Nat.lt_of_lt_of_le HCW.out (HNW.out b hb))
                    have HCB3 := hid HO.out.ub
                    have HIB3 := hid HO.out.ib
                    have KX1 := hid (KX.out.trans HO.out.keep)
                    have HSL5 := hid (HO.out.slk HSL4.out HSN.out hic)
                    have HRL5 := hid (HO.out.slk HRL4.out HRN.out hic)
                    have HIR5 := hid (HIR4.out.keep HO.out.keep (fun b h1 h2 e => by have h3 := HCB2.out; have h4 := HIB2.out; rcases e with e | e <;> omega))
                    have HIS5 := HIT
                    have HZ := hid HO.out.anew
                    obtain ⟨tbs, rfl⟩ : ∃ x, x = done := ⟨_, rfl⟩
                    obtain ⟨tn, rfl⟩ : ∃ x, x = n := ⟨_, rfl⟩
                    obtain ⟨s8, rfl⟩ : ∃ x, x = s := ⟨_, rfl⟩
                    obtain ⟨TV, hTV⟩ : ∃ x, Value.slice ta tn tc = x := ⟨_, rfl⟩
                    rw [hTV] at HZ HTL HTN HIS5
                    have HTV := hid hTV
                    obtain ⟨w0, rfl⟩ : ∃ x, x = wr := ⟨_, rfl⟩
                    clear HO HR HNW HCW KX HIT HSL4 HRL4 HIR4 hTV
                    obtain ⟨⟨b40, s40⟩, hs40⟩ : ∃ y, s8.byte = y := ⟨_, rfl⟩
                    have hc := ibyte_any HZ.out.inn
                    rw [hs40] at hc
                    dsimp only at hc
                    have HC := hid hc
                    have hbb := RS.byte_le (s := s8) HZ.out.inn.bytes
                    rw [hs40] at hbb
                    obtain ⟨hbl40, hbh40⟩ := hbb
                    dsimp only at hbl40 hbh40
                    have HS40 := hid hs40
                    clear hc hs40
                    go_wp2_with fail
                    refine HC.out.mono ?_
                    rintro e wz ⟨rfl, hin, hk⟩
                    replace HZ := hid (HZ.out.read hin hk)
                    clear hin hk HC
                    have f3 := HZ.out.blk.free 3
                    have x3 := HZ.out.blk.cell (o := 3) rfl
                    replace HZ := hid (HZ.out.put 3 (.int .i64 b40) (ys := [SV, RV, TV, .int .i64 b40, .int .i64 0, .int .i64 0, .int .i64 0, .int .i64 0, .int .i64 0, .bool false, .int .i64 0]) rfl)
                    obtain ⟨⟨b41, s41⟩, hs41⟩ : ∃ y, s40.byte = y := ⟨_, rfl⟩
                    have hc := ibyte_any HZ.out.inn
                    rw [hs41] at hc
                    dsimp only at hc
                    have HC := hid hc
                    have hbb := RS.byte_le (s := s40) HZ.out.inn.bytes
                    rw [hs41] at hbb
                    obtain ⟨hbl41, hbh41⟩ := hbb
                    dsimp only at hbl41 hbh41
                    have HS41 := hid hs41
                    clear hc hs41
                    go_wp2_with fail
                    refine HC.out.mono ?_
                    rintro e wz ⟨rfl, hin, hk⟩
                    replace HZ := hid (HZ.out.read hin hk)
                    clear hin hk HC
                    clear f3 x3
                    have f4 := HZ.out.blk.free 4
                    have x4 := HZ.out.blk.cell (o := 4) rfl
                    replace HZ := hid (HZ.out.put 4 (.int .i64 b41) (ys := [SV, RV, TV, .int .i64 b40, .int .i64 b41, .int .i64 0, .int .i64 0, .int .i64 0, .int .i64 0, .bool false, .int .i64 0]) rfl)
                    obtain ⟨⟨b42, s42⟩, hs42⟩ : ∃ y, s41.byte = y := ⟨_, rfl⟩
                    have hc := ibyte_any HZ.out.inn
                    rw [hs42] at hc
                    dsimp only at hc
                    have HC := hid hc
                    have hbb := RS.byte_le (s := s41) HZ.out.inn.bytes
                    rw [hs42] at hbb
                    obtain ⟨hbl42, hbh42⟩ := hbb
                    dsimp only at hbl42 hbh42
                    have HS42 := hid hs42
                    clear hc hs42
                    go_wp2_with fail
                    refine HC.out.mono ?_
                    rintro e wz ⟨rfl, hin, hk⟩
                    replace HZ := hid (HZ.out.read hin hk)
                    clear hin hk HC
                    clear f4 x4
                    have f5 := HZ.out.blk.free 5
                    have x5 := HZ.out.blk.cell (o := 5) rfl
                    replace HZ := hid (HZ.out.put 5 (.int .i64 b42) (ys := [SV, RV, TV, .int .i64 b40, .int .i64 b41, .int .i64 b42, .int .i64 0, .int .i64 0, .int .i64 0, .bool false, .int .i64 0]) rfl)
                    obtain ⟨⟨b43, s43⟩, hs43⟩ : ∃ y, s42.byte = y := ⟨_, rfl⟩
                    have hc := ibyte_any HZ.out.inn
                    rw [hs43] at hc
                    dsimp only at hc
                    have HC := hid hc
                    have hbb := RS.byte_le (s := s42) HZ.out.inn.bytes
                    rw [hs43] at hbb
                    obtain ⟨hbl43, hbh43⟩ := hbb
                    dsimp only at hbl43 hbh43
                    have HS43 := hid hs43
                    clear hc hs43
                    go_wp2_with fail
                    refine HC.out.mono ?_
                    rintro e wz ⟨rfl, hin, hk⟩
                    replace HZ := hid (HZ.out.read hin hk)
                    clear hin hk HC
                    clear f5 x5
                    have f6 := HZ.out.blk.free 6
                    have x6 := HZ.out.blk.cell (o := 6) rfl
                    replace HZ := hid (HZ.out.put 6 (.int .i64 b43) (ys := [SV, RV, TV, .int .i64 b40, .int .i64 b41, .int .i64 b42, .int .i64 b43, .int .i64 0, .int .i64 0, .bool false, .int .i64 0]) rfl)
                    obtain ⟨⟨b44, s44⟩, hs44⟩ : ∃ y, s43.int = y := ⟨_, rfl⟩
                    have hc := iint_any HZ.out.inn
                    rw [hs44] at hc
                    dsimp only at hc
                    have HC := hid hc
                    have HS44 := hid hs44
                    clear hc hs44
                    go_wp2_with fail
                    refine HC.out.mono ?_
                    rintro e wz ⟨rfl, hin, hk⟩
                    replace HZ := hid (HZ.out.read hin hk)
                    clear hin hk HC
                    clear f6 x6
                    have f7 := HZ.out.blk.free 7
                    have x7 := HZ.out.blk.cell (o := 7) rfl
                    replace HZ := hid (HZ.out.put 7 (.int .i64 b44) (ys := [SV, RV, TV, .int .i64 b40, .int .i64 b41, .int .i64 b42, .int .i64 b43, .int .i64 b44, .int .i64 0, .bool false, .int .i64 0]) rfl)
                    obtain ⟨⟨b45, s45⟩, hs45⟩ : ∃ y, s44.int = y := ⟨_, rfl⟩
                    have hc := iint_any HZ.out.inn
                    rw [hs45] at hc
                    dsimp only at hc
                    have HC := hid hc
                    have HS45 := hid hs45
                    clear hc hs45
                    go_wp2_with fail
                    refine HC.out.mono ?_
                    rintro e wz ⟨rfl, hin, hk⟩
                    replace HZ := hid (HZ.out.read hin hk)
                    clear hin hk HC
                    clear f7 x7
                    have f8 := HZ.out.blk.free 8
                    have x8 := HZ.out.blk.cell (o := 8) rfl
                    replace HZ := hid (HZ.out.put 8 (.int .i64 b45) (ys := [SV, RV, TV, .int .i64 b40, .int .i64 b41, .int .i64 b42, .int .i64 b43, .int .i64 b44, .int .i64 b45, .bool false, .int .i64 0]) rfl)
                    obtain ⟨⟨b46, s46⟩, hs46⟩ : ∃ y, s45.flag = y := ⟨_, rfl⟩
                    have hc := iflag_any HZ.out.inn
                    rw [hs46] at hc
                    dsimp only at hc
                    have HC := hid hc
                    have HS46 := hid hs46
                    clear hc hs46
                    go_wp2_with fail
                    refine HC.out.mono ?_
                    rintro e wz ⟨rfl, hin, hk⟩
                    replace HZ := hid (HZ.out.read hin hk)
                    clear hin hk HC
                    clear f8 x8
                    have f9 := HZ.out.blk.free 9
                    have x9 := HZ.out.blk.cell (o := 9) rfl
                    replace HZ := hid (HZ.out.put 9 (.bool b46) (ys := [SV, RV, TV, .int .i64 b40, .int .i64 b41, .int .i64 b42, .int .i64 b43, .int .i64 b44, .int .i64 b45, .bool b46, .int .i64 0]) rfl)
                    obtain ⟨⟨b47, s47⟩, hs47⟩ : ∃ y, s46.int = y := ⟨_, rfl⟩
                    have hc := iint_any HZ.out.inn
                    rw [hs47] at hc
                    dsimp only at hc
                    have HC := hid hc
                    have HS47 := hid hs47
                    clear hc hs47
                    go_wp2_with fail
                    refine HC.out.mono ?_
                    rintro e wz ⟨rfl, hin, hk⟩
                    replace HZ := hid (HZ.out.read hin hk)
                    clear hin hk HC
                    clear f9 x9
                    have f10 := HZ.out.blk.free 10
                    have x10 := HZ.out.blk.cell (o := 10) rfl
                    replace HZ := hid (HZ.out.put 10 (.int .i64 b47) (ys := [SV, RV, TV, .int .i64 b40, .int .i64 b41, .int .i64 b42, .int .i64 b43, .int .i64 b44, .int .i64 b45, .bool b46, .int .i64 b47]) rfl)
                    obtain ⟨⟨at_, c⟩, hfin⟩ : ∃ y, s47.fin = y := ⟨_, rfl⟩
                    have hc := iend_any HZ.out.inn
                    rw [hfin] at hc
                    dsimp only at hc
                    have HC := hid hc
                    have HFIN := hid hfin
                    clear hc hfin
                    go_wp2_with fail
                    refine HC.out.mono ?_
                    rintro e w9 ⟨rfl, k9⟩
                    clear f10 x10
                    have HE := hid (HZ.out.calm k9)
                    have hrbc : ¬ Two ib cb w.heap.size := fun e => by have h3 := HCB.out; rcases e with e | e <;> omega
                    have HRB := hid (HB6.out.keep (KX1.out.trans HE.out.keep) hrbc)
                    have KF := hid (KW6.out.trans' (KX1.out.trans HE.out.keep) (fun _ _ h => h) (fun i hi e => by have h3 := HCB.out; rcases e with e | e <;> omega))
                    clear hrbc
                    obtain ⟨rb, hrbe⟩ : ∃ x, w.heap.size = x := ⟨_, rfl⟩
                    rw [hrbe] at HRB ⊢
                    have HRE := hid hrbe
                    clear hrbe
                    obtain ⟨f0, f1, f2, f3, f4, f5, f6, f7, f8, f9, f10⟩ := frees11 HRB.out
                    obtain ⟨x0, x1, x2, x3, x4, x5, x6, x7, x8, x9, x10⟩ := cells11 HRB.out
                    have HST : Hid ((rdCfg ⟨m, 0, 0⟩).2 = s47) := hid (by
                      have h6 := md6_ct ⟨m, 0, 0⟩
                      rw [HS0.out] at h6
                      have h8 : md6 s0 = s8 := by unfold md6 md5 md4 mdList; simp only [HS1.out, HS5.out, HS30.out, Int.toNat_natCast, HL1.out, HL2.out, HL4.out]
                      rw [h8] at h6
                      show (ct13 ⟨m, 0, 0⟩).int.2 = _
                      unfold ct13 ct12 ct11 ct10 ct9
                      rw [← h6]
                      simp only [skipB, HS40.out, HS41.out, HS42.out, HS43.out, HS44.out, HS45.out, HS46.out, HS47.out])
                    by_cases hc0 : c = 0
                    · subst hc0
                      have hfz : s47.fin.2 = 0 := by rw [HFIN.out]
                      have HPC := hid (show (rdCfg ⟨m, 0, 0⟩).1 = ⟨sgs, rls.map (·.1), tbs.map (·.1), b40, b41, b42, b43, b44, b45, b46, b47⟩ from by
                        have hf0 : (rdCfg ⟨m, 0, 0⟩).2.f = 0 := by rw [HST.out]; exact fin_zero hfz
                        obtain ⟨e1, e2, e3⟩ := md_cfg hf0
                        have h4 := md4_ct ⟨m, 0, 0⟩
                        have h5 := md5_ct ⟨m, 0, 0⟩
                        have h6 := md6_ct ⟨m, 0, 0⟩
                        rw [HS0.out] at h4 h5 h6 e1
                        have g4 : md4 s0 = s4 := by unfold md4 mdList; simp only [HS1.out, Int.toNat_natCast, HL1.out]
                        have g5 : md5 s0 = s6 := by unfold md5; rw [g4]; unfold mdList; simp only [HS5.out, Int.toNat_natCast, HL2.out]
                        have g6 : md6 s0 = s8 := by unfold md6; rw [g5]; unfold mdList; simp only [HS30.out, Int.toNat_natCast, HL4.out]
                        rw [← h4, g4] at e2
                        rw [← h5, g5] at e3
                        unfold mdList at e1 e2 e3
                        simp only [HS1.out, HS5.out, HS30.out, Int.toNat_natCast, HL1.out, HL2.out, HL4.out] at e1 e2 e3
                        have e6 : ct6 ⟨m, 0, 0⟩ = s8 := by rw [← h6, g6]
                        have e0 : rdCfg ⟨m, 0, 0⟩ = (⟨(rdCfg ⟨m, 0, 0⟩).1.sigs, (rdCfg ⟨m, 0, 0⟩).1.ruls, (rdCfg ⟨m, 0, 0⟩).1.tab, (skipB 0 (ct6 ⟨m, 0, 0⟩)).byte.1, (skipB 1 (ct6 ⟨m, 0, 0⟩)).byte.1, (skipB 2 (ct6 ⟨m, 0, 0⟩)).byte.1, (ct9 ⟨m, 0, 0⟩).byte.1, (ct10 ⟨m, 0, 0⟩).int.1, (ct11 ⟨m, 0, 0⟩).int.1, (ct12 ⟨m, 0, 0⟩).flag.1, (ct13 ⟨m, 0, 0⟩).int.1⟩, (rdCfg ⟨m, 0, 0⟩).2) := rfl
                        rw [e0, ← e1, ← e2, ← e3]
                        unfold ct13 ct12 ct11 ct10 ct9
                        rw [e6]
                        simp only [skipB, HS40.out, HS41.out, HS42.out, HS43.out, HS44.out, HS45.out, HS46.out, HS47.out])
                      have HCR : Hid (∀ w', Keeps (fun k => k = w.heap.size) w9 w' → CfgR w' ⟨sgs, rls, tbs, b40, b41, b42, b43, b44, b45, b46, b47⟩ SV RV TV) := hid (fun w' hw => by
                        have kk : Keeps (fun k => k = w.heap.size ∨ Two ib cb k) w0 w' := (HE.out.keep.mono (fun _ _ e => Or.inr e)).trans (hw.mono (fun _ _ e => Or.inl e))
                        have hcb := HCB.out
                        have hlow : ∀ b, (b = w.heap.size ∨ Two ib cb b) → b ≤ cb := fun b e => by
                          rcases e with e | e | e <;> omega
                        have l1 : sgs.length = sgn := by have h := HSL5.out.1; rw [length_flatMap_enc (size := 2) (fun _ => rfl)] at h; omega
                        have l2 : rls.length = rln := by have h := HRL5.out.1; rw [length_flatMap_enc (size := 9) (fun _ => rfl)] at h; omega
                        have l3 : tbs.length = tn := by simpa using HTL.out.1
                        refine ⟨?_, ?_, ?_, ?_, ?_⟩
                        · show Sl w' 2 SV sgs.length _
                          rw [l1]; exact HSL5.out.keep kk (fun b hb e => by have h1 := hlow b e; have h2 := HSN.out b hb; omega)
                        · show Sl w' 9 RV rls.length _
                          rw [l2]; exact HRL5.out.keep kk (fun b hb e => by have h1 := hlow b e; have h2 := HRN.out b hb; omega)
                        · show Sl w' 1 TV tbs.length _
                          rw [l3]; exact HTL.out.keep kk (fun b hb e => by have h1 := hlow b e; have h2 := HTN.out b hb; omega)
                        · exact HIR5.out.sl kk (fun b e => by have h1 := hlow b e; have h2 := HCB2.out; omega)
                        · exact HIS5.out.sl kk (fun b e => by have h1 := hlow b e; have h2 := HCB3.out; omega))
                      obtain ⟨sva, svn, svc, hsv⟩ : ∃ a n c, SV = .slice a n c := ⟨_, _, _, HSV.out.symm⟩
                      obtain ⟨rva, rvn, rvc, hrv⟩ : ∃ a n c, RV = .slice a n c := ⟨_, _, _, HRV.out.symm⟩
                      obtain ⟨tva, tvn, tvc, htv⟩ : ∃ a n c, TV = .slice a n c := ⟨_, _, _, HTV.out.symm⟩
                      subst hsv
                      subst hrv
                      subst htv
                      have y0 := HE.out.blk.cell (o := 0) rfl
                      have y1 := HE.out.blk.cell (o := 1) rfl
                      have y2 := HE.out.blk.cell (o := 2) rfl
                      have y3 := HE.out.blk.cell (o := 3) rfl
                      have y4 := HE.out.blk.cell (o := 4) rfl
                      have y5 := HE.out.blk.cell (o := 5) rfl
                      have y6 := HE.out.blk.cell (o := 6) rfl
                      have y7 := HE.out.blk.cell (o := 7) rfl
                      have y8 := HE.out.blk.cell (o := 8) rfl
                      have y9 := HE.out.blk.cell (o := 9) rfl
                      have y10 := HE.out.blk.cell (o := 10) rfl
                      clear hfz k9 HZ
                      go_upto_region 55 with fail
                      go_cut [3, 4] from 217 to 217 (fun v3 v4 wx => v3 = .int .i64 0 ∧ v4 = .int .i64 0 ∧ Hid (BlkL wx rb 33 [.slice sva svn svc, .slice rva rvn rvc, .slice tva tvn tvc, .int .i64 b40, .int .i64 b41, .int .i64 b42, .int .i64 b43, .int .i64 b44, .int .i64 b45, .bool b46, .int .i64 b47]) ∧ Hid (Keeps (fun k => k = rb) w9 wx))
                      case first =>
                        go_wp2_with fail
                        go_meet
                        have p0 := HRB.out.put (ys := [.slice sva svn svc, .slice none 0 0, .slice none 0 0, .int .i64 0, .int .i64 0, .int .i64 0, .int .i64 0, .int .i64 0, .int .i64 0, .bool false, .int .i64 0]) 0 (.slice sva svn svc) rfl
                        have p1 := p0.put (ys := [.slice sva svn svc, .slice rva rvn rvc, .slice none 0 0, .int .i64 0, .int .i64 0, .int .i64 0, .int .i64 0, .int .i64 0, .int .i64 0, .bool false, .int .i64 0]) 1 (.slice rva rvn rvc) rfl
                        have p2 := p1.put (ys := [.slice sva svn svc, .slice rva rvn rvc, .slice tva tvn tvc, .int .i64 0, .int .i64 0, .int .i64 0, .int .i64 0, .int .i64 0, .int .i64 0, .bool false, .int .i64 0]) 2 (.slice tva tvn tvc) rfl
                        have p3 := p2.put (ys := [.slice sva svn svc, .slice rva rvn rvc, .slice tva tvn tvc, .int .i64 b40, .int .i64 0, .int .i64 0, .int .i64 0, .int .i64 0, .int .i64 0, .bool false, .int .i64 0]) 3 (.int .i64 b40) rfl
                        have p4 := p3.put (ys := [.slice sva svn svc, .slice rva rvn rvc, .slice tva tvn tvc, .int .i64 b40, .int .i64 b41, .int .i64 0, .int .i64 0, .int .i64 0, .int .i64 0, .bool false, .int .i64 0]) 4 (.int .i64 b41) rfl
                        have p5 := p4.put (ys := [.slice sva svn svc, .slice rva rvn rvc, .slice tva tvn tvc, .int .i64 b40, .int .i64 b41, .int .i64 b42, .int .i64 0, .int .i64 0, .int .i64 0, .bool false, .int .i64 0]) 5 (.int .i64 b42) rfl
                        have p6 := p5.put (ys := [.slice sva svn svc, .slice rva rvn rvc, .slice tva tvn tvc, .int .i64 b40, .int .i64 b41, .int .i64 b42, .int .i64 b43, .int .i64 0, .int .i64 0, .bool false, .int .i64 0]) 6 (.int .i64 b43) rfl
                        have p7 := p6.put (ys := [.slice sva svn svc, .slice rva rvn rvc, .slice tva tvn tvc, .int .i64 b40, .int .i64 b41, .int .i64 b42, .int .i64 b43, .int .i64 b44, .int .i64 0, .bool false, .int .i64 0]) 7 (.int .i64 b44) rfl
                        have p8 := p7.put (ys := [.slice sva svn svc, .slice rva rvn rvc, .slice tva tvn tvc, .int .i64 b40, .int .i64 b41, .int .i64 b42, .int .i64 b43, .int .i64 b44, .int .i64 b45, .bool false, .int .i64 0]) 8 (.int .i64 b45) rfl
                        have p9 := p8.put (ys := [.slice sva svn svc, .slice rva rvn rvc, .slice tva tvn tvc, .int .i64 b40, .int .i64 b41, .int .i64 b42, .int .i64 b43, .int .i64 b44, .int .i64 b45, .bool b46, .int .i64 0]) 9 (.bool b46) rfl
                        have p10 := p9.put (ys := [.slice sva svn svc, .slice rva rvn rvc, .slice tva tvn tvc, .int .i64 b40, .int .i64 b41, .int .i64 b42, .int .i64 b43, .int .i64 b44, .int .i64 b45, .bool b46, .int .i64 b47]) 10 (.int .i64 b47) rfl
                        refine ⟨rfl, rfl, hid p10, hid ?_⟩
                        repeat' (first | with_reducible exact Keeps.refl _ _ | with_reducible refine Keeps.at ?_)
                      case rest =>
                        obtain ⟨rfl, rfl, HF1, HF2⟩ := hcut
                        clear x0 x1 x2 x3 x4 x5 x6 x7 x8 x9 x10 f0 f1 f2 f3 f4 f5 f6 f7 f8 f9 f10 y0 y1 y2 y3 y4 y5 y6 y7 y8 y9 y10
                        obtain ⟨x0, x1, x2, x3, x4, x5, x6, x7, x8, x9, x10⟩ := cells11 HF1.out
                        rename_i hK9
                        refine hK9 _ _ ?_
                        refine wp_ret ?_
                        refine bodyPost_ret (v := .tuple #[.agg #[.slice sva svn svc, .slice rva rvn rvc, .slice tva tvn tvc, .int .i64 b40, .int .i64 b41, .int .i64 b42, .int .i64 b43, .int .i64 b44, .int .i64 b45, .bool b46, .int .i64 b47], .int .i64 0, .int .i64 0]) (by simp [results, Tryd.results31, go_sem, x0, x1, x2, x3, x4, x5, x6, x7, x8, x9, x10]) rfl ?_
                        have hpp := HP.out
                        have hre := HRE.out
                        subst hre
                        exact ⟨some (rdCfg ⟨m, 0, 0⟩).1, 0, 0, _, Or.inr (Or.inr (Or.inr (Or.inl ⟨m, a, b, hpp.1, hpp.2.1, hpp.2.2, by rw [HST.out, HFIN.out], rfl, rfl, rfl⟩))), rfl, ⟨⟨sgs, rls, tbs, b40, b41, b42, b43, b44, b45, b46, b47⟩, _, _, _, rfl, HCR.out _ HF2.out, by rw [HPC.out]; rfl⟩, KF.out.trans' HF2.out (fun _ _ h => h) (fun i hi e => by omega)⟩
                    · have hq : (c != 0) = true := by simpa using hc0
                      have hq2 : (c == 0) = false := by simpa using hc0
                      have HC0 := hid hc0
                      clear hc0 k9 HZ
                      go_upto_region 54 with fail
                      go_cut [3, 4] from 214 to 216 (fun v3 v4 wx => v3 = .int .i64 at_ ∧ v4 = .int .i64 c ∧ Hid (BlkL wx rb 33 [.slice none 0 0, .slice none 0 0, .slice none 0 0, .int .i64 0, .int .i64 0, .int .i64 0, .int .i64 0, .int .i64 0, .int .i64 0, .bool false, .int .i64 0]) ∧ Hid (Keeps (fun k => k = rb) w9 wx))
                      case first =>
                        go_wp2_with fail
                        go_meet
                        have p0 := HRB.out.put (ys := [.slice none 0 0, .slice none 0 0, .slice none 0 0, .int .i64 0, .int .i64 0, .int .i64 0, .int .i64 0, .int .i64 0, .int .i64 0, .bool false, .int .i64 0]) 0 (.slice none 0 0) rfl
                        have p1 := p0.put (ys := [.slice none 0 0, .slice none 0 0, .slice none 0 0, .int .i64 0, .int .i64 0, .int .i64 0, .int .i64 0, .int .i64 0, .int .i64 0, .bool false, .int .i64 0]) 1 (.slice none 0 0) rfl
                        have p2 := p1.put (ys := [.slice none 0 0, .slice none 0 0, .slice none 0 0, .int .i64 0, .int .i64 0, .int .i64 0, .int .i64 0, .int .i64 0, .int .i64 0, .bool false, .int .i64 0]) 2 (.slice none 0 0) rfl
                        have p3 := p2.put (ys := [.slice none 0 0, .slice none 0 0, .slice none 0 0, .int .i64 0, .int .i64 0, .int .i64 0, .int .i64 0, .int .i64 0, .int .i64 0, .bool false, .int .i64 0]) 3 (.int .i64 0) rfl
                        have p4 := p3.put (ys := [.slice none 0 0, .slice none 0 0, .slice none 0 0, .int .i64 0, .int .i64 0, .int .i64 0, .int .i64 0, .int .i64 0, .int .i64 0, .bool false, .int .i64 0]) 4 (.int .i64 0) rfl
                        have p5 := p4.put (ys := [.slice none 0 0, .slice none 0 0, .slice none 0 0, .int .i64 0, .int .i64 0, .int .i64 0, .int .i64 0, .int .i64 0, .int .i64 0, .bool false, .int .i64 0]) 5 (.int .i64 0) rfl
                        have p6 := p5.put (ys := [.slice none 0 0, .slice none 0 0, .slice none 0 0, .int .i64 0, .int .i64 0, .int .i64 0, .int .i64 0, .int .i64 0, .int .i64 0, .bool false, .int .i64 0]) 6 (.int .i64 0) rfl
                        have p7 := p6.put (ys := [.slice none 0 0, .slice none 0 0, .slice none 0 0, .int .i64 0, .int .i64 0, .int .i64 0, .int .i64 0, .int .i64 0, .int .i64 0, .bool false, .int .i64 0]) 7 (.int .i64 0) rfl
                        have p8 := p7.put (ys := [.slice none 0 0, .slice none 0 0, .slice none 0 0, .int .i64 0, .int .i64 0, .int .i64 0, .int .i64 0, .int .i64 0, .int .i64 0, .bool false, .int .i64 0]) 8 (.int .i64 0) rfl
                        have p9 := p8.put (ys := [.slice none 0 0, .slice none 0 0, .slice none 0 0, .int .i64 0, .int .i64 0, .int .i64 0, .int .i64 0, .int .i64 0, .int .i64 0, .bool false, .int .i64 0]) 9 (.bool false) rfl
                        have p10 := p9.put (ys := [.slice none 0 0, .slice none 0 0, .slice none 0 0, .int .i64 0, .int .i64 0, .int .i64 0, .int .i64 0, .int .i64 0, .int .i64 0, .bool false, .int .i64 0]) 10 (.int .i64 0) rfl
                        refine ⟨rfl, rfl, hid p10, hid ?_⟩
                        repeat' (first | with_reducible exact Keeps.refl _ _ | with_reducible refine Keeps.at ?_)
                      case rest =>
                        obtain ⟨rfl, rfl, HF1, HF2⟩ := hcut
                        clear x0 x1 x2 x3 x4 x5 x6 x7 x8 x9 x10 f0 f1 f2 f3 f4 f5 f6 f7 f8 f9 f10
                        obtain ⟨x0, x1, x2, x3, x4, x5, x6, x7, x8, x9, x10⟩ := cells11 HF1.out
                        rename_i hK9
                        refine hK9 _ _ ?_
                        refine wp_ret ?_
                        refine bodyPost_ret (v := .tuple #[.agg #[.slice none 0 0, .slice none 0 0, .slice none 0 0, .int .i64 0, .int .i64 0, .int .i64 0, .int .i64 0, .int .i64 0, .int .i64 0, .bool false, .int .i64 0], .int .i64 at_, .int .i64 c]) (by simp [results, Tryd.results31, go_sem, x0, x1, x2, x3, x4, x5, x6, x7, x8, x9, x10]) rfl ?_
                        have hpp := HP.out
                        have hre := HRE.out
                        subst hre
                        exact ⟨none, at_, c, _, Or.inr (Or.inr (Or.inr (Or.inr ⟨m, a, b, hpp.1, hpp.2.1, hpp.2.2, by rw [HST.out, HFIN.out]; exact HC0.out, rfl, by rw [HST.out, HFIN.out], by rw [HST.out, HFIN.out]⟩))), rfl, rfl, KF.out.trans' HF2.out (fun _ _ h => h) (fun i hi e => by omega)⟩

/-- The document's Decode: what any bytes are. -/
theorem mDecode_any {w : World} {v : Value} {p : List Int} (h : SlB w v p) (hb : Bytes p) (hl : p.length ≤ 1000) : Calls Tryd.prog 31 #[v] w (MDecPost p w) := by
  by_cases hp : p.length < 2
  · refine (mdecode_short h hp).mono ?_
    rintro e w' ⟨rfl, hk⟩
    exact ⟨none, 0, 4, zeroV, Or.inl ⟨hp, rfl, rfl, rfl⟩, rfl, rfl, hk⟩
  · obtain ⟨m, a, b, hpe⟩ := last_two p (by omega)
    have hl2 : m.length ≤ 1000 := by rw [hpe] at hl; simp at hl; omega
    have hb2 : Bytes (m ++ [a, b]) := hpe ▸ hb
    by_cases hs : mof m = word a b
    · rcases hbg : begins m with _ | _
      · by_cases h3 : m.length < 3
        · refine (mdecode_form0 h hpe hb2 hl2 hs h3).mono ?_
          rintro e w' ⟨rfl, hk⟩
          exact ⟨none, 0, 2, zeroV, Or.inr (Or.inr (Or.inl ⟨m, a, b, hpe, hs, hbg, rfl, rfl, rfl⟩)), rfl, rfl, hk⟩
        · refine (mdecode_form1 h hpe hb2 hl2 hs (by omega) (fun e => by unfold begins lettersB at hbg; rw [e] at hbg; simp at hbg)).mono ?_
          rintro e w' ⟨rfl, hk⟩
          exact ⟨none, 0, 2, zeroV, Or.inr (Or.inr (Or.inl ⟨m, a, b, hpe, hs, hbg, rfl, rfl, rfl⟩)), rfl, rfl, hk⟩
      · exact mdecode_read h hpe hb2 hl2 hs hbg
    · refine (mdecode_sum h hpe hb2 hl2 hs).mono ?_
      rintro e w' ⟨rfl, hk⟩
      exact ⟨none, 0, 3, zeroV, Or.inr (Or.inl ⟨m, a, b, hpe, hs, rfl, rfl, rfl⟩), rfl, rfl, hk⟩

end Go.Proofs.YtlenhccdkhgfgaaDoor

/-
  What the program and the document read of any bytes is the same.
-/
namespace Go.Proofs.YtlenhccdkhgfgaaDoor
open Go.RowKit
set_option linter.unusedVariables false

theorem sum_bytes (m : List Int) : Bytes [((mof m).toNat : Int) / 256, ((mof m).toNat : Int) % 256] := fun x hx => by
  have hlt := (mof m).isLt
  simp at hx
  omega

def decF (m : List Int) (a b : Int) : Option PCfg × Int × Int :=
  if mof m ≠ word a b then (none, 0, 3) else if begins m = false then (none, 0, 2) else if (rdCfg ⟨m, 0, 0⟩).2.fin.2 = 0 then (some (rdCfg ⟨m, 0, 0⟩).1, 0, 0) else (none, (rdCfg ⟨m, 0, 0⟩).2.fin.1, (rdCfg ⟨m, 0, 0⟩).2.fin.2)

theorem DecS.short {p : List Int} {o : Option PCfg} {at_ c : Int} (h : DecS p o at_ c) (hp : p.length < 2) : o = none ∧ at_ = 0 ∧ c = 4 := by
  rcases h with ⟨_, h1, h2, h3⟩ | ⟨m, a, b, he, _⟩ | ⟨m, a, b, he, _⟩ | ⟨m, a, b, he, _⟩ | ⟨m, a, b, he, _⟩
  · exact ⟨h1, h2, h3⟩
  all_goals
    rw [he] at hp
    simp at hp
    omega

theorem DecS.long {m : List Int} {a b : Int} {o : Option PCfg} {at_ c : Int} (h : DecS (m ++ [a, b]) o at_ c) : (o, at_, c) = decF m a b := by
  unfold decF
  rcases h with ⟨h, _⟩ | ⟨m', a', b', he, h1, h2, h3, h4⟩ | ⟨m', a', b', he, h1, h2, h3, h4, h5⟩ | ⟨m', a', b', he, h1, h2, h3, h4, h5, h6⟩ | ⟨m', a', b', he, h1, h2, h3, h4, h5, h6⟩
  · simp at h
    omega
  all_goals
    obtain ⟨rfl, rfl, rfl⟩ := two_eq he
  · rw [if_pos h1, h2, h3, h4]
  · rw [if_neg (fun e => e h1), if_pos h2, h3, h4, h5]
  · rw [if_neg (fun e => e h1), if_neg (by rw [h2]; decide), if_pos h3, h4, h5, h6]
  · rw [if_neg (fun e => e h1), if_neg (by rw [h2]; decide), if_neg h3, h4, h5, h6]

theorem DecS.det {p : List Int} {o o' : Option PCfg} {a a' c c' : Int} (h : DecS p o a c) (h' : DecS p o' a' c') : o = o' ∧ a = a' ∧ c = c' := by
  by_cases hp : p.length < 2
  · obtain ⟨h1, h2, h3⟩ := h.short hp
    obtain ⟨k1, k2, k3⟩ := h'.short hp
    exact ⟨h1.trans k1.symm, h2.trans k2.symm, h3.trans k3.symm⟩
  · obtain ⟨m, x, y, rfl⟩ := last_two p (by omega)
    have := h.long.trans h'.long.symm
    simp only [Prod.mk.injEq] at this
    exact ⟨this.1, this.2.1, this.2.2⟩

def zeroP : PCfg := ⟨[], [], [], 0, 0, 0, 0, 0, 0, false, 0⟩

/-- An answer as a configuration. -/
theorem CfgO.cfg {w : World} {cv : Value} {o : Option PCfg} (h : CfgO w cv o) : ∃ (C : Cfg) (sa ra ta : Option Addr) (sc rc tc : Nat), cv = C.val (.slice sa C.sigs.length sc) (.slice ra C.ruls.length rc) (.slice ta C.tab.length tc) ∧ CfgR w C (.slice sa C.sigs.length sc) (.slice ra C.ruls.length rc) (.slice ta C.tab.length tc) ∧ C.pure = o.getD zeroP := by
  cases o with
  | none => exact ⟨⟨[], [], [], 0, 0, 0, 0, 0, 0, false, 0⟩, none, none, none, 0, 0, 0, h, ⟨Sl.nil _ _, Sl.nil _ _, Sl.nil _ _, fun x hx => by simp at hx, fun x hx => by simp at hx⟩, rfl⟩
  | some P =>
    obtain ⟨C, sv, rv, tv, rfl, hr, hp⟩ := h
    obtain ⟨sa, sc, rfl⟩ := hr.sig.any
    obtain ⟨ra, rc, rfl⟩ := hr.rul.any
    obtain ⟨ta, tc, rfl⟩ := hr.tab.any
    exact ⟨C, sa, ra, ta, sc, rc, tc, rfl, hr, hp⟩

set_option maxHeartbeats 8000000 in
set_option maxRecDepth 100000 in
theorem decodes_true {w : World} {v : Value} {p : List Int} (hg : ErrV w) (h : SlB w v p) (hb : Bytes p) (hl : p.length ≤ 1000) :
    Calls Tryd.prog 17 #[v] w fun e w' => e = .returned (.bool true) ∧ Keeps No w w' := by
  have HD := hid (Decode_any hg h hb hl)
  have HM := hid (fun (w' : World) (k : Keeps No w w') => mDecode_any (h.keep k (fun _ _ h => h)) hb hl)
  obtain ⟨ao, cap, rfl⟩ := h.any
  clear hg h hb hl
  go_enter Tryd.func17, Tryd.ntmps17
  go_wp2_with fail
  refine HD.out.mono ?_
  rintro e w1 ⟨o, at_, c, cv, hd, rfl, hc, k1⟩
  obtain ⟨C, sa, ra, ta, sc, rc, tc, rfl, hr, hp⟩ := hc.cfg
  unfold Cfg.val Cfg.cells
  have HS := hid hd
  have HP := hid hp
  have HR := hid hr
  have K1 := hid k1
  clear hd hc hr hp k1 HD
  obtain ⟨W2, hW2⟩ : ∃ x, w1.alloc (.cells #[.slice sa C.sigs.length sc, .slice ra C.ruls.length rc, .slice ta C.tab.length tc, .int .i64 C.b0, .int .i64 C.b1, .int .i64 C.b2, .int .i64 C.drain, .int .i64 C.pause, .int .i64 C.off, .bool C.brk, .int .i64 C.log] 33) = x := ⟨_, rfl⟩
  have k2 : Keeps No w1 W2 := by rw [← hW2]; exact (Keeps.refl _ _).alloc _
  have hb2 : BlkL W2 w1.heap.size 33 [.slice sa C.sigs.length sc, .slice ra C.ruls.length rc, .slice ta C.tab.length tc, .int .i64 C.b0, .int .i64 C.b1, .int .i64 C.b2, .int .i64 C.drain, .int .i64 C.pause, .int .i64 C.off, .bool C.brk, .int .i64 C.log] := by rw [← hW2]; exact heap_alloc_new w1 _
  have HW2 := hid hW2
  have HB2 := hid hb2
  have HR2 := hid (HR.out.calm k2)
  have K2 := hid (K1.out.trans k2)
  clear hW2 hb2 k2 HR K1
  go_upto_region 2 with fail
  rw [HW2.out]
  go_wp2_with fail
  refine (HM.out _ K2.out).mono ?_
  rintro e w3 ⟨o', at', c', cv', hd, rfl, hc, k3⟩
  obtain ⟨D, sa2, ra2, ta2, sc2, rc2, tc2, rfl, hr, hp⟩ := hc.cfg
  unfold Cfg.val Cfg.cells
  obtain ⟨rfl, rfl, rfl⟩ := HS.out.det hd
  have HQ := hid (HP.out.trans hp.symm)
  have HRD := hid hr
  have HRC := hid (HR2.out.calm k3)
  have HBC := hid (HB2.out.keep k3 (fun h => h))
  have K3 := hid (K2.out.trans k3)
  clear hd hc hr hp k3 HM HP HR2 HB2 K2 HW2 HS
  obtain ⟨W4, hW4⟩ : ∃ x, w3.alloc (.cells #[.slice sa2 D.sigs.length sc2, .slice ra2 D.ruls.length rc2, .slice ta2 D.tab.length tc2, .int .i64 D.b0, .int .i64 D.b1, .int .i64 D.b2, .int .i64 D.drain, .int .i64 D.pause, .int .i64 D.off, .bool D.brk, .int .i64 D.log] 33) = x := ⟨_, rfl⟩
  have k4 : Keeps No w3 W4 := by rw [← hW4]; exact (Keeps.refl _ _).alloc _
  have hb4 : BlkL W4 w3.heap.size 33 [.slice sa2 D.sigs.length sc2, .slice ra2 D.ruls.length rc2, .slice ta2 D.tab.length tc2, .int .i64 D.b0, .int .i64 D.b1, .int .i64 D.b2, .int .i64 D.drain, .int .i64 D.pause, .int .i64 D.off, .bool D.brk, .int .i64 D.log] := by rw [← hW4]; exact heap_alloc_new w3 _
  have hc4 := HBC.out.keep k4 (fun h => h)
  have HSM := hid (csame_true (HRC.out.calm k4) (HRD.out.calm k4) HQ.out)
  unfold Cfg.val Cfg.cells at HSM
  have HW4 := hid hW4
  have K4 := hid (K3.out.trans k4)
  clear hW4 k4 HRC HRD HBC K3 HQ
  go_upto_region 3 with fail
  rw [HW4.out]
  have x0 := hc4.cell (o := 0) rfl
  have x1 := hc4.cell (o := 1) rfl
  have x2 := hc4.cell (o := 2) rfl
  have x3 := hc4.cell (o := 3) rfl
  have x4 := hc4.cell (o := 4) rfl
  have x5 := hc4.cell (o := 5) rfl
  have x6 := hc4.cell (o := 6) rfl
  have x7 := hc4.cell (o := 7) rfl
  have x8 := hc4.cell (o := 8) rfl
  have x9 := hc4.cell (o := 9) rfl
  have x10 := hc4.cell (o := 10) rfl
  have y0 := hb4.cell (o := 0) rfl
  have y1 := hb4.cell (o := 1) rfl
  have y2 := hb4.cell (o := 2) rfl
  have y3 := hb4.cell (o := 3) rfl
  have y4 := hb4.cell (o := 4) rfl
  have y5 := hb4.cell (o := 5) rfl
  have y6 := hb4.cell (o := 6) rfl
  have y7 := hb4.cell (o := 7) rfl
  have y8 := hb4.cell (o := 8) rfl
  have y9 := hb4.cell (o := 9) rfl
  have y10 := hb4.cell (o := 10) rfl
  clear hc4 hb4 HW4
  go_wp2_with fail
  refine HSM.out.mono ?_
  rintro e w8 ⟨rfl, hk⟩
  have K8 := hid (K4.out.trans hk)
  clear hk HSM
  go_wp2_with fail
  go_ret
  exact ⟨rfl, K8.out⟩

end Go.Proofs.YtlenhccdkhgfgaaDoor
