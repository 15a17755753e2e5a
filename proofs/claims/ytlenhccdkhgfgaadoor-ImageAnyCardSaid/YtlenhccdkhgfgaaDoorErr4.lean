/-
  Decode, whole: what any bytes are, or where they are wrong.
-/
import Derived.Test.YtlenhccdkhgfgaaDoorErr3
import Derived.Test.YtlenhccdkhgfgaaDoorRead2
namespace Go.Proofs.YtlenhccdkhgfgaaDoor
open Go.RowKit
set_option linter.unusedVariables false

/-- What bytes are: a configuration, or a place and an error. -/
def DecS (p : List Int) (o : Option PCfg) (at_ c : Int) : Prop :=
  (p.length < 2 ∧ o = none ∧ at_ = 0 ∧ c = 4) ∨
  (∃ m a b, p = m ++ [a, b] ∧ mof m ≠ word a b ∧ o = none ∧ at_ = 0 ∧ c = 3) ∨
  (∃ m a b, p = m ++ [a, b] ∧ mof m = word a b ∧ begins m = false ∧ o = none ∧ at_ = 0 ∧ c = 2) ∨
  (∃ m a b, p = m ++ [a, b] ∧ mof m = word a b ∧ begins m = true ∧ (rdCfg ⟨m, 0, 0⟩).2.fin.2 = 0 ∧ o = some (rdCfg ⟨m, 0, 0⟩).1 ∧ at_ = 0 ∧ c = 0) ∨
  (∃ m a b, p = m ++ [a, b] ∧ mof m = word a b ∧ begins m = true ∧ (rdCfg ⟨m, 0, 0⟩).2.fin.2 ≠ 0 ∧ o = none ∧ at_ = (rdCfg ⟨m, 0, 0⟩).2.fin.1 ∧ c = (rdCfg ⟨m, 0, 0⟩).2.fin.2)

def zeroV : Value := .agg zeroCfg.toArray

/-- A configuration as an answer: nothing, or one that reads as it. -/
def CfgO (w : World) (cv : Value) : Option PCfg → Prop
  | none => cv = zeroV
  | some P => ∃ (C : Cfg) (sv rv tv : Value), cv = C.val sv rv tv ∧ CfgR w C sv rv tv ∧ C.pure = P

/-- An error as an answer: nil, or where it was met, and which. -/
def ErrO (w : World) (ev : Value) (at_ c : Int) : Prop :=
  (c = 0 ∧ ev = .nilIface) ∨ ((c = 2 ∨ c = 3 ∨ c = 4) ∧ ∃ mb, ev = .iface 109 (.pointer (some ⟨mb, 0, none⟩)) ∧ Met w mb at_ c)

def RS.okf (s : RS) : Prop := s.f = 0 ∨ s.f = 2 ∨ s.f = 4

theorem RS.okf_byte {s : RS} (h : s.okf) : s.byte.2.okf := by
  unfold RS.byte
  split
  · split
    · exact Or.inr (Or.inr rfl)
    · exact Or.inl rfl
  · exact h

theorem RS.okf_int {s : RS} (h : s.okf) : s.int.2.okf := by
  unfold RS.int
  split
  · split
    · exact Or.inl rfl
    · exact Or.inr (Or.inr rfl)
  · exact h

theorem RS.okf_flag {s : RS} (h : s.okf) : s.flag.2.okf := by
  unfold RS.flag
  split
  · split
    · exact Or.inr (Or.inr rfl)
    · split
      · exact Or.inr (Or.inl rfl)
      · exact Or.inl rfl
  · exact h

theorem okf_rdN {α : Type} {f : RS → α × RS} (hf : ∀ s, s.okf → (f s).2.okf) : ∀ (n : Nat) (s : RS), s.okf → (rdN f n s).2.okf
  | 0, _, h => h
  | n + 1, s, h => okf_rdN hf n _ (hf s h)

theorem okf_rdList {α : Type} {f : RS → α × RS} (hf : ∀ s, s.okf → (f s).2.okf) (s : RS) (h : s.okf) : (rdList f s).2.okf := okf_rdN hf _ _ (RS.okf_byte h)

theorem okf_sig (s : RS) (h : s.okf) : (rdSig s).2.okf := RS.okf_int (RS.okf_int h)
theorem okf_stg (s : RS) (h : s.okf) : (rdStg s).2.okf := RS.okf_byte (RS.okf_int h)
theorem okf_rul (s : RS) (h : s.okf) : (rdRul s).2.okf :=
  okf_rdList okf_stg _ (RS.okf_flag (RS.okf_byte (RS.okf_int (RS.okf_int (RS.okf_int (RS.okf_int (RS.okf_byte (RS.okf_byte h))))))))
theorem okf_slot (s : RS) (h : s.okf) : (rdSlot s).2.okf := okf_rdList (fun _ h => RS.okf_byte h) s h
theorem okf_cfg (s : RS) (h : s.okf) : (rdCfg s).2.okf :=
  RS.okf_int (RS.okf_flag (RS.okf_int (RS.okf_int (RS.okf_byte (RS.okf_byte (RS.okf_byte (RS.okf_byte (okf_rdList okf_slot _ (okf_rdList okf_rul _ (okf_rdList okf_sig _ (RS.okf_byte (RS.okf_byte (RS.okf_byte h))))))))))))) 

theorem fin_code {s : RS} (h : s.okf) : s.fin.2 = 0 ∨ s.fin.2 = 2 ∨ s.fin.2 = 3 ∨ s.fin.2 = 4 := by
  unfold RS.fin RS.fault
  split
  · exact Or.inr (Or.inl rfl)
  · split
    · exact Or.inl rfl
    · rcases h with h | h | h
      · exact Or.inl h
      · exact Or.inr (Or.inl h)
      · exact Or.inr (Or.inr (Or.inr h))


theorem cells11 {w : World} {b : Nat} {T : TypeId} {u0 u1 u2 u3 u4 u5 u6 u7 u8 u9 u10 : Value} (h : BlkL w b T [u0, u1, u2, u3, u4, u5, u6, u7, u8, u9, u10]) : w.cell? ⟨b, 0, none⟩ = some u0 ∧ w.cell? ⟨b, 1, none⟩ = some u1 ∧ w.cell? ⟨b, 2, none⟩ = some u2 ∧ w.cell? ⟨b, 3, none⟩ = some u3 ∧ w.cell? ⟨b, 4, none⟩ = some u4 ∧ w.cell? ⟨b, 5, none⟩ = some u5 ∧ w.cell? ⟨b, 6, none⟩ = some u6 ∧ w.cell? ⟨b, 7, none⟩ = some u7 ∧ w.cell? ⟨b, 8, none⟩ = some u8 ∧ w.cell? ⟨b, 9, none⟩ = some u9 ∧ w.cell? ⟨b, 10, none⟩ = some u10 :=
  ⟨h.cell rfl, h.cell rfl, h.cell rfl, h.cell rfl, h.cell rfl, h.cell rfl, h.cell rfl, h.cell rfl, h.cell rfl, h.cell rfl, h.cell rfl⟩

theorem frees11 {w : World} {b : Nat} {T : TypeId} {xs : List Value} (h : BlkL w b T xs) : w.frozen? ⟨b, 0, none⟩ = false ∧ w.frozen? ⟨b, 1, none⟩ = false ∧ w.frozen? ⟨b, 2, none⟩ = false ∧ w.frozen? ⟨b, 3, none⟩ = false ∧ w.frozen? ⟨b, 4, none⟩ = false ∧ w.frozen? ⟨b, 5, none⟩ = false ∧ w.frozen? ⟨b, 6, none⟩ = false ∧ w.frozen? ⟨b, 7, none⟩ = false ∧ w.frozen? ⟨b, 8, none⟩ = false ∧ w.frozen? ⟨b, 9, none⟩ = false ∧ w.frozen? ⟨b, 10, none⟩ = false :=
  ⟨h.free 0, h.free 1, h.free 2, h.free 3, h.free 4, h.free 5, h.free 6, h.free 7, h.free 8, h.free 9, h.free 10⟩

set_option maxHeartbeats 1000000 in
set_option maxRecDepth 100000 in
theorem decode_short {w : World} {v : Value} {p : List Int} (h : SlB w v p) (hp : p.length < 2) :
    Calls Tryd.prog 25 #[v] w fun e w' => ∃ ev, e = .returned (.tuple #[zeroV, ev]) ∧ ErrO w' ev 0 4 ∧ Keeps No w w' := by
  have hs := sopen_short (w := w.alloc (.cells zeroCfg.toArray 33)) (h.alloc _) hp
  have HS := hid hs
  have HB : Hid (BlkL (w.alloc (.cells zeroCfg.toArray 33)) w.heap.size 33 zeroCfg) := hid (heap_alloc_new w _)
  have KB : Hid (Keeps No w (w.alloc (.cells zeroCfg.toArray 33))) := hid ((Keeps.refl _ _).alloc _)
  obtain ⟨a, cap, rfl⟩ := h.any
  clear hs h
  unfold zeroCfg at HS
  go_enter Tryd.func25, Tryd.ntmps25
  go_wp2_with fail
  refine HS.out.mono ?_
  rintro e w1 ⟨rfl, rfl⟩
  go_wp2_with fail
  refine (meet_bad 0 4 (by decide) _).mono ?_
  rintro e w9 ⟨mb, rfl, hm, k9, hmn⟩
  have hbl : w.heap.size < mb := Nat.lt_of_lt_of_le HB.out.lt hmn
  have hmb : mb ≠ w.heap.size := by omega
  have hkk := KB.out.trans k9
  have hb9 : BlkL w9 w.heap.size 33 zeroCfg := k9.heap (fun h => h) HB.out
  obtain ⟨x0, x1, x2, x3, x4, x5, x6, x7, x8, x9, x10⟩ := cells11 hb9
  obtain ⟨f0, f1, f2, f3, f4, f5, f6, f7, f8, f9, f10⟩ := frees11 hb9
  have HM := hid hm
  have HKK := hid hkk
  clear hm k9 hkk hb9 hbl hmn
  go_wp2_with fail
  refine bodyPost_ret (v := .tuple #[.agg #[.slice none 0 0, .slice none 0 0, .slice none 0 0, .int .i64 0, .int .i64 0, .int .i64 0, .int .i64 0, .int .i64 0, .int .i64 0, .bool false, .int .i64 0], .iface 109 (.pointer (some ⟨mb, 0, none⟩))]) (by simp [results, Tryd.results25, go_sem, x0, x1, x2, x3, x4, x5, x6, x7, x8, x9, x10]) rfl ?_
  refine ⟨_, rfl, Or.inr ⟨by simp, mb, rfl, ?_⟩, ?_⟩
  · exact Keeps.heap (S := fun k => k = w.heap.size) (w := w9) (by repeat' (first | with_reducible exact Keeps.refl _ _ | with_reducible refine Keeps.at ?_)) hmb HM.out
  · have hk9 := HKK.out
    repeat' (first | with_reducible exact hk9 | with_reducible refine Keeps.setCell ?_ ?_ _ | exact Or.inl (Nat.le_refl _))

set_option maxHeartbeats 1000000 in
set_option maxRecDepth 100000 in
theorem decode_sum {w : World} {v : Value} {p m : List Int} {a b : Int} (h : SlB w v p) (hp : p = m ++ [a, b]) (hb : Bytes (m ++ [a, b])) (hl : m.length ≤ 1000) (hne : mof m ≠ word a b) :
    Calls Tryd.prog 25 #[v] w fun e w' => ∃ ev, e = .returned (.tuple #[zeroV, ev]) ∧ ErrO w' ev 0 3 ∧ Keeps No w w' := by
  have hs := sopen_bad (w := w.alloc (.cells zeroCfg.toArray 33)) (by rw [← hp]; exact h.alloc _) hb hl hne
  clear hne hb hp
  have HS := hid hs
  have HB : Hid (BlkL (w.alloc (.cells zeroCfg.toArray 33)) w.heap.size 33 zeroCfg) := hid (heap_alloc_new w _)
  have KB : Hid (Keeps No w (w.alloc (.cells zeroCfg.toArray 33))) := hid ((Keeps.refl _ _).alloc _)
  obtain ⟨a0, cap0, rfl⟩ := h.any
  clear hs h
  unfold zeroCfg at HS
  go_enter Tryd.func25, Tryd.ntmps25
  go_wp2_with fail
  refine HS.out.mono ?_
  rintro e w1 ⟨rfl, k1⟩
  have HB1 := hid (HB.out.keep k1 (fun h => h))
  have KB1 := hid (KB.out.trans k1)
  clear k1 HB KB
  obtain ⟨HB, KB⟩ := And.intro HB1 KB1
  clear HB1 KB1
  go_wp2_with fail
  refine (meet_bad 0 3 (by decide) _).mono ?_
  rintro e w9 ⟨mb, rfl, hm, k9, hmn⟩
  have hbl : w.heap.size < mb := Nat.lt_of_lt_of_le HB.out.lt hmn
  have hmb : mb ≠ w.heap.size := by omega
  have hkk := KB.out.trans k9
  have hb9 : BlkL w9 w.heap.size 33 zeroCfg := k9.heap (fun h => h) HB.out
  obtain ⟨x0, x1, x2, x3, x4, x5, x6, x7, x8, x9, x10⟩ := cells11 hb9
  obtain ⟨f0, f1, f2, f3, f4, f5, f6, f7, f8, f9, f10⟩ := frees11 hb9
  have HM := hid hm
  have HKK := hid hkk
  clear hm k9 hkk hb9 hbl hmn
  go_wp2_with fail
  refine bodyPost_ret (v := .tuple #[.agg #[.slice none 0 0, .slice none 0 0, .slice none 0 0, .int .i64 0, .int .i64 0, .int .i64 0, .int .i64 0, .int .i64 0, .int .i64 0, .bool false, .int .i64 0], .iface 109 (.pointer (some ⟨mb, 0, none⟩))]) (by simp [results, Tryd.results25, go_sem, x0, x1, x2, x3, x4, x5, x6, x7, x8, x9, x10]) rfl ?_
  refine ⟨_, rfl, Or.inr ⟨by simp, mb, rfl, ?_⟩, ?_⟩
  · exact Keeps.heap (S := fun k => k = w.heap.size) (w := w9) (by repeat' (first | with_reducible exact Keeps.refl _ _ | with_reducible refine Keeps.at ?_)) hmb HM.out
  · have hk9 := HKK.out
    repeat' (first | with_reducible exact hk9 | with_reducible refine Keeps.setCell ?_ ?_ _ | exact Or.inl (Nat.le_refl _))

set_option maxHeartbeats 1000000 in
set_option maxRecDepth 100000 in
theorem decode_form {w : World} {v : Value} {p m : List Int} {a b : Int} (h : SlB w v p) (hp : p = m ++ [a, b]) (hb : Bytes (m ++ [a, b])) (hl : m.length ≤ 1000) (he : mof m = word a b) (hbg : begins m = false) :
    Calls Tryd.prog 25 #[v] w fun e w' => ∃ ev, e = .returned (.tuple #[zeroV, ev]) ∧ ErrO w' ev 0 2 ∧ Keeps No w w' := by
  have hs := sopen_ok (w := w.alloc (.cells zeroCfg.toArray 33)) (by rw [← hp]; exact h.alloc _) hb hl he
  have hbm : Bytes m := fun x hx => hb x (List.mem_append_left _ hx)
  clear he hb hp
  have HS := hid hs
  have HB : Hid (BlkL (w.alloc (.cells zeroCfg.toArray 33)) w.heap.size 33 zeroCfg) := hid (heap_alloc_new w _)
  have KB : Hid (Keeps No w (w.alloc (.cells zeroCfg.toArray 33))) := hid ((Keeps.refl _ _).alloc _)
  obtain ⟨a0, cap0, rfl⟩ := h.any
  clear hs h
  unfold zeroCfg at HS
  go_enter Tryd.func25, Tryd.ntmps25
  go_wp2_with fail
  refine HS.out.mono ?_
  rintro e w1 ⟨v1, rfl, ho1, k1, hn1⟩
  have hcv := conv_own ho1
  have hpre : Calls Tryd.prog 50 #[.string (strOfNums m), .string ⟨#[72, 66, 49]⟩] w1 fun e w' => e = .returned (.bool (begins m)) ∧ w1 = w' := by
    have := prefix_any (strOfNums m) ⟨#[72, 66, 49]⟩ w1
    rw [← begins_str hbm]
    exact this
  rw [hbg] at hpre
  have HP := hid hpre
  have HB1 := hid (HB.out.keep k1 (fun h => h))
  have KB1 := hid (KB.out.trans k1)
  have HO1 := hid ho1
  have HN1 := hid hn1
  clear k1 HB KB ho1 hpre hn1
  obtain ⟨HB, KB⟩ := And.intro HB1 KB1
  clear HB1 KB1 hbg
  go_wp2_with fail
  refine HP.out.mono ?_
  rintro e w' ⟨rfl, rfl⟩
  clear hcv
  go_wp2_with fail
  refine (meet_bad 0 2 (by decide) _).mono ?_
  rintro e w9 ⟨mb, rfl, hm, k9, hmn⟩
  have hbl : w.heap.size < mb := Nat.lt_of_lt_of_le HB.out.lt hmn
  have hmb : mb ≠ w.heap.size := by omega
  have hkk := KB.out.trans k9
  have hb9 : BlkL w9 w.heap.size 33 zeroCfg := k9.heap (fun h => h) HB.out
  obtain ⟨x0, x1, x2, x3, x4, x5, x6, x7, x8, x9, x10⟩ := cells11 hb9
  obtain ⟨f0, f1, f2, f3, f4, f5, f6, f7, f8, f9, f10⟩ := frees11 hb9
  have HM := hid hm
  have HKK := hid hkk
  clear hm k9 hkk hb9 hbl hmn
  go_wp2_with fail
  refine bodyPost_ret (v := .tuple #[.agg #[.slice none 0 0, .slice none 0 0, .slice none 0 0, .int .i64 0, .int .i64 0, .int .i64 0, .int .i64 0, .int .i64 0, .int .i64 0, .bool false, .int .i64 0], .iface 109 (.pointer (some ⟨mb, 0, none⟩))]) (by simp [results, Tryd.results25, go_sem, x0, x1, x2, x3, x4, x5, x6, x7, x8, x9, x10]) rfl ?_
  refine ⟨_, rfl, Or.inr ⟨by simp, mb, rfl, ?_⟩, ?_⟩
  · exact Keeps.heap (S := fun k => k = w.heap.size) (w := w9) (by repeat' (first | with_reducible exact Keeps.refl _ _ | with_reducible refine Keeps.at ?_)) hmb HM.out
  · have hk9 := HKK.out
    repeat' (first | with_reducible exact hk9 | with_reducible refine Keeps.setCell ?_ ?_ _ | exact Or.inl (Nat.le_refl _))

set_option maxHeartbeats 1000000 in
set_option maxRecDepth 100000 in
theorem decode_read {w : World} {v : Value} {p m : List Int} {a b : Int} (h : SlB w v p) (hp : p = m ++ [a, b]) (hb : Bytes (m ++ [a, b])) (hl : m.length ≤ 1000) (he : mof m = word a b) (hbg : begins m = true) :
    Calls Tryd.prog 25 #[v] w fun e w' => ∃ (C : Cfg) (sv rv tv ev : Value), e = .returned (.tuple #[C.val sv rv tv, ev]) ∧ ErrO w' ev (rdCfg ⟨m, 0, 0⟩).2.fin.1 (rdCfg ⟨m, 0, 0⟩).2.fin.2 ∧ Keeps No w w' ∧ CfgR w' C sv rv tv ∧ C.pure = (rdCfg ⟨m, 0, 0⟩).1 ∧ CfgN (w.heap.size + 1) C sv rv tv := by
  obtain ⟨S, hS⟩ : ∃ S, rdCfg ⟨m, 0, 0⟩ = S := ⟨_, rfl⟩
  obtain ⟨fa, hfa⟩ : ∃ fa, S.2.fin.1 = fa := ⟨_, rfl⟩
  obtain ⟨fc, hfcc⟩ : ∃ fc, S.2.fin.2 = fc := ⟨_, rfl⟩
  have hfc := fin_code (okf_cfg ⟨m, 0, 0⟩ (Or.inl rfl))
  rw [hS, hfcc] at hfc
  rw [hS, hfa, hfcc]
  have HSS := hid hS
  have HFA := hid hfa
  have HFCC := hid hfcc
  have HFC := hid hfc
  clear hS hfa hfcc hfc
  have hs := sopen_ok (w := w.alloc (.cells zeroCfg.toArray 33)) (by rw [← hp]; exact h.alloc _) hb hl he
  have hbm : Bytes m := fun x hx => hb x (List.mem_append_left _ hx)
  clear he hb hp
  have HS := hid hs
  have HB : Hid (BlkL (w.alloc (.cells zeroCfg.toArray 33)) w.heap.size 33 zeroCfg) := hid (heap_alloc_new w _)
  have KB : Hid (Keeps No w (w.alloc (.cells zeroCfg.toArray 33))) := hid ((Keeps.refl _ _).alloc _)
  obtain ⟨a0, cap0, rfl⟩ := h.any
  clear hs h
  unfold zeroCfg at HS
  go_enter Tryd.func25, Tryd.ntmps25
  go_wp2_with fail
  refine HS.out.mono ?_
  rintro e w1 ⟨v1, rfl, ho1, k1, hn1⟩
  have hcv := conv_own ho1
  have hpre : Calls Tryd.prog 50 #[.string (strOfNums m), .string ⟨#[72, 66, 49]⟩] w1 fun e w' => e = .returned (.bool (begins m)) ∧ w1 = w' := by
    have := prefix_any (strOfNums m) ⟨#[72, 66, 49]⟩ w1
    rw [← begins_str hbm]
    exact this
  rw [hbg] at hpre
  have HP := hid hpre
  have HB1 := hid (HB.out.keep k1 (fun h => h))
  have KB1 := hid (KB.out.trans k1)
  have HO1 := hid ho1
  have HN1 := hid hn1
  clear k1 HB KB ho1 hpre hn1
  obtain ⟨HB, KB⟩ := And.intro HB1 KB1
  clear HB1 KB1 hbg
  go_wp2_with fail
  refine HP.out.mono ?_
  rintro e w' ⟨rfl, rfl⟩
  clear hcv
  go_wp2_with fail
  refine (rnew_any (Sl.ofOwn HO1.out) hbm (by omega)).mono ?_
  rintro e w2 ⟨rb, F, rfl, hr, k2, hf⟩
  obtain ⟨W3, hW3⟩ : ∃ W3, W3 = w2.alloc (.cells #[.pointer none, .pointer (some ⟨rb, 0, none⟩)] 66) := ⟨_, rfl⟩
  obtain ⟨W4, hW4⟩ : ∃ W4, W4 = W3.alloc (.cells zeroCfg.toArray 33) := ⟨_, rfl⟩
  have k3 : Keeps No w2 W3 := by rw [hW3]; exact (Keeps.refl _ _).alloc _
  have k4 : Keeps No W3 W4 := by rw [hW4]; exact (Keeps.refl _ _).alloc _
  have z3 : W3.heap.size = w2.heap.size + 1 := by rw [hW3]; simp
  have hlay : Rdl W4 w2.heap.size rb := k4.heap (fun h => h) (by rw [hW3]; exact heap_alloc_new w2 _)
  have hcb : BlkL W4 (w2.heap.size + 1) 33 zeroCfg := by rw [hW4]; exact heap_alloc_at z3 _
  have hz4 := (k3.trans k4).size
  have hcfg := rconfig_any hlay (hr.keep (k3.trans k4) (fun _ _ h => h)) (fun hF => by have := (hf _ hF).2; omega) (fun k hk => by have := (hf k hk).2; omega) hcb (fun hF => by have := (hf _ hF).2; omega) (by omega)
  have HCF := hid hcfg
  have KW : Hid (Keeps No w W4) := hid ((KB.out.trans k2).trans (k3.trans k4))
  have HBW := hid ((HB.out.keep k2 (fun h => h)).keep (k3.trans k4) (fun h => h))
  have HF := hid (fun k hk => (hf k hk).1)
  have hrb1 := (hf rb hr.frb)
  have hb1 := HB.out.lt
  have HLAY := hid hlay
  have hw4 : (w2.alloc (.cells #[.pointer none, .pointer (some ⟨rb, 0, none⟩)] 66)).alloc (.cells zeroCfg.toArray 33) = W4 := by rw [hW4, hW3]
  unfold zeroCfg at hw4
  have HW4 := hid hw4
  have hrb2 := hrb1.1
  have hrb3 := hrb1.2
  have h2 := k2.size
  clear hr k2 hf k3 k4 hlay hcb hcfg hW3 hW4 z3 hrb1 hw4 HB KB HO1 HN1 HP
  go_wp2_with fail
  rw [HW4.out]
  refine HCF.out.mono ?_
  rintro e w5 ⟨rfl, C, sv, rv, tv, bc, hR, hpu, hrd, k5, _, _, _, hN⟩
  have hlay5 : Rdl w5 w2.heap.size rb := k5.heap (fun e => by rcases e with e | e <;> omega) HLAY.out
  have HB5 := hid (HBW.out.keep k5 (fun e => by rcases e with e | e <;> omega))
  have KW5 : Hid (Keeps No w w5) := hid (KW.out.trans' k5 (fun _ _ h => h) (fun i hi e => by rcases e with e | e <;> omega))
  have HR := hid hR
  have HN := hid (hN.le (A := w.heap.size + 1) (by omega))
  have HC5 := hid bc
  have l1 := cell_at (i := 1) hlay5 rfl
  simp at l1
  rw [HSS.out] at hpu hrd
  obtain ⟨sa, sc, rfl⟩ := hR.sig.any
  obtain ⟨ra, rc, rfl⟩ := hR.rul.any
  obtain ⟨ta, tc, rfl⟩ := hR.tab.any
  have HPU := hid hpu
  have HRD := hid hrd
  clear bc hR hpu hrd k5 hN hlay5 HCF HLAY KW HBW HW4
  obtain ⟨y0, y1, y2, y3, y4, y5, y6, y7, y8, y9, y10⟩ := cells11 HC5.out
  have hend := fun n => rend_any (HRD.out.keep ((Keeps.refl No w5).drewN n) (fun _ _ h => h))
  rw [HFA.out, HFCC.out] at hend
  have HEND := hid hend
  clear hend
  rcases hz : (fc == 0) with _ | _
  · have hne : fc ≠ 0 := by simpa using hz
    have HNE := hid hne
    clear hz hne
    go_wp2_with fail
    go_region_with (first | (go_at_call 52; refine (HEND.out _).mono ?_; rintro e wE ⟨rfl, kE⟩; have KE := hid (Keeps.trans (show Keeps No w5 _ from by repeat' (first | with_reducible exact Keeps.refl _ _ | with_reducible refine Keeps.drewN ?_ _ | with_reducible refine Keeps.drew ?_)) kE); obtain ⟨y0, y1, y2, y3, y4, y5, y6, y7, y8, y9, y10⟩ := cells11 (HC5.out.keep KE.out (fun h => h)); clear kE) | (go_at_call 49; refine (meet_bad _ _ HNE.out _).mono ?_; rintro e wM ⟨mb, rfl, hm, kM, hmn⟩; have KM := hid (Keeps.trans (show Keeps No w5 _ from by have hk := KE.out; repeat' (first | with_reducible exact hk | with_reducible refine Keeps.drewN ?_ _ | with_reducible refine Keeps.drew ?_)) kM); obtain ⟨y0, y1, y2, y3, y4, y5, y6, y7, y8, y9, y10⟩ := cells11 (HC5.out.keep KM.out (fun h => h)); obtain ⟨x0, x1, x2, x3, x4, x5, x6, x7, x8, x9, x10⟩ := cells11 (HB5.out.keep KM.out (fun h => h)); obtain ⟨f0, f1, f2, f3, f4, f5, f6, f7, f8, f9, f10⟩ := frees11 (HB5.out.keep KM.out (fun h => h)); have HM := hid hm; have hmb : mb ≠ w.heap.size := (by have h1 := HB5.out.lt; have h2 : w5.heap.size ≤ mb := Nat.le_trans KE.out.size hmn; omega); clear kM hm hmn))
    all_goals
      go_wp2_with fail
      refine bodyPost_ret (v := .tuple #[.agg #[.slice sa C.sigs.length sc, .slice ra C.ruls.length rc, .slice ta C.tab.length tc, .int .i64 C.b0, .int .i64 C.b1, .int .i64 C.b2, .int .i64 C.drain, .int .i64 C.pause, .int .i64 C.off, .bool C.brk, .int .i64 C.log], .iface 109 (.pointer (some ⟨mb, 0, none⟩))]) (by simp [results, Tryd.results25, go_sem, x0, x1, x2, x3, x4, x5, x6, x7, x8, x9, x10]) rfl ?_
      refine ⟨C, (.slice sa C.sigs.length sc), (.slice ra C.ruls.length rc), (.slice ta C.tab.length tc), _, rfl, Or.inr ⟨?_, mb, rfl, ?_⟩, ?_, ?_, HPU.out, HN.out⟩
      · rcases HFC.out with h | h | h | h
        · exact absurd h HNE.out
        · exact Or.inl h
        · exact Or.inr (Or.inl h)
        · exact Or.inr (Or.inr h)
      · exact Keeps.heap (S := fun k => k = w.heap.size) (w := wM) (by repeat' (first | with_reducible exact Keeps.refl _ _ | with_reducible refine Keeps.at ?_)) hmb HM.out
      · have hk := KW5.out.trans KM.out
        repeat' (first | with_reducible exact hk | with_reducible refine Keeps.setCell ?_ ?_ _ | exact Or.inl (Nat.le_refl _))
      · refine HR.out.keepN (S := fun k => k = w.heap.size) HN.out ?_ (fun b e => by omega)
        have hk : Keeps (fun k => k = w.heap.size) w5 wM := KM.out.no
        repeat' (first | with_reducible exact hk | with_reducible refine Keeps.at ?_)
  · obtain rfl : fc = 0 := by simpa using hz
    clear hz
    go_wp2_with fail
    go_region_with (first | (go_at_call 52; refine (HEND.out _).mono ?_; rintro e wE ⟨rfl, kE⟩; have KE := hid (Keeps.trans (show Keeps No w5 _ from by repeat' (first | with_reducible exact Keeps.refl _ _ | with_reducible refine Keeps.drewN ?_ _ | with_reducible refine Keeps.drew ?_)) kE); obtain ⟨y0, y1, y2, y3, y4, y5, y6, y7, y8, y9, y10⟩ := cells11 (HC5.out.keep KE.out (fun h => h)); obtain ⟨x0, x1, x2, x3, x4, x5, x6, x7, x8, x9, x10⟩ := cells11 (HB5.out.keep KE.out (fun h => h)); obtain ⟨f0, f1, f2, f3, f4, f5, f6, f7, f8, f9, f10⟩ := frees11 (HB5.out.keep KE.out (fun h => h)); clear kE) | (go_at_call 49; refine (meet_ok _ _).mono ?_; rintro e wM ⟨rfl, rfl⟩))
    all_goals
      go_wp2_with fail
      refine bodyPost_ret (v := .tuple #[.agg #[.slice sa C.sigs.length sc, .slice ra C.ruls.length rc, .slice ta C.tab.length tc, .int .i64 C.b0, .int .i64 C.b1, .int .i64 C.b2, .int .i64 C.drain, .int .i64 C.pause, .int .i64 C.off, .bool C.brk, .int .i64 C.log], .nilIface]) (by simp [results, Tryd.results25, go_sem, x0, x1, x2, x3, x4, x5, x6, x7, x8, x9, x10]) rfl ?_
      refine ⟨C, (.slice sa C.sigs.length sc), (.slice ra C.ruls.length rc), (.slice ta C.tab.length tc), _, rfl, Or.inl ⟨rfl, rfl⟩, ?_, ?_, HPU.out, HN.out⟩
      · have hk := KW5.out.trans KE.out
        repeat' (first | with_reducible exact hk | with_reducible refine Keeps.drewN ?_ _ | with_reducible refine Keeps.drew ?_ | with_reducible refine Keeps.setCell ?_ ?_ _ | exact Or.inl (Nat.le_refl _))
      · refine HR.out.keepN (S := fun k => k = w.heap.size) HN.out ?_ (fun b e => by omega)
        have hk : Keeps (fun k => k = w.heap.size) w5 wE := KE.out.no
        repeat' (first | with_reducible exact hk | with_reducible refine Keeps.drewN ?_ _ | with_reducible refine Keeps.drew ?_ | with_reducible refine Keeps.at ?_)

end Go.Proofs.YtlenhccdkhgfgaaDoor
