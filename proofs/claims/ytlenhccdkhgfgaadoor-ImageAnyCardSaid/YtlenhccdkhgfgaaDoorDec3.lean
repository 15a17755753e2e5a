/-
  What a pass that reads does with slots, rules, and lists of them.
-/
import Derived.Test.YtlenhccdkhgfgaaDoorDec2
namespace Go.Proofs.YtlenhccdkhgfgaaDoor
open Go.RowKit
set_option linter.unusedVariables false

theorem Sl.ofBlk {w : World} {g n size : Nat} {T : TypeId} {zs : List Value} (h : BlkL w g T zs) (hz : zs.length = n * size) (hn : n ≤ maxLen) : Sl w size (.slice (some ⟨g, 0, none⟩) n n) n zs :=
  ⟨hz, hn, _, n, rfl, Nat.le_refl _, fun h => (by cases h), fun _ => ⟨g, 0, rfl, h.lt, fun j u hu => by rw [Nat.zero_add]; exact h.cell hu⟩⟩

theorem flatMap_single {α β : Type} (f : α → β) : ∀ l : List α, l.flatMap (fun x => [f x]) = l.map f
  | [] => rfl
  | x :: l => by simp [flatMap_single f l]

theorem filled_item {α : Type} {size : Nat} {enc : α → List Value} (he : ∀ x, (enc x).length = size) (ys : List α) (z : α) {n i k : Nat} (hi : i < n) (hl : ys.length = i) (hk : k < size) :
    ((ys ++ List.replicate (n - i) z).flatMap enc)[i * size + k]? = (enc z)[k]? := by
  rw [getElem?_flatMap_enc he _ i k hk (by simp; omega)]
  subst hl
  rw [List.getElem_append_right (Nat.le_refl _), List.getElem_replicate]

/-- A slot that was read: its numbers stand behind block g. -/
structure OkSlot (g : Nat) (w : World) (x : List Int × Value) : Prop where
  sl : SlI w x.2 x.1
  gt : ∀ k, x.2.ownBlock = some k → g < k
  few : x.1.length ≤ 255

theorem OkSlot.keep {g rb : Nat} {w w' : World} {x : List Int × Value} (h : OkSlot g w x) (k : Keeps (Two rb g) w w') (hr : rb < g) : OkSlot g w' x :=
  ⟨Sl.keep h.sl k (fun b hb e => by have := h.gt b hb; rcases e with e | e <;> omega), h.gt, h.few⟩

/-- A rule that was read: its stages stand behind block g. -/
structure OkRul (g : Nat) (w : World) (x : Rul × Value) : Prop where
  sl : Sl w 2 x.2 x.1.stages.length (x.1.stages.flatMap encStg)
  gt : ∀ k, x.2.ownBlock = some k → g < k
  few : x.1.stages.length ≤ 255

theorem OkRul.keep {g rb : Nat} {w w' : World} {x : Rul × Value} (h : OkRul g w x) (k : Keeps (Two rb g) w w') (hr : rb < g) : OkRul g w' x :=
  ⟨h.sl.keep k (fun b hb e => by have := h.gt b hb; rcases e with e | e <;> omega), h.gt, h.few⟩

def rdSlot (s : RS) : List Int × RS := rdList rdNum s

def ru1 (s : RS) : RS := s.byte.2
def ru2 (s : RS) : RS := (ru1 s).byte.2
def ru3 (s : RS) : RS := (ru2 s).int.2
def ru4 (s : RS) : RS := (ru3 s).int.2
def ru5 (s : RS) : RS := (ru4 s).int.2
def ru6 (s : RS) : RS := (ru5 s).int.2
def ru7 (s : RS) : RS := (ru6 s).byte.2
def ru8 (s : RS) : RS := (ru7 s).flag.2
def rdRul (s : RS) : Rul × RS := (⟨s.byte.1, (ru1 s).byte.1, (ru2 s).int.1, (ru3 s).int.1, (ru4 s).int.1, (ru5 s).int.1, (ru6 s).byte.1, (ru7 s).flag.1, (rdList rdStg (ru8 s)).1⟩, (rdList rdStg (ru8 s)).2)

section
variable {w : World} {qb pb rb : Nat} {F : Nat → Prop} {s : RS} {b o : Nat} {T : TypeId} {xs : List Value}

set_option maxHeartbeats 4000000 in
set_option maxRecDepth 100000 in
theorem rslot_any (h : RCtx w qb pb rb F s) (hb : BlkL w b T xs) (ho : o < xs.length) (hx : xs[o]? = some (.slice none 0 0)) (nb : ¬ F b) (bp : b ≠ pb) (bq : b ≠ qb) :
    Calls Tryd.prog 40 #[.pointer (some ⟨b, o, none⟩), .pointer (some ⟨qb, 0, none⟩)] w fun e w' => e = .returned (.tuple #[]) ∧ ∃ y : List Int × Value, y.1 = (rdSlot s).1 ∧ BlkL w' b T (setL xs o [y.2]) ∧ RCtx w' qb pb rb F (rdSlot s).2 ∧ Keeps (Two rb b) w w' ∧ OkSlot b w' y := by
  have q0 := cell_at (i := 0) h.hpb rfl
  have hbl := hb.lt
  have HC := hid (rlistInt h hb hx nb bp bq)
  clear h hb hx ho
  go_enter Tryd.func40, Tryd.ntmps40
  go_wp2_with fail
  refine HC.out.mono ?_
  rintro e w1 ⟨rfl, g, ys, b1, g1, hy, r1, k1, hg, h255⟩
  have B1 := hid b1
  have G1 := hid g1
  have R1 := hid r1
  have K1 := hid k1
  have HY := hid hy
  clear b1 g1 r1 k1 hy HC
  go_wp2_with fail
  go_end0
  refine ⟨rfl, (ys, .slice (some ⟨g, 0, none⟩) ys.length ys.length), by have := HY.out; simpa [rdSlot] using this, B1.out, R1.out, K1.out, ?_, fun k hk => ?_, h255⟩
  · have := Sl.ofBlk (size := 1) G1.out (n := ys.length) (by rw [length_flatMap_enc (size := 1) (fun _ => rfl)]) (by unfold maxLen; omega)
    unfold SlI
    rw [← flatMap_single]
    exact this
  · simp [Value.ownBlock] at hk
    omega

set_option maxHeartbeats 4000000 in
set_option maxRecDepth 100000 in
theorem rrule_any (h : RCtx w qb pb rb F s) (hb : BlkL w b T xs) (ho : o + 8 < xs.length) (hx : xs[o + 8]? = some (.slice none 0 0)) (nb : ¬ F b) (bp : b ≠ pb) (bq : b ≠ qb) :
    Calls Tryd.prog 38 #[.pointer (some ⟨pb, 0, none⟩), .pointer (some ⟨b, o, none⟩)] w fun e w' => e = .returned (.tuple #[]) ∧ ∃ y : Rul × Value, y.1 = (rdRul s).1 ∧ BlkL w' b T (setL xs o (encRul y)) ∧ RCtx w' qb pb rb F (rdRul s).2 ∧ Keeps (Two rb b) w w' ∧ OkRul b w' y := by
  have hbl := hb.lt
  have hpl : pb < w.heap.size := lt_of_block h.lay
  obtain ⟨W0, hW0⟩ : ∃ W0, W0 = w.alloc (.cells #[.pointer (some ⟨pb, 0, none⟩)] 60) := ⟨_, rfl⟩
  have k0 : Keeps No w W0 := by rw [hW0]; exact (Keeps.refl _ _).alloc _
  have H0 : Hid (RCtx W0 w.heap.size pb rb F s) := hid ⟨(h.calm k0).lay, by rw [hW0]; exact heap_alloc_new w _, (h.calm k0).rd, h.np, fun hf => by have := h.lt _ hf; omega, (h.calm k0).lt⟩
  have B0 := hid (hb.keep k0 (fun h => h))
  have K0 : Hid (Keeps (Two rb b) w W0) := hid k0.no
  have HH0 := hid h
  have bq0 : b ≠ w.heap.size := by omega
  have HX := hid hx
  have HO := hid ho
  have HW0 := hid hW0
  clear h hb hx k0 hW0 ho
  go_enter Tryd.func38, Tryd.ntmps38
  go_wp2_with fail
  rw [← HW0.out]
  have q0 := cell_at (i := 0) H0.out.hpb rfl
  clear HW0
  go_wp2_with fail
  go_still_tail 4, (by kernel_rfl)
  go_wp2_with fail
  refine (rsmallB_any (H0.out.calm (drew_keeps _)).lay (H0.out.calm (drew_keeps _)).rd (B0.out.keep (drew_keeps _) (fun h => h)) (by have := HO.out; (try simp only [List.length_set]); omega) nb).mono ?_
  rintro e w1 ⟨rfl, b1, r1, k1⟩
  have kk1 := Keeps.trans' (drew_keeps _) k1 (fun _ _ h => h.elim) (fun _ _ h => h)
  have B1 := hid b1
  have H1 := hid (H0.out.step kk1 r1 bp bq0)
  have K1 := hid (K0.out.trans kk1)
  have q0 := cell_at (i := 0) H1.out.hpb rfl
  clear b1 r1 k1 kk1 B0 H0 K0
  go_wp2_with fail
  go_still_tail 4, (by kernel_rfl)
  go_wp2_with fail
  refine (rsmallI_any (H1.out.calm (drew_keeps _)).lay (H1.out.calm (drew_keeps _)).rd (B1.out.keep (drew_keeps _) (fun h => h)) (by have := HO.out; (try simp only [List.length_set]); omega) nb).mono ?_
  rintro e w2 ⟨rfl, b2, r2, k2⟩
  have kk2 := Keeps.trans' (drew_keeps _) k2 (fun _ _ h => h.elim) (fun _ _ h => h)
  have B2 := hid b2
  have H2 := hid (H1.out.step kk2 r2 bp bq0)
  have K2 := hid (K1.out.trans kk2)
  have q0 := cell_at (i := 0) H2.out.hpb rfl
  clear b2 r2 k2 kk2 B1 H1 K1
  go_wp2_with fail
  go_still_tail 4, (by kernel_rfl)
  go_wp2_with fail
  refine (rwholeI_any (H2.out.calm (drew_keeps _)).lay (H2.out.calm (drew_keeps _)).rd (B2.out.keep (drew_keeps _) (fun h => h)) (by have := HO.out; (try simp only [List.length_set]); omega) nb).mono ?_
  rintro e w3 ⟨rfl, b3, r3, k3⟩
  have kk3 := Keeps.trans' (drew_keeps _) k3 (fun _ _ h => h.elim) (fun _ _ h => h)
  have B3 := hid b3
  have H3 := hid (H2.out.step kk3 r3 bp bq0)
  have K3 := hid (K2.out.trans kk3)
  have q0 := cell_at (i := 0) H3.out.hpb rfl
  clear b3 r3 k3 kk3 B2 H2 K2
  go_wp2_with fail
  go_still_tail 4, (by kernel_rfl)
  go_wp2_with fail
  refine (rwholeI_any (H3.out.calm (drew_keeps _)).lay (H3.out.calm (drew_keeps _)).rd (B3.out.keep (drew_keeps _) (fun h => h)) (by have := HO.out; (try simp only [List.length_set]); omega) nb).mono ?_
  rintro e w4 ⟨rfl, b4, r4, k4⟩
  have kk4 := Keeps.trans' (drew_keeps _) k4 (fun _ _ h => h.elim) (fun _ _ h => h)
  have B4 := hid b4
  have H4 := hid (H3.out.step kk4 r4 bp bq0)
  have K4 := hid (K3.out.trans kk4)
  have q0 := cell_at (i := 0) H4.out.hpb rfl
  clear b4 r4 k4 kk4 B3 H3 K3
  go_wp2_with fail
  go_still_tail 4, (by kernel_rfl)
  go_wp2_with fail
  refine (rwholeL_any (H4.out.calm (drew_keeps _)).lay (H4.out.calm (drew_keeps _)).rd (B4.out.keep (drew_keeps _) (fun h => h)) (by have := HO.out; (try simp only [List.length_set]); omega) nb).mono ?_
  rintro e w5 ⟨rfl, b5, r5, k5⟩
  have kk5 := Keeps.trans' (drew_keeps _) k5 (fun _ _ h => h.elim) (fun _ _ h => h)
  have B5 := hid b5
  have H5 := hid (H4.out.step kk5 r5 bp bq0)
  have K5 := hid (K4.out.trans kk5)
  have q0 := cell_at (i := 0) H5.out.hpb rfl
  clear b5 r5 k5 kk5 B4 H4 K4
  go_wp2_with fail
  go_still_tail 4, (by kernel_rfl)
  go_wp2_with fail
  refine (rwholeL_any (H5.out.calm (drew_keeps _)).lay (H5.out.calm (drew_keeps _)).rd (B5.out.keep (drew_keeps _) (fun h => h)) (by have := HO.out; (try simp only [List.length_set]); omega) nb).mono ?_
  rintro e w6 ⟨rfl, b6, r6, k6⟩
  have kk6 := Keeps.trans' (drew_keeps _) k6 (fun _ _ h => h.elim) (fun _ _ h => h)
  have B6 := hid b6
  have H6 := hid (H5.out.step kk6 r6 bp bq0)
  have K6 := hid (K5.out.trans kk6)
  have q0 := cell_at (i := 0) H6.out.hpb rfl
  clear b6 r6 k6 kk6 B5 H5 K5
  go_wp2_with fail
  go_still_tail 4, (by kernel_rfl)
  go_wp2_with fail
  refine (rsmallB_any (H6.out.calm (drew_keeps _)).lay (H6.out.calm (drew_keeps _)).rd (B6.out.keep (drew_keeps _) (fun h => h)) (by have := HO.out; (try simp only [List.length_set]); omega) nb).mono ?_
  rintro e w7 ⟨rfl, b7, r7, k7⟩
  have kk7 := Keeps.trans' (drew_keeps _) k7 (fun _ _ h => h.elim) (fun _ _ h => h)
  have B7 := hid b7
  have H7 := hid (H6.out.step kk7 r7 bp bq0)
  have K7 := hid (K6.out.trans kk7)
  have q0 := cell_at (i := 0) H7.out.hpb rfl
  clear b7 r7 k7 kk7 B6 H6 K6
  go_wp2_with fail
  go_still_tail 4, (by kernel_rfl)
  go_wp2_with fail
  refine (rflagP_any (H7.out.calm (drew_keeps _)).lay (H7.out.calm (drew_keeps _)).rd (B7.out.keep (drew_keeps _) (fun h => h)) (by have := HO.out; (try simp only [List.length_set]); omega) nb).mono ?_
  rintro e w8 ⟨rfl, b8, r8, k8⟩
  have kk8 := Keeps.trans' (drew_keeps _) k8 (fun _ _ h => h.elim) (fun _ _ h => h)
  have B8 := hid b8
  have H8 := hid (H7.out.step kk8 r8 bp bq0)
  have K8 := hid (K7.out.trans kk8)
  have q0 := cell_at (i := 0) H8.out.hpb rfl
  clear b8 r8 k8 kk8 B7 H7 K7
  have hl := rlistStg (o := o + 8) (H8.out.calm (drew_keeps _)) (B8.out.keep (drew_keeps _) (fun h => h)) (by (repeat rw [List.getElem?_set_ne (by omega)]); exact HX.out) nb bp bq0
  have HL := hid hl
  have hz8 : b < w8.heap.size := B8.out.lt
  clear hl
  go_wp2_with fail
  go_still_tail 5, (by kernel_rfl)
  go_wp2_with fail
  refine HL.out.mono ?_
  rintro e w9 ⟨rfl, g, ys, b9, g9, hy, r9, k9, hg, h255⟩
  have kk9 := Keeps.trans' (drew_keeps _) k9 (fun _ _ h => h.elim) (fun _ _ h => h)
  have B9 := hid b9
  have G9 := hid g9
  have R9 := hid r9
  have K9 := hid (K8.out.trans kk9)
  have HY := hid hy
  have hgb : b < g := by
    have : w8.drew.heap.size = w8.heap.size := rfl
    omega
  clear b9 g9 r9 k9 kk9 hy HL B8 H8 K8
  go_wp2_with fail
  go_end0
  refine ⟨rfl, (⟨s.byte.1, (ru1 s).byte.1, (ru2 s).int.1, (ru3 s).int.1, (ru4 s).int.1, (ru5 s).int.1, (ru6 s).byte.1, (ru7 s).flag.1, ys⟩, .slice (some ⟨g, 0, none⟩) ys.length ys.length), ?_, B9.out, ?_, K9.out, ?_, fun k hk => ?_, h255⟩
  · have := HY.out
    simp only [List.map_id_fun, id_eq] at this
    unfold rdRul
    rw [this]
    rfl
  · exact HH0.out.step K9.out R9.out.rd bp bq
  · exact Sl.ofBlk (size := 2) G9.out (n := ys.length) (by rw [length_flatMap_enc (size := 2) (fun _ => rfl)]) (by unfold maxLen; omega)
  · simp [Value.ownBlock] at hk
    omega

theorem info_rlistTab : (Tryd.prog.info? 58).map (fun i => (i.zero, i.size, i.bytes)) = some (some (.slice none 0 0), 1, 24) := by kernel_rfl

set_option maxHeartbeats 4000000 in
set_option maxRecDepth 100000 in
theorem rlistTab (h : RCtx w qb pb rb F s) (hb : BlkL w b T xs) (hx : xs[o]? = some (.slice none 0 0)) (nb : ¬ F b) (bp : b ≠ pb) (bq : b ≠ qb) :
    Calls Tryd.prog 39 #[.pointer (some ⟨pb, 0, none⟩), .pointer (some ⟨b, o, none⟩), .func (.func 40) #[] #[.pointer (some ⟨qb, 0, none⟩)]] w fun e w' => e = .returned (.tuple #[]) ∧ ∃ (g : Nat) (ys : List (List Int × Value)),
      BlkL w' b T (xs.set o (.slice (some ⟨g, 0, none⟩) ys.length ys.length)) ∧ BlkL w' g 58 (ys.flatMap (fun x : List Int × Value => [x.2])) ∧ ys.map (·.1) = (rdList rdSlot s).1 ∧ RCtx w' qb pb rb F (rdList rdSlot s).2 ∧ Keeps (Two rb b) w w' ∧ w.heap.size ≤ g ∧ ys.length ≤ 255 ∧ ∀ y ∈ ys, OkSlot g w' y := by
  have hbl := hb.lt
  have hpl : pb < w.heap.size := lt_of_block h.lay
  have hql : qb < w.heap.size := lt_of_block h.hpb
  have hrl := h.rd.rlt
  have hby := RS.byte_le h.rd.bytes
  have hol : o < xs.length := (List.getElem?_eq_some_iff.1 hx).1
  obtain ⟨n, hn⟩ : ∃ n : Nat, s.byte.1 = (n : Int) := ⟨s.byte.1.toNat, by omega⟩
  have hn255 : n ≤ 255 := by omega
  obtain ⟨Wn, hWn⟩ : ∃ Wn, Wn = w.alloc (.cells #[.int .i64 0] 3) := ⟨_, rfl⟩
  have kn : Keeps No w Wn := by rw [hWn]; exact (Keeps.refl _ _).alloc _
  have hFlt := h.lt
  have bn : BlkL Wn w.heap.size 3 [.int .i64 0] := by rw [hWn]; exact heap_alloc_new w _
  have hsm := rsmallI_any (h.calm kn).lay (h.calm kn).rd bn (o := 0) (by simp) (fun hf => by have := hFlt _ hf; omega)
  rw [hn] at hsm
  have hmk := fun W => run_make_of (P := Tryd.prog) Tryd.underlying30 info_rlistTab n (by omega) (by omega) W
  have HN := hid hn
  have HS := hid hsm
  have H0 := hid h
  have B0 := hid hb
  have HX := hid hx
  have KN := hid kn
  have HFL := hid hFlt
  have HWN := hid hWn
  have x0 := hb.cell hx
  have f0 := hb.free o
  have hbn : ¬ b = w.heap.size := by omega
  have hnb : ¬ w.heap.size = b := by omega
  clear h hb hx hsm hn bn kn hFlt hWn
  go_enter Tryd.func39, Tryd.ntmps39
  go_wp2_with fail
  rw [← HWN.out]
  refine HS.out.mono ?_
  rintro e w1 ⟨rfl, b1, r1, k1⟩
  have kk1 : Keeps (Two rb w.heap.size) w w1 := KN.out.trans' k1 (fun _ _ h => h.elim) (fun _ _ h => h)
  have h1 := H0.out.step kk1 r1 (by omega) (by omega)
  have hb1 := B0.out.keep kk1 (fun e => by rcases e with e | e; exact nb (e ▸ H0.out.rd.frb); omega)
  have c0 := cell_at (i := 0) h1.lay rfl
  have hb2 : BlkL (w1.alloc (.cells (madeCells #[.slice none 0 0] n) 58)) b T xs := heapA _ hb1
  have x1 := hb2.cell HX.out
  have f1 := hb2.free o
  have n0 := b1.cell (o := 0) (v := .int .i64 n) (by simp)
  have hsz1 := kk1.size
  have hb1s : ¬ b = w1.heap.size := by have := hb1.lt; omega
  have hs1b : ¬ w1.heap.size = b := by have := hb1.lt; omega
  have hn1 : w.heap.size < w1.heap.size := b1.lt
  have hns : ¬ w.heap.size = w1.heap.size := by omega
  have hns' : ¬ w1.heap.size = w.heap.size := by omega
  have H1 := hid h1
  have B1 := hid hb1
  have K1 := hid kk1
  clear k1 b1 r1 kk1 h1 hb1 hb2 HS x0 f0 hsz1
  simp at c0
  go_wp2_with fail
  obtain ⟨g, hg⟩ : ∃ g, g = w1.heap.size := ⟨_, rfl⟩
  obtain ⟨hv, hhv⟩ : ∃ hv, hv = Value.slice (some ⟨w1.heap.size, 0, none⟩) n n := ⟨_, rfl⟩
  obtain ⟨W2, hW2⟩ : ∃ W2, W2 = (w1.alloc (.cells (madeCells #[.slice none 0 0] n) 58)).setCell ⟨b, o, none⟩ (.slice (some ⟨w1.heap.size, 0, none⟩) n n) := ⟨_, rfl⟩
  have kW : Keeps (fun k => k = b) w1 W2 := by rw [hW2]; exact ((Keeps.refl _ _).alloc _).at
  have kW2 : Keeps (Two rb b) w W2 := (K1.out.mono (T := Two rb b) (fun k hk hs => by rcases hs with e | e; exact Or.inl e; omega)).trans' kW (fun _ _ h => h) (fun _ _ h => Or.inr h)
  have bg0 : BlkL W2 g 58 ((List.replicate n (([], .slice none 0 0) : List Int × Value)).flatMap (fun x : List Int × Value => [x.2])) := by
    have h1 : BlkL (w1.alloc (.cells (madeCells #[.slice none 0 0] n) 58)) w1.heap.size 58 ((List.replicate n (([], .slice none 0 0) : List Int × Value)).flatMap (fun x : List Int × Value => [x.2])) := by
      unfold BlkL
      rw [← made_enc (size := 1) (enc := (fun x : List Int × Value => [x.2])) (fun _ => rfl) (by decide) (([], .slice none 0 0) : List Int × Value) #[.slice none 0 0] rfl n, Array.toArray_toList]
      rw [Nat.mul_one]
      exact heap_alloc_new w1 _
    rw [hW2, hg]
    exact h1.keep (S := fun k => k = b) ((Keeps.refl _ _).at) (fun e => hb1s e.symm)
  have hW2' : (w1.alloc (.cells (madeCells #[.slice none 0 0] n) 58)).setCell ⟨b, o, none⟩ (.slice (some ⟨w1.heap.size, 0, none⟩) n n) = W2 := hW2.symm
  have bb0 : BlkL W2 b T (xs.set o hv) := by rw [hW2, hhv]; exact BlkL.set (heapA _ B1.out) o _
  have R2 := hid (H1.out.keep kW (fun e => bp e.symm) (fun e => bq e.symm) (fun i hi e => nb (e ▸ hi)))
  have BB2 := hid bb0
  have BG2 := hid bg0
  have KW2 := hid kW2
  have HH := hid hhv
  have hgw : w.heap.size ≤ g := by omega
  have hgb : g ≠ b := by omega
  have hgp : g ≠ pb := by omega
  have hgq : g ≠ qb := by omega
  have hgr : g ≠ rb := by omega
  have hgF : ¬ F g := fun hf => by have := HFL.out g hf; omega
  have hrg : rb < g := by omega
  rw [hW2']
  clear kW kW2 bg0 bb0 hW2 hW2' hhv x1 f1 c0 n0 H1 K1 B1
  simp only [← hg]
  have HG := hid hg
  clear hg hb1s hs1b hns hns' hn1 hmk
  go_loopw [27] (fun v27 wr => ∃ (i : Nat) (ys : List (List Int × Value)) (s' : RS), i ≤ n ∧ v27 = .int .i64 i ∧ Hid (ys.length = i) ∧ Hid (RCtx wr qb pb rb F s') ∧ Hid (BlkL wr b T (xs.set o hv)) ∧ Hid (BlkL wr g 58 ((ys ++ List.replicate (n - i) (([], .slice none 0 0) : List Int × Value)).flatMap (fun x : List Int × Value => [x.2]))) ∧ Hid (RdRest rdSlot n s.byte.2 (ys.map (·.1)) (n - i) s') ∧ Hid (Keeps (Two rb b) w wr) ∧ Hid (∀ y ∈ ys, OkSlot g wr y)) (fun v27 _ => n - (intOf v27).toNat)
  case atStart => exact ⟨0, [], s.byte.2, Nat.zero_le _, rfl, hid rfl, R2, BB2, hid (by simpa using BG2.out), hid (RdRest.start _ _ _), KW2, hid (fun y hy => by simp at hy)⟩
  case round =>
    obtain ⟨i, ys, s', hi, rfl, HYL, HR, HB, HBG, HRS, HK, HOK⟩ := hrel
    clear R2 BB2 BG2 KW2
    by_cases hlt : i < n
    · have y0 := HB.out.cell (o := o) (v := .slice (some ⟨g, 0, none⟩) n n) (by rw [HH.out, ← HG.out]; simp [hol])
      have hzl : ((ys ++ List.replicate (n - i) (([], .slice none 0 0) : List Int × Value)).flatMap (fun x : List Int × Value => [x.2])).length = n * 1 := by rw [length_flatMap_enc (size := 1) (fun _ => rfl)]; have := HYL.out; simp; omega
      have hcl := rslot_any HR.out HBG.out (o := i) (by rw [hzl]; omega) (by simpa using filled_item (size := 1) (enc := fun x : List Int × Value => [x.2]) (fun _ => rfl) ys ([], .slice none 0 0) hlt HYL.out (k := 0) (by omega)) hgF hgp hgq
      have HCL := hid hcl
      clear hcl hzl
      go_wp2_with fail
      refine HCL.out.mono ?_
      rintro e w2 ⟨rfl, y, hy, b2, r2, k2, ok2⟩
      have hset : setL ((ys ++ List.replicate (n - i) (([], .slice none 0 0) : List Int × Value)).flatMap (fun x : List Int × Value => [x.2])) (i * 1) ((fun x : List Int × Value => [x.2]) y) = ((ys ++ [y]) ++ List.replicate (n - (i + 1)) (([], .slice none 0 0) : List Int × Value)).flatMap (fun x : List Int × Value => [x.2]) := by
        rw [setL_flatMap (size := 1) (enc := (fun x : List Int × Value => [x.2])) (fun _ => rfl) y _ i (by have := HYL.out; simp; omega), set_filled _ _ _ hlt HYL.out]
      have HBG2 : Hid (BlkL w2 g 58 (((ys ++ [y]) ++ List.replicate (n - (i + 1)) (([], .slice none 0 0) : List Int × Value)).flatMap (fun x : List Int × Value => [x.2]))) := hid (by rw [← hset]; simpa only [Nat.mul_one] using b2)
      have HB2 := hid (HB.out.keep k2 (fun e => by rcases e with e | e; exact nb (e ▸ H0.out.rd.frb); exact hgb e.symm))
      have HR2 := hid r2
      have HK2 : Hid (Keeps (Two rb b) w w2) := hid (HK.out.trans' k2 (fun _ _ h => h) (fun i hi e => by rcases e with e | e; exact Or.inl e; omega))
      have HRS2 : Hid (RdRest rdSlot n s.byte.2 ((ys ++ [y]).map (·.1)) (n - (i + 1)) (rdSlot s').2) := hid (by
        have h1 := HRS.out
        rw [show n - i = (n - (i + 1)) + 1 by omega] at h1
        have h2 := h1.next
        rw [List.map_append]
        simpa [hy] using h2)
      have HOK2 : Hid (∀ x ∈ ys ++ [y], OkSlot g w2 x) := hid (fun x hx => by
        rcases List.mem_append.1 hx with hx | hx
        · exact (HOK.out x hx).keep k2 hrg
        · rw [List.mem_singleton.1 hx]; exact ok2)
      clear ok2
      clear b2 r2 k2 hset HCL
      go_wp2_with fail
      go_roundw
      case rel => exact ⟨i + 1, ys ++ [y], (rdSlot s').2, by omega, by go_num, hid (by simp [HYL.out]), HR2, HB2, HBG2, HRS2, HK2, HOK2⟩
      case measure => simp [intOf]; omega
    · obtain rfl : i = n := by omega
      go_wp2_with fail
      go_end0
      have hfin := HRS.out
      rw [Nat.sub_self] at hfin
      have hrd := hfin.last
      have hl : rdList rdSlot s = (ys.map (·.1), s') := by
        unfold rdList
        rw [HN.out, Int.toNat_natCast]; exact hrd
      have hg2 := HBG.out
      simp only [Nat.sub_self, List.replicate_zero, List.append_nil] at hg2
      have hb2 := HB.out
      rw [HH.out, ← HG.out] at hb2
      refine ⟨rfl, g, ys, by rw [HYL.out]; exact hb2, hg2, by rw [hl], by rw [hl]; exact HR.out, HK.out, hgw, by have := HYL.out; omega, HOK.out⟩

theorem info_rlistRul : (Tryd.prog.info? 49).map (fun i => (i.zero, i.size, i.bytes)) = some (some (.agg #[.int .u8 0, .int .i64 0, .int .i64 0, .int .i64 0, .int .i64 0, .int .i64 0, .int .u8 0, .bool false, .slice none 0 0]), 9, 80) := by kernel_rfl

set_option maxHeartbeats 4000000 in
set_option maxRecDepth 100000 in
theorem rlistRul (h : RCtx w qb pb rb F s) (hb : BlkL w b T xs) (hx : xs[o]? = some (.slice none 0 0)) (nb : ¬ F b) (bp : b ≠ pb) (bq : b ≠ qb) :
    Calls Tryd.prog 37 #[.pointer (some ⟨pb, 0, none⟩), .pointer (some ⟨b, o, none⟩), .func (.func 38) #[.pointer (some ⟨pb, 0, none⟩)] #[]] w fun e w' => e = .returned (.tuple #[]) ∧ ∃ (g : Nat) (ys : List (Rul × Value)),
      BlkL w' b T (xs.set o (.slice (some ⟨g, 0, none⟩) ys.length ys.length)) ∧ BlkL w' g 49 (ys.flatMap encRul) ∧ ys.map (·.1) = (rdList rdRul s).1 ∧ RCtx w' qb pb rb F (rdList rdRul s).2 ∧ Keeps (Two rb b) w w' ∧ w.heap.size ≤ g ∧ ys.length ≤ 255 ∧ ∀ y ∈ ys, OkRul g w' y := by
  have hbl := hb.lt
  have hpl : pb < w.heap.size := lt_of_block h.lay
  have hql : qb < w.heap.size := lt_of_block h.hpb
  have hrl := h.rd.rlt
  have hby := RS.byte_le h.rd.bytes
  have hol : o < xs.length := (List.getElem?_eq_some_iff.1 hx).1
  obtain ⟨n, hn⟩ : ∃ n : Nat, s.byte.1 = (n : Int) := ⟨s.byte.1.toNat, by omega⟩
  have hn255 : n ≤ 255 := by omega
  obtain ⟨Wn, hWn⟩ : ∃ Wn, Wn = w.alloc (.cells #[.int .i64 0] 3) := ⟨_, rfl⟩
  have kn : Keeps No w Wn := by rw [hWn]; exact (Keeps.refl _ _).alloc _
  have hFlt := h.lt
  have bn : BlkL Wn w.heap.size 3 [.int .i64 0] := by rw [hWn]; exact heap_alloc_new w _
  have hsm := rsmallI_any (h.calm kn).lay (h.calm kn).rd bn (o := 0) (by simp) (fun hf => by have := hFlt _ hf; omega)
  rw [hn] at hsm
  have hmk := fun W => run_make_of (P := Tryd.prog) Tryd.underlying29 info_rlistRul n (by omega) (by omega) W
  have HN := hid hn
  have HS := hid hsm
  have H0 := hid h
  have B0 := hid hb
  have HX := hid hx
  have KN := hid kn
  have HFL := hid hFlt
  have HWN := hid hWn
  have x0 := hb.cell hx
  have f0 := hb.free o
  have hbn : ¬ b = w.heap.size := by omega
  have hnb : ¬ w.heap.size = b := by omega
  clear h hb hx hsm hn bn kn hFlt hWn
  go_enter Tryd.func37, Tryd.ntmps37
  go_wp2_with fail
  rw [← HWN.out]
  refine HS.out.mono ?_
  rintro e w1 ⟨rfl, b1, r1, k1⟩
  have kk1 : Keeps (Two rb w.heap.size) w w1 := KN.out.trans' k1 (fun _ _ h => h.elim) (fun _ _ h => h)
  have h1 := H0.out.step kk1 r1 (by omega) (by omega)
  have hb1 := B0.out.keep kk1 (fun e => by rcases e with e | e; exact nb (e ▸ H0.out.rd.frb); omega)
  have c0 := cell_at (i := 0) h1.lay rfl
  have hb2 : BlkL (w1.alloc (.cells (madeCells #[.int .u8 0, .int .i64 0, .int .i64 0, .int .i64 0, .int .i64 0, .int .i64 0, .int .u8 0, .bool false, .slice none 0 0] (n * 9)) 49)) b T xs := heapA _ hb1
  have x1 := hb2.cell HX.out
  have f1 := hb2.free o
  have n0 := b1.cell (o := 0) (v := .int .i64 n) (by simp)
  have hsz1 := kk1.size
  have hb1s : ¬ b = w1.heap.size := by have := hb1.lt; omega
  have hs1b : ¬ w1.heap.size = b := by have := hb1.lt; omega
  have hn1 : w.heap.size < w1.heap.size := b1.lt
  have hns : ¬ w.heap.size = w1.heap.size := by omega
  have hns' : ¬ w1.heap.size = w.heap.size := by omega
  have H1 := hid h1
  have B1 := hid hb1
  have K1 := hid kk1
  clear k1 b1 r1 kk1 h1 hb1 hb2 HS x0 f0 hsz1
  simp at c0
  go_wp2_with fail
  obtain ⟨g, hg⟩ : ∃ g, g = w1.heap.size := ⟨_, rfl⟩
  obtain ⟨hv, hhv⟩ : ∃ hv, hv = Value.slice (some ⟨w1.heap.size, 0, none⟩) n n := ⟨_, rfl⟩
  obtain ⟨W2, hW2⟩ : ∃ W2, W2 = (w1.alloc (.cells (madeCells #[.int .u8 0, .int .i64 0, .int .i64 0, .int .i64 0, .int .i64 0, .int .i64 0, .int .u8 0, .bool false, .slice none 0 0] (n * 9)) 49)).setCell ⟨b, o, none⟩ (.slice (some ⟨w1.heap.size, 0, none⟩) n n) := ⟨_, rfl⟩
  have kW : Keeps (fun k => k = b) w1 W2 := by rw [hW2]; exact ((Keeps.refl _ _).alloc _).at
  have kW2 : Keeps (Two rb b) w W2 := (K1.out.mono (T := Two rb b) (fun k hk hs => by rcases hs with e | e; exact Or.inl e; omega)).trans' kW (fun _ _ h => h) (fun _ _ h => Or.inr h)
  have bg0 : BlkL W2 g 49 ((List.replicate n ((⟨0, 0, 0, 0, 0, 0, 0, false, []⟩, .slice none 0 0) : Rul × Value)).flatMap encRul) := by
    have h1 : BlkL (w1.alloc (.cells (madeCells #[.int .u8 0, .int .i64 0, .int .i64 0, .int .i64 0, .int .i64 0, .int .i64 0, .int .u8 0, .bool false, .slice none 0 0] (n * 9)) 49)) w1.heap.size 49 ((List.replicate n ((⟨0, 0, 0, 0, 0, 0, 0, false, []⟩, .slice none 0 0) : Rul × Value)).flatMap encRul) := by
      unfold BlkL
      rw [← made_enc (size := 9) (enc := encRul) (fun _ => rfl) (by decide) ((⟨0, 0, 0, 0, 0, 0, 0, false, []⟩, .slice none 0 0) : Rul × Value) #[.int .u8 0, .int .i64 0, .int .i64 0, .int .i64 0, .int .i64 0, .int .i64 0, .int .u8 0, .bool false, .slice none 0 0] rfl n, Array.toArray_toList]
      exact heap_alloc_new w1 _
    rw [hW2, hg]
    exact h1.keep (S := fun k => k = b) ((Keeps.refl _ _).at) (fun e => hb1s e.symm)
  have hW2' : (w1.alloc (.cells (madeCells #[.int .u8 0, .int .i64 0, .int .i64 0, .int .i64 0, .int .i64 0, .int .i64 0, .int .u8 0, .bool false, .slice none 0 0] (n * 9)) 49)).setCell ⟨b, o, none⟩ (.slice (some ⟨w1.heap.size, 0, none⟩) n n) = W2 := hW2.symm
  have bb0 : BlkL W2 b T (xs.set o hv) := by rw [hW2, hhv]; exact BlkL.set (heapA _ B1.out) o _
  have R2 := hid (H1.out.keep kW (fun e => bp e.symm) (fun e => bq e.symm) (fun i hi e => nb (e ▸ hi)))
  have BB2 := hid bb0
  have BG2 := hid bg0
  have KW2 := hid kW2
  have HH := hid hhv
  have hgw : w.heap.size ≤ g := by omega
  have hgb : g ≠ b := by omega
  have hgp : g ≠ pb := by omega
  have hgq : g ≠ qb := by omega
  have hgr : g ≠ rb := by omega
  have hgF : ¬ F g := fun hf => by have := HFL.out g hf; omega
  have hrg : rb < g := by omega
  rw [hW2']
  clear kW kW2 bg0 bb0 hW2 hW2' hhv x1 f1 c0 n0 H1 K1 B1
  simp only [← hg]
  have HG := hid hg
  clear hg hb1s hs1b hns hns' hn1 hmk
  go_loopw [27] (fun v27 wr => ∃ (i : Nat) (ys : List (Rul × Value)) (s' : RS), i ≤ n ∧ v27 = .int .i64 i ∧ Hid (ys.length = i) ∧ Hid (RCtx wr qb pb rb F s') ∧ Hid (BlkL wr b T (xs.set o hv)) ∧ Hid (BlkL wr g 49 ((ys ++ List.replicate (n - i) ((⟨0, 0, 0, 0, 0, 0, 0, false, []⟩, .slice none 0 0) : Rul × Value)).flatMap encRul)) ∧ Hid (RdRest rdRul n s.byte.2 (ys.map (·.1)) (n - i) s') ∧ Hid (Keeps (Two rb b) w wr) ∧ Hid (∀ y ∈ ys, OkRul g wr y)) (fun v27 _ => n - (intOf v27).toNat)
  case atStart => exact ⟨0, [], s.byte.2, Nat.zero_le _, rfl, hid rfl, R2, BB2, hid (by simpa using BG2.out), hid (RdRest.start _ _ _), KW2, hid (fun y hy => by simp at hy)⟩
  case round =>
    obtain ⟨i, ys, s', hi, rfl, HYL, HR, HB, HBG, HRS, HK, HOK⟩ := hrel
    clear R2 BB2 BG2 KW2
    by_cases hlt : i < n
    · have y0 := HB.out.cell (o := o) (v := .slice (some ⟨g, 0, none⟩) n n) (by rw [HH.out, ← HG.out]; simp [hol])
      have hzl : ((ys ++ List.replicate (n - i) ((⟨0, 0, 0, 0, 0, 0, 0, false, []⟩, .slice none 0 0) : Rul × Value)).flatMap encRul).length = n * 9 := by rw [length_flatMap_enc (size := 9) (fun _ => rfl)]; have := HYL.out; simp; omega
      have hcl := rrule_any HR.out HBG.out (o := i * 9) (by rw [hzl]; omega) (filled_item (size := 9) (enc := encRul) (fun _ => rfl) ys _ hlt HYL.out (k := 8) (by omega)) hgF hgp hgq
      have HCL := hid hcl
      clear hcl hzl
      go_wp2_with fail
      refine HCL.out.mono ?_
      rintro e w2 ⟨rfl, y, hy, b2, r2, k2, ok2⟩
      have hset : setL ((ys ++ List.replicate (n - i) ((⟨0, 0, 0, 0, 0, 0, 0, false, []⟩, .slice none 0 0) : Rul × Value)).flatMap encRul) (i * 9) (encRul y) = ((ys ++ [y]) ++ List.replicate (n - (i + 1)) ((⟨0, 0, 0, 0, 0, 0, 0, false, []⟩, .slice none 0 0) : Rul × Value)).flatMap encRul := by
        rw [setL_flatMap (size := 9) (enc := encRul) (fun _ => rfl) y _ i (by have := HYL.out; simp; omega), set_filled _ _ _ hlt HYL.out]
      have HBG2 : Hid (BlkL w2 g 49 (((ys ++ [y]) ++ List.replicate (n - (i + 1)) ((⟨0, 0, 0, 0, 0, 0, 0, false, []⟩, .slice none 0 0) : Rul × Value)).flatMap encRul)) := hid (by rw [← hset]; simpa only [Nat.mul_one] using b2)
      have HB2 := hid (HB.out.keep k2 (fun e => by rcases e with e | e; exact nb (e ▸ H0.out.rd.frb); exact hgb e.symm))
      have HR2 := hid r2
      have HK2 : Hid (Keeps (Two rb b) w w2) := hid (HK.out.trans' k2 (fun _ _ h => h) (fun i hi e => by rcases e with e | e; exact Or.inl e; omega))
      have HRS2 : Hid (RdRest rdRul n s.byte.2 ((ys ++ [y]).map (·.1)) (n - (i + 1)) (rdRul s').2) := hid (by
        have h1 := HRS.out
        rw [show n - i = (n - (i + 1)) + 1 by omega] at h1
        have h2 := h1.next
        rw [List.map_append]
        simpa [hy] using h2)
      have HOK2 : Hid (∀ x ∈ ys ++ [y], OkRul g w2 x) := hid (fun x hx => by
        rcases List.mem_append.1 hx with hx | hx
        · exact (HOK.out x hx).keep k2 hrg
        · rw [List.mem_singleton.1 hx]; exact ok2)
      clear ok2
      clear b2 r2 k2 hset HCL
      go_wp2_with fail
      go_roundw
      case rel => exact ⟨i + 1, ys ++ [y], (rdRul s').2, by omega, by go_num, hid (by simp [HYL.out]), HR2, HB2, HBG2, HRS2, HK2, HOK2⟩
      case measure => simp [intOf]; omega
    · obtain rfl : i = n := by omega
      go_wp2_with fail
      go_end0
      have hfin := HRS.out
      rw [Nat.sub_self] at hfin
      have hrd := hfin.last
      have hl : rdList rdRul s = (ys.map (·.1), s') := by
        unfold rdList
        rw [HN.out, Int.toNat_natCast]; exact hrd
      have hg2 := HBG.out
      simp only [Nat.sub_self, List.replicate_zero, List.append_nil] at hg2
      have hb2 := HB.out
      rw [HH.out, ← HG.out] at hb2
      refine ⟨rfl, g, ys, by rw [HYL.out]; exact hb2, hg2, by rw [hl], by rw [hl]; exact HR.out, HK.out, hgw, by have := HYL.out; omega, HOK.out⟩

end
end Go.Proofs.YtlenhccdkhgfgaaDoor
