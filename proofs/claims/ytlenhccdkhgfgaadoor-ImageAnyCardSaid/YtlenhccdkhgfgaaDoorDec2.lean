/-
  What a pass that reads does with signals, stages, numbers, and lists of them.
-/
import Derived.Test.YtlenhccdkhgfgaaDoorDec
namespace Go.Proofs.YtlenhccdkhgfgaaDoor
open Go.RowKit

/-- A pass that reads, at s. -/
structure RCtx (w : World) (qb pb rb : Nat) (F : Nat → Prop) (s : RS) : Prop where
  lay : Rdl w pb rb
  hpb : PB w qb pb
  rd : Rd w rb F s
  np : ¬ F pb
  nq : ¬ F qb
  lt : ∀ k, F k → k < w.heap.size

theorem RCtx.step {w w' : World} {qb pb rb b : Nat} {F : Nat → Prop} {s s' : RS} (h : RCtx w qb pb rb F s) (k : Keeps (Two rb b) w w') (hr : Rd w' rb F s') (bp : b ≠ pb) (bq : b ≠ qb) : RCtx w' qb pb rb F s' :=
  ⟨k.heap (fun e => by rcases e with e | e; exact h.np (e ▸ h.rd.frb); exact bp e.symm) h.lay, k.heap (fun e => by rcases e with e | e; exact h.nq (e ▸ h.rd.frb); exact bq e.symm) h.hpb, hr, h.np, h.nq, fun i hi => Nat.lt_of_lt_of_le (h.lt i hi) k.size⟩

theorem RCtx.calm {w w' : World} {qb pb rb : Nat} {F : Nat → Prop} {s : RS} (h : RCtx w qb pb rb F s) (k : Keeps No w w') : RCtx w' qb pb rb F s :=
  ⟨k.heap (fun h => h) h.lay, k.heap (fun h => h) h.hpb, h.rd.keep k (fun _ _ h => h), h.np, h.nq, fun i hi => Nat.lt_of_lt_of_le (h.lt i hi) k.size⟩

theorem RCtx.keep {S : Nat → Prop} {w w' : World} {qb pb rb : Nat} {F : Nat → Prop} {s : RS} (h : RCtx w qb pb rb F s) (k : Keeps S w w') (h1 : ¬ S pb) (h2 : ¬ S qb) (h3 : ∀ i, F i → ¬ S i) : RCtx w' qb pb rb F s :=
  ⟨k.heap h1 h.lay, k.heap h2 h.hpb, h.rd.keep k h3, h.np, h.nq, fun i hi => Nat.lt_of_lt_of_le (h.lt i hi) k.size⟩

def rdSig (s : RS) : Sig × RS := (⟨s.int.1, s.int.2.int.1⟩, s.int.2.int.2)
def rdStg (s : RS) : Stg × RS := (⟨s.int.1, s.int.2.byte.1⟩, s.int.2.byte.2)
def rdNum (s : RS) : Int × RS := s.byte

def rdN {α : Type} (f : RS → α × RS) : Nat → RS → List α × RS
  | 0, s => ([], s)
  | n + 1, s => ((f s).1 :: (rdN f n (f s).2).1, (rdN f n (f s).2).2)

/-- How many, in a byte, and each. -/
def rdList {α : Type} (f : RS → α × RS) (s : RS) : List α × RS := rdN f s.byte.1.toNat s.byte.2

/-- The rest of a list that is being read. -/
def RdRest {α : Type} (f : RS → α × RS) (n : Nat) (s : RS) (done : List α) (k : Nat) (s' : RS) : Prop := rdN f n s = (done ++ (rdN f k s').1, (rdN f k s').2)

theorem RdRest.start {α : Type} (f : RS → α × RS) (n : Nat) (s : RS) : RdRest f n s [] n s := rfl
theorem RdRest.next {α : Type} {f : RS → α × RS} {n k : Nat} {s s' : RS} {done : List α} (h : RdRest f n s done (k + 1) s') : RdRest f n s (done ++ [(f s').1]) k (f s').2 := by
  unfold RdRest at *
  rw [h]
  simp [rdN]
theorem RdRest.last {α : Type} {f : RS → α × RS} {n : Nat} {s s' : RS} {done : List α} (h : RdRest f n s done 0 s') : rdN f n s = (done, s') := by
  unfold RdRest at h
  simpa [rdN] using h

theorem run_make_of {P : Program} {t e : TypeId} {z : Value} {size bytes : Nat} (ht : P.underlying t = some (.slice e)) (hi : (P.info? e).map (fun i => (i.zero, i.size, i.bytes)) = some (some z, size, bytes)) (n : Nat) (hb : bytes * n ≤ 281474976710656) (hn : n ≤ 1000000) (w : World) :
    (Instr.makeSlice t (.int .i64 (n : Int)) (.int .i64 (n : Int))).run P w = .ok (.slice (some ⟨w.heap.size, 0, none⟩) n n) (w.alloc (.cells (madeCells z.cells (n * size)) e)) := by
  obtain ⟨i, hi, hz, hs, hb'⟩ : ∃ i, P.info? e = some i ∧ i.zero = some z ∧ i.size = size ∧ i.bytes = bytes := by
    cases h : P.info? e with
    | none => simp [h] at hi
    | some i => simp [h] at hi; exact ⟨i, rfl, hi.1, hi.2.1, hi.2.2⟩
  have := run_make (P := P) (w := w) t e i z ht hi hz .i64 .i64 (n : Int) (n : Int) (by omega) (Int.le_refl _) (by rw [hb', ← Int.natCast_mul]; omega) (by omega)
  rw [this, hs]
  simp

theorem setL_two (xs : List Value) (o : Nat) (u v : Value) : (xs.set o u).set (o + 1) v = setL xs o [u, v] := rfl
theorem setL_one (xs : List Value) (o : Nat) (u : Value) : xs.set o u = setL xs o [u] := rfl

theorem set_filled {α : Type} (ys : List α) (z y : α) {n i : Nat} (hi : i < n) (hl : ys.length = i) : (ys ++ List.replicate (n - i) z).set i y = (ys ++ [y]) ++ List.replicate (n - (i + 1)) z := by
  subst hl
  rw [List.set_append_right _ _ (Nat.le_refl _), Nat.sub_self, show n - ys.length = (n - (ys.length + 1)) + 1 by omega, List.replicate_succ, List.set_cons_zero, List.append_assoc]
  rfl

section
variable {w : World} {qb pb rb : Nat} {F : Nat → Prop} {s : RS} {b o : Nat} {T : TypeId} {xs : List Value}

set_option maxHeartbeats 4000000 in
set_option maxRecDepth 100000 in
theorem rsig_any (h : RCtx w qb pb rb F s) (hb : BlkL w b T xs) (ho : o + 1 < xs.length) (nb : ¬ F b) (bp : b ≠ pb) (bq : b ≠ qb) :
    Calls Tryd.prog 35 #[.pointer (some ⟨b, o, none⟩), .pointer (some ⟨qb, 0, none⟩)] w fun e w' => e = .returned (.tuple #[]) ∧ BlkL w' b T (setL xs o (encSig (rdSig s).1)) ∧ RCtx w' qb pb rb F (rdSig s).2 ∧ Keeps (Two rb b) w w' := by
  have q0 := cell_at (i := 0) h.hpb rfl
  have H0 := hid h
  have B0 := hid hb
  have K0 := hid (Keeps.refl (Two rb b) w)
  clear h hb
  go_enter Tryd.func35, Tryd.ntmps35
  go_wp2_with fail
  go_still_tail 4, (by kernel_rfl)
  go_wp2_with fail
  refine (rwholeI_any (H0.out.calm (drew_keeps _)).lay (H0.out.calm (drew_keeps _)).rd (B0.out.keep (drew_keeps _) (fun h => h)) (by (try simp only [List.length_set]); omega) nb).mono ?_
  rintro e w1 ⟨rfl, b1, r1, k1⟩
  have kk1 := Keeps.trans' (drew_keeps _) k1 (fun _ _ h => h.elim) (fun _ _ h => h)
  have B1 := hid b1
  have H1 := hid (H0.out.step kk1 r1 bp bq)
  have K1 := hid (K0.out.trans kk1)
  have q0 := cell_at (i := 0) H1.out.hpb rfl
  clear b1 r1 k1 kk1 B0 H0 K0
  go_wp2_with fail
  go_still_tail 4, (by kernel_rfl)
  go_wp2_with fail
  refine (rwholeI_any (H1.out.calm (drew_keeps _)).lay (H1.out.calm (drew_keeps _)).rd (B1.out.keep (drew_keeps _) (fun h => h)) (by (try simp only [List.length_set]); omega) nb).mono ?_
  rintro e w2 ⟨rfl, b2, r2, k2⟩
  have kk2 := Keeps.trans' (drew_keeps _) k2 (fun _ _ h => h.elim) (fun _ _ h => h)
  have B2 := hid b2
  have H2 := hid (H1.out.step kk2 r2 bp bq)
  have K2 := hid (K1.out.trans kk2)
  have q0 := cell_at (i := 0) H2.out.hpb rfl
  clear b2 r2 k2 kk2 B1 H1 K1
  go_wp2_with fail
  go_end0
  exact ⟨rfl, B2.out, H2.out, K2.out⟩

set_option maxHeartbeats 4000000 in
set_option maxRecDepth 100000 in
theorem rstg_any (h : RCtx w qb pb rb F s) (hb : BlkL w b T xs) (ho : o + 1 < xs.length) (nb : ¬ F b) (bp : b ≠ pb) (bq : b ≠ qb) :
    Calls Tryd.prog 65 #[.pointer (some ⟨b, o, none⟩), .pointer (some ⟨qb, 0, none⟩)] w fun e w' => e = .returned (.tuple #[]) ∧ BlkL w' b T (setL xs o (encStg (rdStg s).1)) ∧ RCtx w' qb pb rb F (rdStg s).2 ∧ Keeps (Two rb b) w w' := by
  have q0 := cell_at (i := 0) h.hpb rfl
  have H0 := hid h
  have B0 := hid hb
  have K0 := hid (Keeps.refl (Two rb b) w)
  clear h hb
  go_enter Tryd.func65, Tryd.ntmps65
  go_wp2_with fail
  go_still_tail 4, (by kernel_rfl)
  go_wp2_with fail
  refine (rwholeL_any (H0.out.calm (drew_keeps _)).lay (H0.out.calm (drew_keeps _)).rd (B0.out.keep (drew_keeps _) (fun h => h)) (by (try simp only [List.length_set]); omega) nb).mono ?_
  rintro e w1 ⟨rfl, b1, r1, k1⟩
  have kk1 := Keeps.trans' (drew_keeps _) k1 (fun _ _ h => h.elim) (fun _ _ h => h)
  have B1 := hid b1
  have H1 := hid (H0.out.step kk1 r1 bp bq)
  have K1 := hid (K0.out.trans kk1)
  have q0 := cell_at (i := 0) H1.out.hpb rfl
  clear b1 r1 k1 kk1 B0 H0 K0
  go_wp2_with fail
  go_still_tail 4, (by kernel_rfl)
  go_wp2_with fail
  refine (rsmallB_any (H1.out.calm (drew_keeps _)).lay (H1.out.calm (drew_keeps _)).rd (B1.out.keep (drew_keeps _) (fun h => h)) (by (try simp only [List.length_set]); omega) nb).mono ?_
  rintro e w2 ⟨rfl, b2, r2, k2⟩
  have kk2 := Keeps.trans' (drew_keeps _) k2 (fun _ _ h => h.elim) (fun _ _ h => h)
  have B2 := hid b2
  have H2 := hid (H1.out.step kk2 r2 bp bq)
  have K2 := hid (K1.out.trans kk2)
  have q0 := cell_at (i := 0) H2.out.hpb rfl
  clear b2 r2 k2 kk2 B1 H1 K1
  go_wp2_with fail
  go_end0
  exact ⟨rfl, B2.out, H2.out, K2.out⟩

set_option maxHeartbeats 4000000 in
set_option maxRecDepth 100000 in
theorem rnum_any (h : RCtx w qb pb rb F s) (hb : BlkL w b T xs) (ho : o < xs.length) (nb : ¬ F b) (bp : b ≠ pb) (bq : b ≠ qb) :
    Calls Tryd.prog 42 #[.pointer (some ⟨b, o, none⟩), .pointer (some ⟨qb, 0, none⟩)] w fun e w' => e = .returned (.tuple #[]) ∧ BlkL w' b T (setL xs o [.int .i64 (rdNum s).1]) ∧ RCtx w' qb pb rb F (rdNum s).2 ∧ Keeps (Two rb b) w w' := by
  have q0 := cell_at (i := 0) h.hpb rfl
  have HC := hid (rsmallI_any h.lay h.rd hb ho nb)
  have H0 := hid h
  clear h hb
  go_enter Tryd.func42, Tryd.ntmps42
  go_wp2_with fail
  refine HC.out.mono ?_
  rintro e w1 ⟨rfl, b1, r1, k1⟩
  have B1 := hid b1
  have H1 := hid (H0.out.step k1 r1 bp bq)
  have K1 := hid k1
  clear b1 r1 k1
  go_wp2_with fail
  go_end0
  exact ⟨rfl, B1.out, H1.out, K1.out⟩

theorem info_rlistSig : (Tryd.prog.info? 51).map (fun i => (i.zero, i.size, i.bytes)) = some (some (.agg #[.int .i64 0, .int .i64 0]), 2, 16) := by kernel_rfl

set_option maxHeartbeats 4000000 in
set_option maxRecDepth 100000 in
theorem rlistSig (h : RCtx w qb pb rb F s) (hb : BlkL w b T xs) (hx : xs[o]? = some (.slice none 0 0)) (nb : ¬ F b) (bp : b ≠ pb) (bq : b ≠ qb) :
    Calls Tryd.prog 34 #[.pointer (some ⟨pb, 0, none⟩), .pointer (some ⟨b, o, none⟩), .func (.func 35) #[] #[.pointer (some ⟨qb, 0, none⟩)]] w fun e w' => e = .returned (.tuple #[]) ∧ ∃ (g : Nat) (ys : List (Sig)),
      BlkL w' b T (xs.set o (.slice (some ⟨g, 0, none⟩) ys.length ys.length)) ∧ BlkL w' g 51 (ys.flatMap encSig) ∧ ys.map id = (rdList rdSig s).1 ∧ RCtx w' qb pb rb F (rdList rdSig s).2 ∧ Keeps (Two rb b) w w' ∧ w.heap.size ≤ g ∧ ys.length ≤ 255 := by
  have hbl := hb.lt
  have hpl : pb < w.heap.size := lt_of_block h.lay
  have hql : qb < w.heap.size := lt_of_block h.hpb
  have hrl := h.rd.rlt
  have hby := RS.byte_le h.rd.bytes
  have hol : o < xs.length := (List.getElem?_eq_some_iff.1 hx).1
  obtain ⟨n, hn⟩ : ∃ n : Nat, s.byte.1 = (n : Int) := ⟨s.byte.1.toNat, by omega⟩
  have hn255 : n ≤ 255 := by omega
  obtain ⟨Wn, hWn⟩ : ∃ Wn, Wn = w.alloc (.cells #[.int .i64 0] 3) := ⟨_, rfl⟩
  have kn : Keeps No w Wn := by rw [hWn]; exact (Keeps.refl _ _).alloc _
  have hFlt := h.lt
  have bn : BlkL Wn w.heap.size 3 [.int .i64 0] := by rw [hWn]; exact heap_alloc_new w _
  have hsm := rsmallI_any (h.calm kn).lay (h.calm kn).rd bn (o := 0) (by simp) (fun hf => by have := hFlt _ hf; omega)
  rw [hn] at hsm
  have hmk := fun W => run_make_of (P := Tryd.prog) Tryd.underlying28 info_rlistSig n (by omega) (by omega) W
  have HN := hid hn
  have HS := hid hsm
  have H0 := hid h
  have B0 := hid hb
  have HX := hid hx
  have KN := hid kn
  have HFL := hid hFlt
  have HWN := hid hWn
  have x0 := hb.cell hx
  have f0 := hb.free o
  have hbn : ¬ b = w.heap.size := by omega
  have hnb : ¬ w.heap.size = b := by omega
  clear h hb hx hsm hn bn kn hFlt hWn
  go_enter Tryd.func34, Tryd.ntmps34
  go_wp2_with fail
  rw [← HWN.out]
  refine HS.out.mono ?_
  rintro e w1 ⟨rfl, b1, r1, k1⟩
  have kk1 : Keeps (Two rb w.heap.size) w w1 := KN.out.trans' k1 (fun _ _ h => h.elim) (fun _ _ h => h)
  have h1 := H0.out.step kk1 r1 (by omega) (by omega)
  have hb1 := B0.out.keep kk1 (fun e => by rcases e with e | e; exact nb (e ▸ H0.out.rd.frb); omega)
  have c0 := cell_at (i := 0) h1.lay rfl
  have hb2 : BlkL (w1.alloc (.cells (madeCells #[.int .i64 0, .int .i64 0] (n * 2)) 51)) b T xs := heapA _ hb1
  have x1 := hb2.cell HX.out
  have f1 := hb2.free o
  have n0 := b1.cell (o := 0) (v := .int .i64 n) (by simp)
  have hsz1 := kk1.size
  have hb1s : ¬ b = w1.heap.size := by have := hb1.lt; omega
  have hs1b : ¬ w1.heap.size = b := by have := hb1.lt; omega
  have hn1 : w.heap.size < w1.heap.size := b1.lt
  have hns : ¬ w.heap.size = w1.heap.size := by omega
  have hns' : ¬ w1.heap.size = w.heap.size := by omega
  have H1 := hid h1
  have B1 := hid hb1
  have K1 := hid kk1
  clear k1 b1 r1 kk1 h1 hb1 hb2 HS x0 f0 hsz1
  simp at c0
  go_wp2_with fail
  obtain ⟨g, hg⟩ : ∃ g, g = w1.heap.size := ⟨_, rfl⟩
  obtain ⟨hv, hhv⟩ : ∃ hv, hv = Value.slice (some ⟨w1.heap.size, 0, none⟩) n n := ⟨_, rfl⟩
  obtain ⟨W2, hW2⟩ : ∃ W2, W2 = (w1.alloc (.cells (madeCells #[.int .i64 0, .int .i64 0] (n * 2)) 51)).setCell ⟨b, o, none⟩ (.slice (some ⟨w1.heap.size, 0, none⟩) n n) := ⟨_, rfl⟩
  have kW : Keeps (fun k => k = b) w1 W2 := by rw [hW2]; exact ((Keeps.refl _ _).alloc _).at
  have kW2 : Keeps (Two rb b) w W2 := (K1.out.mono (T := Two rb b) (fun k hk hs => by rcases hs with e | e; exact Or.inl e; omega)).trans' kW (fun _ _ h => h) (fun _ _ h => Or.inr h)
  have bg0 : BlkL W2 g 51 ((List.replicate n (⟨0, 0⟩ : Sig)).flatMap encSig) := by
    have h1 : BlkL (w1.alloc (.cells (madeCells #[.int .i64 0, .int .i64 0] (n * 2)) 51)) w1.heap.size 51 ((List.replicate n (⟨0, 0⟩ : Sig)).flatMap encSig) := by
      unfold BlkL
      rw [← made_enc (size := 2) (enc := encSig) (fun _ => rfl) (by decide) (⟨0, 0⟩ : Sig) #[.int .i64 0, .int .i64 0] rfl n, Array.toArray_toList]
      exact heap_alloc_new w1 _
    rw [hW2, hg]
    exact h1.keep (S := fun k => k = b) ((Keeps.refl _ _).at) (fun e => hb1s e.symm)
  have hW2' : (w1.alloc (.cells (madeCells #[.int .i64 0, .int .i64 0] (n * 2)) 51)).setCell ⟨b, o, none⟩ (.slice (some ⟨w1.heap.size, 0, none⟩) n n) = W2 := hW2.symm
  have bb0 : BlkL W2 b T (xs.set o hv) := by rw [hW2, hhv]; exact BlkL.set (heapA _ B1.out) o _
  have R2 := hid (H1.out.keep kW (fun e => bp e.symm) (fun e => bq e.symm) (fun i hi e => nb (e ▸ hi)))
  have BB2 := hid bb0
  have BG2 := hid bg0
  have KW2 := hid kW2
  have HH := hid hhv
  have hgw : w.heap.size ≤ g := by omega
  have hgb : g ≠ b := by omega
  have hgp : g ≠ pb := by omega
  have hgq : g ≠ qb := by omega
  have hgr : g ≠ rb := by omega
  have hgF : ¬ F g := fun hf => by have := HFL.out g hf; omega
  have hrg : rb < g := by omega
  rw [hW2']
  clear kW kW2 bg0 bb0 hW2 hW2' hhv x1 f1 c0 n0 H1 K1 B1
  simp only [← hg]
  have HG := hid hg
  clear hg hb1s hs1b hns hns' hn1 hmk
  go_loopw [27] (fun v27 wr => ∃ (i : Nat) (ys : List (Sig)) (s' : RS), i ≤ n ∧ v27 = .int .i64 i ∧ Hid (ys.length = i) ∧ Hid (RCtx wr qb pb rb F s') ∧ Hid (BlkL wr b T (xs.set o hv)) ∧ Hid (BlkL wr g 51 ((ys ++ List.replicate (n - i) (⟨0, 0⟩ : Sig)).flatMap encSig)) ∧ Hid (RdRest rdSig n s.byte.2 (ys.map id) (n - i) s') ∧ Hid (Keeps (Two rb b) w wr)) (fun v27 _ => n - (intOf v27).toNat)
  case atStart => exact ⟨0, [], s.byte.2, Nat.zero_le _, rfl, hid rfl, R2, BB2, hid (by simpa using BG2.out), hid (RdRest.start _ _ _), KW2⟩
  case round =>
    obtain ⟨i, ys, s', hi, rfl, HYL, HR, HB, HBG, HRS, HK⟩ := hrel
    clear R2 BB2 BG2 KW2
    by_cases hlt : i < n
    · have y0 := HB.out.cell (o := o) (v := .slice (some ⟨g, 0, none⟩) n n) (by rw [HH.out, ← HG.out]; simp [hol])
      have hzl : ((ys ++ List.replicate (n - i) (⟨0, 0⟩ : Sig)).flatMap encSig).length = n * 2 := by rw [length_flatMap_enc (size := 2) (fun _ => rfl)]; have := HYL.out; simp; omega
      have hcl := rsig_any HR.out HBG.out (o := i * 2) (by rw [hzl]; omega) hgF hgp hgq
      have HCL := hid hcl
      clear hcl hzl
      go_wp2_with fail
      refine HCL.out.mono ?_
      rintro e w2 ⟨rfl, b2, r2, k2⟩
      have hset : setL ((ys ++ List.replicate (n - i) (⟨0, 0⟩ : Sig)).flatMap encSig) (i * 2) (encSig (rdSig s').1) = ((ys ++ [(rdSig s').1]) ++ List.replicate (n - (i + 1)) (⟨0, 0⟩ : Sig)).flatMap encSig := by
        rw [setL_flatMap (size := 2) (enc := encSig) (fun _ => rfl) (rdSig s').1 _ i (by have := HYL.out; simp; omega), set_filled _ _ _ hlt HYL.out]
      have HBG2 : Hid (BlkL w2 g 51 (((ys ++ [(rdSig s').1]) ++ List.replicate (n - (i + 1)) (⟨0, 0⟩ : Sig)).flatMap encSig)) := hid (by rw [← hset]; simpa only [Nat.mul_one] using b2)
      have HB2 := hid (HB.out.keep k2 (fun e => by rcases e with e | e; exact nb (e ▸ H0.out.rd.frb); exact hgb e.symm))
      have HR2 := hid r2
      have HK2 : Hid (Keeps (Two rb b) w w2) := hid (HK.out.trans' k2 (fun _ _ h => h) (fun i hi e => by rcases e with e | e; exact Or.inl e; omega))
      have HRS2 : Hid (RdRest rdSig n s.byte.2 ((ys ++ [(rdSig s').1]).map id) (n - (i + 1)) (rdSig s').2) := hid (by
        have h1 := HRS.out
        rw [show n - i = (n - (i + 1)) + 1 by omega] at h1
        have h2 := h1.next
        rw [List.map_append]
        simpa using h2)
      clear b2 r2 k2 hset HCL
      go_wp2_with fail
      go_roundw
      case rel => exact ⟨i + 1, ys ++ [(rdSig s').1], (rdSig s').2, by omega, by go_num, hid (by simp [HYL.out]), HR2, HB2, HBG2, HRS2, HK2⟩
      case measure => simp [intOf]; omega
    · obtain rfl : i = n := by omega
      go_wp2_with fail
      go_end0
      have hfin := HRS.out
      rw [Nat.sub_self] at hfin
      have hrd := hfin.last
      have hl : rdList rdSig s = (ys.map id, s') := by
        unfold rdList
        rw [HN.out, Int.toNat_natCast]; exact hrd
      have hg2 := HBG.out
      simp only [Nat.sub_self, List.replicate_zero, List.append_nil] at hg2
      have hb2 := HB.out
      rw [HH.out, ← HG.out] at hb2
      refine ⟨rfl, g, ys, by rw [HYL.out]; exact hb2, hg2, by rw [hl], by rw [hl]; exact HR.out, HK.out, hgw, by have := HYL.out; omega⟩

theorem info_rlistStg : (Tryd.prog.info? 57).map (fun i => (i.zero, i.size, i.bytes)) = some (some (.agg #[.int .i64 0, .int .u8 0]), 2, 16) := by kernel_rfl

set_option maxHeartbeats 4000000 in
set_option maxRecDepth 100000 in
theorem rlistStg (h : RCtx w qb pb rb F s) (hb : BlkL w b T xs) (hx : xs[o]? = some (.slice none 0 0)) (nb : ¬ F b) (bp : b ≠ pb) (bq : b ≠ qb) :
    Calls Tryd.prog 64 #[.pointer (some ⟨pb, 0, none⟩), .pointer (some ⟨b, o, none⟩), .func (.func 65) #[] #[.pointer (some ⟨qb, 0, none⟩)]] w fun e w' => e = .returned (.tuple #[]) ∧ ∃ (g : Nat) (ys : List (Stg)),
      BlkL w' b T (xs.set o (.slice (some ⟨g, 0, none⟩) ys.length ys.length)) ∧ BlkL w' g 57 (ys.flatMap encStg) ∧ ys.map id = (rdList rdStg s).1 ∧ RCtx w' qb pb rb F (rdList rdStg s).2 ∧ Keeps (Two rb b) w w' ∧ w.heap.size ≤ g ∧ ys.length ≤ 255 := by
  have hbl := hb.lt
  have hpl : pb < w.heap.size := lt_of_block h.lay
  have hql : qb < w.heap.size := lt_of_block h.hpb
  have hrl := h.rd.rlt
  have hby := RS.byte_le h.rd.bytes
  have hol : o < xs.length := (List.getElem?_eq_some_iff.1 hx).1
  obtain ⟨n, hn⟩ : ∃ n : Nat, s.byte.1 = (n : Int) := ⟨s.byte.1.toNat, by omega⟩
  have hn255 : n ≤ 255 := by omega
  obtain ⟨Wn, hWn⟩ : ∃ Wn, Wn = w.alloc (.cells #[.int .i64 0] 3) := ⟨_, rfl⟩
  have kn : Keeps No w Wn := by rw [hWn]; exact (Keeps.refl _ _).alloc _
  have hFlt := h.lt
  have bn : BlkL Wn w.heap.size 3 [.int .i64 0] := by rw [hWn]; exact heap_alloc_new w _
  have hsm := rsmallI_any (h.calm kn).lay (h.calm kn).rd bn (o := 0) (by simp) (fun hf => by have := hFlt _ hf; omega)
  rw [hn] at hsm
  have hmk := fun W => run_make_of (P := Tryd.prog) Tryd.underlying47 info_rlistStg n (by omega) (by omega) W
  have HN := hid hn
  have HS := hid hsm
  have H0 := hid h
  have B0 := hid hb
  have HX := hid hx
  have KN := hid kn
  have HFL := hid hFlt
  have HWN := hid hWn
  have x0 := hb.cell hx
  have f0 := hb.free o
  have hbn : ¬ b = w.heap.size := by omega
  have hnb : ¬ w.heap.size = b := by omega
  clear h hb hx hsm hn bn kn hFlt hWn
  go_enter Tryd.func64, Tryd.ntmps64
  go_wp2_with fail
  rw [← HWN.out]
  refine HS.out.mono ?_
  rintro e w1 ⟨rfl, b1, r1, k1⟩
  have kk1 : Keeps (Two rb w.heap.size) w w1 := KN.out.trans' k1 (fun _ _ h => h.elim) (fun _ _ h => h)
  have h1 := H0.out.step kk1 r1 (by omega) (by omega)
  have hb1 := B0.out.keep kk1 (fun e => by rcases e with e | e; exact nb (e ▸ H0.out.rd.frb); omega)
  have c0 := cell_at (i := 0) h1.lay rfl
  have hb2 : BlkL (w1.alloc (.cells (madeCells #[.int .i64 0, .int .u8 0] (n * 2)) 57)) b T xs := heapA _ hb1
  have x1 := hb2.cell HX.out
  have f1 := hb2.free o
  have n0 := b1.cell (o := 0) (v := .int .i64 n) (by simp)
  have hsz1 := kk1.size
  have hb1s : ¬ b = w1.heap.size := by have := hb1.lt; omega
  have hs1b : ¬ w1.heap.size = b := by have := hb1.lt; omega
  have hn1 : w.heap.size < w1.heap.size := b1.lt
  have hns : ¬ w.heap.size = w1.heap.size := by omega
  have hns' : ¬ w1.heap.size = w.heap.size := by omega
  have H1 := hid h1
  have B1 := hid hb1
  have K1 := hid kk1
  clear k1 b1 r1 kk1 h1 hb1 hb2 HS x0 f0 hsz1
  simp at c0
  go_wp2_with fail
  obtain ⟨g, hg⟩ : ∃ g, g = w1.heap.size := ⟨_, rfl⟩
  obtain ⟨hv, hhv⟩ : ∃ hv, hv = Value.slice (some ⟨w1.heap.size, 0, none⟩) n n := ⟨_, rfl⟩
  obtain ⟨W2, hW2⟩ : ∃ W2, W2 = (w1.alloc (.cells (madeCells #[.int .i64 0, .int .u8 0] (n * 2)) 57)).setCell ⟨b, o, none⟩ (.slice (some ⟨w1.heap.size, 0, none⟩) n n) := ⟨_, rfl⟩
  have kW : Keeps (fun k => k = b) w1 W2 := by rw [hW2]; exact ((Keeps.refl _ _).alloc _).at
  have kW2 : Keeps (Two rb b) w W2 := (K1.out.mono (T := Two rb b) (fun k hk hs => by rcases hs with e | e; exact Or.inl e; omega)).trans' kW (fun _ _ h => h) (fun _ _ h => Or.inr h)
  have bg0 : BlkL W2 g 57 ((List.replicate n (⟨0, 0⟩ : Stg)).flatMap encStg) := by
    have h1 : BlkL (w1.alloc (.cells (madeCells #[.int .i64 0, .int .u8 0] (n * 2)) 57)) w1.heap.size 57 ((List.replicate n (⟨0, 0⟩ : Stg)).flatMap encStg) := by
      unfold BlkL
      rw [← made_enc (size := 2) (enc := encStg) (fun _ => rfl) (by decide) (⟨0, 0⟩ : Stg) #[.int .i64 0, .int .u8 0] rfl n, Array.toArray_toList]
      exact heap_alloc_new w1 _
    rw [hW2, hg]
    exact h1.keep (S := fun k => k = b) ((Keeps.refl _ _).at) (fun e => hb1s e.symm)
  have hW2' : (w1.alloc (.cells (madeCells #[.int .i64 0, .int .u8 0] (n * 2)) 57)).setCell ⟨b, o, none⟩ (.slice (some ⟨w1.heap.size, 0, none⟩) n n) = W2 := hW2.symm
  have bb0 : BlkL W2 b T (xs.set o hv) := by rw [hW2, hhv]; exact BlkL.set (heapA _ B1.out) o _
  have R2 := hid (H1.out.keep kW (fun e => bp e.symm) (fun e => bq e.symm) (fun i hi e => nb (e ▸ hi)))
  have BB2 := hid bb0
  have BG2 := hid bg0
  have KW2 := hid kW2
  have HH := hid hhv
  have hgw : w.heap.size ≤ g := by omega
  have hgb : g ≠ b := by omega
  have hgp : g ≠ pb := by omega
  have hgq : g ≠ qb := by omega
  have hgr : g ≠ rb := by omega
  have hgF : ¬ F g := fun hf => by have := HFL.out g hf; omega
  have hrg : rb < g := by omega
  rw [hW2']
  clear kW kW2 bg0 bb0 hW2 hW2' hhv x1 f1 c0 n0 H1 K1 B1
  simp only [← hg]
  have HG := hid hg
  clear hg hb1s hs1b hns hns' hn1 hmk
  go_loopw [27] (fun v27 wr => ∃ (i : Nat) (ys : List (Stg)) (s' : RS), i ≤ n ∧ v27 = .int .i64 i ∧ Hid (ys.length = i) ∧ Hid (RCtx wr qb pb rb F s') ∧ Hid (BlkL wr b T (xs.set o hv)) ∧ Hid (BlkL wr g 57 ((ys ++ List.replicate (n - i) (⟨0, 0⟩ : Stg)).flatMap encStg)) ∧ Hid (RdRest rdStg n s.byte.2 (ys.map id) (n - i) s') ∧ Hid (Keeps (Two rb b) w wr)) (fun v27 _ => n - (intOf v27).toNat)
  case atStart => exact ⟨0, [], s.byte.2, Nat.zero_le _, rfl, hid rfl, R2, BB2, hid (by simpa using BG2.out), hid (RdRest.start _ _ _), KW2⟩
  case round =>
    obtain ⟨i, ys, s', hi, rfl, HYL, HR, HB, HBG, HRS, HK⟩ := hrel
    clear R2 BB2 BG2 KW2
    by_cases hlt : i < n
    · have y0 := HB.out.cell (o := o) (v := .slice (some ⟨g, 0, none⟩) n n) (by rw [HH.out, ← HG.out]; simp [hol])
      have hzl : ((ys ++ List.replicate (n - i) (⟨0, 0⟩ : Stg)).flatMap encStg).length = n * 2 := by rw [length_flatMap_enc (size := 2) (fun _ => rfl)]; have := HYL.out; simp; omega
      have hcl := rstg_any HR.out HBG.out (o := i * 2) (by rw [hzl]; omega) hgF hgp hgq
      have HCL := hid hcl
      clear hcl hzl
      go_wp2_with fail
      refine HCL.out.mono ?_
      rintro e w2 ⟨rfl, b2, r2, k2⟩
      have hset : setL ((ys ++ List.replicate (n - i) (⟨0, 0⟩ : Stg)).flatMap encStg) (i * 2) (encStg (rdStg s').1) = ((ys ++ [(rdStg s').1]) ++ List.replicate (n - (i + 1)) (⟨0, 0⟩ : Stg)).flatMap encStg := by
        rw [setL_flatMap (size := 2) (enc := encStg) (fun _ => rfl) (rdStg s').1 _ i (by have := HYL.out; simp; omega), set_filled _ _ _ hlt HYL.out]
      have HBG2 : Hid (BlkL w2 g 57 (((ys ++ [(rdStg s').1]) ++ List.replicate (n - (i + 1)) (⟨0, 0⟩ : Stg)).flatMap encStg)) := hid (by rw [← hset]; simpa only [Nat.mul_one] using b2)
      have HB2 := hid (HB.out.keep k2 (fun e => by rcases e with e | e; exact nb (e ▸ H0.out.rd.frb); exact hgb e.symm))
      have HR2 := hid r2
      have HK2 : Hid (Keeps (Two rb b) w w2) := hid (HK.out.trans' k2 (fun _ _ h => h) (fun i hi e => by rcases e with e | e; exact Or.inl e; omega))
      have HRS2 : Hid (RdRest rdStg n s.byte.2 ((ys ++ [(rdStg s').1]).map id) (n - (i + 1)) (rdStg s').2) := hid (by
        have h1 := HRS.out
        rw [show n - i = (n - (i + 1)) + 1 by omega] at h1
        have h2 := h1.next
        rw [List.map_append]
        simpa using h2)
      clear b2 r2 k2 hset HCL
      go_wp2_with fail
      go_roundw
      case rel => exact ⟨i + 1, ys ++ [(rdStg s').1], (rdStg s').2, by omega, by go_num, hid (by simp [HYL.out]), HR2, HB2, HBG2, HRS2, HK2⟩
      case measure => simp [intOf]; omega
    · obtain rfl : i = n := by omega
      go_wp2_with fail
      go_end0
      have hfin := HRS.out
      rw [Nat.sub_self] at hfin
      have hrd := hfin.last
      have hl : rdList rdStg s = (ys.map id, s') := by
        unfold rdList
        rw [HN.out, Int.toNat_natCast]; exact hrd
      have hg2 := HBG.out
      simp only [Nat.sub_self, List.replicate_zero, List.append_nil] at hg2
      have hb2 := HB.out
      rw [HH.out, ← HG.out] at hb2
      refine ⟨rfl, g, ys, by rw [HYL.out]; exact hb2, hg2, by rw [hl], by rw [hl]; exact HR.out, HK.out, hgw, by have := HYL.out; omega⟩

theorem info_rlistInt : (Tryd.prog.info? 3).map (fun i => (i.zero, i.size, i.bytes)) = some (some (.int .i64 0), 1, 8) := by kernel_rfl

set_option maxHeartbeats 4000000 in
set_option maxRecDepth 100000 in
theorem rlistInt (h : RCtx w qb pb rb F s) (hb : BlkL w b T xs) (hx : xs[o]? = some (.slice none 0 0)) (nb : ¬ F b) (bp : b ≠ pb) (bq : b ≠ qb) :
    Calls Tryd.prog 41 #[.pointer (some ⟨pb, 0, none⟩), .pointer (some ⟨b, o, none⟩), .func (.func 42) #[] #[.pointer (some ⟨qb, 0, none⟩)]] w fun e w' => e = .returned (.tuple #[]) ∧ ∃ (g : Nat) (ys : List (Int)),
      BlkL w' b T (xs.set o (.slice (some ⟨g, 0, none⟩) ys.length ys.length)) ∧ BlkL w' g 3 (ys.flatMap (fun n => [Value.int .i64 n])) ∧ ys.map id = (rdList rdNum s).1 ∧ RCtx w' qb pb rb F (rdList rdNum s).2 ∧ Keeps (Two rb b) w w' ∧ w.heap.size ≤ g ∧ ys.length ≤ 255 := by
  have hbl := hb.lt
  have hpl : pb < w.heap.size := lt_of_block h.lay
  have hql : qb < w.heap.size := lt_of_block h.hpb
  have hrl := h.rd.rlt
  have hby := RS.byte_le h.rd.bytes
  have hol : o < xs.length := (List.getElem?_eq_some_iff.1 hx).1
  obtain ⟨n, hn⟩ : ∃ n : Nat, s.byte.1 = (n : Int) := ⟨s.byte.1.toNat, by omega⟩
  have hn255 : n ≤ 255 := by omega
  obtain ⟨Wn, hWn⟩ : ∃ Wn, Wn = w.alloc (.cells #[.int .i64 0] 3) := ⟨_, rfl⟩
  have kn : Keeps No w Wn := by rw [hWn]; exact (Keeps.refl _ _).alloc _
  have hFlt := h.lt
  have bn : BlkL Wn w.heap.size 3 [.int .i64 0] := by rw [hWn]; exact heap_alloc_new w _
  have hsm := rsmallI_any (h.calm kn).lay (h.calm kn).rd bn (o := 0) (by simp) (fun hf => by have := hFlt _ hf; omega)
  rw [hn] at hsm
  have hmk := fun W => run_make_of (P := Tryd.prog) Tryd.underlying58 info_rlistInt n (by omega) (by omega) W
  have HN := hid hn
  have HS := hid hsm
  have H0 := hid h
  have B0 := hid hb
  have HX := hid hx
  have KN := hid kn
  have HFL := hid hFlt
  have HWN := hid hWn
  have x0 := hb.cell hx
  have f0 := hb.free o
  have hbn : ¬ b = w.heap.size := by omega
  have hnb : ¬ w.heap.size = b := by omega
  clear h hb hx hsm hn bn kn hFlt hWn
  go_enter Tryd.func41, Tryd.ntmps41
  go_wp2_with fail
  rw [← HWN.out]
  refine HS.out.mono ?_
  rintro e w1 ⟨rfl, b1, r1, k1⟩
  have kk1 : Keeps (Two rb w.heap.size) w w1 := KN.out.trans' k1 (fun _ _ h => h.elim) (fun _ _ h => h)
  have h1 := H0.out.step kk1 r1 (by omega) (by omega)
  have hb1 := B0.out.keep kk1 (fun e => by rcases e with e | e; exact nb (e ▸ H0.out.rd.frb); omega)
  have c0 := cell_at (i := 0) h1.lay rfl
  have hb2 : BlkL (w1.alloc (.cells (madeCells #[.int .i64 0] n) 3)) b T xs := heapA _ hb1
  have x1 := hb2.cell HX.out
  have f1 := hb2.free o
  have n0 := b1.cell (o := 0) (v := .int .i64 n) (by simp)
  have hsz1 := kk1.size
  have hb1s : ¬ b = w1.heap.size := by have := hb1.lt; omega
  have hs1b : ¬ w1.heap.size = b := by have := hb1.lt; omega
  have hn1 : w.heap.size < w1.heap.size := b1.lt
  have hns : ¬ w.heap.size = w1.heap.size := by omega
  have hns' : ¬ w1.heap.size = w.heap.size := by omega
  have H1 := hid h1
  have B1 := hid hb1
  have K1 := hid kk1
  clear k1 b1 r1 kk1 h1 hb1 hb2 HS x0 f0 hsz1
  simp at c0
  go_wp2_with fail
  obtain ⟨g, hg⟩ : ∃ g, g = w1.heap.size := ⟨_, rfl⟩
  obtain ⟨hv, hhv⟩ : ∃ hv, hv = Value.slice (some ⟨w1.heap.size, 0, none⟩) n n := ⟨_, rfl⟩
  obtain ⟨W2, hW2⟩ : ∃ W2, W2 = (w1.alloc (.cells (madeCells #[.int .i64 0] n) 3)).setCell ⟨b, o, none⟩ (.slice (some ⟨w1.heap.size, 0, none⟩) n n) := ⟨_, rfl⟩
  have kW : Keeps (fun k => k = b) w1 W2 := by rw [hW2]; exact ((Keeps.refl _ _).alloc _).at
  have kW2 : Keeps (Two rb b) w W2 := (K1.out.mono (T := Two rb b) (fun k hk hs => by rcases hs with e | e; exact Or.inl e; omega)).trans' kW (fun _ _ h => h) (fun _ _ h => Or.inr h)
  have bg0 : BlkL W2 g 3 ((List.replicate n (0 : Int)).flatMap (fun n => [Value.int .i64 n])) := by
    have h1 : BlkL (w1.alloc (.cells (madeCells #[.int .i64 0] n) 3)) w1.heap.size 3 ((List.replicate n (0 : Int)).flatMap (fun n => [Value.int .i64 n])) := by
      unfold BlkL
      rw [← made_enc (size := 1) (enc := (fun n => [Value.int .i64 n])) (fun _ => rfl) (by decide) (0 : Int) #[.int .i64 0] rfl n, Array.toArray_toList]
      rw [Nat.mul_one]
      exact heap_alloc_new w1 _
    rw [hW2, hg]
    exact h1.keep (S := fun k => k = b) ((Keeps.refl _ _).at) (fun e => hb1s e.symm)
  have hW2' : (w1.alloc (.cells (madeCells #[.int .i64 0] n) 3)).setCell ⟨b, o, none⟩ (.slice (some ⟨w1.heap.size, 0, none⟩) n n) = W2 := hW2.symm
  have bb0 : BlkL W2 b T (xs.set o hv) := by rw [hW2, hhv]; exact BlkL.set (heapA _ B1.out) o _
  have R2 := hid (H1.out.keep kW (fun e => bp e.symm) (fun e => bq e.symm) (fun i hi e => nb (e ▸ hi)))
  have BB2 := hid bb0
  have BG2 := hid bg0
  have KW2 := hid kW2
  have HH := hid hhv
  have hgw : w.heap.size ≤ g := by omega
  have hgb : g ≠ b := by omega
  have hgp : g ≠ pb := by omega
  have hgq : g ≠ qb := by omega
  have hgr : g ≠ rb := by omega
  have hgF : ¬ F g := fun hf => by have := HFL.out g hf; omega
  have hrg : rb < g := by omega
  rw [hW2']
  clear kW kW2 bg0 bb0 hW2 hW2' hhv x1 f1 c0 n0 H1 K1 B1
  simp only [← hg]
  have HG := hid hg
  clear hg hb1s hs1b hns hns' hn1 hmk
  go_loopw [27] (fun v27 wr => ∃ (i : Nat) (ys : List (Int)) (s' : RS), i ≤ n ∧ v27 = .int .i64 i ∧ Hid (ys.length = i) ∧ Hid (RCtx wr qb pb rb F s') ∧ Hid (BlkL wr b T (xs.set o hv)) ∧ Hid (BlkL wr g 3 ((ys ++ List.replicate (n - i) (0 : Int)).flatMap (fun n => [Value.int .i64 n]))) ∧ Hid (RdRest rdNum n s.byte.2 (ys.map id) (n - i) s') ∧ Hid (Keeps (Two rb b) w wr)) (fun v27 _ => n - (intOf v27).toNat)
  case atStart => exact ⟨0, [], s.byte.2, Nat.zero_le _, rfl, hid rfl, R2, BB2, hid (by simpa using BG2.out), hid (RdRest.start _ _ _), KW2⟩
  case round =>
    obtain ⟨i, ys, s', hi, rfl, HYL, HR, HB, HBG, HRS, HK⟩ := hrel
    clear R2 BB2 BG2 KW2
    by_cases hlt : i < n
    · have y0 := HB.out.cell (o := o) (v := .slice (some ⟨g, 0, none⟩) n n) (by rw [HH.out, ← HG.out]; simp [hol])
      have hzl : ((ys ++ List.replicate (n - i) (0 : Int)).flatMap (fun n => [Value.int .i64 n])).length = n * 1 := by rw [length_flatMap_enc (size := 1) (fun _ => rfl)]; have := HYL.out; simp; omega
      have hcl := rnum_any HR.out HBG.out (o := i) (by rw [hzl]; omega) hgF hgp hgq
      have HCL := hid hcl
      clear hcl hzl
      go_wp2_with fail
      refine HCL.out.mono ?_
      rintro e w2 ⟨rfl, b2, r2, k2⟩
      have hset : setL ((ys ++ List.replicate (n - i) (0 : Int)).flatMap (fun n => [Value.int .i64 n])) (i * 1) ((fun n => [Value.int .i64 n]) (rdNum s').1) = ((ys ++ [(rdNum s').1]) ++ List.replicate (n - (i + 1)) (0 : Int)).flatMap (fun n => [Value.int .i64 n]) := by
        rw [setL_flatMap (size := 1) (enc := (fun n => [Value.int .i64 n])) (fun _ => rfl) (rdNum s').1 _ i (by have := HYL.out; simp; omega), set_filled _ _ _ hlt HYL.out]
      have HBG2 : Hid (BlkL w2 g 3 (((ys ++ [(rdNum s').1]) ++ List.replicate (n - (i + 1)) (0 : Int)).flatMap (fun n => [Value.int .i64 n]))) := hid (by rw [← hset]; simpa only [Nat.mul_one] using b2)
      have HB2 := hid (HB.out.keep k2 (fun e => by rcases e with e | e; exact nb (e ▸ H0.out.rd.frb); exact hgb e.symm))
      have HR2 := hid r2
      have HK2 : Hid (Keeps (Two rb b) w w2) := hid (HK.out.trans' k2 (fun _ _ h => h) (fun i hi e => by rcases e with e | e; exact Or.inl e; omega))
      have HRS2 : Hid (RdRest rdNum n s.byte.2 ((ys ++ [(rdNum s').1]).map id) (n - (i + 1)) (rdNum s').2) := hid (by
        have h1 := HRS.out
        rw [show n - i = (n - (i + 1)) + 1 by omega] at h1
        have h2 := h1.next
        rw [List.map_append]
        simpa using h2)
      clear b2 r2 k2 hset HCL
      go_wp2_with fail
      go_roundw
      case rel => exact ⟨i + 1, ys ++ [(rdNum s').1], (rdNum s').2, by omega, by go_num, hid (by simp [HYL.out]), HR2, HB2, HBG2, HRS2, HK2⟩
      case measure => simp [intOf]; omega
    · obtain rfl : i = n := by omega
      go_wp2_with fail
      go_end0
      have hfin := HRS.out
      rw [Nat.sub_self] at hfin
      have hrd := hfin.last
      have hl : rdList rdNum s = (ys.map id, s') := by
        unfold rdList
        rw [HN.out, Int.toNat_natCast]; exact hrd
      have hg2 := HBG.out
      simp only [Nat.sub_self, List.replicate_zero, List.append_nil] at hg2
      have hb2 := HB.out
      rw [HH.out, ← HG.out] at hb2
      refine ⟨rfl, g, ys, by rw [HYL.out]; exact hb2, hg2, by rw [hl], by rw [hl]; exact HR.out, HK.out, hgw, by have := HYL.out; omega⟩

end
end Go.Proofs.YtlenhccdkhgfgaaDoor
