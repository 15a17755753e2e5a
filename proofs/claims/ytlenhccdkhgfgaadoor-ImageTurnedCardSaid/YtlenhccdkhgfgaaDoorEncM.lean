/-
  Together: Acc, MEnc.
-/
import Derived.Test.YtlenhccdkhgfgaaDoorBytes
import Derived.Lib.SliceRun
import Derived.Lib.SmallJoins
import Derived.Test.YtlenhccdkhgfgaaDoorInM
import Derived.Test.YtlenhccdkhgfgaaDoorImg
import Derived.Test.YtlenhccdkhgfgaaDoorSumM
import Derived.Deep.CutBlock
import Derived.Deep.DeepCutAuto
import Derived.Deep.RegionHeld3
/-
  A list of bytes that is being filled by appends: the row, and what was written since a world.
-/
namespace Go.Proofs.YtlenhccdkhgfgaaDoor
open Go.RowKit
set_option linter.unusedVariables false

/-- The row reads l; since w0, of the blocks there were, only those of F0 were written. -/
structure Acc (F0 : Nat → Prop) (w0 wr : World) (v : Value) (n : Nat) (l : List Int) : Prop where
  own : wr.ownsRow 0 5 1 v n (l.map (Value.int .u8))
  upd : Upd F0 w0 wr (Bl v)

section
variable {F0 : Nat → Prop} {w0 wr w1 w' : World} {v v' : Value} {n m : Nat} {l q : List Int}

theorem Acc.len (h : Acc F0 w0 wr v n l) : l.length = n := by simpa using h.own.1

theorem Acc.put (h : Acc F0 w0 wr v n l) (k : Keeps No wr w1) (ho : w'.ownsRow 0 5 1 v' (n + m) (l.map (Value.int .u8) ++ q.map (Value.int .u8))) (k2 : Keeps (Bl v) w1 w')
    (hb : ∀ k, v'.ownBlock = some k → v.ownBlock = some k ∨ wr.heap.size ≤ k) : ∃ a n' c l', v' = .slice a n' c ∧ n' = n + m ∧ l' = l ++ q ∧ Acc F0 w0 w' (.slice a n' c) n' l' := by
  obtain ⟨a, c, rfl⟩ := own_any ho
  rw [← List.map_append] at ho
  have hu : Upd (Bl v) wr w' (Bl (.slice a (n + m) c)) := ⟨k.no.trans k2, fun i hi => by
    rcases hb i hi with h' | h'
    · exact Or.inl h'
    · exact Or.inr h'⟩
  exact ⟨a, n + m, c, _, rfl, rfl, rfl, ho, h.upd.trans hu⟩

/-- From here on. -/
theorem Acc.from (h : Acc F0 w0 wr v n l) (k : Keeps No wr w1) : Acc (Bl v) w1 w1 v n l := ⟨Keeps.own k h.own (fun _ _ h => h), Upd.refl _ _⟩

theorem Acc.join (h : Acc F0 w0 wr v n l) (k : Keeps No wr w1) {l' : List Int} (h' : Acc (Bl v) w1 w' v' m l') : Acc F0 w0 w' v' m l' :=
  ⟨h'.own, (h.upd.then k (fun _ _ h => h.elim)).trans h'.upd⟩

theorem Acc.eq (h : Acc F0 w0 wr v n l) {l' : List Int} (e : l = l') : Acc F0 w0 wr v n l' := e ▸ h

theorem Acc.calm (h : Acc F0 w0 wr v n l) (k : Keeps No wr w1) : Acc F0 w0 w1 v n l := ⟨Keeps.own k h.own (fun _ _ h => h), h.upd.then k (fun _ _ h => h.elim)⟩

theorem Acc.blk (h : Acc F0 w0 wr v n l) (hf : ∀ i, F0 i → False) : Keeps No w0 wr := h.upd.keeps.mono (fun i _ hi => (hf i hi).elim)

end

/-- A slice that reads, and is full, grows into a new row. -/
theorem wpl_append_fullA {P : Program} {w : World} {ops : Array Oper} {rest : List Oper} {o : Oper} {a : Act} {Q : Exit → Act → World → Prop} (hgd : o.guard = none) (s x : Operand) (t : TypeId)
    (ho : o.op = .call { callee := .builtin .append, args := #[s, x], argTypes := #[t, t] })
    (e : TypeId) (i : TypeInfo) (z : Value) (size bytes : Nat) (ht : P.underlying t = some (.slice e)) (hi : P.info? e = some i) (hz : i.zero = some z)
    (hsize : i.size = size) (hby : i.bytes = bytes) (hzs : z.cells.size = size) (hsz : 0 < size)
    (b : Addr) (n cap : Nat) (sv : Value) (m : Nat) (xs news : List Value) (hs : a.eval s = .slice (some b) n cap) (hx : a.eval x = sv) (hm : 0 < m) (hown : Sl w size (.slice (some b) n cap) n xs) (hn : 0 < n) (hsl : Sl w size sv m news)
    (hg : cap < n + m) (h63 : n + m ≤ maxLen) (hbytes : (n + m) * bytes ≤ 140737488355328)
    (h : ∀ v' w', w'.ownsRow 0 e size v' (n + m) (xs ++ news) → Keeps No w w' → (∀ k, v'.ownBlock = some k → w.heap.size ≤ k) → wpList P ops Q rest (a.put o.dst v') w') : wpList P ops Q (o :: rest) a w := by
  refine wpList_plain hgd fun K hK => ?_
  obtain ⟨l1, l2, sa, scap, rfl, mc, mnil, mcell⟩ := hsl
  obtain ⟨g, off, rfl, hg1, hc⟩ := mcell hm
  obtain ⟨l3, l4, sb, cap', hv, nc, nnil, ncell⟩ := hown
  simp only [Value.slice.injEq] at hv
  obtain ⟨rfl, _, rfl⟩ := hv
  obtain ⟨g', off', hb, hg2, hc'⟩ := ncell hn
  simp only [Option.some.injEq] at hb
  subst hb
  obtain ⟨v', w', hrun, r1, r2⟩ := run_append_arg_grows (P := P) w t o.type e i z size bytes ht hi hz hsize hby hzs hsz ⟨g', off', none⟩ n cap xs l3 (fun j u hu => by rw [addr_add]; exact hc' j u hu) ⟨g, off, none⟩ m scap news l1 (fun j u hu => by rw [addr_add]; exact hc j u hu) hg h63 hbytes
  unfold Oper.wp
  simp [execOp, ho, resolve, invoke, builtin, hs, hx, hrun, Result.andThen]
  refine hK _ _ (h v' w' ⟨r1.1, ?_⟩ ((Keeps.refl _ _).grown r2 (fun k hk => by cases hk)) (fun k hk => (r1.lt k hk).1))
  rcases r1.2 with h | ⟨g, cap, cur, h, _, r⟩
  · exact .inl h
  · exact .inr ⟨g, cap, cur, h, Nat.zero_le _, r⟩

/-- The cells of an item of a list of structs. -/
theorem Sl.item {α : Type} {size : Nat} {enc : α → List Value} (he : ∀ x, (enc x).length = size) {w : World} {xs : List α} {a : Option Addr} {cap : Nat} (h : Sl w size (.slice a xs.length cap) xs.length (xs.flatMap enc)) {i : Nat} (hi : i < xs.length) {x : α} (hx : xs[i] = x) :
    ∃ g off, a = some ⟨g, off, none⟩ ∧ g < w.heap.size ∧ ∀ j u, (enc x)[j]? = some u → w.cell? ⟨g, off + i * size + j, none⟩ = some u := by
  have hs : ∀ j u, (enc x)[j]? = some u → (xs.flatMap enc)[i * size + j]? = some u := fun j u hu => by
    have hj := (List.getElem?_eq_some_iff.1 hu).1
    rw [he] at hj
    rw [getElem?_flatMap_enc he xs i j hj hi, hx]
    exact hu
  obtain ⟨h1, h2, a', cap', hv, hc, hn, hr⟩ := h
  simp only [Value.slice.injEq] at hv
  obtain ⟨rfl, _, rfl⟩ := hv
  obtain ⟨g, off, ha, hg, hr⟩ := hr (by omega)
  exact ⟨g, off, ha, hg, fun j u hu => by rw [Nat.add_assoc]; exact hr _ _ (hs j u hu)⟩

theorem flatMap_take {α β : Type} (f : α → List β) (xs : List α) {i : Nat} (hi : i < xs.length) {x : α} (hx : xs[i] = x) : (xs.take (i + 1)).flatMap f = (xs.take i).flatMap f ++ f x := by
  rw [List.take_succ_eq_append_getElem hi, List.flatMap_append, hx]; simp

theorem flatMap_take_le {α β : Type} (f : α → List β) (xs : List α) (i : Nat) : ((xs.take i).flatMap f).length ≤ (xs.flatMap f).length := by
  conv => rhs; rw [← List.take_append_drop i xs, List.flatMap_append, List.length_append]
  omega

end Go.Proofs.YtlenhccdkhgfgaaDoor

/-
  The document's Encode: it lays what the program lays.
-/
namespace Go.Proofs.YtlenhccdkhgfgaaDoor
open Go.RowKit
set_option linter.unusedVariables false

theorem own_new (w : World) (cs : Array Value) (e : TypeId) (n : Nat) (hn : cs.size = n) (hm : n ≤ maxLen) : (w.alloc (.cells cs e)).ownsRow 0 e 1 (.slice (some ⟨w.heap.size, 0, none⟩) n n) n cs.toList :=
  ⟨by simp [hn], Or.inr ⟨w.heap.size, n, cs, rfl, Nat.zero_le _, heap_alloc_new w _, Nat.le_refl _, hm, by simp [hn], by subst hn; simp [List.take_of_length_le]⟩⟩

theorem len_mem {α β : Type} (f : α → List β) {xs : List α} {x : α} (h : x ∈ xs) : (f x).length ≤ (xs.flatMap f).length := by
  obtain ⟨s, t, rfl⟩ := List.append_of_mem h
  simp only [List.flatMap_append, List.flatMap_cons, List.length_append]; omega

theorem len_enc {α β : Type} (f : α → List β) (h : ∀ x, 0 < (f x).length) (xs : List α) : xs.length ≤ (xs.flatMap f).length := by
  induction xs with
  | nil => simp
  | cons x xs ih => have := h x; simp only [List.flatMap_cons, List.length_append, List.length_cons]; omega

set_option maxHeartbeats 8000000 in
set_option maxRecDepth 100000 in
theorem mencode_any {w : World} {C : Cfg} {sv rv tv : Value} (R : CfgR w C sv rv tv) (hl : (cfgB C).length ≤ 900) (hby : Bytes (cfgB C)) :
    Calls Tryd.prog 15 #[C.val sv rv tv] w fun e w' => ∃ v', e = .returned v' ∧ w'.ownsRow 0 5 1 v' ((cfgB C).length + 2) ((cfgB C ++ [((mof (cfgB C)).toNat : Int) / 256, ((mof (cfgB C)).toNat : Int) % 256]).map (Value.int .u8)) ∧ Keeps No w w' ∧ ∀ k, v'.ownBlock = some k → w.heap.size ≤ k := by
  obtain ⟨i0, hi, hz0, hz1, hz2⟩ := info_parts info_byte
  have HI := hid hi
  obtain ⟨sa, sc, rfl⟩ := R.sig.any
  obtain ⟨ra, rc, rfl⟩ := R.rul.any
  obtain ⟨ta, tc, rfl⟩ := R.tab.any
  have hE : cfgB C = (((((((([72, 66, 49] ++ [(C.sigs.length : Int) % 256] ++ C.sigs.flatMap sigB) ++ [(C.ruls.length : Int) % 256]) ++ C.ruls.flatMap (fun r => rulB r.1)) ++ [(C.tab.length : Int) % 256]) ++ C.tab.flatMap (fun l => slotB l.1)) ++ [C.b0 % 256, C.b1 % 256, C.b2 % 256, C.drain % 256]) ++ int4 C.pause) ++ int4 C.off) ++ [flagB C.brk] ++ int4 C.log := by
    unfold cfgB; simp [List.append_assoc]
  have hls : (C.sigs.flatMap sigB).length ≤ 900 := by rw [hE] at hl; simp only [List.length_append] at hl; omega
  have hlr : (C.ruls.flatMap (fun r => rulB r.1)).length ≤ 900 := by rw [hE] at hl; simp only [List.length_append] at hl; omega
  have hlt : (C.tab.flatMap (fun l => slotB l.1)).length ≤ 900 := by rw [hE] at hl; simp only [List.length_append] at hl; omega
  have hs9 : C.sigs.length ≤ 900 := Nat.le_trans (len_enc sigB (fun _ => by show 0 < 8; omega) _) hls
  have hr9 : C.ruls.length ≤ 900 := Nat.le_trans (len_enc (fun r : Rul × Value => rulB r.1) (fun _ => by unfold rulB; simp) _) hlr
  have ht9 : C.tab.length ≤ 900 := Nat.le_trans (len_enc (fun l : List Int × Value => slotB l.1) (fun _ => by unfold slotB; simp) _) hlt
  have HE := hid hE
  have HL := hid hl
  have HBY := hid hby
  have HLS := hid hls
  have HLR := hid hlr
  have HLT := hid hlt
  obtain ⟨W1, hW1⟩ : ∃ W1, w.alloc (.cells #[.slice sa C.sigs.length sc, .slice ra C.ruls.length rc, .slice ta C.tab.length tc, .int .i64 C.b0, .int .i64 C.b1, .int .i64 C.b2, .int .i64 C.drain, .int .i64 C.pause, .int .i64 C.off, .bool C.brk, .int .i64 C.log] 33) = W1 := ⟨_, rfl⟩
  have k1 : Keeps No w W1 := by rw [← hW1]; exact (Keeps.refl _ _).alloc _
  have hb : BlkL W1 w.heap.size 33 [.slice sa C.sigs.length sc, .slice ra C.ruls.length rc, .slice ta C.tab.length tc, .int .i64 C.b0, .int .i64 C.b1, .int .i64 C.b2, .int .i64 C.drain, .int .i64 C.pause, .int .i64 C.off, .bool C.brk, .int .i64 C.log] := by rw [← hW1]; exact heap_alloc_new w _
  have HB := hid hb
  have HC := hid (R.calm k1)
  have HW1 := hid hW1
  have K1 := hid k1
  unfold Cfg.val Cfg.cells
  clear hi R hE hl hby hls hlr hlt k1 hb hW1
  go_enter Tryd.func15, Tryd.ntmps15
  go_upto_region 1 with fail
  rw [HW1.out]
  have hcv := Go.Joins.run_convert_bytes_const_at (P := Tryd.prog) W1 23 5 #[.int .u8 72, .int .u8 66, .int .u8 49] 3 3 W1.heap.size rfl Tryd.underlying23 Tryd.underlying5
  obtain ⟨W2, hW2⟩ : ∃ W2, W1.alloc (.cells #[.int .u8 72, .int .u8 66, .int .u8 49] 5 (3, 4)) = W2 := ⟨_, rfl⟩
  have hs2 : Sl W2 1 (.slice (some ⟨W1.heap.size, 0, none⟩) 3 3) 3 [.int .u8 72, .int .u8 66, .int .u8 49] := by
    refine ⟨rfl, by decide, _, 3, rfl, Nat.le_refl _, fun h => (by cases h), fun _ => ⟨W1.heap.size, 0, rfl, by rw [← hW2]; simp, fun j u hu => ?_⟩⟩
    rw [Nat.zero_add, ← hW2]
    exact cell_at (heap_alloc_new W1 _) (by simpa using hu)
  have k2 : Keeps No W1 W2 := by rw [← hW2]; exact (Keeps.refl _ _).alloc _
  simp only [show (#[Value.int .u8 72, .int .u8 66, .int .u8 49] : Array Value).size = 3 from rfl] at hcv
  have HS2 := hid hs2
  have K2 := hid k2
  have x0 := (HB.out.keep k2 (fun h => h)).cell (o := 0) rfl
  have HW2 := hid hW2
  clear hs2 k2 hW2
  go_upto_region 2 with fail
  rw [HW2.out]
  clear hcv
  go_wp2_with (at_builtin; refine wpl_append_fullA rfl _ _ 23 rfl 5 i0 (.int .u8 0) 1 1 Tryd.underlying23 HI.out hz0 hz1 hz2 rfl (by decide) _ 3 3 _ 1 _ _ rfl rfl (by decide) (HS2.out.alloc _) (by decide) (Sl.new _ _ _ 1 1 rfl (by decide)) (by decide) (by decide) (by decide) ?_)
  intro v' wr ho kk hb2
  obtain ⟨a, c, rfl⟩ := own_any ho
  have HA : Hid (Acc No W1 wr (.slice a 4 c) 4 ([72, 66, 49] ++ [(C.sigs.length : Int) % 256])) := hid ⟨ho, ⟨(K2.out.alloc _).trans kk, fun k hk => Or.inr (Nat.le_trans K2.out.size (Nat.le_of_succ_le (hb2 k hk)))⟩⟩
  clear ho kk hb2 HS2 HW2 K2
  obtain ⟨n, hn⟩ : ∃ n : Nat, 4 = n := ⟨_, rfl⟩
  clear x0
  obtain ⟨LA, hLA⟩ : ∃ LA, [72, 66, 49] ++ [(C.sigs.length : Int) % 256] = LA := ⟨_, rfl⟩
  rw [hLA] at HA
  have hla : LA.length ≤ 10 := by rw [← hLA]; simp
  have HLA := hid hLA
  clear hLA
  clear hn
  go_wp2_with fail
  go_loopw [3, 4] (fun v3 v4 wr => ∃ (i n : Nat) (a : Option Addr) (c : Nat), i ≤ C.sigs.length ∧ v4 = .int .i64 i ∧ v3 = .slice a n c ∧ Hid (Acc No W1 wr (.slice a n c) n (LA ++ (C.sigs.take i).flatMap sigB))) (fun _ v4 _ => C.sigs.length - (intOf v4).toNat)
  case atStart => exact ⟨0, _, _, _, Nat.zero_le _, rfl, rfl, hid (HA.out.eq (by simp))⟩
  case round =>
    clear HA
    obtain ⟨i, n, a, c, hi, rfl, rfl, HA⟩ := hrel
    have hn : n ≤ 1000 := by have h1 := HA.out.len; have h2 := flatMap_take_le sigB C.sigs i; have h3 := HLS.out; simp only [List.length_append] at h1; omega
    have x0 := (HB.out.keep HA.out.upd.keeps (fun h => h)).cell (o := 0) rfl
    by_cases hlt : i < C.sigs.length
    · obtain ⟨⟨y1, y2⟩, hy⟩ : ∃ y, C.sigs[i] = y := ⟨_, rfl⟩
      obtain ⟨g, off, rfl, _, hcell⟩ := Sl.item (enc := encSig) (size := 2) (fun _ => rfl) HC.out.sig hlt hy
      have HCELL := hid hcell
      have hfm := flatMap_take sigB C.sigs hlt hy
      have HFM := hid hfm
      clear hcell hfm hy
      have p0 := HA.out.upd.keeps.cell (fun h => h) (HCELL.out 0 _ rfl)
      simp only [Nat.add_zero] at p0
      obtain ⟨LX, hLX⟩ : ∃ LX, LA ++ (C.sigs.take i).flatMap sigB = LX := ⟨_, rfl⟩
      rw [hLX] at HA
      have HLX := hid hLX
      clear hLX
      go_wp2_with fail
      refine (mint_any y1 _).mono ?_
      rintro e w2 ⟨vq, rfl, hs, kq⟩
      obtain ⟨qa, qc, rfl⟩ := (show Sl w2 1 vq 4 _ from hs).any
      have HS : Hid (Sl w2 1 (.slice qa 4 qc) 4 ((int4 y1).map (Value.int .u8))) := hid hs
      clear hs
      go_wp2_with (at_builtin; refine wpl_append rfl _ _ 23 rfl 5 i0 (.int .u8 0) 1 1 Tryd.underlying23 HI.out hz0 hz1 hz2 rfl (by decide) _ _ _ _ _ _ rfl rfl (Keeps.own (S := No) (by repeat' (first | with_reducible exact Keeps.refl _ _ | with_reducible assumption | with_reducible refine Keeps.drewN ?_ _ | with_reducible refine Keeps.drew ?_ | with_reducible refine Keeps.alloc ?_ _)) HA.out.own (fun _ _ h => h)) (HS.out) (bytes_one (int4 y1)) ?c3 ?c4 ?_)
      try (case c3 => unfold maxLen; omega)
      try (case c4 => omega)
      intro v' w' ho kk hb2
      obtain ⟨a, n', c, l1, rfl, hn', hl1, ha⟩ := HA.out.put (q := (int4 y1)) (m := 4) (by repeat' (first | with_reducible exact Keeps.refl _ _ | with_reducible assumption | with_reducible refine Keeps.drewN ?_ _ | with_reducible refine Keeps.drew ?_ | with_reducible refine Keeps.alloc ?_ _)) ho kk (fun k hk => (hb2 k hk).imp id (fun h => Nat.le_trans kq.size h))
      replace hn' : n' ≤ 1004 := by omega
      clear HA hn ho kk hb2 HS kq
      have HA := hid ha
      have HL1 := hid hl1
      have hn := hn'
      clear ha hn' hl1
      obtain ⟨n, rfl⟩ : ∃ x, x = n' := ⟨_, rfl⟩
      obtain ⟨wr, rfl⟩ : ∃ x, x = w' := ⟨_, rfl⟩
      clear x0 p0
      have x0 := (HB.out.keep HA.out.upd.keeps (fun h => h)).cell (o := 0) rfl
      have p1 := HA.out.upd.keeps.cell (fun h => h) (HCELL.out 1 _ rfl)
      go_wp2_with fail
      refine (mint_any y2 _).mono ?_
      rintro e w2 ⟨vq, rfl, hs, kq⟩
      obtain ⟨qa, qc, rfl⟩ := (show Sl w2 1 vq 4 _ from hs).any
      have HS : Hid (Sl w2 1 (.slice qa 4 qc) 4 ((int4 y2).map (Value.int .u8))) := hid hs
      clear hs
      go_wp2_with (at_builtin; refine wpl_append rfl _ _ 23 rfl 5 i0 (.int .u8 0) 1 1 Tryd.underlying23 HI.out hz0 hz1 hz2 rfl (by decide) _ _ _ _ _ _ rfl rfl (Keeps.own (S := No) (by repeat' (first | with_reducible exact Keeps.refl _ _ | with_reducible assumption | with_reducible refine Keeps.drewN ?_ _ | with_reducible refine Keeps.drew ?_ | with_reducible refine Keeps.alloc ?_ _)) HA.out.own (fun _ _ h => h)) (HS.out) (bytes_one (int4 y2)) ?c3 ?c4 ?_)
      try (case c3 => unfold maxLen; omega)
      try (case c4 => omega)
      intro v' w' ho kk hb2
      obtain ⟨a, n', c, l2, rfl, hn', hl2, ha⟩ := HA.out.put (q := (int4 y2)) (m := 4) (by repeat' (first | with_reducible exact Keeps.refl _ _ | with_reducible assumption | with_reducible refine Keeps.drewN ?_ _ | with_reducible refine Keeps.drew ?_ | with_reducible refine Keeps.alloc ?_ _)) ho kk (fun k hk => (hb2 k hk).imp id (fun h => Nat.le_trans kq.size h))
      replace hn' : n' ≤ 1008 := by omega
      clear HA hn ho kk hb2 HS kq
      have HA := hid ha
      have HL2 := hid hl2
      have hn := hn'
      clear ha hn' hl2
      obtain ⟨n, rfl⟩ : ∃ x, x = n' := ⟨_, rfl⟩
      obtain ⟨wr, rfl⟩ : ∃ x, x = w' := ⟨_, rfl⟩
      clear x0 p1
      go_wp2_with fail
      go_roundw
      case rel => exact ⟨i + 1, _, _, _, by omega, by go_num, rfl, hid (HA.out.eq (by rw [HFM.out, HL2.out, HL1.out, ← HLX.out]; simp [sigB, List.append_assoc]))⟩
      case measure => simp [intOf]; omega
    · obtain rfl : i = C.sigs.length := by omega
      rw [List.take_length] at HA
      obtain ⟨LB, hLB⟩ : ∃ LB, LA ++ C.sigs.flatMap sigB = LB := ⟨_, rfl⟩
      rw [hLB] at HA
      have hlb : LB.length ≤ 910 := by have h3 := HLS.out; rw [← hLB]; simp only [List.length_append]; omega
      have HLB := hid hLB
      clear hLB
      have x1 := (HB.out.keep HA.out.upd.keeps (fun h => h)).cell (o := 1) rfl
      go_wp2_with (at_builtin; refine wpl_append rfl _ _ 23 rfl 5 i0 (.int .u8 0) 1 1 Tryd.underlying23 HI.out hz0 hz1 hz2 rfl (by decide) _ _ _ _ _ _ rfl rfl (Keeps.own (S := No) (by repeat' (first | with_reducible exact Keeps.refl _ _ | with_reducible assumption | with_reducible refine Keeps.drewN ?_ _ | with_reducible refine Keeps.drew ?_ | with_reducible refine Keeps.alloc ?_ _)) HA.out.own (fun _ _ h => h)) (Sl.new _ _ _ 1 1 rfl (by decide)) (bytes_one [(C.ruls.length : Int) % 256]) ?c3 ?c4 ?_)
      try (case c3 => unfold maxLen; omega)
      try (case c4 => omega)
      intro v' w' ho kk hb2
      obtain ⟨a, n', c, l3, rfl, hn', hl3, ha⟩ := HA.out.put (q := [(C.ruls.length : Int) % 256]) (m := 1) (by repeat' (first | with_reducible exact Keeps.refl _ _ | with_reducible assumption | with_reducible refine Keeps.drewN ?_ _ | with_reducible refine Keeps.drew ?_ | with_reducible refine Keeps.alloc ?_ _)) ho kk (fun k hk => (hb2 k hk).imp id (fun h => Nat.le_of_succ_le h))
      replace hn' : n' ≤ 1001 := by omega
      clear HA hn ho kk hb2
      have HA := hid ha
      have HL3 := hid hl3
      have hn := hn'
      clear ha hn' hl3
      obtain ⟨n, rfl⟩ : ∃ x, x = n' := ⟨_, rfl⟩
      obtain ⟨wr, rfl⟩ : ∃ x, x = w' := ⟨_, rfl⟩
      clear x0 x1
      obtain ⟨LD, rfl⟩ : ∃ x, x = l3 := ⟨_, rfl⟩
      have hld : LD.length ≤ 911 := by rw [HL3.out]; simp only [List.length_append, List.length_singleton]; omega
      have HLD := HL3
      clear hn
      go_wp2_with fail
      go_loopw [3, 5] (fun v3 v5 wr => ∃ (i n : Nat) (a : Option Addr) (c : Nat), i ≤ C.ruls.length ∧ v5 = .int .i64 i ∧ v3 = .slice a n c ∧ Hid (Acc No W1 wr (.slice a n c) n (LD ++ (C.ruls.take i).flatMap (fun r => rulB r.1)))) (fun _ v5 _ => C.ruls.length - (intOf v5).toNat)
      case atStart => exact ⟨0, _, _, _, Nat.zero_le _, rfl, rfl, hid (HA.out.eq (by simp))⟩
      case round =>
        clear HA
        obtain ⟨i, n, a, c, hi, rfl, rfl, HA⟩ := hrel
        have hn : n ≤ 2000 := by have h1 := HA.out.len; have h2 := flatMap_take_le (fun r : Rul × Value => rulB r.1) C.ruls i; have h3 := HLR.out; simp only [List.length_append] at h1; omega
        have x1 := (HB.out.keep HA.out.upd.keeps (fun h => h)).cell (o := 1) rfl
        by_cases hlt : i < C.ruls.length
        · obtain ⟨⟨r, rv⟩, hy⟩ : ∃ y, C.ruls[i] = y := ⟨_, rfl⟩
          have hmem : (r, rv) ∈ C.ruls := by rw [← hy]; exact List.getElem_mem hlt
          have hst := HC.out.stg (r, rv) hmem
          dsimp only at hst
          obtain ⟨ga, gc, rfl⟩ := hst.any
          have HST := hid hst
          have hm9 : (rulB r).length ≤ 900 := Nat.le_trans (len_mem (fun r : Rul × Value => rulB r.1) hmem) HLR.out
          have hg9 : (r.stages.flatMap stgB).length ≤ 900 := by unfold rulB at hm9; simp only [List.length_append] at hm9; omega
          have hgl : r.stages.length ≤ 900 := Nat.le_trans (len_enc stgB (fun _ => by show 0 < 5; omega) _) hg9
          have HG9 := hid hg9
          obtain ⟨g, off, rfl, _, hcell⟩ := Sl.item (enc := encRul) (size := 9) (fun _ => rfl) HC.out.rul hlt hy
          have HFM := hid (flatMap_take (fun r : Rul × Value => rulB r.1) C.ruls hlt hy)
          obtain ⟨W5, hW5⟩ : ∃ W5, wr.alloc (.cells #[.int .u8 r.kind, .int .i64 r.sig, .int .i64 r.limit, .int .i64 r.back, .int .i64 r.delay, .int .i64 r.span, .int .u8 r.pri, .bool r.latch, .slice ga r.stages.length gc] 49) = W5 := ⟨_, rfl⟩
          have k5 : Keeps No wr W5 := by rw [← hW5]; exact (Keeps.refl _ _).alloc _
          have hbr : BlkL W5 wr.heap.size 49 [.int .u8 r.kind, .int .i64 r.sig, .int .i64 r.limit, .int .i64 r.back, .int .i64 r.delay, .int .i64 r.span, .int .u8 r.pri, .bool r.latch, .slice ga r.stages.length gc] := by rw [← hW5]; exact heap_alloc_new wr _
          have HBR := hid hbr
          have HW5 := hid hW5
          have K5 := hid k5
          have hnb : ¬ Bl (.slice a n c) wr.heap.size := fun h => by have := (HA.out.own.lt _ h).2; omega
          have HNB := hid hnb
          have p0 := HA.out.upd.keeps.cell (fun h => h) (hcell 0 _ rfl)
          have p1 := HA.out.upd.keeps.cell (fun h => h) (hcell 1 _ rfl)
          have p2 := HA.out.upd.keeps.cell (fun h => h) (hcell 2 _ rfl)
          have p3 := HA.out.upd.keeps.cell (fun h => h) (hcell 3 _ rfl)
          have p4 := HA.out.upd.keeps.cell (fun h => h) (hcell 4 _ rfl)
          have p5 := HA.out.upd.keeps.cell (fun h => h) (hcell 5 _ rfl)
          have p6 := HA.out.upd.keeps.cell (fun h => h) (hcell 6 _ rfl)
          have p7 := HA.out.upd.keeps.cell (fun h => h) (hcell 7 _ rfl)
          have p8 := HA.out.upd.keeps.cell (fun h => h) (hcell 8 _ rfl)
          simp only [Nat.add_zero] at p0
          clear hcell hy hmem hst hm9 hg9 hW5 k5 hbr hnb
          go_upto_region 13 with fail
          rw [HW5.out]
          have HQ := hid (HA.out.from K5.out)
          obtain ⟨LX, hLX⟩ : ∃ LX, LD ++ (C.ruls.take i).flatMap (fun r => rulB r.1) = LX := ⟨_, rfl⟩
          rw [hLX] at HA HQ
          have HLX := hid hLX
          clear hLX HW5 x1 p0 p1 p2 p3 p4 p5 p6 p7 p8
          obtain ⟨rb, hrb⟩ : ∃ rb, wr.heap.size = rb := ⟨_, rfl⟩
          rw [hrb] at HBR HNB ⊢
          obtain ⟨F0, hF0⟩ : ∃ F0, Bl (.slice a n c) = F0 := ⟨_, rfl⟩
          rw [hF0] at HQ HNB
          have HF0 := hid hF0
          have HRB := hid hrb
          clear hrb hF0
          obtain ⟨wA, hwA⟩ : ∃ wA, wr = wA := ⟨_, rfl⟩
          obtain ⟨va, hva⟩ : ∃ va, Value.slice a n c = va := ⟨_, rfl⟩
          obtain ⟨na, hna⟩ : ∃ na, n = na := ⟨_, rfl⟩
          have HA0 := HA
          rw [hwA, hva] at HA0
          rw [hwA] at K5
          have HVA := hid hva
          have JN : Hid (∀ (wz : World) (v : Value) (n : Nat) (l : List Int), Acc F0 W5 wz v n l → Keeps No W1 wz) := hid (fun wz v n l h => (HA0.out.join K5.out (by rw [← HVA.out, HF0.out]; exact h)).upd.keeps)
          have JA : Hid (∀ (wz : World) (v : Value) (n : Nat) (l : List Int) {l' : List Int}, Acc F0 W5 wz v n l → l = l' → Acc No W1 wz v n l') := hid (fun wz v n l l' h e => e ▸ HA0.out.join K5.out (by rw [← HVA.out, HF0.out]; exact h))
          clear hwA hva HA hna
          have p0 := (HBR.out.keep HQ.out.upd.keeps HNB.out).cell (o := 0) rfl
          have p1 := (HBR.out.keep HQ.out.upd.keeps HNB.out).cell (o := 1) rfl
          go_wp2_with (at_builtin; refine wpl_append rfl _ _ 23 rfl 5 i0 (.int .u8 0) 1 1 Tryd.underlying23 HI.out hz0 hz1 hz2 rfl (by decide) _ _ _ _ _ _ rfl rfl (Keeps.own (S := No) (by repeat' (first | with_reducible exact Keeps.refl _ _ | with_reducible assumption | with_reducible refine Keeps.drewN ?_ _ | with_reducible refine Keeps.drew ?_ | with_reducible refine Keeps.alloc ?_ _)) HQ.out.own (fun _ _ h => h)) (Sl.new _ _ _ 1 2 rfl (by decide)) (bytes_one [r.kind, r.sig % 256]) ?c3 ?c4 ?_)
          try (case c3 => unfold maxLen; omega)
          try (case c4 => omega)
          intro v' w' ho kk hb2
          obtain ⟨a, n', c, l4, rfl, hn', hl4, ha⟩ := HQ.out.put (q := [r.kind, r.sig % 256]) (m := 2) (by repeat' (first | with_reducible exact Keeps.refl _ _ | with_reducible assumption | with_reducible refine Keeps.drewN ?_ _ | with_reducible refine Keeps.drew ?_ | with_reducible refine Keeps.alloc ?_ _)) ho kk (fun k hk => (hb2 k hk).imp id (fun h => Nat.le_of_succ_le h))
          replace hn' : n' ≤ 2002 := by omega
          clear HQ hn ho kk hb2
          have HQ := hid ha
          have HL4 := hid hl4
          have hn := hn'
          clear ha hn' hl4
          obtain ⟨n, rfl⟩ : ∃ x, x = n' := ⟨_, rfl⟩
          obtain ⟨wr, rfl⟩ : ∃ x, x = w' := ⟨_, rfl⟩
          clear p0 p1
          have p2 := (HBR.out.keep HQ.out.upd.keeps HNB.out).cell (o := 2) rfl
          go_wp2_with fail
          refine (mint_any r.limit _).mono ?_
          rintro e w2 ⟨vq, rfl, hs, kq⟩
          obtain ⟨qa, qc, rfl⟩ := (show Sl w2 1 vq 4 _ from hs).any
          have HS : Hid (Sl w2 1 (.slice qa 4 qc) 4 ((int4 r.limit).map (Value.int .u8))) := hid hs
          clear hs
          go_wp2_with (at_builtin; refine wpl_append rfl _ _ 23 rfl 5 i0 (.int .u8 0) 1 1 Tryd.underlying23 HI.out hz0 hz1 hz2 rfl (by decide) _ _ _ _ _ _ rfl rfl (Keeps.own (S := No) (by repeat' (first | with_reducible exact Keeps.refl _ _ | with_reducible assumption | with_reducible refine Keeps.drewN ?_ _ | with_reducible refine Keeps.drew ?_ | with_reducible refine Keeps.alloc ?_ _)) HQ.out.own (fun _ _ h => h)) (HS.out) (bytes_one (int4 r.limit)) ?c3 ?c4 ?_)
          try (case c3 => unfold maxLen; omega)
          try (case c4 => omega)
          intro v' w' ho kk hb2
          obtain ⟨a, n', c, l5, rfl, hn', hl5, ha⟩ := HQ.out.put (q := (int4 r.limit)) (m := 4) (by repeat' (first | with_reducible exact Keeps.refl _ _ | with_reducible assumption | with_reducible refine Keeps.drewN ?_ _ | with_reducible refine Keeps.drew ?_ | with_reducible refine Keeps.alloc ?_ _)) ho kk (fun k hk => (hb2 k hk).imp id (fun h => Nat.le_trans kq.size h))
          replace hn' : n' ≤ 2006 := by omega
          clear HQ hn ho kk hb2 HS kq
          have HQ := hid ha
          have HL5 := hid hl5
          have hn := hn'
          clear ha hn' hl5
          obtain ⟨n, rfl⟩ : ∃ x, x = n' := ⟨_, rfl⟩
          obtain ⟨wr, rfl⟩ : ∃ x, x = w' := ⟨_, rfl⟩
          clear p2
          have p3 := (HBR.out.keep HQ.out.upd.keeps HNB.out).cell (o := 3) rfl
          go_wp2_with fail
          refine (mint_any r.back _).mono ?_
          rintro e w2 ⟨vq, rfl, hs, kq⟩
          obtain ⟨qa, qc, rfl⟩ := (show Sl w2 1 vq 4 _ from hs).any
          have HS : Hid (Sl w2 1 (.slice qa 4 qc) 4 ((int4 r.back).map (Value.int .u8))) := hid hs
          clear hs
          go_wp2_with (at_builtin; refine wpl_append rfl _ _ 23 rfl 5 i0 (.int .u8 0) 1 1 Tryd.underlying23 HI.out hz0 hz1 hz2 rfl (by decide) _ _ _ _ _ _ rfl rfl (Keeps.own (S := No) (by repeat' (first | with_reducible exact Keeps.refl _ _ | with_reducible assumption | with_reducible refine Keeps.drewN ?_ _ | with_reducible refine Keeps.drew ?_ | with_reducible refine Keeps.alloc ?_ _)) HQ.out.own (fun _ _ h => h)) (HS.out) (bytes_one (int4 r.back)) ?c3 ?c4 ?_)
          try (case c3 => unfold maxLen; omega)
          try (case c4 => omega)
          intro v' w' ho kk hb2
          obtain ⟨a, n', c, l6, rfl, hn', hl6, ha⟩ := HQ.out.put (q := (int4 r.back)) (m := 4) (by repeat' (first | with_reducible exact Keeps.refl _ _ | with_reducible assumption | with_reducible refine Keeps.drewN ?_ _ | with_reducible refine Keeps.drew ?_ | with_reducible refine Keeps.alloc ?_ _)) ho kk (fun k hk => (hb2 k hk).imp id (fun h => Nat.le_trans kq.size h))
          replace hn' : n' ≤ 2010 := by omega
          clear HQ hn ho kk hb2 HS kq
          have HQ := hid ha
          have HL6 := hid hl6
          have hn := hn'
          clear ha hn' hl6
          obtain ⟨n, rfl⟩ : ∃ x, x = n' := ⟨_, rfl⟩
          obtain ⟨wr, rfl⟩ : ∃ x, x = w' := ⟨_, rfl⟩
          clear p3
          have p4 := (HBR.out.keep HQ.out.upd.keeps HNB.out).cell (o := 4) rfl
          go_wp2_with fail
          refine (mint_any r.delay _).mono ?_
          rintro e w2 ⟨vq, rfl, hs, kq⟩
          obtain ⟨qa, qc, rfl⟩ := (show Sl w2 1 vq 4 _ from hs).any
          have HS : Hid (Sl w2 1 (.slice qa 4 qc) 4 ((int4 r.delay).map (Value.int .u8))) := hid hs
          clear hs
          go_wp2_with (at_builtin; refine wpl_append rfl _ _ 23 rfl 5 i0 (.int .u8 0) 1 1 Tryd.underlying23 HI.out hz0 hz1 hz2 rfl (by decide) _ _ _ _ _ _ rfl rfl (Keeps.own (S := No) (by repeat' (first | with_reducible exact Keeps.refl _ _ | with_reducible assumption | with_reducible refine Keeps.drewN ?_ _ | with_reducible refine Keeps.drew ?_ | with_reducible refine Keeps.alloc ?_ _)) HQ.out.own (fun _ _ h => h)) (HS.out) (bytes_one (int4 r.delay)) ?c3 ?c4 ?_)
          try (case c3 => unfold maxLen; omega)
          try (case c4 => omega)
          intro v' w' ho kk hb2
          obtain ⟨a, n', c, l7, rfl, hn', hl7, ha⟩ := HQ.out.put (q := (int4 r.delay)) (m := 4) (by repeat' (first | with_reducible exact Keeps.refl _ _ | with_reducible assumption | with_reducible refine Keeps.drewN ?_ _ | with_reducible refine Keeps.drew ?_ | with_reducible refine Keeps.alloc ?_ _)) ho kk (fun k hk => (hb2 k hk).imp id (fun h => Nat.le_trans kq.size h))
          replace hn' : n' ≤ 2014 := by omega
          clear HQ hn ho kk hb2 HS kq
          have HQ := hid ha
          have HL7 := hid hl7
          have hn := hn'
          clear ha hn' hl7
          obtain ⟨n, rfl⟩ : ∃ x, x = n' := ⟨_, rfl⟩
          obtain ⟨wr, rfl⟩ : ∃ x, x = w' := ⟨_, rfl⟩
          clear p4
          have p5 := (HBR.out.keep HQ.out.upd.keeps HNB.out).cell (o := 5) rfl
          go_wp2_with fail
          refine (mint_any r.span _).mono ?_
          rintro e w2 ⟨vq, rfl, hs, kq⟩
          obtain ⟨qa, qc, rfl⟩ := (show Sl w2 1 vq 4 _ from hs).any
          have HS : Hid (Sl w2 1 (.slice qa 4 qc) 4 ((int4 r.span).map (Value.int .u8))) := hid hs
          clear hs
          go_wp2_with (at_builtin; refine wpl_append rfl _ _ 23 rfl 5 i0 (.int .u8 0) 1 1 Tryd.underlying23 HI.out hz0 hz1 hz2 rfl (by decide) _ _ _ _ _ _ rfl rfl (Keeps.own (S := No) (by repeat' (first | with_reducible exact Keeps.refl _ _ | with_reducible assumption | with_reducible refine Keeps.drewN ?_ _ | with_reducible refine Keeps.drew ?_ | with_reducible refine Keeps.alloc ?_ _)) HQ.out.own (fun _ _ h => h)) (HS.out) (bytes_one (int4 r.span)) ?c3 ?c4 ?_)
          try (case c3 => unfold maxLen; omega)
          try (case c4 => omega)
          intro v' w' ho kk hb2
          obtain ⟨a, n', c, l8, rfl, hn', hl8, ha⟩ := HQ.out.put (q := (int4 r.span)) (m := 4) (by repeat' (first | with_reducible exact Keeps.refl _ _ | with_reducible assumption | with_reducible refine Keeps.drewN ?_ _ | with_reducible refine Keeps.drew ?_ | with_reducible refine Keeps.alloc ?_ _)) ho kk (fun k hk => (hb2 k hk).imp id (fun h => Nat.le_trans kq.size h))
          replace hn' : n' ≤ 2018 := by omega
          clear HQ hn ho kk hb2 HS kq
          have HQ := hid ha
          have HL8 := hid hl8
          have hn := hn'
          clear ha hn' hl8
          obtain ⟨n, rfl⟩ : ∃ x, x = n' := ⟨_, rfl⟩
          obtain ⟨wr, rfl⟩ : ∃ x, x = w' := ⟨_, rfl⟩
          clear p5
          have p6 := (HBR.out.keep HQ.out.upd.keeps HNB.out).cell (o := 6) rfl
          have p7 := (HBR.out.keep HQ.out.upd.keeps HNB.out).cell (o := 7) rfl
          have p8 := (HBR.out.keep HQ.out.upd.keeps HNB.out).cell (o := 8) rfl
          have hm3 : n + 3 ≤ maxLen := by unfold maxLen; omega
          have hby3 : (n + 3) * 1 ≤ 140737488355328 := by omega
          obtain ⟨LQ, hLQ⟩ : ∃ x, l8 = x := ⟨_, rfl⟩
          have HLQ : Hid (LQ = LX ++ [r.kind, r.sig % 256] ++ int4 r.limit ++ int4 r.back ++ int4 r.delay ++ int4 r.span) := hid (by rw [← hLQ, HL8.out, HL7.out, HL6.out, HL5.out, HL4.out])
          rw [hLQ] at HQ
          clear hLQ
          go_upto_region 18 with fail
          go_cut [3] from 91 to 102 (fun v3 wx => ∃ a n' c, v3 = .slice a n' c ∧ n' ≤ 2030 ∧ Hid (Acc F0 W5 wx (.slice a n' c) n' (LQ ++ [r.pri, flagB r.latch, (r.stages.length : Int) % 256])))
          case first =>
            go_region_law (first | (go_simp; go_at_call 29; refine (mflag_any r.latch _).mono ?_; rintro e w6 ⟨rfl, rfl⟩) | (refine step_append rfl (.tmp 91) (.tmp 101) 23 rfl 5 i0 (.int .u8 0) 1 1 Tryd.underlying23 HI.out hz0 hz1 hz2 rfl (by decide) (.slice a n c) _ n 3 _ _ (by rfl) (by rfl) (Keeps.own (S := No) (by repeat' (first | with_reducible exact Keeps.refl _ _ | with_reducible assumption | with_reducible refine Keeps.drewN ?_ _ | with_reducible refine Keeps.drew ?_ | with_reducible refine Keeps.alloc ?_ _)) HQ.out.own (fun _ _ h => h)) (Sl.newAt (by simp) _ _ _ 3 rfl (by decide)) (bytes_one [r.pri, flagB r.latch, (r.stages.length : Int) % 256]) hm3 hby3 ?_; intro v' w' ho kk hb2; have hput := HQ.out.put (q := [r.pri, flagB r.latch, (r.stages.length : Int) % 256]) (m := 3) (by repeat' (first | with_reducible exact Keeps.refl _ _ | with_reducible assumption | with_reducible refine Keeps.drewN ?_ _ | with_reducible refine Keeps.drew ?_ | with_reducible refine Keeps.alloc ?_ _)) ho kk (fun k hk => (hb2 k hk).imp id (fun h => Nat.le_trans (Keeps.size (show Keeps No wr _ from (by repeat' (first | with_reducible exact Keeps.refl _ _ | with_reducible assumption | with_reducible refine Keeps.drewN ?_ _ | with_reducible refine Keeps.drew ?_ | with_reducible refine Keeps.alloc ?_ _)))) h)); clear ho kk hb2; obtain ⟨a2, n2, c2, l2, rfl, rfl, rfl, ha2⟩ := hput))
            all_goals
              go_wp2_with fail
              go_meet
              exact ⟨_, _, _, rfl, by omega, hid ha2⟩
          case rest =>
            obtain ⟨a, n, c, rfl, hn, HQ⟩ := hcut
            clear p6 p7 p8
            obtain ⟨LS, hLS⟩ : ∃ x, LQ ++ [r.pri, flagB r.latch, (r.stages.length : Int) % 256] = x := ⟨_, rfl⟩
            rw [hLS] at HQ
            have hls : LS.length ≤ 2030 := by have h1 := HQ.out.len; omega
            have HLS2 := hid hLS
            clear hLS hn
            obtain ⟨wr, rfl⟩ : ∃ x, x = wc := ⟨_, rfl⟩
            go_wp2_with fail
            go_loopw [3, 7] (fun v3 v7 wr => ∃ (j n : Nat) (a : Option Addr) (c : Nat), j ≤ r.stages.length ∧ v7 = .int .i64 j ∧ v3 = .slice a n c ∧ Hid (Acc F0 W5 wr (.slice a n c) n (LS ++ (r.stages.take j).flatMap stgB))) (fun _ v7 _ => r.stages.length - (intOf v7).toNat)
            case atStart => exact ⟨0, _, _, _, Nat.zero_le _, rfl, rfl, hid (HQ.out.eq (by simp))⟩
            case round =>
              clear HQ
              obtain ⟨j, n, a, c, hj, rfl, rfl, HQ⟩ := hrel
              have hn : n ≤ 3000 := by have h1 := HQ.out.len; have h2 := flatMap_take_le stgB r.stages j; have h3 := HG9.out; simp only [List.length_append] at h1; omega
              have p8 := (HBR.out.keep HQ.out.upd.keeps HNB.out).cell (o := 8) rfl
              by_cases hlj : j < r.stages.length
              · obtain ⟨⟨y1, y2⟩, hy⟩ : ∃ y, r.stages[j] = y := ⟨_, rfl⟩
                obtain ⟨gg, og, rfl, _, hcell⟩ := Sl.item (enc := encStg) (size := 2) (fun _ => rfl) HST.out hlj hy
                have HCS := hid hcell
                have HFS := hid (flatMap_take stgB r.stages hlj hy)
                clear hcell hy
                have KJ := JN.out _ _ _ _ HQ.out
                have s0 := KJ.cell (fun h => h) (HCS.out 0 _ rfl)
                simp only [Nat.add_zero] at s0
                obtain ⟨LX2, hLX⟩ : ∃ LX, LS ++ (r.stages.take j).flatMap stgB = LX := ⟨_, rfl⟩
                rw [hLX] at HQ
                have HLX2 := hid hLX
                clear hLX KJ
                go_wp2_with fail
                refine (mint_any y1 _).mono ?_
                rintro e w2 ⟨vq, rfl, hs, kq⟩
                obtain ⟨qa, qc, rfl⟩ := (show Sl w2 1 vq 4 _ from hs).any
                have HS : Hid (Sl w2 1 (.slice qa 4 qc) 4 ((int4 y1).map (Value.int .u8))) := hid hs
                clear hs
                go_wp2_with (at_builtin; refine wpl_append rfl _ _ 23 rfl 5 i0 (.int .u8 0) 1 1 Tryd.underlying23 HI.out hz0 hz1 hz2 rfl (by decide) _ _ _ _ _ _ rfl rfl (Keeps.own (S := No) (by repeat' (first | with_reducible exact Keeps.refl _ _ | with_reducible assumption | with_reducible refine Keeps.drewN ?_ _ | with_reducible refine Keeps.drew ?_ | with_reducible refine Keeps.alloc ?_ _)) HQ.out.own (fun _ _ h => h)) (HS.out) (bytes_one (int4 y1)) ?c3 ?c4 ?_)
                try (case c3 => unfold maxLen; omega)
                try (case c4 => omega)
                intro v' w' ho kk hb2
                obtain ⟨a, n', c, l9, rfl, hn', hl9, ha⟩ := HQ.out.put (q := (int4 y1)) (m := 4) (by repeat' (first | with_reducible exact Keeps.refl _ _ | with_reducible assumption | with_reducible refine Keeps.drewN ?_ _ | with_reducible refine Keeps.drew ?_ | with_reducible refine Keeps.alloc ?_ _)) ho kk (fun k hk => (hb2 k hk).imp id (fun h => Nat.le_trans kq.size h))
                replace hn' : n' ≤ 3004 := by omega
                clear HQ hn ho kk hb2 HS kq
                have HQ := hid ha
                have HL9 := hid hl9
                have hn := hn'
                clear ha hn' hl9
                obtain ⟨n, rfl⟩ : ∃ x, x = n' := ⟨_, rfl⟩
                obtain ⟨wr, rfl⟩ : ∃ x, x = w' := ⟨_, rfl⟩
                clear p8 s0
                have p8 := (HBR.out.keep HQ.out.upd.keeps HNB.out).cell (o := 8) rfl
                have KJ := JN.out _ _ _ _ HQ.out
                have s1 := KJ.cell (fun h => h) (HCS.out 1 _ rfl)
                clear KJ
                go_wp2_with (at_builtin; refine wpl_append rfl _ _ 23 rfl 5 i0 (.int .u8 0) 1 1 Tryd.underlying23 HI.out hz0 hz1 hz2 rfl (by decide) _ _ _ _ _ _ rfl rfl (Keeps.own (S := No) (by repeat' (first | with_reducible exact Keeps.refl _ _ | with_reducible assumption | with_reducible refine Keeps.drewN ?_ _ | with_reducible refine Keeps.drew ?_ | with_reducible refine Keeps.alloc ?_ _)) HQ.out.own (fun _ _ h => h)) (Sl.new _ _ _ 1 1 rfl (by decide)) (bytes_one [y2]) ?c3 ?c4 ?_)
                try (case c3 => unfold maxLen; omega)
                try (case c4 => omega)
                intro v' w' ho kk hb2
                obtain ⟨a, n', c, l10, rfl, hn', hl10, ha⟩ := HQ.out.put (q := [y2]) (m := 1) (by repeat' (first | with_reducible exact Keeps.refl _ _ | with_reducible assumption | with_reducible refine Keeps.drewN ?_ _ | with_reducible refine Keeps.drew ?_ | with_reducible refine Keeps.alloc ?_ _)) ho kk (fun k hk => (hb2 k hk).imp id (fun h => Nat.le_of_succ_le h))
                replace hn' : n' ≤ 3005 := by omega
                clear HQ hn ho kk hb2
                have HQ := hid ha
                have HL10 := hid hl10
                have hn := hn'
                clear ha hn' hl10
                obtain ⟨n, rfl⟩ : ∃ x, x = n' := ⟨_, rfl⟩
                obtain ⟨wr, rfl⟩ : ∃ x, x = w' := ⟨_, rfl⟩
                clear p8 s1
                go_wp2_with fail
                go_roundw
                case rel => exact ⟨j + 1, _, _, _, by omega, by go_num, rfl, hid (HQ.out.eq (by rw [HFS.out, HL10.out, HL9.out, ← HLX2.out]; simp [stgB, List.append_assoc]))⟩
                case measure => simp [intOf]; omega
              · obtain rfl : j = r.stages.length := by omega
                rw [List.take_length] at HQ
                go_wp2_with fail
                go_roundw
                case rel => exact ⟨i + 1, _, _, _, by omega, by go_num, rfl, hid (JA.out _ _ _ _ HQ.out (by rw [HFM.out, ← HLS2.out, HLQ.out, ← HLX.out]; simp [rulB, List.append_assoc]))⟩
                case measure => simp [intOf]; omega
        · obtain rfl : i = C.ruls.length := by omega
          rw [List.take_length] at HA
          obtain ⟨LE, hLE⟩ : ∃ LE, LD ++ C.ruls.flatMap (fun r => rulB r.1) = LE := ⟨_, rfl⟩
          rw [hLE] at HA
          have hle : LE.length ≤ 1820 := by have h3 := HLR.out; rw [← hLE]; simp only [List.length_append]; omega
          have HLE := hid hLE
          clear hLE
          have x2 := (HB.out.keep HA.out.upd.keeps (fun h => h)).cell (o := 2) rfl
          go_wp2_with (at_builtin; refine wpl_append rfl _ _ 23 rfl 5 i0 (.int .u8 0) 1 1 Tryd.underlying23 HI.out hz0 hz1 hz2 rfl (by decide) _ _ _ _ _ _ rfl rfl (Keeps.own (S := No) (by repeat' (first | with_reducible exact Keeps.refl _ _ | with_reducible assumption | with_reducible refine Keeps.drewN ?_ _ | with_reducible refine Keeps.drew ?_ | with_reducible refine Keeps.alloc ?_ _)) HA.out.own (fun _ _ h => h)) (Sl.new _ _ _ 1 1 rfl (by decide)) (bytes_one [(C.tab.length : Int) % 256]) ?c3 ?c4 ?_)
          try (case c3 => unfold maxLen; omega)
          try (case c4 => omega)
          intro v' w' ho kk hb2
          obtain ⟨a, n', c, l11, rfl, hn', hl11, ha⟩ := HA.out.put (q := [(C.tab.length : Int) % 256]) (m := 1) (by repeat' (first | with_reducible exact Keeps.refl _ _ | with_reducible assumption | with_reducible refine Keeps.drewN ?_ _ | with_reducible refine Keeps.drew ?_ | with_reducible refine Keeps.alloc ?_ _)) ho kk (fun k hk => (hb2 k hk).imp id (fun h => Nat.le_of_succ_le h))
          replace hn' : n' ≤ 2001 := by omega
          clear HA hn ho kk hb2
          have HA := hid ha
          have HL11 := hid hl11
          have hn := hn'
          clear ha hn' hl11
          obtain ⟨n, rfl⟩ : ∃ x, x = n' := ⟨_, rfl⟩
          obtain ⟨wr, rfl⟩ : ∃ x, x = w' := ⟨_, rfl⟩
          clear x1 x2
          obtain ⟨LT, rfl⟩ : ∃ x, x = l11 := ⟨_, rfl⟩
          have hltt : LT.length ≤ 1821 := by rw [HL11.out]; simp only [List.length_append, List.length_singleton]; omega
          have HLTT := HL11
          clear hn
          go_wp2_with fail
          go_loopw [3, 8] (fun v3 v8 wr => ∃ (i n : Nat) (a : Option Addr) (c : Nat), i ≤ C.tab.length ∧ v8 = .int .i64 i ∧ v3 = .slice a n c ∧ Hid (Acc No W1 wr (.slice a n c) n (LT ++ (C.tab.take i).flatMap (fun l => slotB l.1)))) (fun _ v8 _ => C.tab.length - (intOf v8).toNat)
          case atStart => exact ⟨0, _, _, _, Nat.zero_le _, rfl, rfl, hid (HA.out.eq (by simp))⟩
          case round =>
            clear HA
            obtain ⟨i, n, a, c, hi, rfl, rfl, HA⟩ := hrel
            have hn : n ≤ 3000 := by have h1 := HA.out.len; have h2 := flatMap_take_le (fun l : List Int × Value => slotB l.1) C.tab i; have h3 := HLT.out; simp only [List.length_append] at h1; omega
            have x2 := (HB.out.keep HA.out.upd.keeps (fun h => h)).cell (o := 2) rfl
            by_cases hlt : i < C.tab.length
            · obtain ⟨⟨l, lv⟩, hy⟩ : ∃ y, C.tab[i] = y := ⟨_, rfl⟩
              have hmem : (l, lv) ∈ C.tab := by rw [← hy]; exact List.getElem_mem hlt
              have hsl := HC.out.slot (l, lv) hmem
              dsimp only at hsl
              obtain ⟨ga, gc, rfl⟩ := Sl.any hsl
              have HSL := hid hsl
              have hm9 : (slotB l).length ≤ 900 := Nat.le_trans (len_mem (fun l : List Int × Value => slotB l.1) hmem) HLT.out
              have hg9 : (l.flatMap (fun n => [n % 256])).length ≤ 900 := by unfold slotB at hm9; simp only [List.length_append] at hm9; omega
              have hgl : l.length ≤ 900 := Nat.le_trans (len_enc (fun n : Int => [n % 256]) (fun _ => by simp) _) hg9
              have HG9 := hid hg9
              obtain ⟨g, off, rfl, _, c1⟩ := Sl.cellAt HC.out.tab (j := i) (u := .slice ga l.length gc) (by rw [List.getElem?_map, List.getElem?_eq_getElem hlt, hy]; rfl)
              have HC1 := hid c1
              have p0 := HA.out.upd.keeps.cell (fun h => h) c1
              have HFM := hid (flatMap_take (fun l : List Int × Value => slotB l.1) C.tab hlt hy)
              obtain ⟨LX, hLX⟩ : ∃ LX, LT ++ (C.tab.take i).flatMap (fun l => slotB l.1) = LX := ⟨_, rfl⟩
              rw [hLX] at HA
              have hlx : LX.length ≤ 3000 := by have h1 := HA.out.len; omega
              have HLX := hid hLX
              clear hLX hy hmem hsl hm9 hg9 c1
              go_wp2_with (at_builtin; refine wpl_append rfl _ _ 23 rfl 5 i0 (.int .u8 0) 1 1 Tryd.underlying23 HI.out hz0 hz1 hz2 rfl (by decide) _ _ _ _ _ _ rfl rfl (Keeps.own (S := No) (by repeat' (first | with_reducible exact Keeps.refl _ _ | with_reducible assumption | with_reducible refine Keeps.drewN ?_ _ | with_reducible refine Keeps.drew ?_ | with_reducible refine Keeps.alloc ?_ _)) HA.out.own (fun _ _ h => h)) (Sl.new _ _ _ 1 1 rfl (by decide)) (bytes_one [(l.length : Int) % 256]) ?c3 ?c4 ?_)
              try (case c3 => unfold maxLen; omega)
              try (case c4 => omega)
              intro v' w' ho kk hb2
              obtain ⟨a, n', c, l12, rfl, hn', hl12, ha⟩ := HA.out.put (q := [(l.length : Int) % 256]) (m := 1) (by repeat' (first | with_reducible exact Keeps.refl _ _ | with_reducible assumption | with_reducible refine Keeps.drewN ?_ _ | with_reducible refine Keeps.drew ?_ | with_reducible refine Keeps.alloc ?_ _)) ho kk (fun k hk => (hb2 k hk).imp id (fun h => Nat.le_of_succ_le h))
              replace hn' : n' ≤ 3001 := by omega
              clear HA hn ho kk hb2
              have HA := hid ha
              have HL12 := hid hl12
              have hn := hn'
              clear ha hn' hl12
              obtain ⟨n, rfl⟩ : ∃ x, x = n' := ⟨_, rfl⟩
              obtain ⟨wr, rfl⟩ : ∃ x, x = w' := ⟨_, rfl⟩
              clear x2 p0
              obtain ⟨LU, rfl⟩ : ∃ x, x = l12 := ⟨_, rfl⟩
              have hlu : LU.length ≤ 3001 := by rw [HL12.out]; simp only [List.length_append, List.length_singleton]; omega
              have HLU := HL12
              clear hn
              go_wp2_with fail
              go_loopw [3, 9] (fun v3 v9 wr => ∃ (j n : Nat) (a : Option Addr) (c : Nat), j ≤ l.length ∧ v9 = .int .i64 j ∧ v3 = .slice a n c ∧ Hid (Acc No W1 wr (.slice a n c) n (LU ++ (l.take j).flatMap (fun n => [n % 256])))) (fun _ v9 _ => l.length - (intOf v9).toNat)
              case atStart => exact ⟨0, _, _, _, Nat.zero_le _, rfl, rfl, hid (HA.out.eq (by simp))⟩
              case round =>
                clear HA
                obtain ⟨j, n, a, c, hj, rfl, rfl, HA⟩ := hrel
                have hn : n ≤ 4000 := by have h1 := HA.out.len; have h2 := flatMap_take_le (fun n : Int => [n % 256]) l j; have h3 := HG9.out; simp only [List.length_append] at h1; omega
                have x2 := (HB.out.keep HA.out.upd.keeps (fun h => h)).cell (o := 2) rfl
                have p0 := HA.out.upd.keeps.cell (fun h => h) HC1.out
                by_cases hlj : j < l.length
                · obtain ⟨y, hy⟩ : ∃ y, l[j] = y := ⟨_, rfl⟩
                  obtain ⟨gg, og, rfl, _, c2⟩ := Sl.cellAt HSL.out (j := j) (u := .int .i64 y) (by rw [List.getElem?_map, List.getElem?_eq_getElem hlj, hy]; rfl)
                  have s0 := HA.out.upd.keeps.cell (fun h => h) c2
                  have HFS := hid (flatMap_take (fun n : Int => [n % 256]) l hlj hy)
                  obtain ⟨LX2, hLX⟩ : ∃ LX, LU ++ (l.take j).flatMap (fun n => [n % 256]) = LX := ⟨_, rfl⟩
                  rw [hLX] at HA
                  have HLX2 := hid hLX
                  clear hLX hy c2
                  go_wp2_with (at_builtin; refine wpl_append rfl _ _ 23 rfl 5 i0 (.int .u8 0) 1 1 Tryd.underlying23 HI.out hz0 hz1 hz2 rfl (by decide) _ _ _ _ _ _ rfl rfl (Keeps.own (S := No) (by repeat' (first | with_reducible exact Keeps.refl _ _ | with_reducible assumption | with_reducible refine Keeps.drewN ?_ _ | with_reducible refine Keeps.drew ?_ | with_reducible refine Keeps.alloc ?_ _)) HA.out.own (fun _ _ h => h)) (Sl.new _ _ _ 1 1 rfl (by decide)) (bytes_one [y % 256]) ?c3 ?c4 ?_)
                  try (case c3 => unfold maxLen; omega)
                  try (case c4 => omega)
                  intro v' w' ho kk hb2
                  obtain ⟨a, n', c, l13, rfl, hn', hl13, ha⟩ := HA.out.put (q := [y % 256]) (m := 1) (by repeat' (first | with_reducible exact Keeps.refl _ _ | with_reducible assumption | with_reducible refine Keeps.drewN ?_ _ | with_reducible refine Keeps.drew ?_ | with_reducible refine Keeps.alloc ?_ _)) ho kk (fun k hk => (hb2 k hk).imp id (fun h => Nat.le_of_succ_le h))
                  replace hn' : n' ≤ 4001 := by omega
                  clear HA hn ho kk hb2
                  have HA := hid ha
                  have HL13 := hid hl13
                  have hn := hn'
                  clear ha hn' hl13
                  obtain ⟨n, rfl⟩ : ∃ x, x = n' := ⟨_, rfl⟩
                  obtain ⟨wr, rfl⟩ : ∃ x, x = w' := ⟨_, rfl⟩
                  clear x2 p0 s0
                  go_wp2_with fail
                  go_roundw
                  case rel => exact ⟨j + 1, _, _, _, by omega, by go_num, rfl, hid (HA.out.eq (by rw [HFS.out, HL13.out, ← HLX2.out]; simp [List.append_assoc]))⟩
                  case measure => simp [intOf]; omega
                · obtain rfl : j = l.length := by omega
                  rw [List.take_length] at HA
                  go_wp2_with fail
                  go_roundw
                  case rel => exact ⟨i + 1, _, _, _, by omega, by go_num, rfl, hid (HA.out.eq (by rw [HFM.out, HLU.out, ← HLX.out]; simp [slotB, List.append_assoc]))⟩
                  case measure => simp [intOf]; omega
            · obtain rfl : i = C.tab.length := by omega
              rw [List.take_length] at HA
              obtain ⟨LV, hLV⟩ : ∃ LV, LT ++ C.tab.flatMap (fun l => slotB l.1) = LV := ⟨_, rfl⟩
              rw [hLV] at HA
              have HLV := hid hLV
              clear hLV
              have x3 := (HB.out.keep HA.out.upd.keeps (fun h => h)).cell (o := 3) rfl
              have x4 := (HB.out.keep HA.out.upd.keeps (fun h => h)).cell (o := 4) rfl
              have x5 := (HB.out.keep HA.out.upd.keeps (fun h => h)).cell (o := 5) rfl
              have x6 := (HB.out.keep HA.out.upd.keeps (fun h => h)).cell (o := 6) rfl
              go_wp2_with (at_builtin; refine wpl_append rfl _ _ 23 rfl 5 i0 (.int .u8 0) 1 1 Tryd.underlying23 HI.out hz0 hz1 hz2 rfl (by decide) _ _ _ _ _ _ rfl rfl (Keeps.own (S := No) (by repeat' (first | with_reducible exact Keeps.refl _ _ | with_reducible assumption | with_reducible refine Keeps.drewN ?_ _ | with_reducible refine Keeps.drew ?_ | with_reducible refine Keeps.alloc ?_ _)) HA.out.own (fun _ _ h => h)) (Sl.new _ _ _ 1 4 rfl (by decide)) (bytes_one [C.b0 % 256, C.b1 % 256, C.b2 % 256, C.drain % 256]) ?c3 ?c4 ?_)
              try (case c3 => unfold maxLen; omega)
              try (case c4 => omega)
              intro v' w' ho kk hb2
              obtain ⟨a, n', c, l14, rfl, hn', hl14, ha⟩ := HA.out.put (q := [C.b0 % 256, C.b1 % 256, C.b2 % 256, C.drain % 256]) (m := 4) (by repeat' (first | with_reducible exact Keeps.refl _ _ | with_reducible assumption | with_reducible refine Keeps.drewN ?_ _ | with_reducible refine Keeps.drew ?_ | with_reducible refine Keeps.alloc ?_ _)) ho kk (fun k hk => (hb2 k hk).imp id (fun h => Nat.le_of_succ_le h))
              replace hn' : n' ≤ 3004 := by omega
              clear HA hn ho kk hb2
              have HA := hid ha
              have HL14 := hid hl14
              have hn := hn'
              clear ha hn' hl14
              obtain ⟨n, rfl⟩ : ∃ x, x = n' := ⟨_, rfl⟩
              obtain ⟨wr, rfl⟩ : ∃ x, x = w' := ⟨_, rfl⟩
              clear x2 x3 x4 x5 x6
              have x7 := (HB.out.keep HA.out.upd.keeps (fun h => h)).cell (o := 7) rfl
              go_wp2_with fail
              refine (mint_any C.pause _).mono ?_
              rintro e w2 ⟨vq, rfl, hs, kq⟩
              obtain ⟨qa, qc, rfl⟩ := (show Sl w2 1 vq 4 _ from hs).any
              have HS : Hid (Sl w2 1 (.slice qa 4 qc) 4 ((int4 C.pause).map (Value.int .u8))) := hid hs
              clear hs
              go_wp2_with (at_builtin; refine wpl_append rfl _ _ 23 rfl 5 i0 (.int .u8 0) 1 1 Tryd.underlying23 HI.out hz0 hz1 hz2 rfl (by decide) _ _ _ _ _ _ rfl rfl (Keeps.own (S := No) (by repeat' (first | with_reducible exact Keeps.refl _ _ | with_reducible assumption | with_reducible refine Keeps.drewN ?_ _ | with_reducible refine Keeps.drew ?_ | with_reducible refine Keeps.alloc ?_ _)) HA.out.own (fun _ _ h => h)) (HS.out) (bytes_one (int4 C.pause)) ?c3 ?c4 ?_)
              try (case c3 => unfold maxLen; omega)
              try (case c4 => omega)
              intro v' w' ho kk hb2
              obtain ⟨a, n', c, l15, rfl, hn', hl15, ha⟩ := HA.out.put (q := (int4 C.pause)) (m := 4) (by repeat' (first | with_reducible exact Keeps.refl _ _ | with_reducible assumption | with_reducible refine Keeps.drewN ?_ _ | with_reducible refine Keeps.drew ?_ | with_reducible refine Keeps.alloc ?_ _)) ho kk (fun k hk => (hb2 k hk).imp id (fun h => Nat.le_trans kq.size h))
              replace hn' : n' ≤ 3008 := by omega
              clear HA hn ho kk hb2 HS kq
              have HA := hid ha
              have HL15 := hid hl15
              have hn := hn'
              clear ha hn' hl15
              obtain ⟨n, rfl⟩ : ∃ x, x = n' := ⟨_, rfl⟩
              obtain ⟨wr, rfl⟩ : ∃ x, x = w' := ⟨_, rfl⟩
              clear x7
              have x8 := (HB.out.keep HA.out.upd.keeps (fun h => h)).cell (o := 8) rfl
              go_wp2_with fail
              refine (mint_any C.off _).mono ?_
              rintro e w2 ⟨vq, rfl, hs, kq⟩
              obtain ⟨qa, qc, rfl⟩ := (show Sl w2 1 vq 4 _ from hs).any
              have HS : Hid (Sl w2 1 (.slice qa 4 qc) 4 ((int4 C.off).map (Value.int .u8))) := hid hs
              clear hs
              go_wp2_with (at_builtin; refine wpl_append rfl _ _ 23 rfl 5 i0 (.int .u8 0) 1 1 Tryd.underlying23 HI.out hz0 hz1 hz2 rfl (by decide) _ _ _ _ _ _ rfl rfl (Keeps.own (S := No) (by repeat' (first | with_reducible exact Keeps.refl _ _ | with_reducible assumption | with_reducible refine Keeps.drewN ?_ _ | with_reducible refine Keeps.drew ?_ | with_reducible refine Keeps.alloc ?_ _)) HA.out.own (fun _ _ h => h)) (HS.out) (bytes_one (int4 C.off)) ?c3 ?c4 ?_)
              try (case c3 => unfold maxLen; omega)
              try (case c4 => omega)
              intro v' w' ho kk hb2
              obtain ⟨a, n', c, l16, rfl, hn', hl16, ha⟩ := HA.out.put (q := (int4 C.off)) (m := 4) (by repeat' (first | with_reducible exact Keeps.refl _ _ | with_reducible assumption | with_reducible refine Keeps.drewN ?_ _ | with_reducible refine Keeps.drew ?_ | with_reducible refine Keeps.alloc ?_ _)) ho kk (fun k hk => (hb2 k hk).imp id (fun h => Nat.le_trans kq.size h))
              replace hn' : n' ≤ 3012 := by omega
              clear HA hn ho kk hb2 HS kq
              have HA := hid ha
              have HL16 := hid hl16
              have hn := hn'
              clear ha hn' hl16
              obtain ⟨n, rfl⟩ : ∃ x, x = n' := ⟨_, rfl⟩
              obtain ⟨wr, rfl⟩ : ∃ x, x = w' := ⟨_, rfl⟩
              clear x8
              have x9 := (HB.out.keep HA.out.upd.keeps (fun h => h)).cell (o := 9) rfl
              go_wp2_with fail
              refine (mflag_any C.brk _).mono ?_
              rintro e w2 ⟨rfl, rfl⟩
              go_wp2_with (at_builtin; refine wpl_append rfl _ _ 23 rfl 5 i0 (.int .u8 0) 1 1 Tryd.underlying23 HI.out hz0 hz1 hz2 rfl (by decide) _ _ _ _ _ _ rfl rfl (Keeps.own (S := No) (by repeat' (first | with_reducible exact Keeps.refl _ _ | with_reducible assumption | with_reducible refine Keeps.drewN ?_ _ | with_reducible refine Keeps.drew ?_ | with_reducible refine Keeps.alloc ?_ _)) HA.out.own (fun _ _ h => h)) (Sl.new _ _ _ 1 1 rfl (by decide)) (bytes_one [flagB C.brk]) ?c3 ?c4 ?_)
              try (case c3 => unfold maxLen; omega)
              try (case c4 => omega)
              intro v' w' ho kk hb2
              obtain ⟨a, n', c, l17, rfl, hn', hl17, ha⟩ := HA.out.put (q := [flagB C.brk]) (m := 1) (by repeat' (first | with_reducible exact Keeps.refl _ _ | with_reducible assumption | with_reducible refine Keeps.drewN ?_ _ | with_reducible refine Keeps.drew ?_ | with_reducible refine Keeps.alloc ?_ _)) ho kk (fun k hk => (hb2 k hk).imp id (fun h => Nat.le_of_succ_le h))
              replace hn' : n' ≤ 3013 := by omega
              clear HA hn ho kk hb2
              have HA := hid ha
              have HL17 := hid hl17
              have hn := hn'
              clear ha hn' hl17
              obtain ⟨n, rfl⟩ : ∃ x, x = n' := ⟨_, rfl⟩
              obtain ⟨wr, rfl⟩ : ∃ x, x = w' := ⟨_, rfl⟩
              clear x9
              have x10 := (HB.out.keep HA.out.upd.keeps (fun h => h)).cell (o := 10) rfl
              go_wp2_with fail
              refine (mint_any C.log _).mono ?_
              rintro e w2 ⟨vq, rfl, hs, kq⟩
              obtain ⟨qa, qc, rfl⟩ := (show Sl w2 1 vq 4 _ from hs).any
              have HS : Hid (Sl w2 1 (.slice qa 4 qc) 4 ((int4 C.log).map (Value.int .u8))) := hid hs
              clear hs
              go_wp2_with (at_builtin; refine wpl_append rfl _ _ 23 rfl 5 i0 (.int .u8 0) 1 1 Tryd.underlying23 HI.out hz0 hz1 hz2 rfl (by decide) _ _ _ _ _ _ rfl rfl (Keeps.own (S := No) (by repeat' (first | with_reducible exact Keeps.refl _ _ | with_reducible assumption | with_reducible refine Keeps.drewN ?_ _ | with_reducible refine Keeps.drew ?_ | with_reducible refine Keeps.alloc ?_ _)) HA.out.own (fun _ _ h => h)) (HS.out) (bytes_one (int4 C.log)) ?c3 ?c4 ?_)
              try (case c3 => unfold maxLen; omega)
              try (case c4 => omega)
              intro v' w' ho kk hb2
              obtain ⟨a, n', c, l18, rfl, hn', hl18, ha⟩ := HA.out.put (q := (int4 C.log)) (m := 4) (by repeat' (first | with_reducible exact Keeps.refl _ _ | with_reducible assumption | with_reducible refine Keeps.drewN ?_ _ | with_reducible refine Keeps.drew ?_ | with_reducible refine Keeps.alloc ?_ _)) ho kk (fun k hk => (hb2 k hk).imp id (fun h => Nat.le_trans kq.size h))
              replace hn' : n' ≤ 3017 := by omega
              clear HA hn ho kk hb2 HS kq
              have HA := hid ha
              have HL18 := hid hl18
              have hn := hn'
              clear ha hn' hl18
              obtain ⟨n, rfl⟩ : ∃ x, x = n' := ⟨_, rfl⟩
              obtain ⟨wr, rfl⟩ : ∃ x, x = w' := ⟨_, rfl⟩
              clear x10
              have hall := HA.out.eq (l' := cfgB C) (by rw [HE.out, HL18.out, HL17.out, HL16.out, HL15.out, HL14.out, ← HLV.out, HLTT.out, ← HLE.out, HLD.out, ← HLB.out, ← HLA.out])
              have hlen := hall.len
              subst hlen
              have HSB : Hid (SlB wr (.slice a (cfgB C).length c) (cfgB C)) := hid (Sl.ofOwn hall.own)
              have KF := hid (K1.out.trans hall.upd.keeps)
              obtain ⟨P, hP⟩ : ∃ P, cfgB C = P := ⟨_, rfl⟩
              rw [hP] at HSB HBY HL ⊢
              clear hall HA hn HE
              go_wp2_with fail
              refine (mclose_any HSB.out HBY.out (by have := HL.out; omega)).mono ?_
              rintro e w9 ⟨v9, rfl, ho, hk, hb9⟩
              obtain ⟨a9, c9, rfl⟩ := own_any ho
              have HO9 := hid ho
              have K9 := hid (KF.out.trans hk)
              have HB9 := hid (fun k hk => Nat.le_trans KF.out.size (hb9 k hk))
              clear ho hk hb9
              go_wp2_with fail
              go_ret
              subst hP
              exact ⟨_, rfl, HO9.out, K9.out, HB9.out⟩

end Go.Proofs.YtlenhccdkhgfgaaDoor
