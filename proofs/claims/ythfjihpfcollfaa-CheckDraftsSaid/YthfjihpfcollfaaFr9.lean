/-
  What the laws of layer 8 share: parts of a stream, and the stream.
-/
import Derived.Test.YthfjihpfcollfaaFr8
import Derived.Test.YthfjihpfcollfaaArgs
namespace Go.Proofs.Ythfjihpfcollfaa
open Go.ChangeShapes Go.WideShapes Go.ChangeAt Go.RowKit

/-- A part: its kind, its bytes where they lie, a place, a byte. -/
structure Prt where
  k : Int
  v : Value
  p : List Int
  a : Int
  t : Int

def encP (y : Prt) : List Value := [.int .u8 y.k, y.v, .int .u8 y.a, .int .u8 y.t]
def goodP (w : World) (y : Prt) : Prop := SlB w y.v y.p ∧ Bytes y.p ∧ (0 ≤ y.k ∧ y.k ≤ 255) ∧ (0 ≤ y.a ∧ y.a ≤ 255) ∧ (0 ≤ y.t ∧ y.t ≤ 255)

/-- A slice of bytes within something that came in. -/
theorem argBytes {H : Type} {enc : TypeId × Value → H} {W : World} {n : Nat} {cs : List Value} {x} (h : DataW.trod enc Try.prog W 0 (fun _ => true) true n 26 cs = some x) :
    ∃ v p, cs = [v] ∧ SlB W v p ∧ Bytes p := by
  have hv : ∃ a len cap, cs = [.slice a len cap] := by
    rcases DataW.trod_slice Try.underlying26 h with ⟨h0, _⟩ | ⟨a, len, cap, _, _, _, _, h0, _⟩
    · exact ⟨_, _, _, h0⟩
    · exact ⟨_, _, _, h0⟩
  obtain ⟨a, len, cap, rfl⟩ := hv
  obtain ⟨l, rfl, w0, b0⟩ := argInts .u8 Try.underlying26 Try.underlying5 (by kernel_rfl) (show DataW.Trod enc Try.prog W 0 (fun _ => true) true 26 (Value.slice a len cap) x.1 x.2 from ⟨n, h⟩)
  exact ⟨_, l, rfl, w0, fun y hy => bounds_u8 (b0 y hy)⟩

set_option maxRecDepth 100000 in
theorem decP {H : Type} {enc : TypeId × Value → H} {W : World} {n : Nat} {cs : List Value} {x} (h : DataW.trod enc Try.prog W 0 (fun _ => true) true n 28 cs = some x) : ∃ y : Prt, cs = encP y ∧ goodP W y := by
  obtain ⟨xs, m, _, _, hl, hlen, hf⟩ := DataW.trod_struct Try.underlying28 h
  rw [show Try.prog.cellsOf 28 = 4 by kernel_rfl] at hl
  match cs, hl, xs, hlen with
  | [c0, c1, c2, c3], _, [y0, y1, y2, y3], _ =>
    have h0 : DataW.trod enc Try.prog W 0 (fun _ => true) true m 5 (([c0, c1, c2, c3].drop 0).take (Try.prog.cellsOf 5)) = some y0 := hf 0 _ rfl
    have h1 : DataW.trod enc Try.prog W 0 (fun _ => true) true m 26 (([c0, c1, c2, c3].drop 1).take (Try.prog.cellsOf 26)) = some y1 := hf 1 _ rfl
    have h2 : DataW.trod enc Try.prog W 0 (fun _ => true) true m 5 (([c0, c1, c2, c3].drop 2).take (Try.prog.cellsOf 5)) = some y2 := hf 2 _ rfl
    have h3 : DataW.trod enc Try.prog W 0 (fun _ => true) true m 5 (([c0, c1, c2, c3].drop 3).take (Try.prog.cellsOf 5)) = some y3 := hf 3 _ rfl
    rw [show Try.prog.cellsOf 5 = 1 by kernel_rfl] at h0 h2 h3
    rw [show Try.prog.cellsOf 26 = 1 by kernel_rfl] at h1
    obtain ⟨a, e0, _, w0⟩ := DataW.trod_int Try.underlying5 h0
    obtain ⟨v, p, e1, s1, b1⟩ := argBytes h1
    obtain ⟨b, e2, _, w2⟩ := DataW.trod_int Try.underlying5 h2
    obtain ⟨c, e3, _, w3⟩ := DataW.trod_int Try.underlying5 h3
    simp at e0 e1 e2 e3
    exact ⟨⟨a, v, p, b, c⟩, by simp [e0, e1, e2, e3, encP], s1, b1, bounds_u8 w0, bounds_u8 w2, bounds_u8 w3⟩

/-- The cells of a part. -/
theorem prt_cells {w : World} {s : Option Addr} {cap : Nat} {l : List Prt} (hs : Sl w 4 (.slice s l.length cap) l.length (l.flatMap encP)) {k : Nat} (hlt : k < l.length) :
    ∃ g off, s = some ⟨g, off, none⟩ ∧ w.cell? ⟨g, off + k * 4, none⟩ = some (.int .u8 l[k].k) ∧ w.cell? ⟨g, off + k * 4 + 1, none⟩ = some l[k].v ∧ w.cell? ⟨g, off + k * 4 + 2, none⟩ = some (.int .u8 l[k].a) ∧ w.cell? ⟨g, off + k * 4 + 3, none⟩ = some (.int .u8 l[k].t) := by
  obtain ⟨g, off, e, _, h0⟩ := Sl.cellAt hs (j := k * 4 + 0) (u := .int .u8 l[k].k) (by rw [getElem?_flatMap_enc (size := 4) (fun _ => rfl) l k 0 (by omega) hlt]; rfl)
  obtain ⟨g1, off1, e1, _, h1⟩ := Sl.cellAt hs (j := k * 4 + 1) (u := l[k].v) (by rw [getElem?_flatMap_enc (size := 4) (fun _ => rfl) l k 1 (by omega) hlt]; rfl)
  obtain ⟨g2, off2, e2, _, h2⟩ := Sl.cellAt hs (j := k * 4 + 2) (u := .int .u8 l[k].a) (by rw [getElem?_flatMap_enc (size := 4) (fun _ => rfl) l k 2 (by omega) hlt]; rfl)
  obtain ⟨g3, off3, e3, _, h3⟩ := Sl.cellAt hs (j := k * 4 + 3) (u := .int .u8 l[k].t) (by rw [getElem?_flatMap_enc (size := 4) (fun _ => rfl) l k 3 (by omega) hlt]; rfl)
  rw [e] at e1 e2 e3
  simp only [Option.some.injEq, Addr.mk.injEq, and_true] at e1 e2 e3
  obtain ⟨rfl, rfl⟩ := e1
  obtain ⟨rfl, rfl⟩ := e2
  obtain ⟨rfl, rfl⟩ := e3
  exact ⟨g, off, e, h0, h1, h2, h3⟩

theorem few_yes {w : World} {s : Option Addr} {n cap : Nat} (h : n ≤ 12) : Calls Try.prog 15 #[.slice s n cap] w fun e w' => e = .returned (.bool true) ∧ w = w' := by
  have hd : decide ((n : Int) ≤ 12) = true := by simp; omega
  go_enter Try.func15, Try.ntmps15
  go_wp2_with fail
  go_ret
  exact ⟨rfl, rfl⟩

theorem few_no {w : World} {s : Option Addr} {n cap : Nat} (h : ¬ n ≤ 12) : Calls Try.prog 15 #[.slice s n cap] w fun e w' => e = .returned (.bool false) ∧ w = w' := by
  have hd : decide ((n : Int) ≤ 12) = false := by simp; omega
  go_enter Try.func15, Try.ntmps15
  go_wp2_with fail
  go_ret
  exact ⟨rfl, rfl⟩

/-- What stream's loop has. -/
structure StL (w wr : World) (q : List Int) (k : Nat) (v3 : Value) : Prop where
  own : wr.ownsRow 0 5 1 v3 q.length (q.map (Value.int .u8))
  byt : Bytes q
  len : q.length ≤ 37 * k
  keep : Keeps No w wr
  new : Fresh w v3

theorem Bytes.append {p q : List Int} (h : Bytes p) (k : Bytes q) : Bytes (p ++ q) := fun x hx => by
  rcases List.mem_append.1 hx with hx | hx
  · exact h x hx
  · exact k x hx

theorem Bytes.take {p : List Int} (h : Bytes p) (n : Nat) : Bytes (p.take n) := fun x hx => h x (List.mem_of_mem_take hx)
theorem Bytes.drop {p : List Int} (h : Bytes p) (n : Nat) : Bytes (p.drop n) := fun x hx => h x (List.mem_of_mem_drop hx)

theorem Bytes.set {p : List Int} (h : Bytes p) (n : Nat) {u : Int} (hu : 0 ≤ u ∧ u ≤ 255) : Bytes (p.set n u) := fun x hx => by
  rcases List.mem_or_eq_of_mem_set hx with hx | hx
  · exact h x hx
  · subst hx; exact hu

set_option maxHeartbeats 4000000 in
set_option maxRecDepth 100000 in
theorem stream_any {w : World} {s : Option Addr} {cap : Nat} {l : List Prt} (hs : Sl w 4 (.slice s l.length cap) l.length (l.flatMap encP)) (hg : ∀ y ∈ l, goodP w y) (hl : l.length ≤ 12) :
    Calls Try.prog 26 #[.slice s l.length cap] w fun e w' => ∃ q v', e = .returned v' ∧ Hid (StL w w' q l.length v') := by
  have HS := hid hs
  have HG := hid hg
  have H0 : Hid (StL w w [] 0 (.slice none 0 0)) := hid ⟨World.ownsRow_nil _ _ _ _, fun x hx => by simp at hx, by simp, Keeps.refl _ _, fun k hk => by simp [Value.ownBlock] at hk⟩
  clear hs hg
  go_enter Try.func26, Try.ntmps26
  go_wp2_with fail
  go_loopw [3, 4] (fun v3 v4 wr => ∃ k : Nat, k ≤ l.length ∧ v4 = .int .i64 k ∧ ∃ q, Hid (StL w wr q k v3)) (fun _ v4 _ => l.length - (intOf v4).toNat)
  case atStart => exact ⟨0, Nat.zero_le _, rfl, [], H0⟩
  case round =>
    clear H0
    obtain ⟨k, hk, rfl, q, HT⟩ := hrel
    obtain ⟨a3, c3, rfl⟩ := own_any HT.out.own
    by_cases hlt : k < l.length
    · obtain ⟨g, off, rfl, x0, x1, x2, x3⟩ := prt_cells HS.out hlt
      obtain ⟨hsv, hbv, hkk, hka, hkt⟩ := HG.out l[k] (List.getElem_mem hlt)
      obtain ⟨y, hy⟩ : ∃ y, l[k] = y := ⟨_, rfl⟩
      rw [hy] at x0 x1 x2 x3 hsv hbv hkk hka hkt
      obtain ⟨kk, vv, pp, aa, tt⟩ := y
      dsimp only at x0 x1 x2 x3 hsv hbv hkk hka hkt
      obtain ⟨av, cv, rfl⟩ := hsv.any
      have x0 := HT.out.keep.cell (fun h => h) x0
      have x1 := HT.out.keep.cell (fun h => h) x1
      have x2 := HT.out.keep.cell (fun h => h) x2
      have x3 := HT.out.keep.cell (fun h => h) x3
      have HV := hid (hsv.keep HT.out.keep (fun _ _ h => h))
      have HB := hid hbv
      have HT1 := hid hkt
      have hql := HT.out.len
      have hcapv := Sl.cap hsv
      clear hy hsv hbv hkt
      by_cases hp0 : pp.length = 0
      · -- none
        obtain rfl := List.length_eq_zero_iff.1 hp0
        have HBP : Hid (Bytes [tt]) := hid (fun x hx => by simp at hx; subst hx; exact HT1.out)
        go_wp2_with fail
        obtain ⟨P, hP⟩ : ∃ P, [tt] = P := ⟨_, rfl⟩
        have hp32 : P.length = 1 := by rw [← hP]; rfl
        have HP : Hid (Sl ((wr.alloc (.cells #[.int .u8 kk, .slice av 0 cv, .int .u8 aa, .int .u8 tt] 28)).alloc (.cells #[.int .u8 tt] 5)) 1 (.slice (some ⟨wr.heap.size + 1, 0, none⟩) 1 1) 1 (P.map (Value.int .u8))) := hid (by rw [← hP]; exact Sl.newAt (by simp) #[.int .u8 tt] _ 1 1 rfl (by decide))
        rw [hP] at HBP
        clear hP
        refine (mframe_any (p := P) (by unfold SlB; rw [hp32]; exact HP.out) HBP.out (by omega)).mono ?_
        rintro e w2 ⟨v2, rfl, ho2, k2, f2⟩
        obtain ⟨a2, c2, rfl⟩ := own_any ho2
        have hcap2 := Sl.cap (Sl.ofOwn ho2)
        have kk2 : Keeps No wr w2 := (((Keeps.refl No wr).alloc _).alloc _).trans k2
        have hgf : ∀ k, (Value.slice a2 (frm P).length c2).ownBlock = some k → wr.heap.size + 1 ≤ k := fun k hk => by have := f2 k hk; simp at this; omega
        have HP2 : Hid (Sl w2 1 (.slice (some ⟨wr.heap.size + 1, 0, none⟩) 1 1) (1) (P.map (Value.int .u8))) := hid (HP.out.keep k2 (fun _ _ h => h))
        have hbx := k2.heap (fun h => h) (heapA _ (heap_alloc_new wr (.cells #[.int .u8 kk, .slice av 0 cv, .int .u8 aa, .int .u8 tt] 28)))
        have y0 := cell_at (i := 0) hbx rfl
        have y2 := cell_at (i := 2) hbx rfl
        have y3 := cell_at (i := 3) hbx rfl
        have HFB : Hid (Bytes (frm P)) := hid (frm_bytes HBP.out (by omega))
        have hfl0 : 5 ≤ (frm P).length := by rw [frm_len]; omega
        have hfl1 : (frm P).length ≤ 37 := by rw [frm_len]; omega
        obtain ⟨X, hX⟩ : ∃ X, frm P = X := ⟨_, rfl⟩
        rw [hX] at ho2 HFB hfl0 hfl1 hcap2 hgf ⊢
        obtain ⟨fl, hfl⟩ : ∃ fl, X.length = fl := ⟨_, rfl⟩
        have HO2 : Hid (w2.ownsRow 0 5 1 (.slice a2 fl c2) fl (X.map (Value.int .u8))) := hid (hfl ▸ ho2)
        have HFL := hid hfl
        rw [hfl] at hfl0 hfl1 hcap2 hgf ⊢
        have HGF := hid hgf
        have HQ2 : Hid (SlB w2 (.slice a3 q.length c3) q) := hid (Sl.ofOwn (kk2.own HT.out.own (fun _ _ h => h)))
        have K2 : Hid (Keeps No w w2) := hid (HT.out.keep.trans kk2)
        have hw2 : w2.heap.size = w2.heap.size := rfl
        clear ho2 k2 f2 kk2 hbx hX hfl hw2 hgf
        rcases (show kk % 4 = 0 ∨ kk % 4 = 1 ∨ kk % 4 = 2 ∨ kk % 4 = 3 by omega) with h4 | h4 | h4 | h4
        · go_wp2_with fail
          refine (mjoin_any HQ2.out (q := X) (by unfold SlB; rw [HFL.out]; exact Sl.ofOwn HO2.out) (by have := HFL.out; omega)).mono ?_
          rintro e w3 ⟨v4, rfl, ho3, k3, f3⟩
          obtain ⟨R, hR⟩ : ∃ R, q ++ X = R := ⟨_, rfl⟩
          have hRl : R.length = q.length + X.length := by rw [← hR, List.length_append]
          have ho3' : w3.ownsRow 0 5 1 v4 R.length (R.map (Value.int .u8)) := by rw [hRl, ← hR]; exact ho3
          obtain ⟨a4, c4, rfl⟩ := own_any ho3'
          have HE : Hid (StL w w3 R (k + 1) (.slice a4 R.length c4)) := hid ⟨ho3', hR ▸ HT.out.byt.append HFB.out, by rw [hRl]; have := HFL.out; omega, K2.out.trans k3, Fresh.behind f3 K2.out.size⟩
          clear ho3 ho3' k3 f3 hR hRl
          go_wp2_with fail
          go_roundw
          case rel => exact ⟨k + 1, by omega, by go_num, R, HE⟩
          case measure => simp [intOf]; omega
        · go_wp2_with fail
          refine (mjoin_any HQ2.out (q := P) (by unfold SlB; rw [hp32]; exact HP2.out) (by omega)).mono ?_
          rintro e w3 ⟨v4, rfl, ho3, k3, f3⟩
          obtain ⟨R, hR⟩ : ∃ R, q ++ P = R := ⟨_, rfl⟩
          have hRl : R.length = q.length + P.length := by rw [← hR, List.length_append]
          have ho3' : w3.ownsRow 0 5 1 v4 R.length (R.map (Value.int .u8)) := by rw [hRl, ← hR]; exact ho3
          obtain ⟨a4, c4, rfl⟩ := own_any ho3'
          have HE : Hid (StL w w3 R (k + 1) (.slice a4 R.length c4)) := hid ⟨ho3', hR ▸ HT.out.byt.append HBP.out, by rw [hRl]; omega, K2.out.trans k3, Fresh.behind f3 K2.out.size⟩
          clear ho3 ho3' k3 f3 hR hRl
          go_wp2_with fail
          go_roundw
          case rel => exact ⟨k + 1, by omega, by go_num, R, HE⟩
          case measure => simp [intOf]; omega
        · obtain ⟨j, hj, hjl⟩ : ∃ j : Nat, aa % (fl : Int) = (j : Int) ∧ j < fl := ⟨(aa % (fl : Int)).toNat, by have := Int.emod_nonneg aa (show (fl : Int) ≠ 0 by omega); omega, by have := Int.emod_nonneg aa (show (fl : Int) ≠ 0 by omega); have := Int.emod_lt_of_pos aa (show 0 < (fl : Int) by omega); omega⟩
          have hjx : j < X.length := by have := HFL.out; omega
          obtain ⟨gf, rfl⟩ : ∃ gf, a2 = some ⟨gf, 0, none⟩ := by
            obtain ⟨gf, cf, e⟩ := own_some HO2.out (by omega)
            simp only [Value.slice.injEq] at e
            exact ⟨gf, e.1⟩
          obtain ⟨_, _, eg, _, cj⟩ := SlB.cellAt (p := X) (ao := some ⟨gf, 0, none⟩) (cap := c2) (by unfold SlB; rw [HFL.out]; exact Sl.ofOwn HO2.out) hjx
          simp only [Option.some.injEq, Addr.mk.injEq, and_true] at eg
          obtain ⟨rfl, rfl⟩ := eg
          have hfz : w2.frozen? ⟨gf, 0 + j, none⟩ = false := by
            rcases HO2.out.2 with ⟨h, _⟩ | ⟨g', cap', cur, hv, _, hgg, _⟩
            · cases h
            · simp only [Value.slice.injEq, Option.some.injEq, Addr.mk.injEq, and_true] at hv
              obtain ⟨rfl, _⟩ := hv
              exact free_at hgg
          obtain ⟨x, hx⟩ : ∃ x, X[j] = x := ⟨_, rfl⟩
          have hxb := HFB.out X[j] (List.getElem_mem hjx)
          rw [hx] at cj hxb
          rw [Nat.zero_add] at cj hfz
          have hxor : bits .xor .u8 x tt = xb x tt := u8_xor x tt hxb.1 (by omega) HT1.out.1 (by have := HT1.out.2; omega)
          have HXB := hid (xb_byte hxb HT1.out)
          have hgx : gf ≠ wr.heap.size := fun e => by
            have := HGF.out gf rfl
            omega
          clear hx
          have HO3 : Hid ((w2.setCell ⟨gf, j, none⟩ (.int .u8 (xb x tt))).drew.ownsRow 0 5 1 (.slice (some ⟨gf, 0, none⟩) fl c2) fl ((X.set j (xb x tt)).map (Value.int .u8))) := hid (by rw [List.map_set]; exact (HO2.out.stored j _).1)
          have kg : Keeps (fun k => k = gf) w2 (w2.setCell ⟨gf, j, none⟩ (.int .u8 (xb x tt))).drew := ((Keeps.refl (fun k => k = gf) w2).setCell (p := ⟨gf, j, none⟩) (Or.inr rfl) _).drew
          have HQ3 := hid (HQ2.out.keep kg (fun b hb e => by
            have h1 := own_lt HT.out.own b hb
            have h2 := HGF.out gf rfl
            omega))
          have K3 := hid (K2.out.trans' kg (T := No) (fun _ _ h => h) (fun i hi e => by
            have h1 := HT.out.keep.size
            have h2 := HGF.out gf rfl
            omega))
          obtain ⟨Y, hY⟩ : ∃ Y, X.set j (xb x tt) = Y := ⟨_, rfl⟩
          have HYB : Hid (Bytes Y) := hid (hY ▸ HFB.out.set j HXB.out)
          have HYL : Hid (Y.length = fl) := hid (by rw [← hY, List.length_set]; exact HFL.out)
          rw [hY] at HO3
          clear hY kg
          go_wp2_with fail
          go_region
          go_wp2_with fail
          refine (mjoin_any HQ3.out (q := Y) (by unfold SlB; rw [HYL.out]; exact Sl.ofOwn HO3.out) (by have := HYL.out; omega)).mono ?_
          rintro e w3 ⟨v4, rfl, ho3, k3, f3⟩
          obtain ⟨R, hR⟩ : ∃ R, q ++ Y = R := ⟨_, rfl⟩
          have hRl : R.length = q.length + Y.length := by rw [← hR, List.length_append]
          have ho3' : w3.ownsRow 0 5 1 v4 R.length (R.map (Value.int .u8)) := by rw [hRl, ← hR]; exact ho3
          obtain ⟨a4, c4, rfl⟩ := own_any ho3'
          have HE : Hid (StL w w3 R (k + 1) (.slice a4 R.length c4)) := hid ⟨ho3', hR ▸ HT.out.byt.append HYB.out, by rw [hRl]; have := HYL.out; omega, K3.out.trans k3, Fresh.behind f3 K3.out.size⟩
          clear ho3 ho3' k3 f3 hR hRl
          go_wp2_with fail
          go_roundw
          case rel => exact ⟨k + 1, by omega, by go_num, R, HE⟩
          case measure => simp [intOf]; omega
        · obtain ⟨j, hj, hjl⟩ : ∃ j : Nat, aa % ((fl : Int) + 1) = (j : Int) ∧ j ≤ fl := ⟨(aa % ((fl : Int) + 1)).toNat, by have := Int.emod_nonneg aa (show (fl : Int) + 1 ≠ 0 by omega); omega, by have := Int.emod_nonneg aa (show (fl : Int) + 1 ≠ 0 by omega); have := Int.emod_lt_of_pos aa (show 0 < (fl : Int) + 1 by omega); omega⟩
          have hjc : j ≤ c2 := by omega
          have HX2 : Hid (SlB w2 (.slice a2 j c2) (X.take j)) := hid (SlB.frontN (by unfold SlB; rw [HFL.out]; exact Sl.ofOwn HO2.out) (by have := HFL.out; omega))
          obtain ⟨Y, hY⟩ : ∃ Y, X.take j = Y := ⟨_, rfl⟩
          have HYB : Hid (Bytes Y) := hid (hY ▸ HFB.out.take j)
          have HYL : Hid (Y.length = j) := hid (by rw [← hY, List.length_take]; have := HFL.out; omega)
          rw [hY] at HX2
          clear hY
          go_wp2_with fail
          refine (mjoin_any HQ2.out (q := Y) (by have h := HX2.out; unfold SlB at h ⊢; rw [HYL.out] at h ⊢; exact h) (by have := HYL.out; omega)).mono ?_
          rintro e w3 ⟨v4, rfl, ho3, k3, f3⟩
          obtain ⟨R, hR⟩ : ∃ R, q ++ Y = R := ⟨_, rfl⟩
          have hRl : R.length = q.length + Y.length := by rw [← hR, List.length_append]
          have ho3' : w3.ownsRow 0 5 1 v4 R.length (R.map (Value.int .u8)) := by rw [hRl, ← hR]; exact ho3
          obtain ⟨a4, c4, rfl⟩ := own_any ho3'
          have HE : Hid (StL w w3 R (k + 1) (.slice a4 R.length c4)) := hid ⟨ho3', hR ▸ HT.out.byt.append HYB.out, by rw [hRl]; have := HYL.out; omega, K2.out.trans k3, Fresh.behind f3 K2.out.size⟩
          clear ho3 ho3' k3 f3 hR hRl
          go_wp2_with fail
          go_roundw
          case rel => exact ⟨k + 1, by omega, by go_num, R, HE⟩
          case measure => simp [intOf]; omega
      · by_cases hlong : 32 < pp.length
        · -- more than 32
          have hp32 : (pp.take 32).length = 32 := by rw [List.length_take]; omega
          have HP : Hid (Sl wr 1 (.slice av 32 cv) 32 ((pp.take 32).map (Value.int .u8))) := hid (by have := SlB.frontN HV.out (n := 32) (by omega); unfold SlB at this; rw [hp32] at this; exact this)
          have hd1 : decide ((pp.length : Int) > 32) = true := by simp; omega
          have hd2 : decide ((32 : Int) < (pp.length : Int)) = true := by simp; omega
          obtain ⟨P, hP⟩ : ∃ P, pp.take 32 = P := ⟨_, rfl⟩
          have HBP : Hid (Bytes P) := hid (hP ▸ HB.out.take 32)
          rw [hP] at hp32 HP
          have hcv : 32 ≤ cv := by omega
          clear hP
          go_wp2_with fail
          refine (mframe_any (p := P) (by unfold SlB; rw [hp32]; exact (HP.out.alloc _)) HBP.out (by omega)).mono ?_
          rintro e w2 ⟨v2, rfl, ho2, k2, f2⟩
          obtain ⟨a2, c2, rfl⟩ := own_any ho2
          have hcap2 := Sl.cap (Sl.ofOwn ho2)
          have kk2 : Keeps No wr w2 := ((Keeps.refl No wr).alloc _).trans k2
          have hgf : ∀ k, (Value.slice a2 (frm P).length c2).ownBlock = some k → wr.heap.size + 1 ≤ k := fun k hk => by have := f2 k hk; simp at this; omega
          have HP2 : Hid (Sl w2 1 (.slice av 32 cv) (32) (P.map (Value.int .u8))) := hid ((HP.out.alloc _).keep k2 (fun _ _ h => h))
          have hbx := k2.heap (fun h => h) (heap_alloc_new wr (.cells #[.int .u8 kk, .slice av pp.length cv, .int .u8 aa, .int .u8 tt] 28))
          have y0 := cell_at (i := 0) hbx rfl
          have y2 := cell_at (i := 2) hbx rfl
          have y3 := cell_at (i := 3) hbx rfl
          have HFB : Hid (Bytes (frm P)) := hid (frm_bytes HBP.out (by omega))
          have hfl0 : 5 ≤ (frm P).length := by rw [frm_len]; omega
          have hfl1 : (frm P).length ≤ 37 := by rw [frm_len]; omega
          obtain ⟨X, hX⟩ : ∃ X, frm P = X := ⟨_, rfl⟩
          rw [hX] at ho2 HFB hfl0 hfl1 hcap2 hgf ⊢
          obtain ⟨fl, hfl⟩ : ∃ fl, X.length = fl := ⟨_, rfl⟩
          have HO2 : Hid (w2.ownsRow 0 5 1 (.slice a2 fl c2) fl (X.map (Value.int .u8))) := hid (hfl ▸ ho2)
          have HFL := hid hfl
          rw [hfl] at hfl0 hfl1 hcap2 hgf ⊢
          have HGF := hid hgf
          have HQ2 : Hid (SlB w2 (.slice a3 q.length c3) q) := hid (Sl.ofOwn (kk2.own HT.out.own (fun _ _ h => h)))
          have K2 : Hid (Keeps No w w2) := hid (HT.out.keep.trans kk2)
          have hw2 : w2.heap.size = w2.heap.size := rfl
          clear ho2 k2 f2 kk2 hbx hX hfl hw2 hgf
          rcases (show kk % 4 = 0 ∨ kk % 4 = 1 ∨ kk % 4 = 2 ∨ kk % 4 = 3 by omega) with h4 | h4 | h4 | h4
          · go_wp2_with fail
            refine (mjoin_any HQ2.out (q := X) (by unfold SlB; rw [HFL.out]; exact Sl.ofOwn HO2.out) (by have := HFL.out; omega)).mono ?_
            rintro e w3 ⟨v4, rfl, ho3, k3, f3⟩
            obtain ⟨R, hR⟩ : ∃ R, q ++ X = R := ⟨_, rfl⟩
            have hRl : R.length = q.length + X.length := by rw [← hR, List.length_append]
            have ho3' : w3.ownsRow 0 5 1 v4 R.length (R.map (Value.int .u8)) := by rw [hRl, ← hR]; exact ho3
            obtain ⟨a4, c4, rfl⟩ := own_any ho3'
            have HE : Hid (StL w w3 R (k + 1) (.slice a4 R.length c4)) := hid ⟨ho3', hR ▸ HT.out.byt.append HFB.out, by rw [hRl]; have := HFL.out; omega, K2.out.trans k3, Fresh.behind f3 K2.out.size⟩
            clear ho3 ho3' k3 f3 hR hRl
            go_wp2_with fail
            go_roundw
            case rel => exact ⟨k + 1, by omega, by go_num, R, HE⟩
            case measure => simp [intOf]; omega
          · go_wp2_with fail
            refine (mjoin_any HQ2.out (q := P) (by unfold SlB; rw [hp32]; exact HP2.out) (by omega)).mono ?_
            rintro e w3 ⟨v4, rfl, ho3, k3, f3⟩
            obtain ⟨R, hR⟩ : ∃ R, q ++ P = R := ⟨_, rfl⟩
            have hRl : R.length = q.length + P.length := by rw [← hR, List.length_append]
            have ho3' : w3.ownsRow 0 5 1 v4 R.length (R.map (Value.int .u8)) := by rw [hRl, ← hR]; exact ho3
            obtain ⟨a4, c4, rfl⟩ := own_any ho3'
            have HE : Hid (StL w w3 R (k + 1) (.slice a4 R.length c4)) := hid ⟨ho3', hR ▸ HT.out.byt.append HBP.out, by rw [hRl]; omega, K2.out.trans k3, Fresh.behind f3 K2.out.size⟩
            clear ho3 ho3' k3 f3 hR hRl
            go_wp2_with fail
            go_roundw
            case rel => exact ⟨k + 1, by omega, by go_num, R, HE⟩
            case measure => simp [intOf]; omega
          · obtain ⟨j, hj, hjl⟩ : ∃ j : Nat, aa % (fl : Int) = (j : Int) ∧ j < fl := ⟨(aa % (fl : Int)).toNat, by have := Int.emod_nonneg aa (show (fl : Int) ≠ 0 by omega); omega, by have := Int.emod_nonneg aa (show (fl : Int) ≠ 0 by omega); have := Int.emod_lt_of_pos aa (show 0 < (fl : Int) by omega); omega⟩
            have hjx : j < X.length := by have := HFL.out; omega
            obtain ⟨gf, rfl⟩ : ∃ gf, a2 = some ⟨gf, 0, none⟩ := by
              obtain ⟨gf, cf, e⟩ := own_some HO2.out (by omega)
              simp only [Value.slice.injEq] at e
              exact ⟨gf, e.1⟩
            obtain ⟨_, _, eg, _, cj⟩ := SlB.cellAt (p := X) (ao := some ⟨gf, 0, none⟩) (cap := c2) (by unfold SlB; rw [HFL.out]; exact Sl.ofOwn HO2.out) hjx
            simp only [Option.some.injEq, Addr.mk.injEq, and_true] at eg
            obtain ⟨rfl, rfl⟩ := eg
            have hfz : w2.frozen? ⟨gf, 0 + j, none⟩ = false := by
              rcases HO2.out.2 with ⟨h, _⟩ | ⟨g', cap', cur, hv, _, hgg, _⟩
              · cases h
              · simp only [Value.slice.injEq, Option.some.injEq, Addr.mk.injEq, and_true] at hv
                obtain ⟨rfl, _⟩ := hv
                exact free_at hgg
            obtain ⟨x, hx⟩ : ∃ x, X[j] = x := ⟨_, rfl⟩
            have hxb := HFB.out X[j] (List.getElem_mem hjx)
            rw [hx] at cj hxb
            rw [Nat.zero_add] at cj hfz
            have hxor : bits .xor .u8 x tt = xb x tt := u8_xor x tt hxb.1 (by omega) HT1.out.1 (by have := HT1.out.2; omega)
            have HXB := hid (xb_byte hxb HT1.out)
            have hgx : gf ≠ wr.heap.size := fun e => by
              have := HGF.out gf rfl
              omega
            clear hx
            have HO3 : Hid ((w2.setCell ⟨gf, j, none⟩ (.int .u8 (xb x tt))).drew.ownsRow 0 5 1 (.slice (some ⟨gf, 0, none⟩) fl c2) fl ((X.set j (xb x tt)).map (Value.int .u8))) := hid (by rw [List.map_set]; exact (HO2.out.stored j _).1)
            have kg : Keeps (fun k => k = gf) w2 (w2.setCell ⟨gf, j, none⟩ (.int .u8 (xb x tt))).drew := ((Keeps.refl (fun k => k = gf) w2).setCell (p := ⟨gf, j, none⟩) (Or.inr rfl) _).drew
            have HQ3 := hid (HQ2.out.keep kg (fun b hb e => by
              have h1 := own_lt HT.out.own b hb
              have h2 := HGF.out gf rfl
              omega))
            have K3 := hid (K2.out.trans' kg (T := No) (fun _ _ h => h) (fun i hi e => by
              have h1 := HT.out.keep.size
              have h2 := HGF.out gf rfl
              omega))
            obtain ⟨Y, hY⟩ : ∃ Y, X.set j (xb x tt) = Y := ⟨_, rfl⟩
            have HYB : Hid (Bytes Y) := hid (hY ▸ HFB.out.set j HXB.out)
            have HYL : Hid (Y.length = fl) := hid (by rw [← hY, List.length_set]; exact HFL.out)
            rw [hY] at HO3
            clear hY kg
            go_wp2_with fail
            go_region
            go_wp2_with fail
            refine (mjoin_any HQ3.out (q := Y) (by unfold SlB; rw [HYL.out]; exact Sl.ofOwn HO3.out) (by have := HYL.out; omega)).mono ?_
            rintro e w3 ⟨v4, rfl, ho3, k3, f3⟩
            obtain ⟨R, hR⟩ : ∃ R, q ++ Y = R := ⟨_, rfl⟩
            have hRl : R.length = q.length + Y.length := by rw [← hR, List.length_append]
            have ho3' : w3.ownsRow 0 5 1 v4 R.length (R.map (Value.int .u8)) := by rw [hRl, ← hR]; exact ho3
            obtain ⟨a4, c4, rfl⟩ := own_any ho3'
            have HE : Hid (StL w w3 R (k + 1) (.slice a4 R.length c4)) := hid ⟨ho3', hR ▸ HT.out.byt.append HYB.out, by rw [hRl]; have := HYL.out; omega, K3.out.trans k3, Fresh.behind f3 K3.out.size⟩
            clear ho3 ho3' k3 f3 hR hRl
            go_wp2_with fail
            go_roundw
            case rel => exact ⟨k + 1, by omega, by go_num, R, HE⟩
            case measure => simp [intOf]; omega
          · obtain ⟨j, hj, hjl⟩ : ∃ j : Nat, aa % ((fl : Int) + 1) = (j : Int) ∧ j ≤ fl := ⟨(aa % ((fl : Int) + 1)).toNat, by have := Int.emod_nonneg aa (show (fl : Int) + 1 ≠ 0 by omega); omega, by have := Int.emod_nonneg aa (show (fl : Int) + 1 ≠ 0 by omega); have := Int.emod_lt_of_pos aa (show 0 < (fl : Int) + 1 by omega); omega⟩
            have hjc : j ≤ c2 := by omega
            have HX2 : Hid (SlB w2 (.slice a2 j c2) (X.take j)) := hid (SlB.frontN (by unfold SlB; rw [HFL.out]; exact Sl.ofOwn HO2.out) (by have := HFL.out; omega))
            obtain ⟨Y, hY⟩ : ∃ Y, X.take j = Y := ⟨_, rfl⟩
            have HYB : Hid (Bytes Y) := hid (hY ▸ HFB.out.take j)
            have HYL : Hid (Y.length = j) := hid (by rw [← hY, List.length_take]; have := HFL.out; omega)
            rw [hY] at HX2
            clear hY
            go_wp2_with fail
            refine (mjoin_any HQ2.out (q := Y) (by have h := HX2.out; unfold SlB at h ⊢; rw [HYL.out] at h ⊢; exact h) (by have := HYL.out; omega)).mono ?_
            rintro e w3 ⟨v4, rfl, ho3, k3, f3⟩
            obtain ⟨R, hR⟩ : ∃ R, q ++ Y = R := ⟨_, rfl⟩
            have hRl : R.length = q.length + Y.length := by rw [← hR, List.length_append]
            have ho3' : w3.ownsRow 0 5 1 v4 R.length (R.map (Value.int .u8)) := by rw [hRl, ← hR]; exact ho3
            obtain ⟨a4, c4, rfl⟩ := own_any ho3'
            have HE : Hid (StL w w3 R (k + 1) (.slice a4 R.length c4)) := hid ⟨ho3', hR ▸ HT.out.byt.append HYB.out, by rw [hRl]; have := HYL.out; omega, K2.out.trans k3, Fresh.behind f3 K2.out.size⟩
            clear ho3 ho3' k3 f3 hR hRl
            go_wp2_with fail
            go_roundw
            case rel => exact ⟨k + 1, by omega, by go_num, R, HE⟩
            case measure => simp [intOf]; omega
        · -- up to 32
          have hd1 : decide ((pp.length : Int) > 32) = false := by simp; omega
          have hd2 : decide ((32 : Int) < (pp.length : Int)) = false := by simp; omega
          have hd3 : ((pp.length : Int) == 0) = false := by simp; intro h; exact hp0 (by simp [h])
          obtain ⟨N, hN⟩ : ∃ N, pp.length = N := ⟨_, rfl⟩
          have hp32 : pp.length = N := hN
          have HP : Hid (Sl wr 1 (.slice av N cv) N (pp.map (Value.int .u8))) := hid (hN ▸ HV.out)
          rw [hN] at hlong hp0 hd1 hd2 hd3 x1 hcapv
          obtain ⟨P, hP⟩ : ∃ P, pp = P := ⟨_, rfl⟩
          rw [hP] at HP hp32
          have HBP : Hid (Bytes P) := hid (hP ▸ HB.out)
          have HPL := hid hp32
          clear hP hN
          go_wp2_with fail
          refine (mframe_any (p := P) (by unfold SlB; rw [HPL.out]; exact (HP.out.alloc _)) HBP.out (by have := HPL.out; omega)).mono ?_
          rintro e w2 ⟨v2, rfl, ho2, k2, f2⟩
          obtain ⟨a2, c2, rfl⟩ := own_any ho2
          have hcap2 := Sl.cap (Sl.ofOwn ho2)
          have kk2 : Keeps No wr w2 := ((Keeps.refl No wr).alloc _).trans k2
          have hgf : ∀ k, (Value.slice a2 (frm P).length c2).ownBlock = some k → wr.heap.size + 1 ≤ k := fun k hk => by have := f2 k hk; simp at this; omega
          have HP2 : Hid (Sl w2 1 (.slice av N cv) (N) (P.map (Value.int .u8))) := hid ((HP.out.alloc _).keep k2 (fun _ _ h => h))
          have hbx := k2.heap (fun h => h) (heap_alloc_new wr (.cells #[.int .u8 kk, .slice av N cv, .int .u8 aa, .int .u8 tt] 28))
          have y0 := cell_at (i := 0) hbx rfl
          have y2 := cell_at (i := 2) hbx rfl
          have y3 := cell_at (i := 3) hbx rfl
          have HFB : Hid (Bytes (frm P)) := hid (frm_bytes HBP.out (by have := HPL.out; omega))
          have hfl0 : 5 ≤ (frm P).length := by rw [frm_len]; omega
          have hfl1 : (frm P).length ≤ 37 := by rw [frm_len]; have := HPL.out; omega
          obtain ⟨X, hX⟩ : ∃ X, frm P = X := ⟨_, rfl⟩
          rw [hX] at ho2 HFB hfl0 hfl1 hcap2 hgf ⊢
          obtain ⟨fl, hfl⟩ : ∃ fl, X.length = fl := ⟨_, rfl⟩
          have HO2 : Hid (w2.ownsRow 0 5 1 (.slice a2 fl c2) fl (X.map (Value.int .u8))) := hid (hfl ▸ ho2)
          have HFL := hid hfl
          rw [hfl] at hfl0 hfl1 hcap2 hgf ⊢
          have HGF := hid hgf
          have HQ2 : Hid (SlB w2 (.slice a3 q.length c3) q) := hid (Sl.ofOwn (kk2.own HT.out.own (fun _ _ h => h)))
          have K2 : Hid (Keeps No w w2) := hid (HT.out.keep.trans kk2)
          have hw2 : w2.heap.size = w2.heap.size := rfl
          clear ho2 k2 f2 kk2 hbx hX hfl hw2 hgf
          rcases (show kk % 4 = 0 ∨ kk % 4 = 1 ∨ kk % 4 = 2 ∨ kk % 4 = 3 by omega) with h4 | h4 | h4 | h4
          · go_wp2_with fail
            refine (mjoin_any HQ2.out (q := X) (by unfold SlB; rw [HFL.out]; exact Sl.ofOwn HO2.out) (by have := HFL.out; omega)).mono ?_
            rintro e w3 ⟨v4, rfl, ho3, k3, f3⟩
            obtain ⟨R, hR⟩ : ∃ R, q ++ X = R := ⟨_, rfl⟩
            have hRl : R.length = q.length + X.length := by rw [← hR, List.length_append]
            have ho3' : w3.ownsRow 0 5 1 v4 R.length (R.map (Value.int .u8)) := by rw [hRl, ← hR]; exact ho3
            obtain ⟨a4, c4, rfl⟩ := own_any ho3'
            have HE : Hid (StL w w3 R (k + 1) (.slice a4 R.length c4)) := hid ⟨ho3', hR ▸ HT.out.byt.append HFB.out, by rw [hRl]; have := HFL.out; omega, K2.out.trans k3, Fresh.behind f3 K2.out.size⟩
            clear ho3 ho3' k3 f3 hR hRl
            go_wp2_with fail
            go_roundw
            case rel => exact ⟨k + 1, by omega, by go_num, R, HE⟩
            case measure => simp [intOf]; omega
          · go_wp2_with fail
            refine (mjoin_any HQ2.out (q := P) (by unfold SlB; rw [HPL.out]; exact HP2.out) (by omega)).mono ?_
            rintro e w3 ⟨v4, rfl, ho3, k3, f3⟩
            obtain ⟨R, hR⟩ : ∃ R, q ++ P = R := ⟨_, rfl⟩
            have hRl : R.length = q.length + P.length := by rw [← hR, List.length_append]
            have ho3' : w3.ownsRow 0 5 1 v4 R.length (R.map (Value.int .u8)) := by rw [hRl, ← hR]; exact ho3
            obtain ⟨a4, c4, rfl⟩ := own_any ho3'
            have HE : Hid (StL w w3 R (k + 1) (.slice a4 R.length c4)) := hid ⟨ho3', hR ▸ HT.out.byt.append HBP.out, by rw [hRl]; have := HPL.out; omega, K2.out.trans k3, Fresh.behind f3 K2.out.size⟩
            clear ho3 ho3' k3 f3 hR hRl
            go_wp2_with fail
            go_roundw
            case rel => exact ⟨k + 1, by omega, by go_num, R, HE⟩
            case measure => simp [intOf]; omega
          · obtain ⟨j, hj, hjl⟩ : ∃ j : Nat, aa % (fl : Int) = (j : Int) ∧ j < fl := ⟨(aa % (fl : Int)).toNat, by have := Int.emod_nonneg aa (show (fl : Int) ≠ 0 by omega); omega, by have := Int.emod_nonneg aa (show (fl : Int) ≠ 0 by omega); have := Int.emod_lt_of_pos aa (show 0 < (fl : Int) by omega); omega⟩
            have hjx : j < X.length := by have := HFL.out; omega
            obtain ⟨gf, rfl⟩ : ∃ gf, a2 = some ⟨gf, 0, none⟩ := by
              obtain ⟨gf, cf, e⟩ := own_some HO2.out (by omega)
              simp only [Value.slice.injEq] at e
              exact ⟨gf, e.1⟩
            obtain ⟨_, _, eg, _, cj⟩ := SlB.cellAt (p := X) (ao := some ⟨gf, 0, none⟩) (cap := c2) (by unfold SlB; rw [HFL.out]; exact Sl.ofOwn HO2.out) hjx
            simp only [Option.some.injEq, Addr.mk.injEq, and_true] at eg
            obtain ⟨rfl, rfl⟩ := eg
            have hfz : w2.frozen? ⟨gf, 0 + j, none⟩ = false := by
              rcases HO2.out.2 with ⟨h, _⟩ | ⟨g', cap', cur, hv, _, hgg, _⟩
              · cases h
              · simp only [Value.slice.injEq, Option.some.injEq, Addr.mk.injEq, and_true] at hv
                obtain ⟨rfl, _⟩ := hv
                exact free_at hgg
            obtain ⟨x, hx⟩ : ∃ x, X[j] = x := ⟨_, rfl⟩
            have hxb := HFB.out X[j] (List.getElem_mem hjx)
            rw [hx] at cj hxb
            rw [Nat.zero_add] at cj hfz
            have hxor : bits .xor .u8 x tt = xb x tt := u8_xor x tt hxb.1 (by omega) HT1.out.1 (by have := HT1.out.2; omega)
            have HXB := hid (xb_byte hxb HT1.out)
            have hgx : gf ≠ wr.heap.size := fun e => by
              have := HGF.out gf rfl
              omega
            clear hx
            have HO3 : Hid ((w2.setCell ⟨gf, j, none⟩ (.int .u8 (xb x tt))).drew.ownsRow 0 5 1 (.slice (some ⟨gf, 0, none⟩) fl c2) fl ((X.set j (xb x tt)).map (Value.int .u8))) := hid (by rw [List.map_set]; exact (HO2.out.stored j _).1)
            have kg : Keeps (fun k => k = gf) w2 (w2.setCell ⟨gf, j, none⟩ (.int .u8 (xb x tt))).drew := ((Keeps.refl (fun k => k = gf) w2).setCell (p := ⟨gf, j, none⟩) (Or.inr rfl) _).drew
            have HQ3 := hid (HQ2.out.keep kg (fun b hb e => by
              have h1 := own_lt HT.out.own b hb
              have h2 := HGF.out gf rfl
              omega))
            have K3 := hid (K2.out.trans' kg (T := No) (fun _ _ h => h) (fun i hi e => by
              have h1 := HT.out.keep.size
              have h2 := HGF.out gf rfl
              omega))
            obtain ⟨Y, hY⟩ : ∃ Y, X.set j (xb x tt) = Y := ⟨_, rfl⟩
            have HYB : Hid (Bytes Y) := hid (hY ▸ HFB.out.set j HXB.out)
            have HYL : Hid (Y.length = fl) := hid (by rw [← hY, List.length_set]; exact HFL.out)
            rw [hY] at HO3
            clear hY kg
            go_wp2_with fail
            go_region
            go_wp2_with fail
            refine (mjoin_any HQ3.out (q := Y) (by unfold SlB; rw [HYL.out]; exact Sl.ofOwn HO3.out) (by have := HYL.out; omega)).mono ?_
            rintro e w3 ⟨v4, rfl, ho3, k3, f3⟩
            obtain ⟨R, hR⟩ : ∃ R, q ++ Y = R := ⟨_, rfl⟩
            have hRl : R.length = q.length + Y.length := by rw [← hR, List.length_append]
            have ho3' : w3.ownsRow 0 5 1 v4 R.length (R.map (Value.int .u8)) := by rw [hRl, ← hR]; exact ho3
            obtain ⟨a4, c4, rfl⟩ := own_any ho3'
            have HE : Hid (StL w w3 R (k + 1) (.slice a4 R.length c4)) := hid ⟨ho3', hR ▸ HT.out.byt.append HYB.out, by rw [hRl]; have := HYL.out; omega, K3.out.trans k3, Fresh.behind f3 K3.out.size⟩
            clear ho3 ho3' k3 f3 hR hRl
            go_wp2_with fail
            go_roundw
            case rel => exact ⟨k + 1, by omega, by go_num, R, HE⟩
            case measure => simp [intOf]; omega
          · obtain ⟨j, hj, hjl⟩ : ∃ j : Nat, aa % ((fl : Int) + 1) = (j : Int) ∧ j ≤ fl := ⟨(aa % ((fl : Int) + 1)).toNat, by have := Int.emod_nonneg aa (show (fl : Int) + 1 ≠ 0 by omega); omega, by have := Int.emod_nonneg aa (show (fl : Int) + 1 ≠ 0 by omega); have := Int.emod_lt_of_pos aa (show 0 < (fl : Int) + 1 by omega); omega⟩
            have hjc : j ≤ c2 := by omega
            have HX2 : Hid (SlB w2 (.slice a2 j c2) (X.take j)) := hid (SlB.frontN (by unfold SlB; rw [HFL.out]; exact Sl.ofOwn HO2.out) (by have := HFL.out; omega))
            obtain ⟨Y, hY⟩ : ∃ Y, X.take j = Y := ⟨_, rfl⟩
            have HYB : Hid (Bytes Y) := hid (hY ▸ HFB.out.take j)
            have HYL : Hid (Y.length = j) := hid (by rw [← hY, List.length_take]; have := HFL.out; omega)
            rw [hY] at HX2
            clear hY
            go_wp2_with fail
            refine (mjoin_any HQ2.out (q := Y) (by have h := HX2.out; unfold SlB at h ⊢; rw [HYL.out] at h ⊢; exact h) (by have := HYL.out; omega)).mono ?_
            rintro e w3 ⟨v4, rfl, ho3, k3, f3⟩
            obtain ⟨R, hR⟩ : ∃ R, q ++ Y = R := ⟨_, rfl⟩
            have hRl : R.length = q.length + Y.length := by rw [← hR, List.length_append]
            have ho3' : w3.ownsRow 0 5 1 v4 R.length (R.map (Value.int .u8)) := by rw [hRl, ← hR]; exact ho3
            obtain ⟨a4, c4, rfl⟩ := own_any ho3'
            have HE : Hid (StL w w3 R (k + 1) (.slice a4 R.length c4)) := hid ⟨ho3', hR ▸ HT.out.byt.append HYB.out, by rw [hRl]; have := HYL.out; omega, K2.out.trans k3, Fresh.behind f3 K2.out.size⟩
            clear ho3 ho3' k3 f3 hR hRl
            go_wp2_with fail
            go_roundw
            case rel => exact ⟨k + 1, by omega, by go_num, R, HE⟩
            case measure => simp [intOf]; omega
    · go_wp2_with fail
      go_ret
      have ek : k = l.length := by omega
      subst ek
      exact ⟨q, _, rfl, HT⟩

end Go.Proofs.Ythfjihpfcollfaa
