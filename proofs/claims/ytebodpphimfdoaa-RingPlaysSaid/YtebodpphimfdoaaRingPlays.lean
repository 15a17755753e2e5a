/- Whatever is done with a ring, it answers as the document says, and holds what the document says. No conditions. -/
import Derived.Test.YtebodpphimfdoaaRows
import Derived.Test.YtebodpphimfdoaaArgs
import Derived.Test.YtebodpphimfdoaaRing8
import Derived.ProofKit
import Derived.OpenShut
import Derived.Deep.DeepCutAuto
import Derived.Deep.CutBlock
namespace Go.Proofs.Ytebodpphimfdoaa.ringPlays
open Go.ChangeShapes Go.WideShapes Go.ChangeAt Go.RowKit
open Go.ChangeMaps (open_string shut_string)
set_option linter.unusedVariables false

/-- The ring at rb and the document's ring, in the variable at mb, hold one list. -/
structure Both (w wr : World) (rb mb room : Nat) (L : List Int) (F : Nat → Prop) (mv : Value) : Prop where
  ring : RingI wr rb F room L
  var : wr.heap[mb]? = some (.cells #[.int .i64 room, mv] 28 (0, 0))
  sl : SlI wr mv L
  sep : ∀ b, mv.ownBlock = some b → ¬ F b ∧ b ≠ mb ∧ b < wr.heap.size
  out : ¬ F mb
  new : w.heap.size ≤ mb
  own : ∀ i, F i → w.heap.size ≤ i
  old : Keeps No w wr

theorem Both.calm {w wr w4 : World} {rb mb room : Nat} {L : List Int} {F : Nat → Prop} {mv : Value} (h : Both w wr rb mb room L F mv) (hk : Keeps No wr w4) : Both w w4 rb mb room L F mv :=
  ⟨RingG.keep h.ring hk (fun _ _ h => h), hk.heap (fun h => h) h.var, h.sl.keep hk (fun _ _ h => h), fun b hb => ⟨(h.sep b hb).1, (h.sep b hb).2.1, Nat.lt_of_lt_of_le (h.sep b hb).2.2 hk.size⟩, h.out, h.new, h.own, h.old.trans hk⟩

theorem Both.mid {w wr w4 : World} {rb mb room : Nat} {L : List Int} {F : Nat → Prop} {mv : Value} (h : Both w wr rb mb room L F mv) (hk4 : Keeps (fun k => k = mb) wr w4) : RingI w4 rb F room L :=
  RingG.keep h.ring hk4 (fun i hi e => h.out (e ▸ hi))

theorem Both.step {w wr w4 w5 : World} {rb mb room : Nat} {L L' : List Int} {F F5 : Nat → Prop} {mv mv' : Value} (h : Both w wr rb mb room L F mv) (hk4 : Keeps (fun k => k = mb) wr w4)
    (hv4 : w4.heap[mb]? = some (.cells #[.int .i64 room, mv'] 28 (0, 0))) (hs4 : SlI w4 mv' L') (hb : ∀ b, mv'.ownBlock = some b → b < w4.heap.size ∧ (mv.ownBlock = some b ∨ (wr.heap.size ≤ b)))
    (hu : Upd F w4 w5 F5) (hr : RingI w5 rb F5 room L') : Both w w5 rb mb room L' F5 mv' := by
  have hmb : mb < wr.heap.size := lt_of_block h.var
  have hFlt := RingG.lt h.ring
  have hsz := hk4.size
  have hnF : ∀ b, mv'.ownBlock = some b → ¬ F b := fun b hb' => by
    rcases (hb b hb').2 with h' | h'
    · exact (h.sep b h').1
    · intro hf; have := hFlt b hf; omega
  refine ⟨hr, hu.keeps.heap h.out hv4, hs4.keep hu.keeps hnF, fun b hb' => ⟨?_, ?_, ?_⟩, ?_, h.new, ?_, ?_⟩
  · exact hu.out (hb b hb').1 (hnF b hb')
  · rcases (hb b hb').2 with h' | h'
    · exact (h.sep b h').2.1
    · omega
  · exact Nat.lt_of_lt_of_le (hb b hb').1 hu.keeps.size
  · exact hu.out (by omega) h.out
  · exact fun i hi => by
      have hz := h.old.size
      rcases hu.fresh i hi with h' | h'
      · exact h.own i h'
      · omega
  · refine (h.old.trans' hk4 (fun _ _ h => h) (fun i hi e => ?_)).trans' hu.keeps (fun _ _ h => h) (fun i hi hf => ?_)
    · have := h.new; omega
    · have := h.own i hf; omega

/-- An act's cells. -/
def encAct (y : Int × Int) : List Value := [.int .u8 y.1, .int .i64 y.2]
def goodAct (y : Int × Int) : Prop := 0 ≤ y.1 ∧ y.1 ≤ 255

set_option maxRecDepth 100000 in
theorem decAct {H : Type} {enc : TypeId × Value → H} {W : World} {n : Nat} {cs : List Value} {x} (h : DataW.trod enc Try.prog W 0 (fun _ => true) true n 31 cs = some x) : ∃ y : Int × Int, cs = encAct y ∧ goodAct y := by
  obtain ⟨y0, y1, m, _, hl, h0, h1⟩ := trod_struct2 Try.underlying31 h
  rw [show Try.prog.cellsOf 31 = 2 by kernel_rfl] at hl
  match cs, hl with
  | [c0, c1], _ =>
    dsimp only at h0 h1
    rw [show Try.prog.cellsOf 5 = 1 by kernel_rfl] at h0
    rw [show Try.prog.cellsOf 3 = 1 by kernel_rfl] at h1
    obtain ⟨a, e0, _, w0⟩ := DataW.trod_int Try.underlying5 h0
    obtain ⟨b, e1, _, w1⟩ := DataW.trod_int Try.underlying3 h1
    simp at e0 e1
    obtain ⟨h0, h1⟩ := bounds_u8 w0
    exact ⟨(a, b), by simp [e0, e1, encAct], h0, h1⟩

set_option maxHeartbeats 20000000 in
set_option maxRecDepth 100000 in
theorem walk (w : World) (n : Int) (wn : (Lit.int .i64 n).wf = true) (s : Option Addr) (cap : Nat) (l : List (Int × Int)) (hs : Sl w 2 (.slice s l.length cap) l.length (l.flatMap encAct)) (hb : ∀ y ∈ l, goodAct y) :
    Calls Try.prog 3 #[.int .i64 n, .slice s l.length cap] w fun e w' => e = .returned (.bool true) ∧ Below w.heap.size w w' := by
  have HS := hid hs
  have HG := hid hb
  clear hs hb wn
  by_cases hl : 100 < l.length
  · have hd : decide ((100 : Int) < l.length) = true := by simp; omega
    go_enter Try.func3, Try.ntmps3
    go_wp2_with fail
    refine (fits_true _).mono ?_
    rintro e w1 ⟨rfl, k1⟩
    have K1 := hid k1
    clear k1
    go_wp2_with fail
    refine (fits_true _).mono ?_
    rintro e w2 ⟨rfl, k2⟩
    have K2 := hid k2
    clear k2
    go_wp2_with fail
    go_ret
    exact ⟨rfl, (K1.out.trans K2.out).toBelow⟩
  · have hd : decide ((100 : Int) < l.length) = false := by simp; omega
    go_enter Try.func3, Try.ntmps3
    go_wp2_with fail
    refine (fits_true _).mono ?_
    rintro e w1 ⟨rfl, k1⟩
    have K1 := hid k1
    clear k1
    go_wp2_with fail
    refine (inew_any _ _).mono ?_
    rintro e w2 ⟨rfl, h2, k2⟩
    have hrl := roomOf_le n
    obtain ⟨room, hroom⟩ : ∃ room, roomOf n = room := ⟨_, rfl⟩
    rw [hroom] at h2 hrl
    have HRM := hid hroom
    have H2 := hid h2
    have K2 := hid (K1.out.trans k2)
    obtain ⟨rb, hrb⟩ : ∃ rb, rb = w1.heap.size := ⟨_, rfl⟩
    have hrw : w.heap.size ≤ rb := by rw [hrb]; exact K1.out.size
    rw [← hrb] at H2 ⊢
    clear h2 k2 hrb hroom
    go_wp2_with fail
    refine (mnew_any _ _).mono ?_
    rintro e w3 ⟨rfl, k3⟩
    rw [HRM.out]
    have H3 := hid (RingG.keep H2.out k3 (fun _ _ h => h))
    have K3 := hid (K2.out.trans k3)
    clear k3 H2 K2
    go_wp2_with fail
    obtain ⟨mb, hmb⟩ : ∃ mb, mb = w3.heap.size := ⟨_, rfl⟩
    obtain ⟨w5, hw5⟩ : ∃ w5, w5 = w3.alloc (.cells #[.int .i64 room, .slice none 0 0] 28) := ⟨_, rfl⟩
    rw [← hmb, ← hw5]
    have h5 : Both w w5 rb mb room [] (fun k => k = rb) (.slice none 0 0) := by
      have hlt := RingG.lt H3.out rb rfl
      refine ⟨RingG.keep H3.out (by rw [hw5]; exact (Keeps.refl No _).alloc _) (fun _ _ h => h), by rw [hw5, hmb]; exact heap_alloc_new _ _, Sl.nil _ _, by simp [Value.ownBlock], fun e => by omega, by rw [hmb]; exact K3.out.size, fun i hi => by omega, by rw [hw5]; exact K3.out.alloc _⟩
    have H5 := hid h5
    clear h5 hw5 hmb H3 K3
    go_loopw [7] (fun v7 wr => ∃ (k : Nat) (L : List Int) (F : Nat → Prop) (mv : Value), k ≤ l.length ∧ v7 = .int .i64 k ∧ Hid (Both w wr rb mb room L F mv)) (fun v7 _ => l.length - (intOf v7).toNat)
    case atStart => exact ⟨0, _, _, _, Nat.zero_le _, rfl, H5⟩
    case round =>
      obtain ⟨k, L, F, mv, hk, rfl, HB⟩ := hrel
      clear H5
      obtain ⟨ao, mcap, rfl⟩ := Sl.any HB.out.sl
      have m0 := cell_at (i := 0) HB.out.var rfl
      have m1 := cell_at (i := 1) HB.out.var rfl
      have q0 := free_at (i := 0) HB.out.var
      have q1 := free_at (i := 1) HB.out.var
      have hcn := RingG.cnt HB.out.ring
      obtain ⟨hcn1, hcn2⟩ := hcn
      by_cases hlt : k < l.length
      · obtain ⟨d, x, hy⟩ : ∃ d x, l[k] = (d, x) := ⟨_, _, rfl⟩
        have hgd := HG.out l[k] (List.getElem_mem hlt)
        rw [hy] at hgd
        obtain ⟨hd0, hd1⟩ := hgd
        obtain ⟨dn, rfl⟩ := Int.eq_ofNat_of_zero_le hd0
        have hcell0 := Sl.cellAt (HS.out.keep HB.out.old (fun _ _ h => h)) (j := k * 2 + 0) (u := .int .u8 dn) (by rw [getElem?_flatMap_enc (size := 2) (fun _ => rfl) l k 0 (by omega) hlt, hy]; rfl)
        have hcell1 := Sl.cellAt (HS.out.keep HB.out.old (fun _ _ h => h)) (j := k * 2 + 1) (u := .int .i64 x) (by rw [getElem?_flatMap_enc (size := 2) (fun _ => rfl) l k 1 (by omega) hlt, hy]; rfl)
        obtain ⟨g, off, rfl, _, hc0⟩ := hcell0
        obtain ⟨g', off', he, _, hc1⟩ := hcell1
        simp only [Option.some.injEq, Addr.mk.injEq, and_true] at he
        obtain ⟨rfl, rfl⟩ := he
        simp only [Nat.add_zero] at hc0
        rw [← Nat.add_assoc] at hc1
        clear hy hd0
        go_upto_block 2 with (fail)
        go_cut [8] (fun s8 wx => ∃ (L' : List Int) (F' : Nat → Prop) (mv' : Value), Hid (Both w wx rb mb room L' F' mv'))
        case first =>
          have hdn : (dn : Int) % 4 = 0 ∨ (dn : Int) % 4 = 1 ∨ (dn : Int) % 4 = 2 ∨ (dn : Int) % 4 = 3 := by omega
          have hsep := hid HB.out.sep
          have hmbl : mb < wr.heap.size := lt_of_block HB.out.var
          rcases hdn with hdn | hdn | hdn | hdn
          · have e0 : ((dn : Int) % 4 == 0) = true := by rw [hdn]; rfl
            clear hdn
            by_cases hc : L.length < room
            · go_wp2_with fail
              refine (mpush_ok HB.out.sl hc hcn2 x).mono ?_
              rintro e w6 ⟨lv', rfl, hs6, hk0, hb6⟩
              obtain ⟨ao6, c6, rfl⟩ := hs6.any
              have HS6 := hid hs6
              have HS6B : Hid (∀ b, (Value.slice ao6 _ c6).ownBlock = some b → b < w6.heap.size ∧ b ≠ mb ∧ ((Value.slice ao L.length mcap).ownBlock = some b ∨ wr.heap.size ≤ b)) := hid (fun b hb => by have h1 := hs6.lt (by simp) b hb; have h2 := hb6 b hb; exact ⟨h1, by omega, Or.inr h2⟩)
              clear hs6 hb6
              have hk6 : Keeps (fun k => k = mb) wr w6 := hk0.mono (fun _ _ h => h.elim)
              have h6m := hk0.heap (fun h => h) HB.out.var
              have HM6 := hid h6m
              have HK6 := hid hk6
              have n0 := cell_at (i := 0) h6m rfl
              have n1 := cell_at (i := 1) h6m rfl
              have p0 := free_at (i := 0) h6m
              have p1 := free_at (i := 1) h6m
              have hml : mb < w6.heap.size := lt_of_block h6m
              clear h6m hk6 hk0 m0 m1 q0 q1
              go_wp2_with fail
              have hk6 := HK6.out
              refine (ipush_ok (Both.mid HB.out (by repeat' (first | with_reducible exact Keeps.refl _ _ | with_reducible exact hk6 | with_reducible refine Keeps.drewN ?_ _ | with_reducible refine Keeps.drew ?_ | with_reducible refine Keeps.alloc ?_ _ | with_reducible refine Keeps.setCell ?_ ?_ _ | exact Or.inr rfl))) hc x).mono ?_
              rintro e w7 ⟨rfl, F7, h7, u7⟩
              have HB7 := hid (Both.step HB.out (by repeat' (first | with_reducible exact Keeps.refl _ _ | with_reducible exact hk6 | with_reducible refine Keeps.drewN ?_ _ | with_reducible refine Keeps.drew ?_ | with_reducible refine Keeps.alloc ?_ _ | with_reducible refine Keeps.setCell ?_ ?_ _ | exact Or.inr rfl)) (by first | (rw [Below.heap_alloc _ _ _ (by simpa using hml)]; simp [World.setCell, Array.getElem?_modify, HM6.out]) | simp [World.setCell, Array.getElem?_modify, heapA _ HM6.out]) (HS6.out.keep (S := fun k => k = mb) (by first | with_reducible exact Keeps.refl _ _ | (repeat' (first | with_reducible exact Keeps.refl _ _ | with_reducible refine Keeps.drewN ?_ _ | with_reducible refine Keeps.drew ?_ | with_reducible refine Keeps.alloc ?_ _ | with_reducible refine Keeps.setCell ?_ ?_ _ | exact Or.inr rfl))) (fun b hb => (HS6B.out b hb).2.1)) (fun b hb => ⟨by have := (HS6B.out b hb).1; simp; omega, (HS6B.out b hb).2.2⟩) u7 h7)
              clear u7 h7 hk6
              go_wp2_with fail
              go_meet
              exact ⟨_, _, _, HB7⟩
            · have hc' : L.length = room := by omega
              have HC := hid hc'
              clear hc'
              go_wp2_with fail
              refine (mpush_full HB.out.sl HC.out x).mono ?_
              rintro e w6 ⟨rfl, hk0⟩
              have HS6 := hid (HB.out.sl.keep hk0 (fun _ _ h => h))
              have HS6B : Hid (∀ b, (Value.slice ao L.length mcap).ownBlock = some b → b < w6.heap.size ∧ b ≠ mb ∧ ((Value.slice ao L.length mcap).ownBlock = some b ∨ wr.heap.size ≤ b)) := hid (fun b hb => ⟨Nat.lt_of_lt_of_le (hsep.out b hb).2.2 hk0.size, (hsep.out b hb).2.1, Or.inl hb⟩)
              have hk6 : Keeps (fun k => k = mb) wr w6 := hk0.mono (fun _ _ h => h.elim)
              have h6m := hk0.heap (fun h => h) HB.out.var
              have HM6 := hid h6m
              have HK6 := hid hk6
              have n0 := cell_at (i := 0) h6m rfl
              have n1 := cell_at (i := 1) h6m rfl
              have p0 := free_at (i := 0) h6m
              have p1 := free_at (i := 1) h6m
              have hml : mb < w6.heap.size := lt_of_block h6m
              clear h6m hk6 hk0 m0 m1 q0 q1
              go_wp2_with fail
              have hk6 := HK6.out
              refine (ipush_full (Both.mid HB.out (by repeat' (first | with_reducible exact Keeps.refl _ _ | with_reducible exact hk6 | with_reducible refine Keeps.drewN ?_ _ | with_reducible refine Keeps.drew ?_ | with_reducible refine Keeps.alloc ?_ _ | with_reducible refine Keeps.setCell ?_ ?_ _ | exact Or.inr rfl))) HC.out x).mono ?_
              rintro e w7 ⟨rfl, rfl⟩
              clear hk6
              go_wp2_with fail
              go_meet
              have hk6 := HK6.out
              exact ⟨_, _, _, hid (Both.step HB.out (by repeat' (first | with_reducible exact Keeps.refl _ _ | with_reducible exact hk6 | with_reducible refine Keeps.drewN ?_ _ | with_reducible refine Keeps.drew ?_ | with_reducible refine Keeps.alloc ?_ _ | with_reducible refine Keeps.setCell ?_ ?_ _ | exact Or.inr rfl)) (by first | (rw [Below.heap_alloc _ _ _ (by simpa using hml)]; simp [World.setCell, Array.getElem?_modify, HM6.out]) | simp [World.setCell, Array.getElem?_modify, heapA _ HM6.out]) (HS6.out.keep (S := fun k => k = mb) (by first | with_reducible exact Keeps.refl _ _ | (repeat' (first | with_reducible exact Keeps.refl _ _ | with_reducible refine Keeps.drewN ?_ _ | with_reducible refine Keeps.drew ?_ | with_reducible refine Keeps.alloc ?_ _ | with_reducible refine Keeps.setCell ?_ ?_ _ | exact Or.inr rfl))) (fun b hb => (HS6B.out b hb).2.1)) (fun b hb => ⟨by have := (HS6B.out b hb).1; simp; omega, (HS6B.out b hb).2.2⟩) (Upd.refl _ _) (Both.mid HB.out (by repeat' (first | with_reducible exact Keeps.refl _ _ | with_reducible exact hk6 | with_reducible refine Keeps.drewN ?_ _ | with_reducible refine Keeps.drew ?_ | with_reducible refine Keeps.alloc ?_ _ | with_reducible refine Keeps.setCell ?_ ?_ _ | exact Or.inr rfl))))⟩
          · have e0 : ((dn : Int) % 4 == 0) = false := by rw [hdn]; rfl
            have e1 : ((dn : Int) % 4 == 1) = true := by rw [hdn]; rfl
            clear hdn
            rcases L with _ | ⟨y, t⟩
            · go_wp2_with fail
              refine (mpop_none HB.out.sl).mono ?_
              rintro e w6 ⟨rfl, hk0⟩
              have HS6 := hid (HB.out.sl.keep hk0 (fun _ _ h => h))
              have HS6B : Hid (∀ b, (Value.slice ao ([] : List Int).length mcap).ownBlock = some b → b < w6.heap.size ∧ b ≠ mb ∧ ((Value.slice ao ([] : List Int).length mcap).ownBlock = some b ∨ wr.heap.size ≤ b)) := hid (fun b hb => ⟨Nat.lt_of_lt_of_le (hsep.out b hb).2.2 hk0.size, (hsep.out b hb).2.1, Or.inl hb⟩)
              have hk6 : Keeps (fun k => k = mb) wr w6 := hk0.mono (fun _ _ h => h.elim)
              have h6m := hk0.heap (fun h => h) HB.out.var
              have HM6 := hid h6m
              have HK6 := hid hk6
              have n0 := cell_at (i := 0) h6m rfl
              have n1 := cell_at (i := 1) h6m rfl
              have p0 := free_at (i := 0) h6m
              have p1 := free_at (i := 1) h6m
              have hml : mb < w6.heap.size := lt_of_block h6m
              clear h6m hk6 hk0 m0 m1 q0 q1
              go_wp2_with fail
              have hk6 := HK6.out
              refine (ipop_none (Both.mid HB.out (by repeat' (first | with_reducible exact Keeps.refl _ _ | with_reducible exact hk6 | with_reducible refine Keeps.drewN ?_ _ | with_reducible refine Keeps.drew ?_ | with_reducible refine Keeps.alloc ?_ _ | with_reducible refine Keeps.setCell ?_ ?_ _ | exact Or.inr rfl)))).mono ?_
              rintro e w7 ⟨rfl, rfl⟩
              clear hk6
              go_wp2_with fail
              go_meet
              have hk6 := HK6.out
              exact ⟨_, _, _, hid (Both.step HB.out (by repeat' (first | with_reducible exact Keeps.refl _ _ | with_reducible exact hk6 | with_reducible refine Keeps.drewN ?_ _ | with_reducible refine Keeps.drew ?_ | with_reducible refine Keeps.alloc ?_ _ | with_reducible refine Keeps.setCell ?_ ?_ _ | exact Or.inr rfl)) (by first | (rw [Below.heap_alloc _ _ _ (by simpa using hml)]; simp [World.setCell, Array.getElem?_modify, HM6.out]) | simp [World.setCell, Array.getElem?_modify, heapA _ HM6.out]) (HS6.out.keep (S := fun k => k = mb) (by first | with_reducible exact Keeps.refl _ _ | (repeat' (first | with_reducible exact Keeps.refl _ _ | with_reducible refine Keeps.drewN ?_ _ | with_reducible refine Keeps.drew ?_ | with_reducible refine Keeps.alloc ?_ _ | with_reducible refine Keeps.setCell ?_ ?_ _ | exact Or.inr rfl))) (fun b hb => (HS6B.out b hb).2.1)) (fun b hb => ⟨by have := (HS6B.out b hb).1; simp; omega, (HS6B.out b hb).2.2⟩) (Upd.refl _ _) (Both.mid HB.out (by repeat' (first | with_reducible exact Keeps.refl _ _ | with_reducible exact hk6 | with_reducible refine Keeps.drewN ?_ _ | with_reducible refine Keeps.drew ?_ | with_reducible refine Keeps.alloc ?_ _ | with_reducible refine Keeps.setCell ?_ ?_ _ | exact Or.inr rfl))))⟩
            · go_wp2_with fail
              refine (mpop_ok HB.out.sl).mono ?_
              rintro e w6 ⟨lv', rfl, hs6, hob, hk0⟩
              obtain ⟨ao6, c6, rfl⟩ := hs6.any
              have HS6 := hid (hs6.keep hk0 (fun _ _ h => h))
              have HS6B : Hid (∀ b, (Value.slice ao6 t.length c6).ownBlock = some b → b < w6.heap.size ∧ b ≠ mb ∧ ((Value.slice ao (y :: t).length mcap).ownBlock = some b ∨ wr.heap.size ≤ b)) := hid (fun b hb => by rw [hob] at hb; exact ⟨Nat.lt_of_lt_of_le (hsep.out b hb).2.2 hk0.size, (hsep.out b hb).2.1, Or.inl hb⟩)
              clear hs6 hob
              have hk6 : Keeps (fun k => k = mb) wr w6 := hk0.mono (fun _ _ h => h.elim)
              have h6m := hk0.heap (fun h => h) HB.out.var
              have HM6 := hid h6m
              have HK6 := hid hk6
              have n0 := cell_at (i := 0) h6m rfl
              have n1 := cell_at (i := 1) h6m rfl
              have p0 := free_at (i := 0) h6m
              have p1 := free_at (i := 1) h6m
              have hml : mb < w6.heap.size := lt_of_block h6m
              clear h6m hk6 hk0 m0 m1 q0 q1
              go_wp2_with fail
              have hk6 := HK6.out
              refine (ipop_ok (Both.mid HB.out (by repeat' (first | with_reducible exact Keeps.refl _ _ | with_reducible exact hk6 | with_reducible refine Keeps.drewN ?_ _ | with_reducible refine Keeps.drew ?_ | with_reducible refine Keeps.alloc ?_ _ | with_reducible refine Keeps.setCell ?_ ?_ _ | exact Or.inr rfl)))).mono ?_
              rintro e w7 ⟨rfl, F7, h7, u7⟩
              have HB7 := hid (Both.step HB.out (by repeat' (first | with_reducible exact Keeps.refl _ _ | with_reducible exact hk6 | with_reducible refine Keeps.drewN ?_ _ | with_reducible refine Keeps.drew ?_ | with_reducible refine Keeps.alloc ?_ _ | with_reducible refine Keeps.setCell ?_ ?_ _ | exact Or.inr rfl)) (by first | (rw [Below.heap_alloc _ _ _ (by simpa using hml)]; simp [World.setCell, Array.getElem?_modify, HM6.out]) | simp [World.setCell, Array.getElem?_modify, heapA _ HM6.out]) (HS6.out.keep (S := fun k => k = mb) (by first | with_reducible exact Keeps.refl _ _ | (repeat' (first | with_reducible exact Keeps.refl _ _ | with_reducible refine Keeps.drewN ?_ _ | with_reducible refine Keeps.drew ?_ | with_reducible refine Keeps.alloc ?_ _ | with_reducible refine Keeps.setCell ?_ ?_ _ | exact Or.inr rfl))) (fun b hb => (HS6B.out b hb).2.1)) (fun b hb => ⟨by have := (HS6B.out b hb).1; simp; omega, (HS6B.out b hb).2.2⟩) u7 h7)
              clear u7 h7 hk6
              go_wp2_with fail
              go_meet
              exact ⟨_, _, _, HB7⟩
          · have e0 : ((dn : Int) % 4 == 0) = false := by rw [hdn]; rfl
            have e1 : ((dn : Int) % 4 == 1) = false := by rw [hdn]; rfl
            have e2 : ((dn : Int) % 4 == 2) = true := by rw [hdn]; rfl
            clear hdn
            by_cases hz : room = 0
            · subst hz
              go_wp2_with fail
              refine (mforce_zero HB.out.sl x).mono ?_
              rintro e w6 ⟨rfl, hk0⟩
              have HS6 := hid (HB.out.sl.keep hk0 (fun _ _ h => h))
              have HS6B : Hid (∀ b, (Value.slice ao L.length mcap).ownBlock = some b → b < w6.heap.size ∧ b ≠ mb ∧ ((Value.slice ao L.length mcap).ownBlock = some b ∨ wr.heap.size ≤ b)) := hid (fun b hb => ⟨Nat.lt_of_lt_of_le (hsep.out b hb).2.2 hk0.size, (hsep.out b hb).2.1, Or.inl hb⟩)
              have hk6 : Keeps (fun k => k = mb) wr w6 := hk0.mono (fun _ _ h => h.elim)
              have h6m := hk0.heap (fun h => h) HB.out.var
              have HM6 := hid h6m
              have HK6 := hid hk6
              have n0 := cell_at (i := 0) h6m rfl
              have n1 := cell_at (i := 1) h6m rfl
              have p0 := free_at (i := 0) h6m
              have p1 := free_at (i := 1) h6m
              have hml : mb < w6.heap.size := lt_of_block h6m
              clear h6m hk6 hk0 m0 m1 q0 q1
              go_wp2_with fail
              have hk6 := HK6.out
              refine (iforce_zero (Both.mid HB.out (by repeat' (first | with_reducible exact Keeps.refl _ _ | with_reducible exact hk6 | with_reducible refine Keeps.drewN ?_ _ | with_reducible refine Keeps.drew ?_ | with_reducible refine Keeps.alloc ?_ _ | with_reducible refine Keeps.setCell ?_ ?_ _ | exact Or.inr rfl))) x).mono ?_
              rintro e w7 ⟨rfl, rfl⟩
              clear hk6
              go_wp2_with fail
              go_meet
              have hk6 := HK6.out
              exact ⟨_, _, _, hid (Both.step HB.out (by repeat' (first | with_reducible exact Keeps.refl _ _ | with_reducible exact hk6 | with_reducible refine Keeps.drewN ?_ _ | with_reducible refine Keeps.drew ?_ | with_reducible refine Keeps.alloc ?_ _ | with_reducible refine Keeps.setCell ?_ ?_ _ | exact Or.inr rfl)) (by first | (rw [Below.heap_alloc _ _ _ (by simpa using hml)]; simp [World.setCell, Array.getElem?_modify, HM6.out]) | simp [World.setCell, Array.getElem?_modify, heapA _ HM6.out]) (HS6.out.keep (S := fun k => k = mb) (by first | with_reducible exact Keeps.refl _ _ | (repeat' (first | with_reducible exact Keeps.refl _ _ | with_reducible refine Keeps.drewN ?_ _ | with_reducible refine Keeps.drew ?_ | with_reducible refine Keeps.alloc ?_ _ | with_reducible refine Keeps.setCell ?_ ?_ _ | exact Or.inr rfl))) (fun b hb => (HS6B.out b hb).2.1)) (fun b hb => ⟨by have := (HS6B.out b hb).1; simp; omega, (HS6B.out b hb).2.2⟩) (Upd.refl _ _) (Both.mid HB.out (by repeat' (first | with_reducible exact Keeps.refl _ _ | with_reducible exact hk6 | with_reducible refine Keeps.drewN ?_ _ | with_reducible refine Keeps.drew ?_ | with_reducible refine Keeps.alloc ?_ _ | with_reducible refine Keeps.setCell ?_ ?_ _ | exact Or.inr rfl))))⟩
            · by_cases hc : L.length < room
              · go_wp2_with fail
                refine (mforce_room HB.out.sl hc hcn2 x).mono ?_
                rintro e w6 ⟨lv', rfl, hs6, hk0, hb6⟩
                obtain ⟨ao6, c6, rfl⟩ := hs6.any
                have HS6 := hid hs6
                have HS6B : Hid (∀ b, (Value.slice ao6 _ c6).ownBlock = some b → b < w6.heap.size ∧ b ≠ mb ∧ ((Value.slice ao L.length mcap).ownBlock = some b ∨ wr.heap.size ≤ b)) := hid (fun b hb => by have h1 := hs6.lt (by simp) b hb; have h2 := hb6 b hb; exact ⟨h1, by omega, Or.inr h2⟩)
                clear hs6 hb6
                have hk6 : Keeps (fun k => k = mb) wr w6 := hk0.mono (fun _ _ h => h.elim)
                have h6m := hk0.heap (fun h => h) HB.out.var
                have HM6 := hid h6m
                have HK6 := hid hk6
                have n0 := cell_at (i := 0) h6m rfl
                have n1 := cell_at (i := 1) h6m rfl
                have p0 := free_at (i := 0) h6m
                have p1 := free_at (i := 1) h6m
                have hml : mb < w6.heap.size := lt_of_block h6m
                clear h6m hk6 hk0 m0 m1 q0 q1
                go_wp2_with fail
                have hk6 := HK6.out
                refine (iforce_room (Both.mid HB.out (by repeat' (first | with_reducible exact Keeps.refl _ _ | with_reducible exact hk6 | with_reducible refine Keeps.drewN ?_ _ | with_reducible refine Keeps.drew ?_ | with_reducible refine Keeps.alloc ?_ _ | with_reducible refine Keeps.setCell ?_ ?_ _ | exact Or.inr rfl))) hc x).mono ?_
                rintro e w7 ⟨rfl, F7, h7, u7⟩
                have HB7 := hid (Both.step HB.out (by repeat' (first | with_reducible exact Keeps.refl _ _ | with_reducible exact hk6 | with_reducible refine Keeps.drewN ?_ _ | with_reducible refine Keeps.drew ?_ | with_reducible refine Keeps.alloc ?_ _ | with_reducible refine Keeps.setCell ?_ ?_ _ | exact Or.inr rfl)) (by first | (rw [Below.heap_alloc _ _ _ (by simpa using hml)]; simp [World.setCell, Array.getElem?_modify, HM6.out]) | simp [World.setCell, Array.getElem?_modify, heapA _ HM6.out]) (HS6.out.keep (S := fun k => k = mb) (by first | with_reducible exact Keeps.refl _ _ | (repeat' (first | with_reducible exact Keeps.refl _ _ | with_reducible refine Keeps.drewN ?_ _ | with_reducible refine Keeps.drew ?_ | with_reducible refine Keeps.alloc ?_ _ | with_reducible refine Keeps.setCell ?_ ?_ _ | exact Or.inr rfl))) (fun b hb => (HS6B.out b hb).2.1)) (fun b hb => ⟨by have := (HS6B.out b hb).1; simp; omega, (HS6B.out b hb).2.2⟩) u7 h7)
                clear u7 h7 hk6
                go_wp2_with fail
                go_meet
                exact ⟨_, _, _, HB7⟩
              · rcases L with _ | ⟨y, t⟩
                · simp at hc; omega
                · have HC : Hid (t.length + 1 = room) := hid (by simp at hc hcn1; omega)
                  go_wp2_with fail
                  refine (mforce_full HB.out.sl HC.out hcn2 x).mono ?_
                  rintro e w6 ⟨lv', rfl, hs6, hk0, hb6⟩
                  obtain ⟨ao6, c6, rfl⟩ := hs6.any
                  have HS6 := hid hs6
                  have HS6B : Hid (∀ b, (Value.slice ao6 _ c6).ownBlock = some b → b < w6.heap.size ∧ b ≠ mb ∧ ((Value.slice ao (y :: t).length mcap).ownBlock = some b ∨ wr.heap.size ≤ b)) := hid (fun b hb => by have h1 := hs6.lt (by simp) b hb; have h2 := hb6 b hb; exact ⟨h1, by omega, Or.inr h2⟩)
                  clear hs6 hb6
                  have hk6 : Keeps (fun k => k = mb) wr w6 := hk0.mono (fun _ _ h => h.elim)
                  have h6m := hk0.heap (fun h => h) HB.out.var
                  have HM6 := hid h6m
                  have HK6 := hid hk6
                  have n0 := cell_at (i := 0) h6m rfl
                  have n1 := cell_at (i := 1) h6m rfl
                  have p0 := free_at (i := 0) h6m
                  have p1 := free_at (i := 1) h6m
                  have hml : mb < w6.heap.size := lt_of_block h6m
                  clear h6m hk6 hk0 m0 m1 q0 q1
                  go_wp2_with fail
                  have hk6 := HK6.out
                  refine (iforce_full (Both.mid HB.out (by repeat' (first | with_reducible exact Keeps.refl _ _ | with_reducible exact hk6 | with_reducible refine Keeps.drewN ?_ _ | with_reducible refine Keeps.drew ?_ | with_reducible refine Keeps.alloc ?_ _ | with_reducible refine Keeps.setCell ?_ ?_ _ | exact Or.inr rfl))) HC.out x).mono ?_
                  rintro e w7 ⟨rfl, F7, h7, u7⟩
                  have HB7 := hid (Both.step HB.out (by repeat' (first | with_reducible exact Keeps.refl _ _ | with_reducible exact hk6 | with_reducible refine Keeps.drewN ?_ _ | with_reducible refine Keeps.drew ?_ | with_reducible refine Keeps.alloc ?_ _ | with_reducible refine Keeps.setCell ?_ ?_ _ | exact Or.inr rfl)) (by first | (rw [Below.heap_alloc _ _ _ (by simpa using hml)]; simp [World.setCell, Array.getElem?_modify, HM6.out]) | simp [World.setCell, Array.getElem?_modify, heapA _ HM6.out]) (HS6.out.keep (S := fun k => k = mb) (by first | with_reducible exact Keeps.refl _ _ | (repeat' (first | with_reducible exact Keeps.refl _ _ | with_reducible refine Keeps.drewN ?_ _ | with_reducible refine Keeps.drew ?_ | with_reducible refine Keeps.alloc ?_ _ | with_reducible refine Keeps.setCell ?_ ?_ _ | exact Or.inr rfl))) (fun b hb => (HS6B.out b hb).2.1)) (fun b hb => ⟨by have := (HS6B.out b hb).1; simp; omega, (HS6B.out b hb).2.2⟩) u7 h7)
                  clear u7 h7 hk6
                  go_wp2_with fail
                  go_meet
                  exact ⟨_, _, _, HB7⟩
          · have e0 : ((dn : Int) % 4 == 0) = false := by rw [hdn]; rfl
            have e1 : ((dn : Int) % 4 == 1) = false := by rw [hdn]; rfl
            have e2 : ((dn : Int) % 4 == 2) = false := by rw [hdn]; rfl
            clear hdn
            by_cases hneg : x < 0
            · go_wp2_with fail
              refine (iset_none HB.out.ring (Or.inl hneg) _).mono ?_
              rintro e w7 ⟨rfl, rfl⟩
              go_wp2_with fail
              go_meet
              exact ⟨_, _, _, HB⟩
            · obtain ⟨xi, rfl⟩ := Int.eq_ofNat_of_zero_le (show 0 ≤ x by omega)
              by_cases hx : xi < L.length
              · obtain ⟨i0, hi, hz0, hz1, hz2⟩ := info_parts info_int
                have HI := hid hi
                clear hi
                go_wp2_with (at_builtin; refine wpl_append rfl _ _ 26 rfl 3 i0 (.int .i64 0) 1 8 Try.underlying26 HI.out hz0 hz1 hz2 rfl (by decide) _ _ _ _ _ _ rfl rfl (World.ownsRow_nil _ _ _ _) HB.out.sl (ints_oneCell _ _) ?c3 ?c4 ?_)
                case c3 => unfold maxLen; omega
                case c4 => omega
                intro v6 w6 hown hk0' hb6
                try simp only [Nat.zero_add, List.nil_append] at hown
                have hk0 : Keeps No wr w6 := hk0'.mono (fun _ _ h => by first | (cases h; done) | (simp [Bl, Value.ownBlock] at h; done) | exact h.elim)
                obtain ⟨g6, c6, rfl⟩ := own_some hown (by omega)
                have hg6 : wr.heap.size ≤ g6 := by rcases hb6 g6 rfl with h | h <;> first | exact h | (simp [Value.ownBlock] at h)
                have hgm : ¬ g6 = mb := by omega
                have h6m := hk0.heap (fun h => h) HB.out.var
                have HM6 := hid h6m
                have hk6 : Keeps (fun k => k = mb) wr w6 := hk0.mono (fun _ _ h => h.elim)
                have HK6 := hid hk6
                have n0 := cell_at (i := 0) h6m rfl
                have n1 := cell_at (i := 1) h6m rfl
                have p0 := free_at (i := 0) h6m
                have p1 := free_at (i := 1) h6m
                have hcx : w6.cell? ⟨g6, xi, none⟩ = some (.int .i64 L[xi]) := by rw [hown.cellAt xi (by omega)]; simp [hx]
                have hfx := hown.frozenAt xi
                have HO6 := hid hown
                clear h6m hk6 hk0 hk0' m0 m1 q0 q1 hown hb6
                go_wp2_with fail
                have hk6 := HK6.out
                have hk4 : Keeps (fun k => k = mb) wr ((w6.setCell ⟨g6, xi, none⟩ (.int .i64 k)).setCell ⟨mb, 1, none⟩ (.slice (some ⟨g6, 0, none⟩) L.length c6)) := (hk6.setCell (p := ⟨g6, xi, none⟩) (Or.inl hg6) _).setCell (p := ⟨mb, 1, none⟩) (Or.inr rfl) _
                have HK4 := hid hk4
                clear hk4 hk6
                refine (iset_ok (Both.mid HB.out HK4.out) hx k).mono ?_
                rintro e w7 ⟨rfl, F7, h7, u7⟩
                have hs4 : SlI ((w6.setCell ⟨g6, xi, none⟩ (.int .i64 k)).setCell ⟨mb, 1, none⟩ (.slice (some ⟨g6, 0, none⟩) L.length c6)) (.slice (some ⟨g6, 0, none⟩) L.length c6) (L.set xi k) := by
                  have h1 := (HO6.out.stored xi (.int .i64 k)).1
                  rw [← List.map_set] at h1
                  have h2 := ownsRow_setCell_other (a := ⟨mb, 1, none⟩) h1 (by simpa [Value.ownBlock] using hgm) (.slice (some ⟨g6, 0, none⟩) L.length c6)
                  have h3 := Sl.ofOwn h2
                  unfold SlI
                  rw [List.length_set]
                  exact h3
                have HB7 := hid (Both.step HB.out HK4.out (by simp [World.setCell, Array.getElem?_modify, HM6.out, hgm]) hs4 (fun b hb => ⟨by simp [Value.ownBlock] at hb; subst hb; have := World.block_lt_of_cell? w6 _ hcx; simpa using this, by simp [Value.ownBlock] at hb; subst hb; exact Or.inr hg6⟩) u7 h7)
                clear u7 h7 hs4
                go_wp2_with fail
                go_meet
                exact ⟨_, _, _, HB7⟩
              · have hge : ¬ ((xi : Int) < (L.length : Int)) := by omega
                go_wp2_with fail
                refine (iset_none HB.out.ring (Or.inr (by omega)) _).mono ?_
                rintro e w7 ⟨rfl, rfl⟩
                go_wp2_with fail
                go_meet
                exact ⟨_, _, _, HB⟩
        case rest =>
          obtain ⟨L', F', mv', HB'⟩ := hcut
          clear HB m0 m1 q0 q1 hc0 hc1
          obtain ⟨ao', mcap', rfl⟩ := Sl.any HB'.out.sl
          have m0 := cell_at (i := 0) HB'.out.var rfl
          have m1 := cell_at (i := 1) HB'.out.var rfl
          have c2 := RingI.len_cell HB'.out.ring
          have hcn' := RingG.cnt HB'.out.ring
          obtain ⟨hcn1', hcn2'⟩ := hcn'
          have hnn : ((L'.length : Int) != (L'.length : Int)) = false := by simp
          go_wp2_with fail
          go_region_with (first | (go_at_call 24; refine (ilen_any _ _ _ (by exact c2)).mono ?_; rintro e w' ⟨rfl, rfl⟩) | (go_at_call 26; refine (iall_any (by exact HB'.out.ring)).mono ?_; rintro e w8 ⟨v8, rfl, ho8, k8, hb8⟩; have HS8 := hid (Sl.ofOwn ho8); have K8 := hid k8; have t1 := cell_at (i := 1) (k8.heap (fun h => h) HB'.out.var) rfl; clear ho8 k8 hb8) | (go_at_call 25; refine (msame_true (by exact HS8.out) (by exact HB'.out.sl.keep ((Keeps.refl No _).drew.trans K8.out) (fun _ _ h => h))).mono ?_; rintro e w9 ⟨rfl, k9⟩; have K9 := hid k9; clear k9))
          all_goals
            go_wp2_with fail
            go_roundw
            case rel => exact ⟨k + 1, L', F', _, by omega, by go_num, hid (Both.calm HB'.out (((Keeps.refl No _).drew.trans K8.out).trans K9.out))⟩
            case measure => simp [intOf]; omega
      · have hkl : k = l.length := by omega
        subst hkl
        have c0 := RingI.room_cell HB.out.ring
        have hrr : ((room : Int) == (room : Int)) = true := by simp
        go_wp2_with fail
        go_quiet ((go_at_call 27; exact quiet_eq (icap_any _ _ _ (by exact c0))))
        go_wp2_with fail
        go_ret
        exact ⟨rfl, (HB.out.old.drewN _).toBelow⟩

theorem own : ownKnob Try.prog.godebug = none := by kernel_rfl
theorem laidOut : laidOutB Try.prog = true := by kernel_rfl
set_option maxRecDepth 100000 in
theorem lifted (os : Os) (started : os.Started) (H : Type) (enc : TypeId × Value → H) :
    ReturnsInHanded {} Try.checked os 3 .any (Rows.ringPlaysSpec.pre6 enc Try.prog Try.f3 Rows.ringPlaysRow.domain false) (Rows.ringPlaysSpec.post enc Try.prog Try.f3 false true false false) := by
  refine returnsInHanded_of_change (C := Try.checked) own started (by kernel_rfl) Try.func3
    (ChangeSpec.witness6 (enc := enc) (C := Try.checked) false ⟨#[], #[.int .i64 0, .slice none 0 0], []⟩ 8 (by kernel_rfl) (by kernel_rfl) (by kernel_rfl) (by kernel_rfl)) ?_
  intro W base args ds gs before hval0 hW hcnd _
  have hval : ∀ (j : Nat) t v, Try.f3.params[j]? = some t → args[j]? = some v → Value.okWide Try.prog W .any base t v := hval0
  have hW' := hW
  obtain ⟨p, q, hA0, hV, rfl, hfz, hnd⟩ := hW
  have hA : DataW.TrodAll enc Try.prog W 0 (fun _ => true) true Try.f3.params.toList args.toList ds p := hA0
  rw [Try.params3] at hA hval
  obtain ⟨v0, vs0, d0, ds0, p0, q0, hargs, rfl, rfl, h0, r0⟩ := trodAll_cons hA
  obtain ⟨v1, vs1, d1, ds1, p1, q1, rfl, rfl, rfl, h1, r1⟩ := trodAll_cons r0
  obtain ⟨rfl, rfl, rfl⟩ := trodAll_nil r1
  obtain rfl : args = #[v0, v1] := by cases args; simp_all
  obtain ⟨rfl, rfl⟩ := trodVars_none hV
  have k0 := h0
  have lt0 : ∀ x ∈ p0, x.block < W.heap.size := by obtain ⟨m, hm⟩ := k0; exact DataW.trod_lt m _ _ _ hm
  have k1 := h1
  have lt1 : ∀ x ∈ p1, x.block < W.heap.size := by obtain ⟨m, hm⟩ := k1; exact DataW.trod_lt m _ _ _ hm
  obtain ⟨a0, rfl, rfl, rfl, w0⟩ := open_int Try.underlying3 (hval 0 3 v0 rfl rfl) h0
  obtain ⟨s1, len1, cap1, rfl⟩ := okWide_slice Try.underlying22 (hval 1 22 v1 rfl rfl)
  obtain ⟨l1, rfl, w1, b1⟩ := argSlice (encE := encAct) (good := goodAct) (size := 2) (fun _ => rfl) (by decide) Try.underlying22 (by kernel_rfl) (fun n cs x hx => decAct hx) h1
  clear hA0 hval0
  refine (walk W a0 w0 s1 cap1 l1 w1 b1).mono fun e W' ⟨he, bel⟩ => ?_
  subst he
  exact ⟨_, rfl, _, _, _, [], _, [], hW', trodAll_mk1 (shut_bool Try.underlying4 _), (trodAll_cons_mk (Below.trod laidOut (by kernel_rfl) (of_decide_eq_true (by kernel_rfl)) k0 bel lt0) (trodAll_cons_mk (Below.trod laidOut (by kernel_rfl) (of_decide_eq_true (by kernel_rfl)) k1 bel lt1) trodAll_mk0)), rfl, bel.frame _, fun h => by cases h⟩

theorem over : Rows.ringPlaysRow.holds Try.pinned (OpenSpec.ofChange Rows.ringPlaysSpec) :=
  OpenClaim.holds_of_wide 3 Try.f3 rfl rfl rfl rfl rfl rfl rfl ⟨rfl, rfl, rfl, rfl, rfl⟩ rfl rfl rfl rfl rfl (by kernel_rfl) Try.func3 (by kernel_rfl)
    (of_decide_eq_true (by kernel_rfl)) (by unfold Func.isWrapper; first | (rw [if_pos (by decide +kernel)]; kernel_rfl) | (rw [if_neg (by decide +kernel)]; exact ⟨rfl, rfl⟩))
    (fun os started H enc _ => lifted os started H enc)

theorem proved : Rows.RingPlaysSaid := over
#print axioms proved
end Go.Proofs.Ytebodpphimfdoaa.ringPlays
