/-
  What all samples that came say of a signal: the document's Next, Count.
-/
import Derived.Test.YtaakmlgkfbpdoaaSmp3
namespace Go.Proofs.Ytaakmlgkfbpdoaa
open Go.RowKit

structure S4 where
  sg : Int
  sq : Int
  v : Int
  b : Bool

def encS (s : S4) : List Value := [.int .i64 s.sg, .int .u8 s.sq, .int .i64 s.v, .bool s.b]
def S4.val (s : S4) : Value := .agg #[.int .i64 s.sg, .int .u8 s.sq, .int .i64 s.v, .bool s.b]
def OkS (s : S4) : Prop := 0 ≤ s.sq ∧ s.sq ≤ 255

/-- Of the newest first. -/
def nextR : List S4 → S4 → Int × Bool
  | [], _ => (0, true)
  | c :: r, s => if c.sg = s.sg then (if c.sq = s.sq then (0, false) else ((s.sq - c.sq - 1) % 256, true)) else nextR r s

def countR : List S4 → Int → Int × Int
  | [], _ => (0, 0)
  | c :: r, k => if c.sg = k then ((countR r k).1 + 1, (countR r k).2 + (nextR r c).1) else countR r k

theorem nextR_bounds : ∀ (l : List S4) (s : S4), 0 ≤ (nextR l s).1 ∧ (nextR l s).1 ≤ 255
  | [], _ => by simp [nextR]
  | c :: r, s => by
    have := nextR_bounds r s
    unfold nextR
    split
    · split
      · simp
      · simp; omega
    · exact this

theorem countR_bounds : ∀ (l : List S4) (k : Int), 0 ≤ (countR l k).1 ∧ (countR l k).1 ≤ l.length ∧ 0 ≤ (countR l k).2 ∧ (countR l k).2 ≤ 255 * l.length
  | [], _ => by simp [countR]
  | c :: r, k => by
    have := countR_bounds r k
    have := nextR_bounds r c
    unfold countR
    simp only [List.length_cons]
    split
    · simp only; omega
    · omega

theorem take_rev {α : Type} {l : List α} {k : Nat} (hk : k < l.length) : (l.take (k + 1)).reverse = l[k] :: (l.take k).reverse := by
  rw [List.take_succ_eq_append_getElem hk, List.reverse_append]; rfl

theorem take_flatMap_enc {α : Type} {size : Nat} {enc : α → List Value} (he : ∀ x, (enc x).length = size) : ∀ (l : List α) (m : Nat), (l.flatMap enc).take (m * size) = (l.take m).flatMap enc
  | [], m => by simp
  | x :: r, 0 => by simp
  | x :: r, m + 1 => by
    simp only [List.flatMap_cons, List.take_succ_cons]
    rw [← take_flatMap_enc he r m, List.take_append, he, List.take_of_length_le (by rw [he, Nat.succ_mul]; omega), show (m + 1) * size - size = m * size by rw [Nat.succ_mul]; omega]

section
variable {w : World} {cv : Value} {l : List S4}

set_option maxHeartbeats 4000000 in
set_option maxRecDepth 100000 in
theorem rnext_any (h : Sl w 4 cv l.length (l.flatMap encS)) (hl : l.length ≤ 100000) (hok : ∀ x ∈ l, OkS x) (sg sq v : Int) (b : Bool) (hs : 0 ≤ sq ∧ sq ≤ 255) :
    Calls Try.prog 23 #[cv, .agg #[.int .i64 sg, .int .u8 sq, .int .i64 v, .bool b]] w fun e w' => e = .returned (.tuple #[.int .i64 (nextR l.reverse ⟨sg, sq, v, b⟩).1, .bool (nextR l.reverse ⟨sg, sq, v, b⟩).2]) ∧ Keeps No w w' := by
  obtain ⟨ca, cc, rfl⟩ := h.any
  obtain ⟨W1, hW1⟩ : ∃ W1, w.alloc (.cells #[.int .i64 sg, .int .u8 sq, .int .i64 v, .bool b] 47) = W1 := ⟨_, rfl⟩
  have k1 : Keeps No w W1 := by rw [← hW1]; exact (Keeps.refl _ _).alloc _
  have hbx : BlkL W1 w.heap.size 47 [.int .i64 sg, .int .u8 sq, .int .i64 v, .bool b] := by rw [← hW1]; exact heap_alloc_new w _
  have HB := hid hbx
  have HWE := hid hW1
  have K1 := hid k1
  have HC := hid (h.keep k1 (fun _ _ h => h))
  have HOK := hid hok
  obtain ⟨R, hR⟩ : ∃ R, nextR l.reverse ⟨sg, sq, v, b⟩ = R := ⟨_, rfl⟩
  rw [hR]
  have HR := hid hR
  obtain ⟨s0, s1⟩ := hs
  clear hW1 k1 hbx h hok hR
  go_enter Try.func23, Try.ntmps23
  go_upto_region 1 with fail
  rw [HWE.out]
  go_wp2_with fail
  go_loopw [6] (fun v6 wr => ∃ k : Nat, k ≤ l.length ∧ v6 = .int .i64 ((k : Int) - 1) ∧ Hid (nextR (l.take k).reverse ⟨sg, sq, v, b⟩ = R) ∧ Hid (Keeps No W1 wr)) (fun v6 _ => (intOf v6 + 1).toNat)
  case atStart => exact ⟨l.length, Nat.le_refl _, rfl, hid (by rw [List.take_length]; exact HR.out), hid (Keeps.refl _ _)⟩
  case round =>
    obtain ⟨k, hk, rfl, HT, HK⟩ := hrel
    rcases k with _ | m
    · have hr := HT.out
      simp [nextR] at hr
      subst hr
      go_wp2_with fail
      go_ret2
      exact ⟨rfl, K1.out.trans HK.out⟩
    · have e : ((m + 1 : Nat) : Int) - 1 = m := by omega
      rw [e]
      clear e
      have hm : m < l.length := hk
      obtain ⟨⟨cg, cq, cx, cb⟩, hy⟩ : ∃ y, l[m] = y := ⟨_, rfl⟩
      have hcq := HOK.out l[m] (List.getElem_mem hm)
      have ht := HT.out
      rw [take_rev hm, hy] at ht
      rw [hy] at hcq
      obtain ⟨c0, c1⟩ := hcq
      simp only at c0 c1
      simp only [nextR] at ht
      obtain ⟨g, off, rfl, _, p0⟩ := Sl.cellAt HC.out (j := m * 4 + 0) (u := .int .i64 cg) (by rw [getElem?_flatMap_enc (size := 4) (fun _ => rfl) l m 0 (by omega) hm, hy]; rfl)
      obtain ⟨g', off', he, _, p1⟩ := Sl.cellAt HC.out (j := m * 4 + 1) (u := .int .u8 cq) (by rw [getElem?_flatMap_enc (size := 4) (fun _ => rfl) l m 1 (by omega) hm, hy]; rfl)
      simp only [Option.some.injEq, Addr.mk.injEq, and_true] at he
      obtain ⟨rfl, rfl⟩ := he
      simp only [Nat.add_zero] at p0
      rw [← Nat.add_assoc] at p1
      have q0 := HK.out.cell (fun h => h) p0
      have q1 := HK.out.cell (fun h => h) p1
      have hbr := HB.out.keep HK.out (fun h => h)
      have x0 := hbr.cell (o := 0) rfl
      have x1 := hbr.cell (o := 1) rfl
      clear hy p0 p1 hbr HT HR
      have d0 : decide ((m : Int) ≥ 0) = true := decide_eq_true (by omega)
      by_cases hg : cg = sg
      · subst hg
        rw [if_pos rfl] at ht
        by_cases hq : cq = sq
        · subst hq
          rw [if_pos rfl] at ht
          subst ht
          go_wp2_with fail
          go_quiet (fail)
          go_wp2_with fail
          go_quiet (fail)
          go_wp2_with fail
          go_ret2
          exact ⟨rfl, (K1.out.trans HK.out).drewN _⟩
        · have dq : (cq == sq) = false := by simpa using hq
          rw [if_neg hq] at ht
          subst ht
          have hv : (sq - cq - 1 + 256).tmod 256 = (sq - cq - 1) % 256 := by rw [Int.tmod_eq_emod_of_nonneg (by omega)]; omega
          have hv2 : (sq - cq - 1 + 256) % 256 = (sq - cq - 1) % 256 := by omega
          clear hq
          go_wp2_with fail
          go_quiet (fail)
          go_wp2_with fail
          go_quiet (fail)
          go_wp2_with fail
          go_quiet (fail)
          go_wp2_with fail
          go_ret2
          exact ⟨by simp, (K1.out.trans HK.out).drewN _⟩
      · have dg : (cg == sg) = false := by simpa using hg
        rw [if_neg hg] at ht
        have HT2 := hid ht
        clear hg ht
        go_wp2_with fail
        go_quiet (fail)
        go_wp2_with fail
        go_roundw
        case rel => exact ⟨m, by omega, rfl, HT2, hid (HK.out.drewN _)⟩
        case measure => simp [intOf]

set_option maxHeartbeats 4000000 in
set_option maxRecDepth 100000 in
theorem rcount_any (h : Sl w 4 cv l.length (l.flatMap encS)) (hl : l.length ≤ 1000) (hok : ∀ x ∈ l, OkS x) (z : Int) :
    Calls Try.prog 25 #[cv, .int .i64 z] w fun e w' => e = .returned (.tuple #[.int .i64 (countR l.reverse z).1, .int .i64 (countR l.reverse z).2]) ∧ Keeps No w w' := by
  obtain ⟨ca, cc, rfl⟩ := h.any
  obtain ⟨R, hR⟩ : ∃ R, countR l.reverse z = R := ⟨_, rfl⟩
  rw [hR]
  have HR := hid hR
  have HC := hid h
  have HOK := hid hok
  have hcap := Sl.cap h
  clear h hok hR
  go_enter Try.func25, Try.ntmps25
  go_wp2_with fail
  go_loopw [6, 7, 8] (fun v6 v7 v8 wr => ∃ (k : Nat) (n t : Int), k ≤ l.length ∧ v8 = .int .i64 k ∧ v6 = .int .i64 n ∧ v7 = .int .i64 t ∧ Hid (countR (l.take k).reverse z = (n, t)) ∧ Hid (Keeps No w wr)) (fun _ _ v8 _ => l.length - (intOf v8).toNat)
  case atStart => exact ⟨0, 0, 0, Nat.zero_le _, rfl, rfl, rfl, hid (by simp [countR]), hid (Keeps.refl _ _)⟩
  case round =>
    obtain ⟨m, n, t, hk, rfl, rfl, rfl, HT, HK⟩ := hrel
    have hbd := countR_bounds (l.take m).reverse z
    rw [HT.out] at hbd
    simp only [List.length_reverse, List.length_take] at hbd
    by_cases hm : m < l.length
    · obtain ⟨hn0, hn1, ht0, ht1⟩ := hbd
      have hn1 : n ≤ 1000 := by omega
      have ht1 : t ≤ 255000 := by omega
      obtain ⟨⟨cg, cq, cx, cb⟩, hy⟩ : ∃ y, l[m] = y := ⟨_, rfl⟩
      have hcq := HOK.out l[m] (List.getElem_mem hm)
      rw [hy] at hcq
      have hnx := nextR_bounds (l.take m).reverse l[m]
      have hct : countR (l.take (m + 1)).reverse z = if cg = z then (n + 1, t + (nextR (l.take m).reverse l[m]).1) else (n, t) := by
        rw [take_rev hm]
        have h0 := HT.out
        simp only [countR]
        rw [h0, hy]
      obtain ⟨g, off, rfl, _, p0⟩ := Sl.cellAt HC.out (j := m * 4 + 0) (u := .int .i64 cg) (by rw [getElem?_flatMap_enc (size := 4) (fun _ => rfl) l m 0 (by omega) hm, hy]; rfl)
      obtain ⟨g', off', he, _, p1⟩ := Sl.cellAt HC.out (j := m * 4 + 1) (u := .int .u8 cq) (by rw [getElem?_flatMap_enc (size := 4) (fun _ => rfl) l m 1 (by omega) hm, hy]; rfl)
      simp only [Option.some.injEq, Addr.mk.injEq, and_true] at he
      obtain ⟨rfl, rfl⟩ := he
      obtain ⟨g', off', he, _, p2⟩ := Sl.cellAt HC.out (j := m * 4 + 2) (u := .int .i64 cx) (by rw [getElem?_flatMap_enc (size := 4) (fun _ => rfl) l m 2 (by omega) hm, hy]; rfl)
      simp only [Option.some.injEq, Addr.mk.injEq, and_true] at he
      obtain ⟨rfl, rfl⟩ := he
      obtain ⟨g', off', he, _, p3⟩ := Sl.cellAt HC.out (j := m * 4 + 3) (u := .bool cb) (by rw [getElem?_flatMap_enc (size := 4) (fun _ => rfl) l m 3 (by omega) hm, hy]; rfl)
      simp only [Option.some.injEq, Addr.mk.injEq, and_true] at he
      obtain ⟨rfl, rfl⟩ := he
      simp only [Nat.add_zero] at p0
      rw [← Nat.add_assoc] at p1 p2 p3
      have q0 := HK.out.cell (fun h => h) p0
      have q1 := HK.out.cell (fun h => h) p1
      have q2 := HK.out.cell (fun h => h) p2
      have q3 := HK.out.cell (fun h => h) p3
      clear p0 p1 p2 p3
      by_cases hg : cg = z
      · subst hg
        rw [if_pos rfl, hy] at hct
        rw [hy] at hnx
        have hnc := fun (w' : World) (k : Keeps No wr w') => rnext_any (w := w') (l := l.take m) (cv := .slice (some ⟨g, off, none⟩) m cc) (by
          have := Sl.front (HC.out.keep (HK.out.trans k) (fun _ _ h => h)) (m := m) (by omega)
          rw [List.length_take, Nat.min_eq_left (by omega)]
          rw [take_flatMap_enc (size := 4) (fun _ => rfl)] at this
          exact this) (by rw [List.length_take]; omega) (fun x hx => HOK.out x (List.mem_of_mem_take hx)) cg cq cx cb hcq
        obtain ⟨⟨rn, rb⟩, hrr⟩ : ∃ r, nextR (l.take m).reverse ⟨cg, cq, cx, cb⟩ = r := ⟨_, rfl⟩
        rw [hrr] at hnc hct hnx
        simp only at hnc hct hnx
        obtain ⟨hx0, hx1⟩ := hnx
        have HCT := hid hct
        have HNC := hid hnc
        clear hct hnc hrr hy hcq HT
        have hmc : m ≤ cc := by omega
        have hmc2 : decide ((m : Int) ≤ cc) = true := decide_eq_true (by omega)
        go_upto_region 7 with fail
        go_region_held3 (fun w' => w'.cell? ⟨g, off + m * 4, none⟩ = some (.int .i64 cg) ∧ w'.cell? ⟨g, off + m * 4 + 1, none⟩ = some (.int .u8 cq) ∧ w'.cell? ⟨g, off + m * 4 + 2, none⟩ = some (.int .i64 cx) ∧ w'.cell? ⟨g, off + m * 4 + 3, none⟩ = some (.bool cb)) (first | with_reducible exact ⟨q0, q1, q2, q3⟩ | (go_keep; done)) ((go_at_call 23; (with_reducible refine (HNC.out _ ?hk).mono ?_); (case hk => repeat' (first | with_reducible exact Keeps.refl _ _ | with_reducible assumption | with_reducible refine Keeps.drewN ?_ _ | with_reducible refine Keeps.drew ?_ | with_reducible refine Keeps.alloc ?_ _)); rintro e w2 ⟨rfl, k⟩; have K2 : Hid (Keeps No wr w2) := hid (Keeps.trans (by repeat' (first | with_reducible exact Keeps.refl _ _ | with_reducible assumption | with_reducible refine Keeps.drewN ?_ _ | with_reducible refine Keeps.drew ?_ | with_reducible refine Keeps.alloc ?_ _)) k); have q0 := K2.out.cell (fun h => h) q0; have q1 := K2.out.cell (fun h => h) q1; have q2 := K2.out.cell (fun h => h) q2; have q3 := K2.out.cell (fun h => h) q3; clear k))
        all_goals
          go_wp2_with fail
          go_roundw
          case rel => exact ⟨m + 1, n + 1, t + rn, by omega, by go_num, rfl, rfl, HCT, hid (HK.out.trans K2.out)⟩
          case measure => simp [intOf]; omega
      · have dg : (cg == z) = false := by simpa using hg
        rw [if_neg hg] at hct
        have HCT := hid hct
        clear hg hct hy hcq hnx HT
        go_wp2_with fail
        go_roundw
        case rel => exact ⟨m + 1, n, t, by omega, by go_num, rfl, rfl, HCT, HK⟩
        case measure => simp [intOf]; omega
    · obtain rfl : m = l.length := by omega
      have ht := HT.out
      rw [List.take_length, HR.out] at ht
      subst ht
      clear HT hbd
      go_wp2_with fail
      go_ret2
      exact ⟨rfl, HK.out⟩

end

end Go.Proofs.Ytaakmlgkfbpdoaa
