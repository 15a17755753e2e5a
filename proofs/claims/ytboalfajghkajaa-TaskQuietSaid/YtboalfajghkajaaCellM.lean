/-
  The document's cell: what it answers, of any samples.
-/
import Derived.Test.YtboalfajghkajaaRows
import Derived.Test.YtboalfajghkajaaCellP
import Derived.Test.YtboalfajghkajaaBytesPlain
import Derived.OwnWalk
import Derived.Deep.CutBlock
import Derived.Deep.DeepCutAuto
namespace Go.Proofs.Ytboalfajghkajaa
open Go.RowKit
set_option linter.unusedVariables false

theorem info_seen : (Try.prog.info? 42).map (fun i => (i.zero, i.size, i.bytes)) = some (some (.agg #[.int .i64 0, .int .i64 0, .int .u8 0, .int .i64 0, .bool false]), 5, 40) := by kernel_rfl

theorem drop_flatMap_enc {α : Type} {size : Nat} {enc : α → List Value} (he : ∀ x, (enc x).length = size) : ∀ (xs : List α) (n : Nat), (xs.flatMap enc).drop (n * size) = (xs.drop n).flatMap enc
  | [], n => by simp
  | x :: xs, 0 => by simp
  | x :: xs, n + 1 => by
    simp only [List.flatMap_cons, List.drop_succ_cons]
    rw [show (n + 1) * size = (enc x).length + n * size by rw [he, Nat.succ_mul]; omega, List.drop_append]
    simp only [Nat.add_sub_cancel_left]
    rw [List.drop_eq_nil_of_le (by omega), List.nil_append]
    exact drop_flatMap_enc he xs n

set_option maxHeartbeats 4000000 in
set_option maxRecDepth 100000 in
theorem mgood_any {w : World} {v : Value} {l : List SeenD} (h : Sl w 5 v l.length (l.flatMap encSn)) (k : Int) (hl : l.length ≤ 100000) :
    Calls Try.prog 41 #[v, .int .i64 k] w fun e w' => ∃ v', e = .returned v' ∧ Sl w' 5 v' (goodD l k).length ((goodD l k).flatMap encSn) ∧ Keeps No w w' := by
  obtain ⟨ao, cap, rfl⟩ := h.any
  obtain ⟨N, hN⟩ : ∃ N, l.length = N := ⟨_, rfl⟩
  rw [hN] at h hl ⊢
  obtain ⟨i0, hi, hz0, hz1, hz2⟩ := info_parts info_seen
  have HI := hid hi
  have HS := hid h
  have HN := hid hN
  clear hi h hN
  go_enter Try.func41, Try.ntmps41
  go_wp2_with fail
  go_loopw [5, 6] (fun v5 v6 wr => ∃ (i n : Nat) (a : Option Addr) (c : Nat), i ≤ N ∧ n ≤ i ∧ v6 = .int .i64 i ∧ v5 = .slice a n c ∧ Hid (wr.ownsRow 0 42 5 (.slice a n c) n ((goodAll (l.take i) k).flatMap encSn)) ∧ Hid (Keeps No w wr) ∧ Hid (∀ b, (Value.slice a n c).ownBlock = some b → w.heap.size ≤ b)) (fun _ v6 _ => N - (intOf v6).toNat)
  case atStart => exact ⟨0, 0, none, 0, Nat.zero_le _, Nat.le_refl _, rfl, rfl, hid (World.ownsRow_nil _ _ _ _), hid (Keeps.refl _ _), hid (fun b hb => by simp [Value.ownBlock] at hb)⟩
  case round =>
    obtain ⟨i, n, a, c, hi, hn, rfl, rfl, HR, HK, HF⟩ := hrel
    by_cases hlt : i < N
    · have hil : i < l.length := by rw [HN.out]; exact hlt
      obtain ⟨⟨at_, sg, sq, vl, bd⟩, hx⟩ : ∃ x, l[i] = x := ⟨_, rfl⟩
      obtain ⟨g, off, rfl, hg, hc⟩ := Sl.itemC (enc := encSn) (size := 5) (fun _ => rfl) (by decide) HS.out hil hx
      have c0 := HK.out.cell (fun h => h) (hc 0 _ rfl)
      have c1 := HK.out.cell (fun h => h) (hc 1 _ rfl)
      have c2 := HK.out.cell (fun h => h) (hc 2 _ rfl)
      have c3 := HK.out.cell (fun h => h) (hc 3 _ rfl)
      have c4 := HK.out.cell (fun h => h) (hc 4 _ rfl)
      simp only [Nat.add_zero] at c0
      have hstep : goodAll (l.take (i + 1)) k = goodAll (l.take i) k ++ (if ofSig k ⟨at_, sg, sq, vl, bd⟩ then [⟨at_, sg, sq, vl, bd⟩] else []) := by
        unfold goodAll
        rw [List.take_succ_eq_append_getElem hil, List.filter_append, hx]
        congr 1
        cases hq : ofSig k ⟨at_, sg, sq, vl, bd⟩ <;> simp [List.filter, hq]
      have HST := hid hstep
      clear hc hx hstep
      have hcase : ((sg == k) = false ∧ ofSig k ⟨at_, sg, sq, vl, bd⟩ = false) ∨ ((sg == k) = true ∧ bd = true ∧ ofSig k ⟨at_, sg, sq, vl, bd⟩ = false) ∨ ((sg == k) = true ∧ bd = false ∧ ofSig k ⟨at_, sg, sq, vl, bd⟩ = true) := by
        unfold ofSig
        cases hq : (sg == k) <;> cases bd <;> simp_all
      rcases hcase with ⟨hq, ho⟩ | ⟨hq, rfl, ho⟩ | ⟨hq, rfl, ho⟩
      · have HO := hid ho
        clear ho
        go_wp2_with fail
        go_roundw
        case rel => exact ⟨i + 1, n, a, c, by omega, by omega, by go_num, rfl, hid (by rw [HST.out, HO.out]; simpa using HR.out), HK, HF⟩
        case measure => simp [intOf]; omega
      · have HO := hid ho
        clear ho
        go_wp2_with fail
        go_roundw
        case rel => exact ⟨i + 1, n, a, c, by omega, by omega, by go_num, rfl, hid (by rw [HST.out, HO.out]; simpa using HR.out), HK, HF⟩
        case measure => simp [intOf]; omega
      · have HO := hid ho
        clear ho
        go_wp2_with (at_builtin; refine wpl_append rfl _ _ 33 rfl 42 i0 (.agg #[.int .i64 0, .int .i64 0, .int .u8 0, .int .i64 0, .bool false]) 5 40 Try.underlying33 HI.out hz0 hz1 hz2 rfl (by decide) _ _ _ _ _ _ rfl rfl (HR.out.alloc _) (Sl.new _ _ _ 5 1 rfl (by decide)) (by intro u hu; simp at hu; rcases hu with rfl | rfl | rfl | rfl | rfl <;> rfl) ?c3 ?c4 ?_)
        case c3 => unfold maxLen; omega
        case c4 => omega
        intro v2 w2 ho2 kk hb2
        obtain ⟨a2, c2', rfl⟩ := own_any ho2
        have HR2 := hid ho2
        have HK2 : Hid (Keeps No w w2) := hid (HK.out.trans' (((Keeps.refl No wr).alloc _).no.trans kk) (fun _ _ h => h) (fun b hb e => by have := HF.out b e; omega))
        have HF2 : Hid (∀ b, (Value.slice a2 (n + 1) c2').ownBlock = some b → w.heap.size ≤ b) := hid (fun b hb => by
          have hz := HK.out.size
          rcases hb2 b hb with h' | h'
          · exact HF.out b h'
          · omega)
        clear ho2 kk hb2 c0 c1 c2 c3 c4
        go_wp2_with fail
        go_roundw
        case rel => exact ⟨i + 1, n + 1, a2, c2', by omega, by omega, by go_num, rfl, hid (by rw [HST.out, HO.out, List.flatMap_append]; simpa [encSn] using HR2.out), HK2, HF2⟩
        case measure => simp [intOf]; omega
    · obtain rfl : i = N := by omega
      have hrow := HR.out
      rw [← HN.out, List.take_length] at hrow
      have hgl : (goodAll l k).length = n := by have h1 := hrow.1; rw [length_flatMap_enc (size := 5) (fun _ => rfl)] at h1; omega
      have HSL := hid (Sl.ofOwn hrow)
      have HGL := hid hgl
      clear hrow hgl
      by_cases h16 : 16 < n
      · have hd : decide ((n : Int) > 16) = true := decide_eq_true (by omega)
        have hsub := Sl.sub HSL.out (lo := n - 16) (hi := n) (by omega) (Nat.le_refl _)
        have hcap := Sl.cap HSL.out
        rw [if_neg (by omega), show n - (n - 16) = 16 by omega, List.take_of_length_le (by rw [List.length_drop, length_flatMap_enc (size := 5) (fun _ => rfl), HGL.out, ← Nat.sub_mul]; omega)] at hsub
        have HSUB := hid hsub
        have hw1 : ((n : Int) - 16).toNat = n - 16 := by omega
        have hw2 : ¬ c = n - 16 := by omega
        have hw3 : (0 : Int) ≤ (n : Int) - 16 := by omega
        have hw4 : (n : Int) - 16 ≤ (n : Int) := by omega
        clear hsub
        go_wp2_with fail
        go_ret
        refine ⟨.slice (Option.map (fun x => x.add ((n - 16) * 5)) a) (n - (n - 16)) (c - (n - 16)), rfl, ?_, HK.out⟩
        have hgd : goodD l k = (goodAll l k).drop (n - 16) := by unfold goodD; rw [HGL.out]
        have hgl2 : (goodD l k).length = 16 := by rw [hgd, List.length_drop, HGL.out]; omega
        rw [hgl2, hgd, show n - (n - 16) = 16 by omega]
        have h1 := HSUB.out
        rw [drop_flatMap_enc (size := 5) (fun _ => rfl)] at h1
        exact h1
      · have hd : decide ((n : Int) > 16) = false := decide_eq_false (by omega)
        go_wp2_with fail
        go_ret
        refine ⟨_, rfl, ?_, HK.out⟩
        have hgd : goodD l k = goodAll l k := by unfold goodD; rw [HGL.out, show n - 16 = 0 by omega]; rfl
        rw [hgd, HGL.out]
        exact HSL.out

section
variable {w : World} {v : Value} {l : List SeenD}

/-- What Value answers. -/
def ValueA (o : Option SeenD) : Value := .tuple #[.int .i64 (o.elim 0 (·.val)), .int .i64 (o.elim 0 (·.at_)), .bool o.isSome]

set_option maxHeartbeats 4000000 in
set_option maxRecDepth 100000 in
theorem mvalue_any (h : Sl w 5 v l.length (l.flatMap encSn)) (k : Int) (hl : l.length ≤ 100000) :
    Calls Try.prog 26 #[v, .int .i64 k] w fun e w' => e = .returned (ValueA (valueD l k)) ∧ Keeps No w w' := by
  have HG := hid (mgood_any h k hl)
  obtain ⟨ao, cap, rfl⟩ := h.any
  clear h hl
  go_enter Try.func26, Try.ntmps26
  go_wp2_with fail
  refine HG.out.mono ?_
  rintro e w1 ⟨v1, rfl, hs, k1⟩
  obtain ⟨G, hG⟩ : ∃ G, goodD l k = G := ⟨_, rfl⟩
  have hfew := goodD_few l k
  rw [hG] at hs hfew
  have HVA : Hid (valueD l k = G.getLast?) := hid (by unfold valueD; rw [hG])
  obtain ⟨a1, c1, rfl⟩ := hs.any
  obtain ⟨n, hn⟩ : ∃ n, G.length = n := ⟨_, rfl⟩
  rw [hn] at hs hfew ⊢
  have HS := hid hs
  have HN := hid hn
  have K1 := hid k1
  clear hs hn hG k1 HG
  by_cases h0 : n = 0
  · subst h0
    go_wp2_with fail
    go_ret3
    have hg : G = [] := List.length_eq_zero_iff.1 HN.out
    rw [HVA.out, hg]
    exact ⟨rfl, K1.out⟩
  · have hd : ((n : Int) == 0) = false := by simp; omega
    have hi : n - 1 < G.length := by rw [HN.out]; omega
    obtain ⟨⟨at_, sg, sq, vl, bd⟩, hx⟩ : ∃ x, G[n - 1] = x := ⟨_, rfl⟩
    obtain ⟨g, off, rfl, _, hc⟩ := Sl.itemC (enc := encSn) (size := 5) (fun _ => rfl) (by decide) HS.out hi hx
    have c0 := hc 0 _ rfl
    have c3 := hc 3 _ rfl
    simp only [Nat.add_zero] at c0
    have HX : Hid (G.getLast? = some ⟨at_, sg, sq, vl, bd⟩) := hid (by rw [List.getLast?_eq_getElem?, HN.out, List.getElem?_eq_getElem hi, hx])
    have hw1 : IntKind.i64.wrap ((n : Int) - 1) = (n : Int) - 1 := by rw [IntKind.wrap_i64]; omega
    have hw2 : ((n : Int) - 1).toNat = n - 1 := by omega
    have hw3 : (0 : Int) ≤ (n : Int) - 1 := by omega
    have hw4 : (n : Int) - 1 < (n : Int) := by omega
    clear hc hx hi
    go_wp2_with fail
    go_quiet (fail)
    go_wp2_with fail
    go_ret3
    rw [HVA.out, HX.out]
    exact ⟨rfl, K1.out.drewN _⟩

end

end Go.Proofs.Ytboalfajghkajaa
