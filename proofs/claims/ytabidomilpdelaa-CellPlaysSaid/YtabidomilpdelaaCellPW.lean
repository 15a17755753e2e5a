/-
  CellPlays: the walk.
-/
import Derived.Test.YtabidomilpdelaaCellK
import Derived.Test.YtabidomilpdelaaArgs
import Derived.ProofKit
import Derived.OpenShut
namespace Go.Proofs.Ytabidomilpdelaa
open Go.RowKit
set_option linter.unusedVariables false

/-- A block known whole. -/
def BlkC (w : World) (b : Nat) (T : TypeId) (xs : List Value) : Prop := w.heap[b]? = some (.cells xs.toArray T (0, 0))
theorem BlkC.keep {S : Nat → Prop} {w w' : World} {b : Nat} {T : TypeId} {xs : List Value} (h : BlkC w b T xs) (k : Keeps S w w') (hs : ¬ S b) : BlkC w' b T xs := k.heap hs h
theorem BlkC.cell {w : World} {b : Nat} {T : TypeId} {xs : List Value} (h : BlkC w b T xs) {o : Nat} {v : Value} (hv : xs[o]? = some v) : w.cell? ⟨b, o, none⟩ = some v := cell_at h (by simpa using hv)
theorem BlkC.free {w : World} {b : Nat} {T : TypeId} {xs : List Value} (h : BlkC w b T xs) (o : Nat) : w.frozen? ⟨b, o, none⟩ = false := free_at h
theorem BlkC.put {w : World} {b : Nat} {T : TypeId} {xs ys : List Value} (h : BlkC w b T xs) (o : Nat) (v : Value) (he : xs.set o v = ys) : BlkC (w.setCell ⟨b, o, none⟩ v) b T ys := by
  subst he
  have := heap_setCell_at (i := o) (v := v) h
  simpa [BlkC] using this

/-- A sample, so many ticks behind the one before. -/
structure ComeD where
  behind : Int
  sig : Int
  seq : Int
  val : Int
  bad : Bool

def encCome (x : ComeD) : List Value := [.int .u8 x.behind, .int .i64 x.sig, .int .u8 x.seq, .int .i64 x.val, .bool x.bad]

set_option maxHeartbeats 16000000 in
set_option maxRecDepth 100000 in
theorem cellPlays_walk (w : World) (z : Int) (hz : I64 z) (s : Option Addr) (cap : Nat) (q : List ComeD) (hs : Sl w 5 (.slice s q.length cap) q.length (q.flatMap encCome)) (hq : ∀ x ∈ q, 0 ≤ x.behind ∧ x.behind ≤ 255) (from_ : Int) (near : Bool) :
    Calls Try.prog 3 #[.int .i64 z, .slice s q.length cap, .int .i64 from_, .bool near] w fun e w' => e = .returned (.bool true) ∧ Below w.heap.size w w' := by
  obtain ⟨N, hN⟩ : ∃ N, q.length = N := ⟨_, rfl⟩
  rw [hN] at hs ⊢
  have HS := hid hs
  have HQ := hid hq
  have HN := hid hN
  have HZ := hid hz
  clear hs hq hN hz
  by_cases h80 : 80 < N
  · have hd : decide ((N : Int) > 80) = true := decide_eq_true (by omega)
    go_enter Try.func3, Try.ntmps3
    go_wp2_with fail
    refine (keeps_true _).mono ?_
    rintro e w1 ⟨rfl, k1⟩
    have K1 := hid k1
    clear k1
    go_wp2_with fail
    refine (keeps_true _).mono ?_
    rintro e w2 ⟨rfl, k2⟩
    have K2 := hid (K1.out.trans k2)
    clear k2
    go_wp2_with fail
    go_ret
    exact ⟨rfl, K2.out.toBelow⟩
  have hd : decide ((N : Int) > 80) = false := decide_eq_false (by omega)
  go_enter Try.func3, Try.ntmps3
  go_wp2_with fail
  refine (keeps_true _).mono ?_
  rintro e w1 ⟨rfl, k1⟩
  have K1 := hid k1
  clear k1 hd
  go_wp2_with fail
  refine (cnew_any z _ HZ.out).mono ?_
  rintro e w2 ⟨sb, F0, rfl, h2, k2, n2⟩
  obtain ⟨n, hn⟩ : ∃ n, clampS z = n := ⟨_, rfl⟩
  rw [hn] at h2
  have H2 := hid h2
  have K2 := hid (K1.out.trans k2)
  have N2 := hid (fun i hi => Nat.le_trans K1.out.size (n2 i hi))
  have hcl : (z < 0 ∧ n = 0) ∨ (0 ≤ z ∧ z ≤ 8 ∧ z = n) ∨ (8 < z ∧ n = 8) := by rw [← hn]; unfold clampS; omega
  have hn8 : n ≤ 8 := by omega
  have HCL := hid hcl
  clear h2 k2 n2 hn hcl
  go_upto_if 37 with fail
  go_cut [0] from 37 to 37 (fun v0 wx => ∃ m : Int, v0 = .int .i64 m ∧ Hid (m = if z < 0 then 0 else z) ∧ Hid (w2 = wx))
  case first =>
    by_cases hn : z < 0
    · have d1 : decide (z < 0) = true := decide_eq_true hn
      go_wp2_with fail
      go_meet
      exact ⟨0, rfl, hid (by rw [if_pos hn]), hid rfl⟩
    · have d1 : decide (z < 0) = false := decide_eq_false hn
      go_wp2_with fail
      go_meet
      exact ⟨z, rfl, hid (by rw [if_neg (by omega)]), hid rfl⟩
  case rest =>
  obtain ⟨m, rfl, HM, HW⟩ := hcut
  have hw := HW.out
  subst hw
  clear HW
  go_upto_if 39 with fail
  go_cut [0] from 39 to 39 (fun v0 wx => v0 = .int .i64 n ∧ Hid (w2 = wx))
  case first =>
    by_cases hn : 8 < m
    · have d1 : decide (m > 8) = true := decide_eq_true hn
      have hN : 8 = n := by
        have h0 := HM.out
        rcases HCL.out with ⟨a, b⟩ | ⟨a, b, c⟩ | ⟨a, b⟩
        · rw [if_pos a] at h0; omega
        · rw [if_neg (by omega)] at h0; omega
        · exact b.symm
      subst hN
      go_wp2_with fail
      go_meet
      exact ⟨rfl, hid rfl⟩
    · have d1 : decide (m > 8) = false := decide_eq_false hn
      have hN : m = n := by
        have h0 := HM.out
        rcases HCL.out with ⟨a, b⟩ | ⟨a, b, c⟩ | ⟨a, b⟩
        · rw [if_pos a] at h0; omega
        · rw [if_neg (by omega)] at h0; omega
        · rw [if_neg (by omega)] at h0; omega
      subst hN
      go_wp2_with fail
      go_meet
      exact ⟨rfl, hid rfl⟩
  case rest =>
  obtain ⟨rfl, HW⟩ := hcut
  have hw := HW.out
  subst hw
  clear HW HM HCL HZ
  obtain ⟨i0, hi, hy0, hy1, hy2⟩ := info_parts info_seen
  have HI := hid hi
  clear hi
  go_wp2_with fail
  go_loopw [10, 11, 12] (fun v10 v11 v12 wr => ∃ (i nm : Nat) (now : Int) (l : List SeenD) (a : Option Addr) (c : Nat) (F : Nat → Prop), i ≤ N ∧ nm ≤ i ∧ 0 ≤ now ∧ now ≤ 20 * i ∧ v12 = .int .i64 i ∧ v11 = .int .i64 now ∧ v10 = .slice a nm c ∧
    Hid (Sto wr sb F n l) ∧ Hid (wr.ownsRow 0 34 5 (.slice a nm c) nm (l.flatMap encSn)) ∧ Hid (Keeps No w wr) ∧ Hid (∀ j, F j → w.heap.size ≤ j) ∧ Hid (∀ b, (Value.slice a nm c).ownBlock = some b → w.heap.size ≤ b ∧ ¬ F b) ∧ Hid (∀ y ∈ l, 0 ≤ y.at_ ∧ y.at_ ≤ now)) (fun _ _ v12 _ => N - (intOf v12).toNat)
  case atStart => exact ⟨0, 0, 0, [], none, 0, F0, Nat.zero_le _, Nat.le_refl _, by omega, by omega, rfl, rfl, rfl, H2, hid (World.ownsRow_nil _ _ _ _), K2, N2, hid (fun b hb => by simp [Value.ownBlock] at hb), hid (fun y hy => by simp at hy)⟩
  case round =>
    clear H2 K2 N2
    obtain ⟨i, nm, now, l, a, c, F, hi, hnm, hnow0, hnow1, rfl, rfl, rfl, HO, HR, HK, HF, HA, HT⟩ := hrel
    by_cases hlt : i < N
    · have hil : i < q.length := by rw [HN.out]; exact hlt
      obtain ⟨⟨bh, sg, sq, vl, bd⟩, hx⟩ : ∃ x, q[i] = x := ⟨_, rfl⟩
      have hbh := HQ.out _ (List.getElem_mem hil)
      rw [hx] at hbh
      obtain ⟨hb0, hb1⟩ := hbh
      dsimp only at hb0 hb1
      obtain ⟨g, off, rfl, _, hc⟩ := Sl.itemC (enc := encCome) (size := 5) (fun _ => rfl) (by decide) HS.out hil hx
      have c0 := HK.out.cell (fun h => h) (hc 0 _ rfl)
      have c1 := HK.out.cell (fun h => h) (hc 1 _ rfl)
      have c2 := HK.out.cell (fun h => h) (hc 2 _ rfl)
      have c3 := HK.out.cell (fun h => h) (hc 3 _ rfl)
      have c4 := HK.out.cell (fun h => h) (hc 4 _ rfl)
      simp only [Nat.add_zero] at c0
      obtain ⟨nw, hnw⟩ : ∃ nw : Int, now + bh % 20 = nw := ⟨_, rfl⟩
      have hnw0 : now ≤ nw := by omega
      have hnw1 : nw ≤ 20 * (i + 1) := by omega
      obtain ⟨xb, hxb⟩ : ∃ x, wr.heap.size = x := ⟨_, rfl⟩
      obtain ⟨W5, hW5⟩ : ∃ W, wr.alloc (.cells #[.int .i64 sg, .int .u8 sq, .int .i64 vl, .bool bd] 28) = W := ⟨_, rfl⟩
      have k5 : Keeps No wr W5 := by rw [← hW5]; exact (Keeps.refl _ _).alloc _
      have hb5 : BlkC W5 xb 28 [.int .i64 sg, .int .u8 sq, .int .i64 vl, .bool bd] := by rw [← hW5, ← hxb]; exact heap_alloc_new wr _
      have HB5 := hid hb5
      have HW5 := hid hW5
      have K5 := hid k5
      have HXB := hid hxb
      have HNW := hid hnw
      clear hc hx hil hW5 k5 hb5 hxb
      go_upto_region 15 with fail
      rw [HW5.out, HXB.out]
      clear hnw c0 c1 c2 c3 c4 HNW HW5
      -- which signal
      have y0 := HB5.out.cell (o := 0) rfl
      have g0 := HB5.out.free 0
      go_upto_if 60 with fail
      go_cut [] from 60 to 66 (fun wx => ∃ s' : Int, Hid (BlkC wx xb 28 [.int .i64 s', .int .u8 sq, .int .i64 vl, .bool bd]) ∧ Hid (Keeps (fun b => b = xb) W5 wx))
      case first =>
        cases near
        · go_wp2_with fail
          go_meet
          exact ⟨sg, HB5, hid (Keeps.refl _ _)⟩
        · go_wp2_with fail
          go_meet
          exact ⟨_, hid (HB5.out.put 0 _ rfl), hid ((Keeps.refl _ _).at)⟩
      case rest =>
      obtain ⟨s', HB6, KX⟩ := hcut
      clear y0 g0 HB5
      obtain ⟨w6, rfl⟩ : ∃ x, x = wc := ⟨_, rfl⟩
      have y0 := HB6.out.cell (o := 0) rfl
      have hxs := HXB.out
      have hxl : ∀ j, F j → j < xb := fun j hj => by rw [← hxs]; exact HO.out.lt j hj
      have k56 : Keeps (fun b => b = xb) wr w6 := K5.out.no.trans KX.out
      have HO6 := hid (HO.out.keep k56 (fun j hj e => by have := hxl j hj; omega))
      have HR6 := hid (Keeps.own k56 HR.out (fun b hb e => by have := (HR.out.lt b hb).2; omega))
      have HK6 : Hid (Keeps No w w6) := hid (HK.out.trans' k56 (fun _ _ h => h) (fun b hb e => by have := HK.out.size; omega))
      have HNX := hid (show ¬ F xb from fun h => by have := hxl xb h; omega)
      have hxw6 : xb < w6.heap.size := lt_of_block HB6.out
      clear hxs hxl k56 HO HR HK K5 KX
      obtain ⟨ok, hok⟩ : ∃ ok : Bool, decide (0 ≤ s' ∧ s' < (n : Int)) = ok := ⟨_, rfl⟩
      have HOK := hid hok
      clear hok
      go_upto_region 17 with fail
      go_cut [14] from 67 to 75 (fun v14 wx => v14 = .bool ok ∧ Hid (wx = w6))
      case first =>
        by_cases hs0 : 0 ≤ s'
        · have d1 : decide (s' ≥ 0) = true := decide_eq_true hs0
          by_cases hs1 : s' < (n : Int)
          · have d2 : decide (s' < (n : Int)) = true := decide_eq_true hs1
            have e : ok = true := by rw [← HOK.out]; exact decide_eq_true ⟨hs0, hs1⟩
            subst e
            go_wp2_with fail
            go_meet
            exact ⟨rfl, hid rfl⟩
          · have d2 : decide (s' < (n : Int)) = false := decide_eq_false hs1
            have e : ok = false := by rw [← HOK.out]; exact decide_eq_false (fun h => hs1 h.2)
            subst e
            go_wp2_with fail
            go_meet
            exact ⟨rfl, hid rfl⟩
        · have d1 : decide (s' ≥ 0) = false := decide_eq_false hs0
          have e : ok = false := by rw [← HOK.out]; exact decide_eq_false (fun h => hs0 h.1)
          subst e
          go_wp2_with fail
          go_meet
          exact ⟨rfl, hid rfl⟩
      case rest =>
      obtain ⟨rfl, HWX⟩ := hcut
      have hwx := HWX.out
      subst hwx
      obtain ⟨w6, rfl⟩ : ∃ x, x = wc := ⟨_, rfl⟩
      clear HWX y0
      have y0 := HB6.out.cell (o := 0) rfl
      have y1 := HB6.out.cell (o := 1) rfl
      have y2 := HB6.out.cell (o := 2) rfl
      have y3 := HB6.out.cell (o := 3) rfl
      obtain ⟨x, hx⟩ : ∃ x : SeenD, (⟨nw, s', sq, vl, bd⟩ : SeenD) = x := ⟨_, rfl⟩
      have hln : l.length = nm := by have h1 := HR6.out.1; rw [length_flatMap_enc (size := 5) (fun _ => rfl)] at h1; omega
      have hrise : ∀ y ∈ l, y.at_ ≤ nw := fun y hy => Int.le_trans (HT.out y hy).2 hnw0
      have hput := cput_any HO6.out ⟨nw, s', sq, vl, bd⟩ (by omega) ⟨by show -9223372036854775808 ≤ nw; omega, by show nw ≤ 9223372036854775807; omega⟩ hrise
      have htk : takes n ⟨nw, s', sq, vl, bd⟩ = ok := HOK.out
      rw [htk] at hput
      dsimp only at hput
      rw [hx] at hput
      have HPUT := hid hput
      have HX := hid hx
      have HRI : Hid (∀ y ∈ l, 0 ≤ y.at_ ∧ y.at_ ≤ nw) := hid (fun y hy => ⟨(HT.out y hy).1, hrise y hy⟩)
      have HXA : Hid (0 ≤ x.at_ ∧ x.at_ ≤ nw) := hid (by rw [← hx]; exact ⟨by show 0 ≤ nw; omega, Int.le_refl _⟩)
      clear hput htk hx hrise hln HOK HT
      go_wp2_with fail
      refine HPUT.out.mono ?_
      rintro e w7 ⟨rfl, F7, h7, u7⟩
      have HU := newUpd HF.out HK6.out u7
      have HF7 := hid HU.1
      have HK7 := hid HU.2
      have HO7 := hid h7
      have HR7 := hid (Keeps.own u7.keeps HR6.out (fun b hb e => (HA.out b hb).2 e))
      have HA7 : Hid (∀ b, (Value.slice a nm c).ownBlock = some b → w.heap.size ≤ b ∧ ¬ F7 b) := hid (fun b hb => ⟨(HA.out b hb).1, u7.out (HR6.out.lt b hb).2 (HA.out b hb).2⟩)
      have HB7 := hid (HB6.out.keep u7.keeps HNX.out)
      clear h7 u7 HU HO6 HR6 HK6 HF HA HB6 HNX HPUT y0 y1 y2 y3 hxw6
      obtain ⟨l', hl'⟩ : ∃ l', (if ok = true then l ++ [x] else l) = l' := ⟨_, rfl⟩
      rw [hl'] at HO7
      have HL := hid hl'
      clear hl'
      have y0 := HB7.out.cell (o := 0) rfl
      have y1 := HB7.out.cell (o := 1) rfl
      have y2 := HB7.out.cell (o := 2) rfl
      have y3 := HB7.out.cell (o := 3) rfl
      go_upto_if 82 with fail
      go_cut [10] from 82 to 88 (fun v10 wx => ∃ (nm' : Nat) (a' : Option Addr) (c' : Nat), v10 = .slice a' nm' c' ∧ nm' ≤ i + 1 ∧ Hid (wx.ownsRow 0 34 5 (.slice a' nm' c') nm' (l'.flatMap encSn)) ∧ Hid (Sto wx sb F7 n l') ∧ Hid (Keeps No w wx) ∧ Hid (∀ b, (Value.slice a' nm' c').ownBlock = some b → w.heap.size ≤ b ∧ ¬ F7 b))
      case first =>
        cases ok
        · have e : l = l' := HL.out
          subst e
          go_wp2_with fail
          go_meet
          exact ⟨nm, a, c, rfl, by omega, HR7, HO7, HK7, HA7⟩
        · have e : l ++ [x] = l' := HL.out
          subst e
          go_wp2_with (at_builtin; refine wpl_append rfl _ _ 26 rfl 34 i0 (.agg #[.int .i64 0, .int .i64 0, .int .u8 0, .int .i64 0, .bool false]) 5 40 Try.underlying26 HI.out hy0 hy1 hy2 rfl (by decide) _ _ _ _ _ _ rfl rfl (HR7.out.alloc _) (Sl.new _ _ _ 5 1 rfl (by decide)) (by intro u hu; simp at hu; rcases hu with rfl | rfl | rfl | rfl | rfl <;> rfl) ?c3 ?c4 ?_)
          case c3 => unfold maxLen; omega
          case c4 => omega
          intro v2 w8 ho2 kk hb2
          obtain ⟨a2, c2', rfl⟩ := own_any ho2
          have hz := HO7.out.lt
          have hz2 := HK7.out.size
          have hb3 : ∀ b, (Value.slice a2 (nm + 1) c2').ownBlock = some b → w.heap.size ≤ b ∧ ¬ F7 b := fun b hb => by
            rcases hb2 b hb with h' | h'
            · exact HA7.out b h'
            · have h'' : w7.heap.size < b := h'
              exact ⟨by omega, fun hf => by have := hz b hf; omega⟩
          have k78 : Keeps (Bl (.slice a nm c)) w7 w8 := (((Keeps.refl No w7).alloc _).no).trans kk
          have HO8 := hid (HO7.out.keep k78 (fun j hj e => (HA7.out j e).2 hj))
          have HK8 : Hid (Keeps No w w8) := hid (HK7.out.trans' k78 (fun _ _ h => h) (fun b hb e => by have := (HA7.out b e).1; omega))
          have HR8 : Hid (w8.ownsRow 0 34 5 (.slice a2 (nm + 1) c2') (nm + 1) ((l ++ [x]).flatMap encSn)) := hid (by rw [List.flatMap_append, ← HX.out]; simpa [encSn] using ho2)
          have HB8 := hid hb3
          clear ho2 kk hb2 hz hz2 hb3 k78
          go_wp2_with fail
          go_meet
          exact ⟨nm + 1, a2, c2', rfl, by omega, HR8, HO8, HK8, HB8⟩
      case rest =>
      obtain ⟨nm', a', c', rfl, hnm', HR8, HO8, HK8, HA8⟩ := hcut
      clear y0 y1 y2 y3 HR7 HO7 HK7 HA7 HB7
      obtain ⟨w8, rfl⟩ : ∃ x, x = wc := ⟨_, rfl⟩
      have HT8 : Hid (∀ y ∈ l', 0 ≤ y.at_ ∧ y.at_ ≤ nw) := hid (fun y hy => by
        rw [← HL.out] at hy
        split at hy
        · rcases List.mem_append.1 hy with hy | hy
          · exact HRI.out y hy
          · simp at hy; subst hy; exact HXA.out
        · exact HRI.out y hy)
      have hln : l'.length = nm' := by have h1 := HR8.out.1; rw [length_flatMap_enc (size := 5) (fun _ => rfl)] at h1; omega
      have HSL : Hid (Sl w8 5 (.slice a' nm' c') l'.length (l'.flatMap encSn)) := hid (by rw [hln]; exact Sl.ofOwn HR8.out)
      have HLE : Hid (l'.length ≤ 100000) := hid (by omega)
      have HN5 : Hid (I64 (nw + 5)) := hid ⟨by omega, by omega⟩
      have HAT : Hid (∀ y ∈ l', I64 y.at_) := hid (fun y hy => by have h1 := HT8.out y hy; exact ⟨by omega, by omega⟩)
      clear hln HL HRI HXA HX
      go_wp2_with fail
      go_loopw [15] (fun v15 wz => ∃ j : Nat, j ≤ 10 ∧ v15 = .int .i64 ((j : Int) - 1) ∧ Hid (Keeps No w8 wz)) (fun v15 _ => 10 - (intOf v15 + 1).toNat)
      case atStart => exact ⟨0, by omega, rfl, hid (Keeps.refl _ _)⟩
      case round =>
        obtain ⟨j, hj, rfl, HKZ⟩ := hrel
        obtain ⟨wz, rfl⟩ : ∃ x, x = wr := ⟨_, rfl⟩
        by_cases hj9 : j < 10
        · have d9 : decide (((j : Int) - 1) < 9) = true := decide_eq_true (by omega)
          obtain ⟨k, hk⟩ : ∃ k : Int, (j : Int) - 1 = k := ⟨_, rfl⟩
          rw [hk] at d9 ⊢
          have HKJ := hid hk
          clear hk
          have HOZ := hid (HO8.out.keep HKZ.out (fun _ _ h => h))
          have HSZ := hid (HSL.out.keep HKZ.out (fun _ _ h => h))
          obtain ⟨A1, hA1⟩ : ∃ y, (valueD l' k).elim 0 (·.val) = y := ⟨_, rfl⟩
          obtain ⟨A2, hA2⟩ : ∃ y, (valueD l' k).elim 0 (·.at_) = y := ⟨_, rfl⟩
          obtain ⟨A3, hA3⟩ : ∃ y, (valueD l' k).isSome = y := ⟨_, rfl⟩
          have hcv := cvalue_any HOZ.out k
          unfold ValueA at hcv
          rw [hA1, hA2, hA3] at hcv
          have HMV := hid (fun (w' : World) (kk : Keeps No wz w') => mvalue_any (HSZ.out.keep kk (fun _ _ h => h)) k HLE.out)
          unfold ValueA at HMV
          rw [hA1, hA2, hA3] at HMV
          have HCV := hid hcv
          clear hcv hA1 hA2 hA3
          go_wp2_with fail
          refine HCV.out.mono ?_
          rintro e z1 ⟨rfl, kz⟩
          have Z1 := hid kz
          clear kz HCV
          go_wp2_with fail
          refine (HMV.out _ Z1.out).mono ?_
          rintro e z2 ⟨rfl, kz⟩
          have Z2 := hid (Z1.out.trans kz)
          clear kz HMV Z1
          go_wp2_with fail
          obtain ⟨fr, hfr⟩ : ∃ fr : Int, wrap64 (nw - from_.tmod 40) = fr := ⟨_, rfl⟩
          rw [hfr]
          have HFR := hid hfr
          clear hfr
          obtain ⟨B1, hB1⟩ : ∃ y, (oldestD l' k fr).elim 0 (·.val) = y := ⟨_, rfl⟩
          obtain ⟨B2, hB2⟩ : ∃ y, (oldestD l' k fr).isSome = y := ⟨_, rfl⟩
          have hco := coldest_any (HOZ.out.keep Z2.out (fun _ _ h => h)) k fr
          unfold OldestA at hco
          rw [hB1, hB2] at hco
          have HMO := hid (fun (w' : World) (kk : Keeps No wz w') => moldest_any (HSZ.out.keep kk (fun _ _ h => h)) k fr HLE.out)
          unfold OldestA at HMO
          rw [hB1, hB2] at HMO
          have HCO := hid hco
          clear hco hB1 hB2
          refine HCO.out.mono ?_
          rintro e z3 ⟨rfl, kz⟩
          have Z3 := hid (Z2.out.trans kz)
          clear kz HCO Z2
          go_wp2_with fail
          rw [HFR.out]
          refine (HMO.out _ Z3.out).mono ?_
          rintro e z4 ⟨rfl, kz⟩
          have Z4 := hid (Z3.out.trans kz)
          clear kz HMO Z3
          go_wp2_with fail
          obtain ⟨Q1, hQ1⟩ : ∃ y, quietD l' k (nw + 5) = y := ⟨_, rfl⟩
          have hcq := cquiet_any (HOZ.out.keep Z4.out (fun _ _ h => h)) k (nw + 5) HN5.out
          rw [hQ1] at hcq
          have HMQ := hid (fun (w' : World) (kk : Keeps No wz w') => mquiet_any (HSZ.out.keep kk (fun _ _ h => h)) k (nw + 5) HLE.out HN5.out HAT.out)
          rw [hQ1] at HMQ
          clear hQ1
          refine hcq.mono ?_
          rintro e z5 ⟨rfl, kz⟩
          have Z5 := hid (Z4.out.trans kz)
          clear kz hcq Z4
          go_wp2_with fail
          refine (HMQ.out _ Z5.out).mono ?_
          rintro e z6 ⟨rfl, kz⟩
          have Z6 := hid (Z5.out.trans kz)
          clear kz HMQ Z5
          go_wp2_with fail
          obtain ⟨D1, hD1⟩ : ∃ y, badD l' k = y := ⟨_, rfl⟩
          have hcb := cbad_any (HOZ.out.keep Z6.out (fun _ _ h => h)) k
          rw [hD1] at hcb
          have HMB := hid (fun (w' : World) (kk : Keeps No wz w') => mbad_any (HSZ.out.keep kk (fun _ _ h => h)) k HLE.out)
          rw [hD1] at HMB
          clear hD1
          refine hcb.mono ?_
          rintro e z7 ⟨rfl, kz⟩
          have Z7 := hid (Z6.out.trans kz)
          clear kz hcb Z6
          go_wp2_with fail
          refine (HMB.out _ Z7.out).mono ?_
          rintro e z8 ⟨rfl, kz⟩
          have Z8 := hid (Z7.out.trans kz)
          clear kz HMB Z7
          go_wp2_with fail
          obtain ⟨E1, hE1⟩ : ∃ y, (goodD l' k).length = y := ⟨_, rfl⟩
          have hck := ckept_any (HOZ.out.keep Z8.out (fun _ _ h => h)) k
          rw [hE1] at hck
          have HMK := hid (fun (w' : World) (kk : Keeps No wz w') => mkept_any (HSZ.out.keep kk (fun _ _ h => h)) k HLE.out)
          rw [hE1] at HMK
          clear hE1
          refine hck.mono ?_
          rintro e z9 ⟨rfl, kz⟩
          have Z9 := hid (Z8.out.trans kz)
          clear kz hck Z8
          go_wp2_with fail
          refine (HMK.out _ Z9.out).mono ?_
          rintro e z10 ⟨rfl, kz⟩
          have Z10 := hid (HKZ.out.trans (Z9.out.trans kz))
          have hkj := HKJ.out
          subst hkj
          clear kz HMK Z9 HKJ
          go_wp2_with fail
          go_roundw
          case rel => exact ⟨j + 1, by omega, by go_num, Z10⟩
          case measure => simp [intOf]; omega
        · obtain rfl : j = 10 := by omega
          go_wp2_with fail
          go_roundw
          case rel => exact ⟨i + 1, nm', nw, l', a', c', F7, by omega, hnm', by omega, by omega, by go_num, rfl, rfl, hid (HO8.out.keep HKZ.out (fun _ _ h => h)), hid (Keeps.own HKZ.out HR8.out (fun _ _ h => h)), hid (HK8.out.trans HKZ.out), HF7, HA8, HT8⟩
          case measure => simp [intOf]; omega
    · obtain rfl : i = N := by omega
      go_wp2_with fail
      go_ret
      exact ⟨rfl, HK.out.toBelow⟩

end Go.Proofs.Ytabidomilpdelaa

namespace Go.Proofs.Ytabidomilpdelaa
open Go.ChangeShapes Go.WideShapes Go.ChangeAt Go.RowKit

def goodCome (y : ComeD) : Prop := 0 ≤ y.behind ∧ y.behind ≤ 255

set_option maxRecDepth 100000 in
theorem decCome {H : Type} {enc : TypeId × Value → H} {W : World} {n : Nat} {cs : List Value} {x} (h : DataW.trod enc Try.prog W 0 (fun _ => true) true n 30 cs = some x) : ∃ y : ComeD, cs = encCome y ∧ goodCome y := by
  obtain ⟨xs, m, _, _, hl, hlen, hf⟩ := DataW.trod_struct Try.underlying30 h
  rw [show Try.prog.cellsOf 30 = 5 by kernel_rfl] at hl
  match cs, hl, xs, hlen with
  | [c0, c1, c2, c3, c4], _, [y0, y1], _ =>
    have h0 : DataW.trod enc Try.prog W 0 (fun _ => true) true m 5 (([c0, c1, c2, c3, c4].drop 0).take (Try.prog.cellsOf 5)) = some y0 := hf 0 _ rfl
    have h1 : DataW.trod enc Try.prog W 0 (fun _ => true) true m 28 (([c0, c1, c2, c3, c4].drop 1).take (Try.prog.cellsOf 28)) = some y1 := hf 1 _ rfl
    rw [show Try.prog.cellsOf 5 = 1 by kernel_rfl] at h0
    rw [show Try.prog.cellsOf 28 = 4 by kernel_rfl] at h1
    obtain ⟨a, e0, _, w0⟩ := DataW.trod_int Try.underlying5 h0
    obtain ⟨zs, m2, _, _, hl2, hlen2, hf2⟩ := DataW.trod_struct Try.underlying28 h1
    match zs, hlen2 with
    | [z0, z1, z2, z3], _ =>
      have g0 : DataW.trod enc Try.prog W 0 (fun _ => true) true m2 3 (([c1, c2, c3, c4].drop 0).take (Try.prog.cellsOf 3)) = some z0 := hf2 0 _ rfl
      have g1 : DataW.trod enc Try.prog W 0 (fun _ => true) true m2 5 (([c1, c2, c3, c4].drop 1).take (Try.prog.cellsOf 5)) = some z1 := hf2 1 _ rfl
      have g2 : DataW.trod enc Try.prog W 0 (fun _ => true) true m2 3 (([c1, c2, c3, c4].drop 2).take (Try.prog.cellsOf 3)) = some z2 := hf2 2 _ rfl
      have g3 : DataW.trod enc Try.prog W 0 (fun _ => true) true m2 4 (([c1, c2, c3, c4].drop 3).take (Try.prog.cellsOf 4)) = some z3 := hf2 3 _ rfl
      rw [show Try.prog.cellsOf 5 = 1 by kernel_rfl] at g1
      rw [show Try.prog.cellsOf 3 = 1 by kernel_rfl] at g0 g2
      rw [show Try.prog.cellsOf 4 = 1 by kernel_rfl] at g3
      obtain ⟨a0, e1, _, _⟩ := DataW.trod_int Try.underlying3 g0
      obtain ⟨a1, e2, _, _⟩ := DataW.trod_int Try.underlying5 g1
      obtain ⟨a2, e3, _, _⟩ := DataW.trod_int Try.underlying3 g2
      obtain ⟨b3, e4, _⟩ := DataW.trod_bool Try.underlying4 g3
      simp at e0 e1 e2 e3 e4
      obtain ⟨q0, q1⟩ := bounds_u8 w0
      exact ⟨⟨a, a0, a1, a2, b3⟩, by simp [e0, e1, e2, e3, e4, encCome], q0, q1⟩

end Go.Proofs.Ytabidomilpdelaa
