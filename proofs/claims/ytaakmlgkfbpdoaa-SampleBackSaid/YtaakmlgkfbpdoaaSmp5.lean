/-
  Read: the program's, of any bytes.
-/
import Derived.Test.YtaakmlgkfbpdoaaInI
import Derived.Test.YtaakmlgkfbpdoaaCfg
import Derived.Deep.RegionHeld3
import Derived.Deep.CutBlock
import Derived.Deep.DeepCutAuto
import Derived.Deep.QuietTactic
import Derived.BigQuiet
namespace Go.Proofs.Ytaakmlgkfbpdoaa
open Go.RowKit
set_option linter.unusedVariables false

/-- A sample: signal, Seq, value, Bad; and the error. -/
structure RdA where
  sg : Int
  sq : Int
  v : Int
  b : Bool
  e : Int

def RdA.val (r : RdA) : Value := .tuple #[.agg #[.int .i64 r.sg, .int .u8 r.sq, .int .i64 r.v, .bool r.b], .int .i64 r.e]

/-- What any bytes are. -/
def rdSmp (p : List Int) (L : List Sig) : RdA :=
  match p with
  | [a, b, c, d, e, f, g] => if 1 < c then ⟨0, 0, 0, false, 2⟩ else if h : a.toNat < L.length then ⟨a, b, int32Of d e f g, (c == 1) || (decide (int32Of d e f g < L[a.toNat].mn) || decide (L[a.toNat].mx < int32Of d e f g)), 0⟩ else ⟨0, 0, 0, false, 7⟩
  | _ => ⟨0, 0, 0, false, 2⟩

theorem rd_chain {p : List Int} {L : List Sig} {x1 x2 x4 n f : Int} {x3 : Bool} {s1 s2 s3 s4 : RS} (e1 : (⟨p, 0, 0⟩ : RS).byte = (x1, s1)) (e2 : s1.byte = (x2, s2)) (e3 : s2.flag = (x3, s3)) (e4 : s3.int = (x4, s4)) (e5 : s4.fin = (n, f)) :
    (f ≠ 0 ∧ rdSmp p L = ⟨0, 0, 0, false, 2⟩) ∨ (f = 0 ∧ ∃ c d e g h, p = [x1, x2, c, d, e, g, h] ∧ ¬ 1 < c ∧ x3 = (c == 1) ∧ x4 = int32Of d e g h) := by
  rcases p with _ | ⟨a, _ | ⟨b, _ | ⟨c, _ | ⟨d, _ | ⟨e, _ | ⟨g, _ | ⟨h, _ | ⟨z, t⟩⟩⟩⟩⟩⟩⟩⟩
  all_goals
    simp [RS.byte] at e1
    obtain ⟨rfl, rfl⟩ := e1
    simp [RS.byte] at e2
    obtain ⟨rfl, rfl⟩ := e2
    simp only [RS.flag, if_true, if_neg (show ¬ ((4 : Int) = 0) by decide)] at e3
    try (split at e3)
    all_goals
      simp only [Prod.mk.injEq] at e3
      obtain ⟨rfl, rfl⟩ := e3
      simp [RS.int] at e4
      obtain ⟨rfl, rfl⟩ := e4
      simp [RS.fin, RS.fault] at e5
      obtain ⟨rfl, rfl⟩ := e5
      first | (left; exact ⟨by omega, by simp_all [rdSmp]⟩) | (right; exact ⟨by omega, _, _, _, _, _, rfl, by assumption, rfl, rfl⟩) | trace_state

theorem rd_x1 {p : List Int} {x1 : Int} {s1 : RS} (hb : Bytes p) (e1 : (⟨p, 0, 0⟩ : RS).byte = (x1, s1)) : 0 ≤ x1 ∧ x1 ≤ 255 := by
  rcases p with _ | ⟨a, t⟩
  · simp [RS.byte] at e1
    omega
  · simp [RS.byte] at e1
    have := hb a (List.mem_cons_self ..)
    omega

set_option maxHeartbeats 4000000 in
set_option maxRecDepth 100000 in
theorem sread_any {w : World} {pv sv : Value} {p : List Int} {L : List Sig} (hp : SlB w pv p) (hb : Bytes p) (hl : p.length ≤ 100000) (hs : Sl w 2 sv L.length (L.flatMap encSig)) (hL : L.length ≤ 1000) :
    Calls Try.prog 16 #[pv, sv] w fun e w' => e = .returned (rdSmp p L).val ∧ Keeps No w w' := by
  obtain ⟨x1, s1, e1⟩ : ∃ x1 s1, (⟨p, 0, 0⟩ : RS).byte = (x1, s1) := ⟨_, _, rfl⟩
  obtain ⟨x2, s2, e2⟩ : ∃ x2 s2, s1.byte = (x2, s2) := ⟨_, _, rfl⟩
  obtain ⟨x3, s3, e3⟩ : ∃ x3 s3, s2.flag = (x3, s3) := ⟨_, _, rfl⟩
  obtain ⟨x4, s4, e4⟩ : ∃ x4 s4, s3.int = (x4, s4) := ⟨_, _, rfl⟩
  obtain ⟨n, f, e5⟩ : ∃ n f, s4.fin = (n, f) := ⟨_, _, rfl⟩
  have hch := rd_chain (L := L) e1 e2 e3 e4 e5
  obtain ⟨hx0, hx1⟩ := rd_x1 hb e1
  obtain ⟨R, hR⟩ : ∃ R, rdSmp p L = R := ⟨_, rfl⟩
  rw [hR]
  obtain ⟨pa, pc, rfl⟩ := hp.any
  obtain ⟨sa, sc, rfl⟩ := hs.any
  obtain ⟨W1, hW1⟩ : ∃ W1, w.alloc (.cells #[.int .i64 0, .int .u8 0, .int .i64 0, .bool false] 47) = W1 := ⟨_, rfl⟩
  have k1 : Keeps No w W1 := by rw [← hW1]; exact (Keeps.refl _ _).alloc _
  have hz1 : W1.heap.size = w.heap.size + 1 := by rw [← hW1]; simp
  have hbx : BlkL W1 w.heap.size 47 [.int .i64 0, .int .u8 0, .int .i64 0, .bool false] := by rw [← hW1]; exact heap_alloc_new w _
  have HB := hid hbx
  have HWE := hid hW1
  have K1 := hid k1
  have HZ := hid hz1
  clear hW1 k1 hz1 hbx
  have E1 := hid e1
  have E2 := hid e2
  have E3 := hid e3
  have E4 := hid e4
  have E5 := hid e5
  have HCH := hid hch
  have HR := hid hR
  have HP := hid hp
  have HS := hid hs
  have HBY := hid hb
  clear e1 e2 e3 e4 e5 hch hR hp hs hb
  go_enter Try.func16, Try.ntmps16
  go_upto_region 1 with fail
  rw [HWE.out]
  go_wp2_with fail
  with_reducible refine (rnew_any ?q1 HBY.out hl).mono ?_
  case q1 => exact HP.out.keep K1.out (fun _ _ h => h)
  rintro r w2 ⟨rb, F, rfl, hr, hk, hf⟩
  have hrb := (hf rb (by obtain ⟨lv, h⟩ := hr; exact h.rb)).1
  rw [HZ.out] at hrb
  have HR2 := hid hr
  have HK2 := hid (K1.out.trans hk)
  have HB2 := hid (HB.out.keep hk (fun h => h))
  clear hr hk hf
  go_wp2_with fail
  with_reducible refine (rbyte_any HR2.out).mono ?_
  rw [E1.out]
  rintro r w3 ⟨rfl, hr, hk⟩
  have HR3 := hid hr
  have HK3 := hid (HK2.out.trans' hk (T := No) (fun _ _ h => h) (fun i hi e => by omega))
  have HB3 := hid (HB2.out.keep hk (fun e => by omega))
  clear hr hk HR2 HK2 HB2
  go_wp2_with fail
  with_reducible refine (rbyte_any HR3.out).mono ?_
  rw [E2.out]
  rintro r w4 ⟨rfl, hr, hk⟩
  have HR4 := hid hr
  have HK4 := hid (HK3.out.trans' hk (T := No) (fun _ _ h => h) (fun i hi e => by omega))
  have HB4 := hid (HB3.out.keep hk (fun e => by omega))
  clear hr hk HR3 HK3 HB3
  go_wp2_with fail
  with_reducible refine (rflag_any HR4.out).mono ?_
  rw [E3.out]
  rintro r w5 ⟨rfl, hr, hk⟩
  have HR5 := hid hr
  have HK5 := hid (HK4.out.trans' hk (T := No) (fun _ _ h => h) (fun i hi e => by omega))
  have HB5 := hid (HB4.out.keep hk (fun e => by omega))
  clear hr hk HR4 HK4 HB4
  go_wp2_with fail
  with_reducible refine (rint_any HR5.out).mono ?_
  rw [E4.out]
  rintro r w6 ⟨rfl, hr, hk⟩
  have HR6 := hid hr
  have HK6 := hid (HK5.out.trans' hk (T := No) (fun _ _ h => h) (fun i hi e => by omega))
  have HB6 := hid (HB5.out.keep hk (fun e => by omega))
  clear hr hk HR5 HK5 HB5
  go_wp2_with fail
  obtain ⟨W7, hW7⟩ : ∃ W7, w6.alloc (.cells #[.int .i64 x1, .int .u8 x2, .int .i64 x4, .bool x3] 47) = W7 := ⟨_, rfl⟩
  have hk7 : Keeps No w6 W7 := by rw [← hW7]; exact (Keeps.refl _ _).alloc _
  have hb7 : BlkL W7 w6.heap.size 47 [.int .i64 x1, .int .u8 x2, .int .i64 x4, .bool x3] := by rw [← hW7]; exact heap_alloc_new w6 _
  rw [hW7]
  have hlt6 := HK6.out.size
  have hlb6 := HB6.out.lt
  have HR7 := hid (HR6.out.keep hk7 (fun _ _ h => h))
  have HK7 := hid (HK6.out.trans hk7)
  have HB7 := hid (HB6.out.keep hk7 (fun h => h))
  have HX7 := hid hb7
  have hrb7 : rb < w6.heap.size := by obtain ⟨lv, h⟩ := HR6.out; exact lt_of_block h.blk
  clear hk7 hb7 hW7 HR6 HK6 HB6
  with_reducible refine (rend_any HR7.out).mono ?_
  rw [E5.out]
  rintro r w8 ⟨rfl, hk⟩
  have HK8 := hid (HK7.out.trans hk)
  have hb8 := HB7.out.keep hk (fun h => h)
  have hx8 := HX7.out.keep hk (fun h => h)
  have y0 := hb8.cell (o := 0) rfl
  have y1 := hb8.cell (o := 1) rfl
  have y2 := hb8.cell (o := 2) rfl
  have y3 := hb8.cell (o := 3) rfl
  have q0 := hb8.free 0
  have q1 := hb8.free 1
  have q2 := hb8.free 2
  have q3 := hb8.free 3
  have HB8 := hid hb8
  have HX8 := hid hx8
  clear hk hb8 hx8 HR7 HK7 HB7 HX7
  rcases HCH.out with ⟨hf0, hbad⟩ | ⟨rfl, c, d, e, g, h, hpe, hc1, hx3, hx4⟩
  · have df : (f != 0) = true := by simpa using hf0
    rw [HR.out] at hbad
    subst hbad
    clear hf0
    have hbF := (((HB8.out.put 0 (.int .i64 0) rfl).put 1 (.int .u8 0) rfl).put 2 (.int .i64 0) rfl).put 3 (.bool false) rfl
    have r0 := hbF.cell (o := 0) rfl
    have r1 := hbF.cell (o := 1) rfl
    have r2 := hbF.cell (o := 2) rfl
    have r3 := hbF.cell (o := 3) rfl
    have kF := (((HK8.out.setCell (p := ⟨w.heap.size, 0, none⟩) (Or.inl (Nat.le_refl _)) (.int .i64 0)).setCell (p := ⟨w.heap.size, 1, none⟩) (Or.inl (Nat.le_refl _)) (.int .u8 0)).setCell (p := ⟨w.heap.size, 2, none⟩) (Or.inl (Nat.le_refl _)) (.int .i64 0)).setCell (p := ⟨w.heap.size, 3, none⟩) (Or.inl (Nat.le_refl _)) (.bool false)
    have KF := hid kF
    clear hbF kF
    go_wp2_with fail
    refine bodyPost_ret (v := .tuple #[.agg #[.int .i64 0, .int .u8 0, .int .i64 0, .bool false], .int .i64 2]) (by simp [results, Try.results16, go_sem, r0, r1, r2, r3]) rfl ?_
    exact ⟨by simp [RdA.val], KF.out⟩
  · obtain ⟨k, hk⟩ : ∃ k : Nat, x1 = k := ⟨x1.toNat, by omega⟩
    subst hk
    rw [hpe] at HR
    have hval : R = if h : k < L.length then ⟨k, x2, x4, x3 || (decide (x4 < L[k].mn) || decide (L[k].mx < x4)), 0⟩ else ⟨0, 0, 0, false, 7⟩ := by
      rw [← HR.out, hx3, hx4]
      simp only [rdSmp, if_neg (show ¬ 1 < c by omega), Int.toNat_natCast]
    clear hpe hx3 hx4 hc1 HR
    have hx0' := HX8.out.cell (o := 0) rfl
    have hx1' := HX8.out.cell (o := 1) rfl
    have hx2' := HX8.out.cell (o := 2) rfl
    have hx3' := HX8.out.cell (o := 3) rfl
    by_cases hkl : k < L.length
    · rw [dif_pos hkl] at hval
      have d1 : decide ((k : Int) ≥ L.length) = false := decide_eq_false (by omega)
      obtain ⟨⟨mn, mx⟩, hsg⟩ : ∃ s : Sig, L[k] = s := ⟨_, rfl⟩
      have hkeep := HS.out.keep HK8.out (fun _ _ h => h)
      obtain ⟨g1, off1, rfl, hg1, c0⟩ := Sl.cellAt hkeep (j := k * 2 + 0) (u := .int .i64 mn) (by rw [getElem?_flatMap_enc (size := 2) (fun _ => rfl) L k 0 (by omega) hkl, hsg]; rfl)
      obtain ⟨g2, off2, he, hg2, c1⟩ := Sl.cellAt hkeep (j := k * 2 + 1) (u := .int .i64 mx) (by rw [getElem?_flatMap_enc (size := 2) (fun _ => rfl) L k 1 (by omega) hkl, hsg]; rfl)
      simp only [Option.some.injEq, Addr.mk.injEq, and_true] at he
      obtain ⟨rfl, rfl⟩ := he
      rw [hsg] at hval
      simp only at hval
      simp only [Nat.add_zero] at c0
      rw [← Nat.add_assoc] at c1
      clear hsg hkeep
      have f3 := HX8.out.free 3
      obtain ⟨lo, D1⟩ : ∃ b, decide (x4 < mn) = b := ⟨_, rfl⟩
      obtain ⟨hi, D2⟩ : ∃ b, decide (mx < x4) = b := ⟨_, rfl⟩
      have D3 : decide (x4 > mx) = hi := D2
      rw [D1, D2] at hval
      subst hval
      clear D2
      obtain ⟨W9, hW9⟩ : ∃ W9, w8.alloc (.cells #[.int .i64 mn, .int .i64 mx] 44) = W9 := ⟨_, rfl⟩
      have hk9 : Keeps No w8 W9 := by rw [← hW9]; exact (Keeps.refl _ _).alloc _
      have hb9 : BlkL W9 w8.heap.size 44 [.int .i64 mn, .int .i64 mx] := by rw [← hW9]; exact heap_alloc_new w8 _
      have hx9 := HX8.out.keep hk9 (fun h => h)
      have hbb9 := HB8.out.keep hk9 (fun h => h)
      have HK9 := hid (HK8.out.trans hk9)
      have HWE9 := hid hW9
      have hne : w.heap.size ≠ w6.heap.size := by omega
      clear hW9 hk9 f3
      go_upto_region 9 with fail
      rw [HWE9.out]
      clear y0 y1 y2 y3 q0 q1 q2 q3 hx0' hx1' hx2' hx3' c0 c1
      have a0 := hb9.cell (o := 0) rfl
      have a1 := hb9.cell (o := 1) rfl
      have z0 := hx9.cell (o := 0) rfl
      have z1 := hx9.cell (o := 1) rfl
      have z2 := hx9.cell (o := 2) rfl
      have z3 := hx9.cell (o := 3) rfl
      have u3 := hx9.free 3
      have HX9 := hid hx9
      have HB9 := hid hbb9
      have HNE := hid hne
      clear hb9 hx9 hbb9 hne
      cases x3 <;> cases lo <;> cases hi
      all_goals
        go_upto_region 10 with fail
        first
          | skip
            obtain ⟨WA, hWA⟩ : ∃ WA, W9.setCell ⟨w6.heap.size, 3, none⟩ (.bool true) = WA := ⟨_, rfl⟩
            rw [hWA]
            have hxA : BlkL WA w6.heap.size 47 [.int .i64 k, .int .u8 x2, .int .i64 x4, .bool true] := by rw [← hWA]; exact HX9.out.put 3 _ rfl
            have hkA : Keeps (fun i => i = w6.heap.size) W9 WA := by rw [← hWA]; exact (Keeps.refl _ _).at
            have hbA := HB9.out.keep hkA (fun e => HNE.out e)
            have hKA : Keeps No w WA := by rw [← hWA]; exact HK9.out.setCell (p := ⟨w6.heap.size, 3, none⟩) (Or.inl (by show w.heap.size ≤ w6.heap.size; omega)) _
            have HKA := hid hKA
            have HBA := hid hbA
            clear hWA hkA hKA a0 a1 z0 z1 z2 z3 u3 HX9 HB9 HK9
            have z0 := hxA.cell (o := 0) rfl
            have z1 := hxA.cell (o := 1) rfl
            have z2 := hxA.cell (o := 2) rfl
            have z3 := hxA.cell (o := 3) rfl
            have y0 := hbA.cell (o := 0) rfl
            have y1 := hbA.cell (o := 1) rfl
            have y2 := hbA.cell (o := 2) rfl
            have y3 := hbA.cell (o := 3) rfl
            have q0 := hbA.free 0
            have q1 := hbA.free 1
            have q2 := hbA.free 2
            have q3 := hbA.free 3
            clear hxA hbA
            have hbF := (((HBA.out.put 0 (.int .i64 k) rfl).put 1 (.int .u8 x2) rfl).put 2 (.int .i64 x4) rfl).put 3 (.bool true) rfl
            have r0 := hbF.cell (o := 0) rfl
            have r1 := hbF.cell (o := 1) rfl
            have r2 := hbF.cell (o := 2) rfl
            have r3 := hbF.cell (o := 3) rfl
            have kF := (((HKA.out.setCell (p := ⟨w.heap.size, 0, none⟩) (Or.inl (Nat.le_refl _)) (.int .i64 k)).setCell (p := ⟨w.heap.size, 1, none⟩) (Or.inl (Nat.le_refl _)) (.int .u8 x2)).setCell (p := ⟨w.heap.size, 2, none⟩) (Or.inl (Nat.le_refl _)) (.int .i64 x4)).setCell (p := ⟨w.heap.size, 3, none⟩) (Or.inl (Nat.le_refl _)) (.bool true)
            have KF := hid kF
            clear hbF kF
            go_wp2_with fail
            refine bodyPost_ret (v := .tuple #[.agg #[.int .i64 k, .int .u8 x2, .int .i64 x4, .bool true], .int .i64 0]) (by simp [results, Try.results16, go_sem, r0, r1, r2, r3]) rfl ?_
            exact ⟨by simp [RdA.val], KF.out⟩
          | skip
            obtain ⟨WA, hWA⟩ : ∃ WA, W9.setCell ⟨w6.heap.size, 3, none⟩ (.bool false) = WA := ⟨_, rfl⟩
            rw [hWA]
            have hxA : BlkL WA w6.heap.size 47 [.int .i64 k, .int .u8 x2, .int .i64 x4, .bool false] := by rw [← hWA]; exact HX9.out.put 3 _ rfl
            have hkA : Keeps (fun i => i = w6.heap.size) W9 WA := by rw [← hWA]; exact (Keeps.refl _ _).at
            have hbA := HB9.out.keep hkA (fun e => HNE.out e)
            have hKA : Keeps No w WA := by rw [← hWA]; exact HK9.out.setCell (p := ⟨w6.heap.size, 3, none⟩) (Or.inl (by show w.heap.size ≤ w6.heap.size; omega)) _
            have HKA := hid hKA
            have HBA := hid hbA
            clear hWA hkA hKA a0 a1 z0 z1 z2 z3 u3 HX9 HB9 HK9
            have z0 := hxA.cell (o := 0) rfl
            have z1 := hxA.cell (o := 1) rfl
            have z2 := hxA.cell (o := 2) rfl
            have z3 := hxA.cell (o := 3) rfl
            have y0 := hbA.cell (o := 0) rfl
            have y1 := hbA.cell (o := 1) rfl
            have y2 := hbA.cell (o := 2) rfl
            have y3 := hbA.cell (o := 3) rfl
            have q0 := hbA.free 0
            have q1 := hbA.free 1
            have q2 := hbA.free 2
            have q3 := hbA.free 3
            clear hxA hbA
            have hbF := (((HBA.out.put 0 (.int .i64 k) rfl).put 1 (.int .u8 x2) rfl).put 2 (.int .i64 x4) rfl).put 3 (.bool false) rfl
            have r0 := hbF.cell (o := 0) rfl
            have r1 := hbF.cell (o := 1) rfl
            have r2 := hbF.cell (o := 2) rfl
            have r3 := hbF.cell (o := 3) rfl
            have kF := (((HKA.out.setCell (p := ⟨w.heap.size, 0, none⟩) (Or.inl (Nat.le_refl _)) (.int .i64 k)).setCell (p := ⟨w.heap.size, 1, none⟩) (Or.inl (Nat.le_refl _)) (.int .u8 x2)).setCell (p := ⟨w.heap.size, 2, none⟩) (Or.inl (Nat.le_refl _)) (.int .i64 x4)).setCell (p := ⟨w.heap.size, 3, none⟩) (Or.inl (Nat.le_refl _)) (.bool false)
            have KF := hid kF
            clear hbF kF
            go_wp2_with fail
            refine bodyPost_ret (v := .tuple #[.agg #[.int .i64 k, .int .u8 x2, .int .i64 x4, .bool false], .int .i64 0]) (by simp [results, Try.results16, go_sem, r0, r1, r2, r3]) rfl ?_
            exact ⟨by simp [RdA.val], KF.out⟩
    · rw [dif_neg hkl] at hval
      subst hval
      have d1 : decide ((k : Int) ≥ L.length) = true := decide_eq_true (by omega)
      have hbF := (((HB8.out.put 0 (.int .i64 0) rfl).put 1 (.int .u8 0) rfl).put 2 (.int .i64 0) rfl).put 3 (.bool false) rfl
      have r0 := hbF.cell (o := 0) rfl
      have r1 := hbF.cell (o := 1) rfl
      have r2 := hbF.cell (o := 2) rfl
      have r3 := hbF.cell (o := 3) rfl
      have kF := (((HK8.out.setCell (p := ⟨w.heap.size, 0, none⟩) (Or.inl (Nat.le_refl _)) (.int .i64 0)).setCell (p := ⟨w.heap.size, 1, none⟩) (Or.inl (Nat.le_refl _)) (.int .u8 0)).setCell (p := ⟨w.heap.size, 2, none⟩) (Or.inl (Nat.le_refl _)) (.int .i64 0)).setCell (p := ⟨w.heap.size, 3, none⟩) (Or.inl (Nat.le_refl _)) (.bool false)
      have KF := hid kF
      clear hbF kF
      go_wp2_with fail
      refine bodyPost_ret (v := .tuple #[.agg #[.int .i64 0, .int .u8 0, .int .i64 0, .bool false], .int .i64 7]) (by simp [results, Try.results16, go_sem, r0, r1, r2, r3]) rfl ?_
      exact ⟨by simp [RdA.val], KF.out⟩

end Go.Proofs.Ytaakmlgkfbpdoaa
