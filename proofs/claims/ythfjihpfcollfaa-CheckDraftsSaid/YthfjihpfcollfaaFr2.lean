/-
  Frame, the program's and the document's.
-/
import Derived.Test.YthfjihpfcollfaaFr1
namespace Go.Proofs.Ythfjihpfcollfaa
open Go.RowKit

/-- What is counted of a frame. -/
theorem frm_eq (m : List Int) : frm m = [85, 170] ++ (((m.length : Int) :: m) ++ [((mof ((m.length : Int) :: m)).toNat : Int) / 256, ((mof ((m.length : Int) :: m)).toNat : Int) % 256]) := rfl

theorem counted_bytes {p : List Int} (hb : Bytes p) (hl : p.length ≤ 255) : Bytes ((p.length : Int) :: p) := by
  intro x hx
  rcases List.mem_cons.1 hx with rfl | hx
  · omega
  · exact hb x hx

set_option maxHeartbeats 1000000 in
set_option maxRecDepth 100000 in
theorem frame_any {w : World} {v : Value} {p : List Int} (h : SlB w v p) (hb : Bytes p) (hl : p.length ≤ 255) :
    Calls Try.prog 16 #[v] w fun e w' => ∃ v', e = .returned v' ∧ w'.ownsRow 0 5 1 v' (frm p).length ((frm p).map (Value.int .u8)) ∧ Keeps No w w' ∧ Fresh w v' := by
  obtain ⟨ao, cap, rfl⟩ := h.any
  obtain ⟨i0, hi, hz0, hz1, hz2⟩ := info_parts info_byte
  have h8 : IntKind.u8.wrap (p.length : Int) = (p.length : Int) := by rw [IntKind.wrap_u8]; omega
  have h9 : (p.length : Int) % 256 = (p.length : Int) := by omega
  have HS := hid h
  have HB := hid (counted_bytes hb hl)
  have HI := hid hi
  clear h hb hi
  go_enter Try.func16, Try.ntmps16
  go_wp2_with (at_builtin; refine wpl_append rfl _ _ 26 rfl 5 i0 (.int .u8 0) 1 1 Try.underlying26 HI.out hz0 hz1 hz2 rfl (by decide) _ _ _ _ _ _ rfl rfl (own_made _ _ _ 1 rfl (by decide)) (HS.out.alloc _) (bytes_one _) ?c3 ?c4 ?_)
  case c3 => unfold maxLen; omega
  case c4 => omega
  intro v1 w1 ho1 k1 hb1
  have hk1 : Keeps No w w1 := ((Keeps.refl No w).alloc _).trans' k1 (fun _ _ h => h) (fun i hi h => by simp [Bl, Value.ownBlock] at h; omega)
  have hf1 : Fresh w v1 := fun k hk => by
    rcases hb1 k hk with h | h
    · simp [Value.ownBlock] at h; omega
    · have h1 : w.heap.size + 1 ≤ k := by simpa using h
      omega
  have HO1 : Hid (w1.ownsRow 0 5 1 v1 ((p.length : Int) :: p).length ((((p.length : Int) :: p)).map (Value.int .u8))) := hid (by rw [List.length_cons, Nat.add_comm]; exact ho1)
  have K1 := hid hk1
  have F1 := hid hf1
  clear ho1 k1 hb1 hk1 hf1
  obtain ⟨a1, c1, rfl⟩ := own_any HO1.out
  obtain ⟨P, hP⟩ : ∃ P, (p.length : Int) :: p = P := ⟨_, rfl⟩
  have hPl : P.length = p.length + 1 := by rw [← hP]; rfl
  have HF : Hid (frm p = [85, 170] ++ (P ++ [((mof P).toNat : Int) / 256, ((mof P).toNat : Int) % 256])) := hid (by rw [← hP]; rfl)
  rw [hP] at HO1 HB
  rw [hPl] at HO1
  have hcv := Go.Joins.run_convert_bytes_const_at (P := Try.prog) w1 26 5 #[.int .u8 85, .int .u8 170] 2 2 w1.heap.size rfl Try.underlying26 Try.underlying5
  have hc := sclose_any (w := w1.alloc (.cells #[.int .u8 85, .int .u8 170] 5 (2, 3))) (p := P) (by
    have := (Sl.ofOwn HO1.out).keep ((Keeps.refl No w1).alloc (.cells #[.int .u8 85, .int .u8 170] 5 (2, 3))) (fun _ _ h => h)
    unfold SlB; rw [hPl]; exact this) HB.out (by omega)
  have HC := hid hc
  have HPL := hid hPl
  have HP := hid hP
  clear hc hP hPl
  go_wp2_with fail
  refine HC.out.mono ?_
  rintro e w2 ⟨v2, rfl, ho2, k2, f2⟩
  obtain ⟨a2, c2, rfl⟩ := own_any ho2
  have HO2 := hid ho2
  have K2 := hid k2
  have F2 := hid f2
  clear ho2 k2 f2 HC
  have hs2 : Sl w2 1 (.slice (some ⟨w1.heap.size, 0, none⟩) 2 2) 2 [.int .u8 85, .int .u8 170] := by
    have h0 := heap_alloc_new w1 (.cells #[.int .u8 85, .int .u8 170] 5 (2, 3))
    have : Sl (w1.alloc (.cells #[.int .u8 85, .int .u8 170] 5 (2, 3))) 1 (.slice (some ⟨w1.heap.size, 0, none⟩) 2 2) 2 [.int .u8 85, .int .u8 170] := by
      refine ⟨rfl, by decide, _, 2, rfl, Nat.le_refl _, fun h => (by cases h), fun _ => ⟨w1.heap.size, 0, rfl, by simp, fun j u hu => ?_⟩⟩
      rw [Nat.zero_add]
      exact cell_at h0 (by simpa using hu)
    exact this.keep K2.out (fun _ _ h => h)
  have HS2 := hid hs2
  clear hs2
  go_wp2_with (at_builtin; refine wpl_append_full rfl _ _ 26 rfl 5 i0 (.int .u8 0) 1 1 Try.underlying26 HI.out hz0 hz1 hz2 rfl (by decide) _ 2 2 _ _ _ _ rfl rfl ?c2 HS2.out (by decide) (Sl.ofOwn HO2.out) ?c3 ?c4 ?c5 ?_)
  case c2 => omega
  case c3 => omega
  case c4 => have := HPL.out; unfold maxLen; omega
  case c5 => have := HPL.out; omega
  intro v3 w3 ho3 k3 f3
  have hk3 : Keeps No w w3 := ((K1.out.alloc _).trans K2.out).trans k3
  have hf3 : Fresh w v3 := f3.behind ((K1.out.alloc _).trans K2.out).size
  have HO3 : Hid (w3.ownsRow 0 5 1 v3 (frm p).length ((frm p).map (Value.int .u8))) := hid (by
    have e1 : (frm p).length = 2 + (P.length + 2) := by rw [HF.out]; simp; omega
    rw [e1, HF.out]; simpa [List.map_append] using ho3)
  have K3 := hid hk3
  have F3 := hid hf3
  clear ho3 k3 f3 hk3 hf3
  obtain ⟨a3, c3, rfl⟩ := own_any HO3.out
  go_wp2_with fail
  go_ret
  exact ⟨_, rfl, HO3.out, K3.out, F3.out⟩

set_option maxHeartbeats 1000000 in
set_option maxRecDepth 100000 in
theorem mframe_any {w : World} {v : Value} {p : List Int} (h : SlB w v p) (hb : Bytes p) (hl : p.length ≤ 255) :
    Calls Try.prog 18 #[v] w fun e w' => ∃ v', e = .returned v' ∧ w'.ownsRow 0 5 1 v' (frm p).length ((frm p).map (Value.int .u8)) ∧ Keeps No w w' ∧ Fresh w v' := by
  obtain ⟨ao, cap, rfl⟩ := h.any
  have h8 : IntKind.u8.wrap (p.length : Int) = (p.length : Int) := by rw [IntKind.wrap_u8]; omega
  have h9 : (p.length : Int) % 256 = (p.length : Int) := by omega
  have HS := hid h
  have HB := hid (counted_bytes hb hl)
  clear h hb
  go_enter Try.func18, Try.ntmps18
  go_wp2_with fail
  refine (mjoin_any (p := [(p.length : Int)]) (q := p) (Sl.newAt (k := w.heap.size + 1) (by simp) #[.int .u8 (p.length : Int)] _ 1 1 rfl (by decide)) ((HS.out.alloc _).alloc _) (by simp; omega)).mono ?_
  rintro e w1 ⟨v1, rfl, ho1, k1, f1⟩
  have hk1 : Keeps No w w1 := (((Keeps.refl No w).alloc _).alloc _).trans k1
  have HO1 : Hid (w1.ownsRow 0 5 1 v1 ((p.length : Int) :: p).length ((((p.length : Int) :: p)).map (Value.int .u8))) := hid (by rw [List.length_cons, Nat.add_comm]; exact ho1)
  have hs1 : Sl w1 1 (.slice (some ⟨w.heap.size, 0, none⟩) 2 2) 2 [.int .u8 85, .int .u8 170] := by
    have := Sl.new w #[.int .u8 85, .int .u8 170] 5 1 2 rfl (by decide)
    exact ((this.alloc _).keep k1 (fun _ _ h => h))
  have HS1 := hid hs1
  have K1 := hid hk1
  clear ho1 k1 f1 hk1 hs1
  obtain ⟨a1, c1, rfl⟩ := own_any HO1.out
  obtain ⟨P, hP⟩ : ∃ P, (p.length : Int) :: p = P := ⟨_, rfl⟩
  have hPl : P.length = p.length + 1 := by rw [← hP]; rfl
  have HF : Hid (frm p = [85, 170] ++ (P ++ [((mof P).toNat : Int) / 256, ((mof P).toNat : Int) % 256])) := hid (by rw [← hP]; rfl)
  rw [hP] at HO1 HB
  have HPL := hid hPl
  have hP' := hid hP
  clear hPl hP
  have hc := mclose_any (w := w1) (p := P) (Sl.ofOwn HO1.out) HB.out (by have := HPL.out; omega)
  rw [HPL.out] at hc
  rw [show ((p.length : Int) :: p).length = p.length + 1 from rfl] 
  go_wp2_with fail
  refine hc.mono ?_
  rintro e w2 ⟨v2, rfl, ho2, k2, f2⟩
  obtain ⟨a2, c2, rfl⟩ := own_any ho2
  have HO2 := hid ho2
  have K2 := hid k2
  clear ho2 k2 f2 hc
  go_wp2_with fail
  refine (mjoin_any (p := [85, 170]) (q := P ++ [((mof P).toNat : Int) / 256, ((mof P).toNat : Int) % 256]) (HS1.out.keep K2.out (fun _ _ h => h)) ?h2 ?h3).mono ?_
  case h2 =>
    have := Sl.ofOwn HO2.out
    unfold SlB
    rw [List.length_append, HPL.out]
    exact this
  case h3 => have := HPL.out; simp; omega
  rintro e w3 ⟨v3, rfl, ho3, k3, f3⟩
  have hk3 : Keeps No w w3 := (K1.out.trans K2.out).trans k3
  have hf3 : Fresh w v3 := Fresh.behind f3 (K1.out.trans K2.out).size
  have HO3 : Hid (w3.ownsRow 0 5 1 v3 (frm p).length ((frm p).map (Value.int .u8))) := hid (by
    have e1 : (frm p).length = [(85 : Int), 170].length + (P ++ [((mof P).toNat : Int) / 256, ((mof P).toNat : Int) % 256]).length := by rw [HF.out, List.length_append]
    rw [e1, HF.out]; exact ho3)
  have K3 := hid hk3
  have F3 := hid hf3
  clear ho3 k3 f3 hk3 hf3
  obtain ⟨a3, c3, rfl⟩ := own_any HO3.out
  go_wp2_with fail
  go_ret
  exact ⟨_, rfl, HO3.out, K3.out, F3.out⟩

end Go.Proofs.Ythfjihpfcollfaa
