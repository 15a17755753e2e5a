/-
  What a pass that lays does with a slot, with a rule.
-/
import Derived.Test.YtlenhccdkhgfgaaDoorImg3
namespace Go.Proofs.YtlenhccdkhgfgaaDoor
open Go.RowKit

theorem hmf (fn : Fn) (first cap : Array Value) (w : World) : (Instr.makeFunc fn first cap).run Tryd.prog w = .ok (.func fn first cap) w := rfl

theorem len_int4 (n : Int) : (int4 n).length = 4 := rfl
theorem len_sigB (s : Sig) : (sigB s).length = 8 := rfl
theorem len_stgB (s : Stg) : (stgB s).length = 5 := rfl
theorem len_flatten_const {α : Type} (f : α → List Int) (k : Nat) (h : ∀ x, (f x).length = k) : ∀ l : List α, (l.map f).flatten.length = l.length * k
  | [] => by simp
  | x :: l => by
    have := len_flatten_const f k h l
    simp only [List.map_cons, List.flatten_cons, List.length_append, List.length_cons, this, h, Nat.succ_mul]
    omega
theorem flatten_flatMap {α β : Type} (f : α → List β) (l : List α) : (l.map f).flatten = l.flatMap f := by rw [List.flatMap_def]

section
variable {w : World} {qb pb wb : Nat} {F : Nat → Prop} {l : List Int} {b o : Nat}

set_option maxHeartbeats 4000000 in
set_option maxRecDepth 100000 in
theorem wslot_any (h : WCtx w qb pb wb F l) (ns : List Int) {v : Value} (hc : w.cell? ⟨b, o, none⟩ = some v) (hs : SlI w v ns) (hb : ¬ F b) (hv : 0 < ns.length → ∀ k, v.ownBlock = some k → ¬ F k) (hl : l.length + 1 + ns.length ≤ 100000) :
    Calls Tryd.prog 40 #[.pointer (some ⟨b, o, none⟩), .pointer (some ⟨qb, 0, none⟩)] w fun e w' => e = .returned (.tuple #[]) ∧ ∃ F', WCtx w' qb pb wb F' (l ++ slotB ns) ∧ Upd F w w' F' := by
  have q0 := cell_at (i := 0) h.hpb rfl
  obtain ⟨a, cap, rfl⟩ := Sl.any hs
  have H := hid h
  have HS := hid hs
  have HV := hid hv
  have hlist := wlistInt (qb := qb) (a := a) (n := ns.length) (cap := cap) h.lay h.wr h.np hb hc (by omega) (ns.map (fun n => [n % 256])) (by simp) (fun h0 => by
      obtain ⟨g, off, rfl, _⟩ := SlI.cellAt hs h0
      exact ⟨g, off, rfl⟩) (by rw [len_flatten_const _ 1 (fun _ => rfl)]; omega) (by
    intro i hi g off ha w' F' l' hu hw hl'
    subst ha
    simp at hi
    obtain ⟨g', off', he, hg, hcell⟩ := SlI.cellAt HS.out hi
    simp only [Option.some.injEq, Addr.mk.injEq, and_true] at he
    obtain ⟨rfl, rfl⟩ := he
    have hng : ¬ F g := HV.out (by omega) g rfl
    simp at hl'
    refine (wnum_any (H.out.upd hu hw) ns[i] (hu.keeps.cell hng hcell) (by omega)).mono ?_
    rintro e w'' ⟨rfl, F'', h2, u2⟩
    exact ⟨rfl, F'', by simpa using h2.wr, u2⟩)
  have HL := hid hlist
  clear h hc hs hv hlist
  go_enter Tryd.func40, Tryd.ntmps40
  go_wp2_with fail
  refine HL.out.mono ?_
  rintro e w1 ⟨rfl, F1, h1, u1⟩
  have U1 := hid u1
  have H1 := hid (H.out.upd u1 h1)
  clear u1 h1
  go_wp2_with fail
  go_end0
  refine ⟨rfl, F1, ?_, U1.out⟩
  have := H1.out
  rwa [flatten_flatMap] at this

set_option maxHeartbeats 4000000 in
set_option maxRecDepth 100000 in
theorem wrule_any (hp : Lay w pb wb) (h : Wr w wb F l) (np : ¬ F pb) (r : Rul) {v : Value} (hcs : ∀ k u, (encRul (r, v))[k]? = some u → w.cell? ⟨b, o + k, none⟩ = some u) (hs : Sl w 2 v r.stages.length (r.stages.flatMap encStg)) (hb : ¬ F b) (hv : 0 < r.stages.length → ∀ k, v.ownBlock = some k → ¬ F k)
    (hl : l.length + 21 + r.stages.length * 5 ≤ 100000) :
    Calls Tryd.prog 38 #[.pointer (some ⟨pb, 0, none⟩), .pointer (some ⟨b, o, none⟩)] w fun e w' => e = .returned (.tuple #[]) ∧ ∃ F', Wr w' wb F' (l ++ rulB r) ∧ Upd F w w' F' := by
  have hbw : b < w.heap.size := World.block_lt_of_cell? w _ (hcs 0 _ rfl)
  have HF := hid h.lt
  obtain ⟨W0, hW0⟩ : ∃ W0, W0 = w.alloc (.cells #[.pointer (some ⟨pb, 0, none⟩)] 60) := ⟨_, rfl⟩
  have k0 : Keeps No w W0 := by rw [hW0]; exact (Keeps.refl _ _).alloc _
  have H0 : Hid (WCtx W0 w.heap.size pb wb F l) := hid ⟨k0.heap (fun h => h) hp, by rw [hW0]; exact heap_alloc_new w _, h.keep k0 (fun _ _ h => h), np, fun h' => by have := HF.out _ h'; omega⟩
  have U0 : Hid (Upd F w W0 F) := hid ⟨k0.no, fun _ h => Or.inl h⟩
  obtain ⟨a, cap, rfl⟩ := Sl.any hs
  have HCS := hid hcs
  have HS := hid hs
  have HV := hid hv
  have HW0 := hid hW0
  clear hcs hs hv hp h np HF k0 hW0
  go_enter Tryd.func38, Tryd.ntmps38
  go_wp2_with fail
  rw [← HW0.out]
  have q0 := cell_at (i := 0) H0.out.hpb rfl
  clear HW0
  go_wp2_with fail
  go_still_tail 4, (by kernel_rfl)
  go_wp2_with fail
  refine (wsmallB_any (H0.out.calm (drew_keeps _)).lay (H0.out.calm (drew_keeps _)).wr r.kind ?cc0 ?cl0).mono ?_
  case cc0 => exact cellDr (U0.out.keeps.cell hb (HCS.out 0 _ rfl))
  case cl0 => first | (simp; omega) | (simp [int4]; omega)
  rintro e w1 ⟨rfl, F1, h1, u1⟩
  have H1 := hid (H0.out.upd (Upd.behind (drew_keeps _) u1) h1)
  have U1 := hid (U0.out.trans (Upd.behind (drew_keeps _) u1))
  have q0 := cell_at (i := 0) H1.out.hpb rfl
  clear u1 h1 H0 U0
  go_wp2_with fail
  go_still_tail 4, (by kernel_rfl)
  go_wp2_with fail
  refine (wsmallI_any (H1.out.calm (drew_keeps _)).lay (H1.out.calm (drew_keeps _)).wr r.sig ?cc1 ?cl1).mono ?_
  case cc1 => exact cellDr (U1.out.keeps.cell hb (HCS.out 1 _ rfl))
  case cl1 => first | (simp; omega) | (simp [int4]; omega)
  rintro e w2 ⟨rfl, F2, h2, u2⟩
  have H2 := hid (H1.out.upd (Upd.behind (drew_keeps _) u2) h2)
  have U2 := hid (U1.out.trans (Upd.behind (drew_keeps _) u2))
  have q0 := cell_at (i := 0) H2.out.hpb rfl
  clear u2 h2 H1 U1
  go_wp2_with fail
  go_still_tail 4, (by kernel_rfl)
  go_wp2_with fail
  refine (wwholeI_any (H2.out.calm (drew_keeps _)).lay (H2.out.calm (drew_keeps _)).wr r.limit ?cc2 ?cl2).mono ?_
  case cc2 => exact cellDr (U2.out.keeps.cell hb (HCS.out 2 _ rfl))
  case cl2 => first | (simp; omega) | (simp [int4]; omega)
  rintro e w3 ⟨rfl, F3, h3, u3⟩
  have H3 := hid (H2.out.upd (Upd.behind (drew_keeps _) u3) h3)
  have U3 := hid (U2.out.trans (Upd.behind (drew_keeps _) u3))
  have q0 := cell_at (i := 0) H3.out.hpb rfl
  clear u3 h3 H2 U2
  go_wp2_with fail
  go_still_tail 4, (by kernel_rfl)
  go_wp2_with fail
  refine (wwholeI_any (H3.out.calm (drew_keeps _)).lay (H3.out.calm (drew_keeps _)).wr r.back ?cc3 ?cl3).mono ?_
  case cc3 => exact cellDr (U3.out.keeps.cell hb (HCS.out 3 _ rfl))
  case cl3 => first | (simp; omega) | (simp [int4]; omega)
  rintro e w4 ⟨rfl, F4, h4, u4⟩
  have H4 := hid (H3.out.upd (Upd.behind (drew_keeps _) u4) h4)
  have U4 := hid (U3.out.trans (Upd.behind (drew_keeps _) u4))
  have q0 := cell_at (i := 0) H4.out.hpb rfl
  clear u4 h4 H3 U3
  go_wp2_with fail
  go_still_tail 4, (by kernel_rfl)
  go_wp2_with fail
  refine (wwholeL_any (H4.out.calm (drew_keeps _)).lay (H4.out.calm (drew_keeps _)).wr r.delay ?cc4 ?cl4).mono ?_
  case cc4 => exact cellDr (U4.out.keeps.cell hb (HCS.out 4 _ rfl))
  case cl4 => first | (simp; omega) | (simp [int4]; omega)
  rintro e w5 ⟨rfl, F5, h5, u5⟩
  have H5 := hid (H4.out.upd (Upd.behind (drew_keeps _) u5) h5)
  have U5 := hid (U4.out.trans (Upd.behind (drew_keeps _) u5))
  have q0 := cell_at (i := 0) H5.out.hpb rfl
  clear u5 h5 H4 U4
  go_wp2_with fail
  go_still_tail 4, (by kernel_rfl)
  go_wp2_with fail
  refine (wwholeL_any (H5.out.calm (drew_keeps _)).lay (H5.out.calm (drew_keeps _)).wr r.span ?cc5 ?cl5).mono ?_
  case cc5 => exact cellDr (U5.out.keeps.cell hb (HCS.out 5 _ rfl))
  case cl5 => first | (simp; omega) | (simp [int4]; omega)
  rintro e w6 ⟨rfl, F6, h6, u6⟩
  have H6 := hid (H5.out.upd (Upd.behind (drew_keeps _) u6) h6)
  have U6 := hid (U5.out.trans (Upd.behind (drew_keeps _) u6))
  have q0 := cell_at (i := 0) H6.out.hpb rfl
  clear u6 h6 H5 U5
  go_wp2_with fail
  go_still_tail 4, (by kernel_rfl)
  go_wp2_with fail
  refine (wsmallB_any (H6.out.calm (drew_keeps _)).lay (H6.out.calm (drew_keeps _)).wr r.pri ?cc6 ?cl6).mono ?_
  case cc6 => exact cellDr (U6.out.keeps.cell hb (HCS.out 6 _ rfl))
  case cl6 => first | (simp; omega) | (simp [int4]; omega)
  rintro e w7 ⟨rfl, F7, h7, u7⟩
  have H7 := hid (H6.out.upd (Upd.behind (drew_keeps _) u7) h7)
  have U7 := hid (U6.out.trans (Upd.behind (drew_keeps _) u7))
  have q0 := cell_at (i := 0) H7.out.hpb rfl
  clear u7 h7 H6 U6
  go_wp2_with fail
  go_still_tail 4, (by kernel_rfl)
  go_wp2_with fail
  refine (wflagP_any (H7.out.calm (drew_keeps _)).lay (H7.out.calm (drew_keeps _)).wr r.latch ?cc7 ?cl7).mono ?_
  case cc7 => exact cellDr (U7.out.keeps.cell hb (HCS.out 7 _ rfl))
  case cl7 => first | (simp; omega) | (simp [int4]; omega)
  rintro e w8 ⟨rfl, F8, h8, u8⟩
  have H8 := hid (H7.out.upd (Upd.behind (drew_keeps _) u8) h8)
  have U8 := hid (U7.out.trans (Upd.behind (drew_keeps _) u8))
  have q0 := cell_at (i := 0) H8.out.hpb rfl
  clear u8 h8 H7 U7
  have hcl := U8.out.keeps.cell hb (HCS.out 8 _ rfl)
  have hlist := wlistStg (w := w8.drew) (qb := w.heap.size) (a := a) (n := r.stages.length) (cap := cap) (H8.out.calm (drew_keeps _)).lay (H8.out.calm (drew_keeps _)).wr H8.out.np (U8.out.out hbw hb) (cellDr hcl) (by omega) (r.stages.map stgB) (by simp) (fun h0 => by
      obtain ⟨g, off, rfl, _⟩ := Sl.cellAt HS.out (j := 0 * 2 + 0) (by rw [getElem?_flatMap_enc (size := 2) (enc := encStg) (fun _ => rfl) _ 0 0 (by omega) h0]; rfl)
      exact ⟨g, off, rfl⟩) (by rw [len_flatten_const _ 5 len_stgB]; simp [int4]; omega) (by
    intro i hi g off ha w' F' l' hu hw hl'
    subst ha
    simp at hi
    obtain ⟨g', off', he, hg, hcell⟩ := Sl.cellAt HS.out (j := i * 2 + 0) (by rw [getElem?_flatMap_enc (size := 2) (enc := encStg) (fun _ => rfl) _ i 0 (by omega) hi]; rfl)
    simp only [Option.some.injEq, Addr.mk.injEq, and_true] at he
    obtain ⟨rfl, rfl⟩ := he
    obtain ⟨g', off', he, _, hcell1⟩ := Sl.cellAt HS.out (j := i * 2 + 1) (by rw [getElem?_flatMap_enc (size := 2) (enc := encStg) (fun _ => rfl) _ i 1 (by omega) hi]; rfl)
    simp only [Option.some.injEq, Addr.mk.injEq, and_true] at he
    obtain ⟨rfl, rfl⟩ := he
    have hng : ¬ F g := HV.out (by omega) g rfl
    have hng8 := U8.out.out hg hng
    have hu8 := Upd.behind (drew_keeps _) hu
    have k0 := U8.out.keeps.cell hng hcell
    have k1 := U8.out.keeps.cell hng hcell1
    simp [stgB, int4] at hl'
    refine (wstg_any ((H8.out.calm (drew_keeps _)).upd hu hw) r.stages[i] (hu.out (by have := World.block_lt_of_cell? _ _ k0; exact this) hng8) (hu.keeps.cell hng8 (cellDr (by simpa [Nat.add_assoc] using k0))) (hu.keeps.cell hng8 (cellDr (by simpa [Nat.add_assoc] using k1))) (by omega)).mono ?_
    rintro e w'' ⟨rfl, F'', h2, u2⟩
    exact ⟨rfl, F'', by simpa using h2.wr, u2⟩)
  have HL := hid hlist
  clear hlist
  go_wp2_with fail
  go_still_tail 5, (by kernel_rfl)
  go_wp2_with fail
  refine HL.out.mono ?_
  rintro e w9 ⟨rfl, F9, h9, u9⟩
  have H9 := hid h9
  have U9 := hid (U8.out.trans (Upd.behind (drew_keeps _) u9))
  clear u9 h9 HL
  go_wp2_with fail
  go_end0
  refine ⟨rfl, F9, ?_, U9.out⟩
  have := H9.out
  rw [flatten_flatMap] at this
  simpa [rulB, List.append_assoc] using this

end
end Go.Proofs.YtlenhccdkhgfgaaDoor
