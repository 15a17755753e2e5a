/-
  What a pass that lays does with lists, rules, a whole configuration.
-/
import Derived.Test.YtlenhccdkhgfgaaDoorImg
import Derived.StillTailTactics
namespace Go.Proofs.YtlenhccdkhgfgaaDoor
open Go.RowKit

/-- The variable at qb holds the pass. -/
def PB (w : World) (qb pb : Nat) : Prop := w.heap[qb]? = some (.cells #[.pointer (some ⟨pb, 0, none⟩)] 60 (0, 0))

/-- A pass that lays, behind l. -/
structure WCtx (w : World) (qb pb wb : Nat) (F : Nat → Prop) (l : List Int) : Prop where
  lay : Lay w pb wb
  hpb : PB w qb pb
  wr : Wr w wb F l
  np : ¬ F pb
  nq : ¬ F qb

theorem WCtx.upd {w w' : World} {qb pb wb : Nat} {F F' : Nat → Prop} {l l' : List Int} (h : WCtx w qb pb wb F l) (k : Upd F w w' F') (hw : Wr w' wb F' l') : WCtx w' qb pb wb F' l' :=
  ⟨k.keeps.heap h.np h.lay, k.keeps.heap h.nq h.hpb, hw, k.out (lt_of_block h.lay) h.np, k.out (lt_of_block h.hpb) h.nq⟩

theorem WCtx.calm {w w' : World} {qb pb wb : Nat} {F : Nat → Prop} {l : List Int} (h : WCtx w qb pb wb F l) (k : Keeps No w w') : WCtx w' qb pb wb F l :=
  ⟨k.heap (fun h => h) h.lay, k.heap (fun h => h) h.hpb, h.wr.keep k (fun _ _ h => h), h.np, h.nq⟩

/-- A step of a call's own, then one that wrote the thing. -/
theorem Upd.behind' {F F' : Nat → Prop} {w w1 w2 : World} (k : Keeps No w w1) (u : Upd F w1 w2 F') : Upd F w w2 F' := Upd.behind k u

theorem drew_keeps (w : World) : Keeps No w w.drew := (Keeps.refl No w).drew

section
variable {w : World} {qb pb wb : Nat} {F : Nat → Prop} {l : List Int} {b o : Nat}

set_option maxHeartbeats 2000000 in
set_option maxRecDepth 100000 in
theorem wsig_any (h : WCtx w qb pb wb F l) (s : Sig) (hb : ¬ F b) (hc0 : w.cell? ⟨b, o, none⟩ = some (.int .i64 s.mn)) (hc1 : w.cell? ⟨b, o + 1, none⟩ = some (.int .i64 s.mx)) (hl : l.length + 8 ≤ 100000) :
    Calls Tryd.prog 35 #[.pointer (some ⟨b, o, none⟩), .pointer (some ⟨qb, 0, none⟩)] w fun e w' => e = .returned (.tuple #[]) ∧ ∃ F', WCtx w' qb pb wb F' (l ++ sigB s) ∧ Upd F w w' F' := by
  have q0 := cell_at (i := 0) h.hpb rfl
  have H := hid h
  have C0 := hid hc0
  have C1 := hid hc1
  clear h hc0 hc1
  go_enter Tryd.func35, Tryd.ntmps35
  go_wp2_with fail
  go_still_tail 4, (by kernel_rfl)
  go_wp2_with fail
  refine (wwholeI_any (H.out.calm (drew_keeps _)).lay (H.out.calm (drew_keeps _)).wr s.mn (cellDr C0.out) ?_).mono ?_
  · omega
  rintro e w1 ⟨rfl, F1, h1, u1⟩
  have U1 := hid (Upd.behind (drew_keeps _) u1)
  have H1 := hid (H.out.upd U1.out h1)
  have hb101 : ¬ F1 b := U1.out.out (World.block_lt_of_cell? _ _ C1.out) hb
  replace C1 := hid (U1.out.keeps.cell hb C1.out)
  have q0 := cell_at (i := 0) H1.out.hpb rfl
  clear u1 h1
  go_wp2_with fail
  go_still_tail 4, (by kernel_rfl)
  go_wp2_with fail
  refine (wwholeI_any (H1.out.calm (drew_keeps _)).lay (H1.out.calm (drew_keeps _)).wr s.mx (cellDr C1.out) ?_).mono ?_
  · simp [int4]; omega
  rintro e w2 ⟨rfl, F2, h2, u2⟩
  have U2 := hid (Upd.behind (drew_keeps _) u2)
  have H2 := hid (H1.out.upd U2.out h2)
  have q0 := cell_at (i := 0) H2.out.hpb rfl
  clear u2 h2
  go_wp2_with fail
  go_end0
  refine ⟨rfl, F2, ?_, (U1.out).trans U2.out⟩
  have := H2.out
  simpa [sigB, List.append_assoc] using this

set_option maxHeartbeats 2000000 in
set_option maxRecDepth 100000 in
theorem wstg_any (h : WCtx w qb pb wb F l) (s : Stg) (hb : ¬ F b) (hc0 : w.cell? ⟨b, o, none⟩ = some (.int .i64 s.wait)) (hc1 : w.cell? ⟨b, o + 1, none⟩ = some (.int .u8 s.pri)) (hl : l.length + 5 ≤ 100000) :
    Calls Tryd.prog 65 #[.pointer (some ⟨b, o, none⟩), .pointer (some ⟨qb, 0, none⟩)] w fun e w' => e = .returned (.tuple #[]) ∧ ∃ F', WCtx w' qb pb wb F' (l ++ stgB s) ∧ Upd F w w' F' := by
  have q0 := cell_at (i := 0) h.hpb rfl
  have H := hid h
  have C0 := hid hc0
  have C1 := hid hc1
  clear h hc0 hc1
  go_enter Tryd.func65, Tryd.ntmps65
  go_wp2_with fail
  go_still_tail 4, (by kernel_rfl)
  go_wp2_with fail
  refine (wwholeL_any (H.out.calm (drew_keeps _)).lay (H.out.calm (drew_keeps _)).wr s.wait (cellDr C0.out) ?_).mono ?_
  · omega
  rintro e w1 ⟨rfl, F1, h1, u1⟩
  have U1 := hid (Upd.behind (drew_keeps _) u1)
  have H1 := hid (H.out.upd U1.out h1)
  have hb101 : ¬ F1 b := U1.out.out (World.block_lt_of_cell? _ _ C1.out) hb
  replace C1 := hid (U1.out.keeps.cell hb C1.out)
  have q0 := cell_at (i := 0) H1.out.hpb rfl
  clear u1 h1
  go_wp2_with fail
  go_still_tail 4, (by kernel_rfl)
  go_wp2_with fail
  refine (wsmallB_any (H1.out.calm (drew_keeps _)).lay (H1.out.calm (drew_keeps _)).wr s.pri (cellDr C1.out) ?_).mono ?_
  · simp [int4]; omega
  rintro e w2 ⟨rfl, F2, h2, u2⟩
  have U2 := hid (Upd.behind (drew_keeps _) u2)
  have H2 := hid (H1.out.upd U2.out h2)
  have q0 := cell_at (i := 0) H2.out.hpb rfl
  clear u2 h2
  go_wp2_with fail
  go_end0
  refine ⟨rfl, F2, ?_, (U1.out).trans U2.out⟩
  have := H2.out
  simpa [stgB, List.append_assoc] using this

set_option maxHeartbeats 2000000 in
set_option maxRecDepth 100000 in
theorem wnum_any (h : WCtx w qb pb wb F l) (n : Int) (hc : w.cell? ⟨b, o, none⟩ = some (.int .i64 n)) (hl : l.length + 1 ≤ 100000) :
    Calls Tryd.prog 42 #[.pointer (some ⟨b, o, none⟩), .pointer (some ⟨qb, 0, none⟩)] w fun e w' => e = .returned (.tuple #[]) ∧ ∃ F', WCtx w' qb pb wb F' (l ++ [n % 256]) ∧ Upd F w w' F' := by
  have q0 := cell_at (i := 0) h.hpb rfl
  have HC := hid (wsmallI_any h.lay h.wr n hc hl)
  have H := hid h
  clear h hc
  go_enter Tryd.func42, Tryd.ntmps42
  go_wp2_with fail
  refine HC.out.mono ?_
  rintro e w1 ⟨rfl, F1, h1, u1⟩
  have U1 := hid u1
  have H1 := hid (H.out.upd u1 h1)
  clear u1 h1
  go_wp2_with fail
  go_end0
  exact ⟨rfl, F1, H1.out, U1.out⟩

end
end Go.Proofs.YtlenhccdkhgfgaaDoor
