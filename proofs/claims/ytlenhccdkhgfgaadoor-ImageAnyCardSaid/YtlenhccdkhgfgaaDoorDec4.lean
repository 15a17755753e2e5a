/-
  What a pass that reads does with a whole configuration.
-/
import Derived.Test.YtlenhccdkhgfgaaDoorDec3
namespace Go.Proofs.YtlenhccdkhgfgaaDoor
open Go.RowKit
set_option linter.unusedVariables false

/-- A configuration without where its lists stand. -/
structure PCfg where
  sigs : List Sig
  ruls : List Rul
  tab : List (List Int)
  b0 : Int
  b1 : Int
  b2 : Int
  drain : Int
  pause : Int
  off : Int
  brk : Bool
  log : Int

def Cfg.pure (c : Cfg) : PCfg := ⟨c.sigs, c.ruls.map (·.1), c.tab.map (·.1), c.b0, c.b1, c.b2, c.drain, c.pause, c.off, c.brk, c.log⟩

def skipB : Nat → RS → RS
  | 0, s => s
  | i + 1, s => (skipB i s).byte.2

def ct3 (s : RS) : RS := skipB 3 s
def ct4 (s : RS) : RS := (rdList rdSig (ct3 s)).2
def ct5 (s : RS) : RS := (rdList rdRul (ct4 s)).2
def ct6 (s : RS) : RS := (rdList rdSlot (ct5 s)).2
def ct9 (s : RS) : RS := skipB 3 (ct6 s)
def ct10 (s : RS) : RS := (ct9 s).byte.2
def ct11 (s : RS) : RS := (ct10 s).int.2
def ct12 (s : RS) : RS := (ct11 s).int.2
def ct13 (s : RS) : RS := (ct12 s).flag.2
def rdCfg (s : RS) : PCfg × RS := (⟨(rdList rdSig (ct3 s)).1, (rdList rdRul (ct4 s)).1, (rdList rdSlot (ct5 s)).1, (skipB 0 (ct6 s)).byte.1, (skipB 1 (ct6 s)).byte.1, (skipB 2 (ct6 s)).byte.1, (ct9 s).byte.1, (ct10 s).int.1, (ct11 s).int.1, (ct12 s).flag.1, (ct13 s).int.1⟩, (ct13 s).int.2)


/-- The cells while the bands are read: i of them stand. -/
def bandCells (sv rv tv : Value) (s : RS) (i : Nat) : List Value :=
  [sv, rv, tv, .int .i64 (if 0 < i then (skipB 0 s).byte.1 else 0), .int .i64 (if 1 < i then (skipB 1 s).byte.1 else 0), .int .i64 (if 2 < i then (skipB 2 s).byte.1 else 0), .int .i64 0, .int .i64 0, .int .i64 0, .bool false, .int .i64 0]

theorem bandCells_set (sv rv tv : Value) (s : RS) {i : Nat} (h : i < 3) : (bandCells sv rv tv s i).set (3 + i) (.int .i64 (skipB i s).byte.1) = bandCells sv rv tv s (i + 1) := by
  match i, h with
  | 0, _ => rfl
  | 1, _ => rfl
  | 2, _ => rfl

theorem lettersV {i : Nat} (h : i < 3) : ∃ c : Int, (#[Value.int .u8 72, .int .u8 66, .int .u8 49] : Array Value)[i]? = some (.int .u8 c) := by
  match i, h with
  | 0, _ => exact ⟨72, rfl⟩
  | 1, _ => exact ⟨66, rfl⟩
  | 2, _ => exact ⟨49, rfl⟩

/-- All that a configuration holds stands in blocks from B on. -/
structure CfgN (B : Nat) (c : Cfg) (sv rv tv : Value) : Prop where
  sig : ∀ b, sv.ownBlock = some b → B ≤ b
  rul : ∀ b, rv.ownBlock = some b → B ≤ b
  tab : ∀ b, tv.ownBlock = some b → B ≤ b
  stg : ∀ x ∈ c.ruls, ∀ b, x.2.ownBlock = some b → B ≤ b
  slot : ∀ x ∈ c.tab, ∀ b, x.2.ownBlock = some b → B ≤ b

theorem CfgN.le {A B : Nat} {c : Cfg} {sv rv tv : Value} (h : CfgN B c sv rv tv) (hA : A ≤ B) : CfgN A c sv rv tv :=
  ⟨fun b e => Nat.le_trans hA (h.sig b e), fun b e => Nat.le_trans hA (h.rul b e), fun b e => Nat.le_trans hA (h.tab b e), fun x hx b e => Nat.le_trans hA (h.stg x hx b e), fun x hx b e => Nat.le_trans hA (h.slot x hx b e)⟩

theorem CfgR.keepN {S : Nat → Prop} {B : Nat} {w w' : World} {c : Cfg} {sv rv tv : Value} (h : CfgR w c sv rv tv) (n : CfgN B c sv rv tv) (k : Keeps S w w') (hS : ∀ b, S b → b < B) : CfgR w' c sv rv tv :=
  h.keep k (fun b e hs => by have := hS b hs; have := n.sig b e; omega) (fun b e hs => by have := hS b hs; have := n.rul b e; omega) (fun b e hs => by have := hS b hs; have := n.tab b e; omega)
    (fun x hx b e hs => by have := hS b hs; have := n.stg x hx b e; omega) (fun x hx b e hs => by have := hS b hs; have := n.slot x hx b e; omega)

section
variable {w : World} {pb rb cb : Nat} {F : Nat → Prop} {s : RS}

set_option maxHeartbeats 8000000 in
set_option maxRecDepth 100000 in
theorem rconfig_any (hlay : Rdl w pb rb) (hrd : Rd w rb F s) (np : ¬ F pb) (hlt : ∀ k, F k → k < w.heap.size) (hb : BlkL w cb 33 zeroCfg) (nb : ¬ F cb) (bp : cb ≠ pb) :
    Calls Tryd.prog 22 #[.pointer (some ⟨pb, 0, none⟩), .pointer (some ⟨cb, 0, none⟩)] w fun e w' => e = .returned (.tuple #[]) ∧ ∃ (c : Cfg) (sv rv tv : Value), BlkL w' cb 33 (c.cells sv rv tv).toList ∧ CfgR w' c sv rv tv ∧ c.pure = (rdCfg s).1 ∧ Rd w' rb F (rdCfg s).2 ∧ Keeps (Two rb cb) w w' ∧ c.sigs.length ≤ 255 ∧ c.ruls.length ≤ 255 ∧ c.tab.length ≤ 255 ∧ CfgN w.heap.size c sv rv tv := by
  have hcl := hb.lt
  have hpl : pb < w.heap.size := lt_of_block hlay
  obtain ⟨W0, hW0⟩ : ∃ W0, W0 = w.alloc (.cells #[.pointer (some ⟨pb, 0, none⟩)] 60) := ⟨_, rfl⟩
  have hcv := Go.Joins.run_convert_bytes_const_at (P := Tryd.prog) (w.alloc (.cells #[.pointer (some ⟨pb, 0, none⟩)] 60)) 23 5 #[.int .u8 72, .int .u8 66, .int .u8 49] 3 3 (w.heap.size + 1) (by simp) Tryd.underlying23 Tryd.underlying5
  obtain ⟨W1, hW1⟩ : ∃ W1, W1 = W0.alloc (.cells #[.int .u8 72, .int .u8 66, .int .u8 49] 5 (3, 4)) := ⟨_, rfl⟩
  have k0 : Keeps No w W0 := by rw [hW0]; exact (Keeps.refl _ _).alloc _
  have k1 : Keeps No W0 W1 := by rw [hW1]; exact (Keeps.refl _ _).alloc _
  have hz0 : W0.heap.size = w.heap.size + 1 := by rw [hW0]; simp
  have hlet : W1.heap[w.heap.size + 1]? = some (.cells #[.int .u8 72, .int .u8 66, .int .u8 49] 5 (3, 4)) := by rw [hW1]; exact heap_alloc_at hz0 _
  have H0 : Hid (RCtx W1 w.heap.size pb rb F s) := hid ⟨(k0.trans k1).heap (fun h => h) hlay, k1.heap (fun h => h) (by rw [hW0]; exact heap_alloc_new w _), hrd.keep (k0.trans k1) (fun _ _ h => h), np, fun hf => by have := hlt _ hf; omega, fun i hi => Nat.lt_of_lt_of_le (hlt i hi) (k0.trans k1).size⟩
  have B0 := hid (hb.keep (k0.trans k1) (fun h => h))
  have K0 : Hid (Keeps (Two rb cb) w W1) := hid (k0.trans k1).no
  have hrl := hrd.rlt
  have HLET := hid hlet
  have HW0 := hid hW0
  have HW1 := hid hW1
  have hcq : cb ≠ w.heap.size := by omega
  have HFL := hid hlt
  clear hlay hrd hb k0 k1 hW0 hW1 hlet hz0 hlt
  go_enter Tryd.func22, Tryd.ntmps22
  go_wp2_with fail
  rw [← HW0.out, ← HW1.out]
  clear hcv HW0 HW1
  have q0 := cell_at (i := 0) H0.out.hpb rfl
  go_loopw [10] (fun v10 wr => ∃ (i : Nat), i ≤ 3 ∧ v10 = .int .i64 i ∧ Hid (RCtx wr w.heap.size pb rb F (skipB i s)) ∧ Hid (BlkL wr cb 33 zeroCfg) ∧ Hid (Keeps (Two rb cb) w wr) ∧ Hid (Keeps (Two rb cb) W1 wr)) (fun v10 _ => 3 - (intOf v10).toNat)
  case atStart => exact ⟨0, by omega, rfl, H0, B0, K0, hid (Keeps.refl _ _)⟩
  case round =>
    obtain ⟨i, hi, rfl, HR, HB, HK, HK1⟩ := hrel
    clear q0 H0 B0 K0
    have q0 := cell_at (i := 0) HR.out.hpb rfl
    by_cases hlt : i < 3
    · obtain ⟨ch, hch⟩ := lettersV hlt
      have x0 := HK1.out.cell (p := ⟨w.heap.size + 1, i, none⟩) (fun e => by rcases e with e | e <;> simp at e <;> omega) (cell_at HLET.out hch)
      have hql : w.heap.size < wr.heap.size := lt_of_block HR.out.hpb
      have hqn : ¬ w.heap.size = wr.heap.size := by omega
      have hs := rsmallB_any (w := wr.alloc (.cells #[.int .u8 ch] 5)) (b := wr.heap.size) (o := 0) (xs := [.int .u8 ch]) (HR.out.calm ((Keeps.refl No wr).alloc _)).lay (HR.out.calm ((Keeps.refl No wr).alloc _)).rd (heap_alloc_new wr _) (by simp) (fun hf => by have := HR.out.lt _ hf; omega)
      have HS := hid hs
      clear hs hch
      go_wp2_with fail
      refine HS.out.mono ?_
      rintro e w2 ⟨rfl, b2, r2, k2⟩
      have kk : Keeps (Two rb wr.heap.size) wr w2 := Keeps.trans' ((Keeps.refl No wr).alloc _) k2 (fun _ _ h => h.elim) (fun _ _ h => h)
      have kr : Keeps (Two rb cb) wr w2 := kk.mono (fun i hi e => by rcases e with e | e; exact Or.inl e; omega)
      have hcw := HB.out.lt
      have HR2 := hid (HR.out.step kk r2 (by have : pb < wr.heap.size := lt_of_block HR.out.lay; omega) (by omega))
      have HB2 := hid (HB.out.keep kk (fun e => by rcases e with e | e; exact nb (e ▸ HR.out.rd.frb); omega))
      have HK2 := hid (HK.out.trans kr)
      have HK12 := hid (HK1.out.trans kr)
      clear b2 r2 k2 kk kr HS x0 hcw
      go_wp2_with fail
      go_roundw
      case rel => exact ⟨i + 1, by omega, by go_num, HR2, HB2, HK2, HK12⟩
      case measure => simp [intOf]; omega
    · obtain rfl : i = 3 := by omega
      obtain ⟨wr1, rfl⟩ : ∃ x, x = wr := ⟨_, rfl⟩
      have H1 : Hid (RCtx wr1 w.heap.size pb rb F (ct3 s)) := HR
      have B1 : Hid (BlkL wr1 cb 33 zeroCfg) := HB
      have K1 := HK
      clear HR HB HK HK1 HLET

      have hl1 := rlistSig (w := wr1.drew) (qb := w.heap.size) (o := 0) (H1.out.calm (drew_keeps _)) (B1.out.keep (drew_keeps _) (fun h => h)) rfl nb bp hcq
      have HL1 := hid hl1
      clear hl1
      go_wp2_with fail
      go_still_tail 5, (by kernel_rfl)
      go_wp2_with fail
      refine HL1.out.mono ?_
      rintro e wr2 ⟨rfl, g1, y1, b2, gb1, hy1, r2, k2, hg1, hn1⟩
      have kk2 := Keeps.trans' (drew_keeps _) k2 (fun _ _ h => h.elim) (fun _ _ h => h)
      have H2 : Hid (RCtx wr2 w.heap.size pb rb F (ct4 s)) := hid r2
      have B2 : Hid (BlkL wr2 cb 33 [.slice (some ⟨g1, 0, none⟩) y1.length y1.length, .slice none 0 0, .slice none 0 0, .int .i64 0, .int .i64 0, .int .i64 0, .int .i64 0, .int .i64 0, .int .i64 0, .bool false, .int .i64 0]) := hid b2
      have K2 := hid (K1.out.trans kk2)
      have G1 := hid gb1
      have Y1 := hid hy1
      have KK2 := hid kk2
      skip
      have hsz1 : w.heap.size ≤ wr1.heap.size := K1.out.size
      have hgg1 : w.heap.size ≤ g1 := Nat.le_trans hsz1 hg1
      clear b2 r2 k2 kk2 gb1 hy1 HL1 B1 H1 q0 
      have q0 := cell_at (i := 0) H2.out.hpb rfl

      have hl2 := rlistRul (w := wr2.drew) (qb := w.heap.size) (o := 1) (H2.out.calm (drew_keeps _)) (B2.out.keep (drew_keeps _) (fun h => h)) rfl nb bp hcq
      have HL2 := hid hl2
      clear hl2
      go_wp2_with fail
      go_still_tail 6, (by kernel_rfl)
      go_wp2_with fail
      refine HL2.out.mono ?_
      rintro e wr3 ⟨rfl, g2, y2, b3, gb2, hy2, r3, k3, hg2, hn2, ok2⟩
      have kk3 := Keeps.trans' (drew_keeps _) k3 (fun _ _ h => h.elim) (fun _ _ h => h)
      have H3 : Hid (RCtx wr3 w.heap.size pb rb F (ct5 s)) := hid r3
      have B3 : Hid (BlkL wr3 cb 33 [.slice (some ⟨g1, 0, none⟩) y1.length y1.length, .slice (some ⟨g2, 0, none⟩) y2.length y2.length, .slice none 0 0, .int .i64 0, .int .i64 0, .int .i64 0, .int .i64 0, .int .i64 0, .int .i64 0, .bool false, .int .i64 0]) := hid b3
      have K3 := hid (K2.out.trans kk3)
      have G2 := hid gb2
      have Y2 := hid hy2
      have KK3 := hid kk3
      have OK2 := hid ok2
      have hsz2 : w.heap.size ≤ wr2.heap.size := K2.out.size
      have hgg2 : w.heap.size ≤ g2 := Nat.le_trans hsz2 hg2
      clear b3 r3 k3 kk3 gb2 hy2 HL2 B2 H2 q0 ok2
      have q0 := cell_at (i := 0) H3.out.hpb rfl

      have hl3 := rlistTab (w := wr3.drew) (qb := w.heap.size) (o := 2) (H3.out.calm (drew_keeps _)) (B3.out.keep (drew_keeps _) (fun h => h)) rfl nb bp hcq
      have HL3 := hid hl3
      clear hl3
      go_wp2_with fail
      go_still_tail 5, (by kernel_rfl)
      go_wp2_with fail
      refine HL3.out.mono ?_
      rintro e wr4 ⟨rfl, g3, y3, b4, gb3, hy3, r4, k4, hg3, hn3, ok3⟩
      have kk4 := Keeps.trans' (drew_keeps _) k4 (fun _ _ h => h.elim) (fun _ _ h => h)
      have H4 : Hid (RCtx wr4 w.heap.size pb rb F (ct6 s)) := hid r4
      have B4 : Hid (BlkL wr4 cb 33 [.slice (some ⟨g1, 0, none⟩) y1.length y1.length, .slice (some ⟨g2, 0, none⟩) y2.length y2.length, .slice (some ⟨g3, 0, none⟩) y3.length y3.length, .int .i64 0, .int .i64 0, .int .i64 0, .int .i64 0, .int .i64 0, .int .i64 0, .bool false, .int .i64 0]) := hid b4
      have K4 := hid (K3.out.trans kk4)
      have G3 := hid gb3
      have Y3 := hid hy3
      have KK4 := hid kk4
      have OK3 := hid ok3
      have hsz3 : w.heap.size ≤ wr3.heap.size := K3.out.size
      have hgg3 : w.heap.size ≤ g3 := Nat.le_trans hsz3 hg3
      clear b4 r4 k4 kk4 gb3 hy3 HL3 B3 H3 q0 ok3
      have q0 := cell_at (i := 0) H4.out.hpb rfl

      obtain ⟨sv, hsv⟩ : ∃ sv, sv = Value.slice (some ⟨g1, 0, none⟩) y1.length y1.length := ⟨_, rfl⟩
      obtain ⟨rv, hrv⟩ : ∃ rv, rv = Value.slice (some ⟨g2, 0, none⟩) y2.length y2.length := ⟨_, rfl⟩
      obtain ⟨tv, htv⟩ : ∃ tv, tv = Value.slice (some ⟨g3, 0, none⟩) y3.length y3.length := ⟨_, rfl⟩
      have B5 : Hid (BlkL wr4 cb 33 (bandCells sv rv tv (ct6 s) 0)) := hid (by rw [hsv, hrv, htv]; exact B4.out)
      have HSV := hid hsv
      have HRV := hid hrv
      have HTV := hid htv
      have H5 : Hid (RCtx wr4 w.heap.size pb rb F (skipB 0 (ct6 s))) := H4
      clear B4 H4 hsv hrv htv
      go_wp2_with fail
      go_loopw [36] (fun v36 wr => ∃ (i : Nat), i ≤ 3 ∧ v36 = .int .i64 i ∧ Hid (RCtx wr w.heap.size pb rb F (skipB i (ct6 s))) ∧ Hid (BlkL wr cb 33 (bandCells sv rv tv (ct6 s) i)) ∧ Hid (Keeps (Two rb cb) wr4 wr)) (fun v36 _ => 3 - (intOf v36).toNat)
      case atStart => exact ⟨0, by omega, rfl, H5, B5, hid (Keeps.refl _ _)⟩
      case round =>
        obtain ⟨i, hi, rfl, HR, HB, HK⟩ := hrel
        clear q0 H5 B5
        have q0 := cell_at (i := 0) HR.out.hpb rfl
        by_cases hlt : i < 3
        · have HST := hid (bandCells_set sv rv tv (ct6 s) hlt)
          have hs := rsmallI_any (w := wr.drew) (o := 3 + i) (HR.out.calm (drew_keeps _)).lay (HR.out.calm (drew_keeps _)).rd (HB.out.keep (drew_keeps _) (fun h => h)) (by simp [bandCells]; omega) nb
          have HS := hid hs
          clear hs
          go_wp2_with fail
          go_still_tail 6, (by kernel_rfl)
          go_wp2_with fail
          refine HS.out.mono ?_
          rintro e w2 ⟨rfl, b2, r2, k2⟩
          have kk := Keeps.trans' (drew_keeps _) k2 (fun _ _ h => h.elim) (fun _ _ h => h)
          have HR2 := hid (HR.out.step kk r2 bp hcq)
          have HB2 : Hid (BlkL w2 cb 33 (bandCells sv rv tv (ct6 s) (i + 1))) := hid (by rw [← HST.out]; exact b2)
          have HK2 := hid (HK.out.trans kk)
          clear b2 r2 k2 kk HS
          go_wp2_with fail
          go_roundw
          case rel => exact ⟨i + 1, by omega, by go_num, HR2, HB2, HK2⟩
          case measure => simp [intOf]; omega
        · obtain rfl : i = 3 := by omega
          obtain ⟨wr5, rfl⟩ : ∃ x, x = wr := ⟨_, rfl⟩
          have H5 : Hid (RCtx wr5 w.heap.size pb rb F (ct9 s)) := HR
          have B5 : Hid (BlkL wr5 cb 33 [sv, rv, tv, .int .i64 (skipB 0 (ct6 s)).byte.1, .int .i64 (skipB 1 (ct6 s)).byte.1, .int .i64 (skipB 2 (ct6 s)).byte.1, .int .i64 0, .int .i64 0, .int .i64 0, .bool false, .int .i64 0]) := HB
          have K5 := HK
          clear HR HB HK
          have hs := rsmallI_any (w := wr5.drew) (o := 6) (H5.out.calm (drew_keeps _)).lay (H5.out.calm (drew_keeps _)).rd (B5.out.keep (drew_keeps _) (fun h => h)) (by simp) nb
          have HS := hid hs
          clear hs
          go_wp2_with fail
          go_still_tail 4, (by kernel_rfl)
          go_wp2_with fail
          refine HS.out.mono ?_
          rintro e wr6 ⟨rfl, b6, r6, k6⟩
          have kk6 := Keeps.trans' (drew_keeps _) k6 (fun _ _ h => h.elim) (fun _ _ h => h)
          have H6 := hid (H5.out.step kk6 r6 bp hcq)
          have B6 := hid b6
          have K6 := hid (K5.out.trans kk6)
          have q0 := cell_at (i := 0) H6.out.hpb rfl
          clear b6 r6 k6 kk6 HS B5 H5 K5
          have hs := rwholeL_any (w := wr6.drew) (o := 7) (H6.out.calm (drew_keeps _)).lay (H6.out.calm (drew_keeps _)).rd (B6.out.keep (drew_keeps _) (fun h => h)) (by simp) nb
          have HS := hid hs
          clear hs
          go_wp2_with fail
          go_still_tail 4, (by kernel_rfl)
          go_wp2_with fail
          refine HS.out.mono ?_
          rintro e wr7 ⟨rfl, b7, r7, k7⟩
          have kk7 := Keeps.trans' (drew_keeps _) k7 (fun _ _ h => h.elim) (fun _ _ h => h)
          have H7 := hid (H6.out.step kk7 r7 bp hcq)
          have B7 := hid b7
          have K7 := hid (K6.out.trans kk7)
          have q0 := cell_at (i := 0) H7.out.hpb rfl
          clear b7 r7 k7 kk7 HS B6 H6 K6
          have hs := rwholeL_any (w := wr7.drew) (o := 8) (H7.out.calm (drew_keeps _)).lay (H7.out.calm (drew_keeps _)).rd (B7.out.keep (drew_keeps _) (fun h => h)) (by simp) nb
          have HS := hid hs
          clear hs
          go_wp2_with fail
          go_still_tail 4, (by kernel_rfl)
          go_wp2_with fail
          refine HS.out.mono ?_
          rintro e wr8 ⟨rfl, b8, r8, k8⟩
          have kk8 := Keeps.trans' (drew_keeps _) k8 (fun _ _ h => h.elim) (fun _ _ h => h)
          have H8 := hid (H7.out.step kk8 r8 bp hcq)
          have B8 := hid b8
          have K8 := hid (K7.out.trans kk8)
          have q0 := cell_at (i := 0) H8.out.hpb rfl
          clear b8 r8 k8 kk8 HS B7 H7 K7
          have hs := rflagP_any (w := wr8.drew) (o := 9) (H8.out.calm (drew_keeps _)).lay (H8.out.calm (drew_keeps _)).rd (B8.out.keep (drew_keeps _) (fun h => h)) (by simp) nb
          have HS := hid hs
          clear hs
          go_wp2_with fail
          go_still_tail 4, (by kernel_rfl)
          go_wp2_with fail
          refine HS.out.mono ?_
          rintro e wr9 ⟨rfl, b9, r9, k9⟩
          have kk9 := Keeps.trans' (drew_keeps _) k9 (fun _ _ h => h.elim) (fun _ _ h => h)
          have H9 := hid (H8.out.step kk9 r9 bp hcq)
          have B9 := hid b9
          have K9 := hid (K8.out.trans kk9)
          have q0 := cell_at (i := 0) H9.out.hpb rfl
          clear b9 r9 k9 kk9 HS B8 H8 K8
          have hs := rwholeI_any (w := wr9.drew) (o := 10) (H9.out.calm (drew_keeps _)).lay (H9.out.calm (drew_keeps _)).rd (B9.out.keep (drew_keeps _) (fun h => h)) (by simp) nb
          have HS := hid hs
          clear hs
          go_wp2_with fail
          go_still_tail 4, (by kernel_rfl)
          go_wp2_with fail
          refine HS.out.mono ?_
          rintro e wr10 ⟨rfl, b10, r10, k10⟩
          have kk10 := Keeps.trans' (drew_keeps _) k10 (fun _ _ h => h.elim) (fun _ _ h => h)
          have H10 := hid (H9.out.step kk10 r10 bp hcq)
          have B10 := hid b10
          have K10 := hid (K9.out.trans kk10)
          have q0 := cell_at (i := 0) H10.out.hpb rfl
          clear b10 r10 k10 kk10 HS B9 H9 K9
          go_wp2_with fail
          go_end0
          have kend : Keeps (Two rb cb) w wr10 := K4.out.trans K10.out
          have hk24 : Keeps (Two rb cb) wr2 wr10 := (KK3.out.trans KK4.out).trans K10.out
          have hk34 : Keeps (Two rb cb) wr3 wr10 := KK4.out.trans K10.out
          have hsmall : ∀ g, w.heap.size ≤ g → ¬ Two rb cb g := fun g hg e => by rcases e with e | e <;> omega
          refine ⟨rfl, ⟨y1, y2, y3, (skipB 0 (ct6 s)).byte.1, (skipB 1 (ct6 s)).byte.1, (skipB 2 (ct6 s)).byte.1, (ct9 s).byte.1, (ct10 s).int.1, (ct11 s).int.1, (ct12 s).flag.1, (ct13 s).int.1⟩, sv, rv, tv, B10.out, ⟨?_, ?_, ?_, ?_, ?_⟩, ?_, H10.out.rd, kend, hn1, hn2, hn3, ⟨?_, ?_, ?_, ?_, ?_⟩⟩
          · rw [HSV.out]
            exact Sl.ofBlk (size := 2) (G1.out.keep hk24 (hsmall _ hgg1)) (length_flatMap_enc (size := 2) (fun _ => rfl) y1) (by unfold maxLen; omega)
          · rw [HRV.out]
            exact Sl.ofBlk (size := 9) (G2.out.keep hk34 (hsmall _ hgg2)) (length_flatMap_enc (size := 9) (fun _ => rfl) y2) (by unfold maxLen; omega)
          · rw [HTV.out]
            have := Sl.ofBlk (size := 1) (n := y3.length) (G3.out.keep K10.out (hsmall _ hgg3)) (length_flatMap_enc (size := 1) (enc := fun x : List Int × Value => [x.2]) (fun _ => rfl) y3) (by unfold maxLen; omega)
            rw [flatMap_single] at this
            exact this
          · intro x hx
            exact (OK2.out x hx).sl.keep hk34 (fun b hb => hsmall b (by have := (OK2.out x hx).gt b hb; omega))
          · intro x hx
            exact Sl.keep (OK3.out x hx).sl K10.out (fun b hb => hsmall b (by have := (OK3.out x hx).gt b hb; omega))
          · have e1 := Y1.out
            have e2 := Y2.out
            have e3 := Y3.out
            simp only [List.map_id_fun, id_eq] at e1
            unfold Cfg.pure rdCfg
            rw [e1]
            simp only [e2, e3]
          · intro b hb
            rw [HSV.out] at hb
            simp [Value.ownBlock] at hb; omega
          · intro b hb
            rw [HRV.out] at hb
            simp [Value.ownBlock] at hb; omega
          · intro b hb
            rw [HTV.out] at hb
            simp [Value.ownBlock] at hb; omega
          · intro x hx b hb
            have := (OK2.out x hx).gt b hb
            omega
          · intro x hx b hb
            have := (OK3.out x hx).gt b hb
            omega

end
end Go.Proofs.YtlenhccdkhgfgaaDoor
