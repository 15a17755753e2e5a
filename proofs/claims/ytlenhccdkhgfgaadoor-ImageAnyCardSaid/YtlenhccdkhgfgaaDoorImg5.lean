/-
  What a pass that lays does with a whole configuration; Encode.
-/
import Derived.Test.YtlenhccdkhgfgaaDoorImg4
import Derived.Test.YtlenhccdkhgfgaaDoorSum2
import Derived.Lib.SmallJoins
namespace Go.Proofs.YtlenhccdkhgfgaaDoor
open Go.RowKit

def lettersB : List Int := [72, 66, 49]

theorem letters_take {i : Nat} (h : i < 3) : ∃ c : Int, lettersB[i]? = some c ∧ lettersB.take (i + 1) = lettersB.take i ++ [c] := by
  match i, h with
  | 0, _ => exact ⟨72, rfl, rfl⟩
  | 1, _ => exact ⟨66, rfl, rfl⟩
  | 2, _ => exact ⟨49, rfl, rfl⟩

/-- The bands, one behind the other. -/
def bandsB (c : Cfg) : List Int := [c.b0, c.b1, c.b2]

theorem bands_take (c : Cfg) {i : Nat} (h : i < 3) (sv rv tv : Value) : ∃ n : Int, (c.cells sv rv tv)[3 + i]? = some (.int .i64 n) ∧ ((bandsB c).map (· % 256)).take (i + 1) = ((bandsB c).map (· % 256)).take i ++ [n % 256] := by
  match i, h with
  | 0, _ => exact ⟨c.b0, rfl, rfl⟩
  | 1, _ => exact ⟨c.b1, rfl, rfl⟩
  | 2, _ => exact ⟨c.b2, rfl, rfl⟩

/-- What an image takes up, at most. -/
def Fits (c : Cfg) : Prop := 100 + c.sigs.length * 8 + (c.ruls.map (fun r => rulB r.1)).flatten.length + (c.tab.map (fun l => slotB l.1)).flatten.length ≤ 90000

theorem rulB_len (r : Rul) : (rulB r).length = 21 + r.stages.length * 5 := by
  have := len_flatten_const stgB 5 len_stgB r.stages
  rw [flatten_flatMap] at this
  simp only [rulB, List.length_append, List.length_singleton, len_int4, this]
  omega
theorem slotB_len (l : List Int) : (slotB l).length = 1 + l.length := by
  have := len_flatten_const (fun n : Int => [n % 256]) 1 (fun _ => rfl) l
  rw [flatten_flatMap] at this
  simp only [slotB, List.length_append, List.length_singleton, this]
  omega

theorem len_flatten_ge : ∀ (B : List (List Int)), (∀ x ∈ B, 1 ≤ x.length) → B.length ≤ B.flatten.length
  | [], _ => by simp
  | x :: B, h => by
    have := len_flatten_ge B (fun y hy => h y (List.mem_cons_of_mem _ hy))
    have := h x List.mem_cons_self
    simp only [List.flatten_cons, List.length_append, List.length_cons]
    omega

section
variable {w : World} {pb wb cb : Nat} {F : Nat → Prop} {l : List Int}

set_option maxHeartbeats 8000000 in
set_option maxRecDepth 100000 in
theorem wconfig_any {w0 : World} {c : Cfg} {sv rv tv : Value} (R : CfgR w0 c sv rv tv) (hk0 : Keeps No w0 w) (hF : ∀ k, F k → w0.heap.size ≤ k) (hp : Lay w pb wb) (h : Wr w wb F []) (np : ¬ F pb)
    (hc : w0.heap[cb]? = some (.cells (c.cells sv rv tv) 33 (0, 0))) (hfit : Fits c) :
    Calls Tryd.prog 22 #[.pointer (some ⟨pb, 0, none⟩), .pointer (some ⟨cb, 0, none⟩)] w fun e w' => e = .returned (.tuple #[]) ∧ ∃ F', Wr w' wb F' (cfgB c) ∧ Upd F w w' F' := by
  have hcb0 : cb < w0.heap.size := lt_of_block hc
  obtain ⟨asg, caps, rfl⟩ := R.sig.any
  obtain ⟨ar, capr, rfl⟩ := R.rul.any
  obtain ⟨at_, capt, rfl⟩ := R.tab.any
  have HLT := hid h.lt
  obtain ⟨W0, hW0⟩ : ∃ W0, W0 = w.alloc (.cells #[.pointer (some ⟨pb, 0, none⟩)] 60) := ⟨_, rfl⟩
  have hcv := Go.Joins.run_convert_bytes_const_at (P := Tryd.prog) (w.alloc (.cells #[.pointer (some ⟨pb, 0, none⟩)] 60)) 23 5 #[.int .u8 72, .int .u8 66, .int .u8 49] 3 3 (w.heap.size + 1) (by simp) Tryd.underlying23 Tryd.underlying5
  obtain ⟨W1, hW1⟩ : ∃ W1, W1 = W0.alloc (.cells #[.int .u8 72, .int .u8 66, .int .u8 49] 5 (3, 4)) := ⟨_, rfl⟩
  have k0 : Keeps No w W0 := by rw [hW0]; exact (Keeps.refl _ _).alloc _
  have k1 : Keeps No W0 W1 := by rw [hW1]; exact (Keeps.refl _ _).alloc _
  have hz0 : W0.heap.size = w.heap.size + 1 := by rw [hW0]; simp
  have hz1 : W1.heap.size = w.heap.size + 2 := by rw [hW1]; simp [hz0]
  have hlet : W1.heap[w.heap.size + 1]? = some (.cells #[.int .u8 72, .int .u8 66, .int .u8 49] 5 (3, 4)) := by rw [hW1]; exact heap_alloc_at hz0 _
  have H0 : Hid (WCtx W1 w.heap.size pb wb F []) := hid ⟨(k0.trans k1).heap (fun h => h) hp, k1.heap (fun h => h) (by rw [hW0]; exact heap_alloc_new w _), h.keep (k0.trans k1) (fun _ _ h => h), np, fun h' => by have := HLT.out _ h'; omega⟩
  have hlb : ¬ F (w.heap.size + 1) := fun h' => by have := HLT.out _ h'; omega
  have U0 : Hid (Upd F W1 W1 F) := hid (Upd.refl _ _)
  have K01 : Hid (Keeps No w0 W1) := hid (hk0.trans (k0.trans k1))
  have UW : Hid (∀ w' F', Upd F W1 w' F' → Upd F w w' F') := hid (fun w' F' u => Upd.behind (k0.trans k1) u)
  have HNF := hid hF
  have HR := hid R
  have HCB := hid hc
  have HLET := hid hlet
  have HFIT := hid hfit
  have hfit2 := hfit
  unfold Fits at hfit2
  have HFIT2 := hid hfit2
  have hszW := hk0.size
  have HW0 := hid hW0
  have HW1 := hid hW1
  have HZ0 := hid hz0
  clear hp h np k0 k1 hW0 hW1 hlet R hc hk0 hfit hfit2 HLT hz0 hz1
  go_enter Tryd.func22, Tryd.ntmps22
  go_wp2_with fail
  rw [← HW0.out, ← HW1.out]
  clear hcv HW0 HW1
  have q0 := cell_at (i := 0) H0.out.hpb rfl
  go_loopw [10] (fun v10 wr => ∃ (i : Nat) (F' : Nat → Prop), i ≤ 3 ∧ v10 = .int .i64 i ∧ Hid (WCtx wr w.heap.size pb wb F' (lettersB.take i)) ∧ Hid (Upd F W1 wr F')) (fun v10 _ => 3 - (intOf v10).toNat)
  case atStart => exact ⟨0, F, by omega, rfl, H0, U0⟩
  case round =>
    obtain ⟨i, F1, hi, rfl, HWi, HU⟩ := hrel
    clear q0 H0 U0
    have q0 := cell_at (i := 0) HWi.out.hpb rfl
    by_cases hlt : i < 3
    · obtain ⟨ch, hch, htk⟩ := letters_take hlt
      have hlc : W1.cell? ⟨w.heap.size + 1, i, none⟩ = some (.int .u8 ch) := cell_at HLET.out (by
        match i, hlt with
        | 0, _ => simp [lettersB] at hch; subst hch; rfl
        | 1, _ => simp [lettersB] at hch; subst hch; rfl
        | 2, _ => simp [lettersB] at hch; subst hch; rfl)
      have x0 := HU.out.keeps.cell hlb hlc
      have HTK := hid htk
      have hs := wsmallB_any (w := wr.alloc (.cells #[.int .u8 ch] 5)) (b := wr.heap.size) (o := 0) (HWi.out.calm ((Keeps.refl No wr).alloc _)).lay (HWi.out.calm ((Keeps.refl No wr).alloc _)).wr ch (by simp) (by simp; omega)
      have HS := hid hs
      have hql : w.heap.size < wr.heap.size := lt_of_block HWi.out.hpb
      have hqn : ¬ w.heap.size = wr.heap.size := by omega
      clear hlc htk hch hs
      go_wp2_with fail
      refine HS.out.mono ?_
      rintro e w2 ⟨rfl, F2, h2, u2⟩
      have H2 := hid (HWi.out.upd (Upd.behind ((Keeps.refl No wr).alloc _) u2) h2)
      have U2 := hid (HU.out.trans (Upd.behind ((Keeps.refl No wr).alloc _) u2))
      clear h2 u2 HS x0
      go_wp2_with fail
      go_roundw
      case rel => exact ⟨i + 1, F2, by omega, by go_num, hid (by rw [HTK.out]; exact H2.out), U2⟩
      case measure => simp [intOf]; omega
    · obtain rfl : i = 3 := by omega
      obtain ⟨H0, U0⟩ := And.intro HWi HU
      clear HWi HU
      have e3 : lettersB.take 3 = lettersB := rfl
      have H1 : Hid (WCtx wr w.heap.size pb wb F1 lettersB) := hid (by rw [← e3]; exact H0.out)
      have U1 := U0
      clear H0 U0 e3
      have hcell : ∀ (w' : World) F', Upd F W1 w' F' → ∀ k u, (c.cells (.slice asg c.sigs.length caps) (.slice ar c.ruls.length capr) (.slice at_ c.tab.length capt))[k]? = some u → w'.cell? ⟨cb, k, none⟩ = some u := fun w' F' u k v hv => (newUpd HNF.out K01.out u).2.cell (fun h => h) (cell_at HCB.out hv)
      have HCELL := hid hcell
      have hold : ∀ (w' : World) F', Upd F W1 w' F' → (∀ k, F' k → w0.heap.size ≤ k) ∧ Keeps No w0 w' := fun w' F' u => newUpd HNF.out K01.out u
      have HOLD := hid hold
      clear hcell hold
      obtain ⟨wr1, rfl⟩ : ∃ x, x = wr := ⟨_, rfl⟩

      have hl1 := wlistSig (w := wr1.drew) (qb := w.heap.size) (b := cb) (o := 0) (a := asg) (n := c.sigs.length) (cap := caps) (H1.out.calm (drew_keeps _)).lay (H1.out.calm (drew_keeps _)).wr H1.out.np (fun h' => by have := (HOLD.out _ _ U1.out).1 _ h'; omega) (cellDr (HCELL.out _ _ U1.out 0 _ rfl)) (by have := HFIT2.out; omega) (c.sigs.map sigB) (by simp) (fun h0 => by
          obtain ⟨g, off, rfl, _⟩ := Sl.cellAt HR.out.sig (j := 0 * 2 + 0) (by rw [getElem?_flatMap_enc (size := 2) (enc := encSig) (fun _ => rfl) _ 0 0 (by omega) h0]; rfl)
          exact ⟨g, off, rfl⟩) (by have := HFIT2.out; have e3 : lettersB.length = 3 := rfl; have := len_flatten_const sigB 8 len_sigB c.sigs; (try simp only [List.length_append, List.length_singleton] at *); omega) (by
        intro i hi g off ha w' F' l' hu hw hl'
        simp only [List.length_map] at hi
        have hu2 := U1.out.trans (Upd.behind (drew_keeps _) hu)
        have ho := HOLD.out _ _ hu2
        subst ha
        obtain ⟨g', off', he, hg, hc0⟩ := Sl.cellAt HR.out.sig (j := i * 2 + 0) (by rw [getElem?_flatMap_enc (size := 2) (enc := encSig) (fun _ => rfl) _ i 0 (by omega) hi]; rfl)
        simp only [Option.some.injEq, Addr.mk.injEq, and_true] at he
        obtain ⟨rfl, rfl⟩ := he
        obtain ⟨g', off', he, _, hc1⟩ := Sl.cellAt HR.out.sig (j := i * 2 + 1) (by rw [getElem?_flatMap_enc (size := 2) (enc := encSig) (fun _ => rfl) _ i 1 (by omega) hi]; rfl)
        simp only [Option.some.injEq, Addr.mk.injEq, and_true] at he
        obtain ⟨rfl, rfl⟩ := he
        have k0 := ho.2.cell (fun h => h) hc0
        have k1 := ho.2.cell (fun h => h) hc1
        refine (wsig_any ((H1.out.calm (drew_keeps _)).upd hu hw) c.sigs[i] (fun h' => by have := ho.1 _ h'; omega) (by simpa [Nat.add_assoc] using k0) (by simpa [Nat.add_assoc] using k1) (by simp [len_sigB] at hl'; omega)).mono ?_
        rintro e w'' ⟨rfl, F'', h2, u2⟩
        exact ⟨rfl, F'', by simpa using h2.wr, u2⟩)
      have HL1 := hid hl1
      clear hl1
      have q0 := cell_at (i := 0) H1.out.hpb rfl
      go_wp2_with fail
      go_still_tail 5, (by kernel_rfl)
      go_wp2_with fail
      refine HL1.out.mono ?_
      rintro e wr2 ⟨rfl, F2, h2, u2⟩
      have H2 := hid (H1.out.upd (Upd.behind (drew_keeps _) u2) h2)
      have U2 := hid (U1.out.trans (Upd.behind (drew_keeps _) u2))
      clear u2 h2 HL1 q0

      have hl2 := wlistRul (w := wr2.drew) (b := cb) (o := 1) (a := ar) (n := c.ruls.length) (cap := capr) (H2.out.calm (drew_keeps _)).lay (H2.out.calm (drew_keeps _)).wr H2.out.np (fun h' => by have := (HOLD.out _ _ U2.out).1 _ h'; omega) (cellDr (HCELL.out _ _ U2.out 1 _ rfl)) (by have := HFIT2.out; have := len_flatten_ge (c.ruls.map (fun r => rulB r.1)) (fun x hx => by obtain ⟨y, _, rfl⟩ := List.mem_map.1 hx; rw [rulB_len]; omega); simp only [List.length_map] at this; omega) (c.ruls.map (fun r => rulB r.1)) (by simp) (fun h0 => by
          obtain ⟨g, off, rfl, _⟩ := Sl.cellAt HR.out.rul (j := 0 * 9 + 0) (by rw [getElem?_flatMap_enc (size := 9) (enc := encRul) (fun _ => rfl) _ 0 0 (by omega) h0]; rfl)
          exact ⟨g, off, rfl⟩) (by have := HFIT2.out; have e3 : lettersB.length = 3 := rfl; have := len_flatten_const sigB 8 len_sigB c.sigs; (try simp only [List.length_append, List.length_singleton] at *); omega) (by
        intro i hi g off ha w' F' l' hu hw hl'
        simp only [List.length_map] at hi
        have hu2 := U2.out.trans (Upd.behind (drew_keeps _) hu)
        have ho := HOLD.out _ _ hu2
        subst ha
        have hcs : ∀ k u, (encRul c.ruls[i])[k]? = some u → w'.cell? ⟨g, off + i * 9 + k, none⟩ = some u := by
          intro k u hu'
          have hk9 : k < 9 := (List.getElem?_eq_some_iff.1 hu').1
          obtain ⟨g', off', he, hg, hc0⟩ := Sl.cellAt HR.out.rul (j := i * 9 + k) (u := u) (by rw [getElem?_flatMap_enc (size := 9) (enc := encRul) (fun _ => rfl) _ i k hk9 hi]; exact hu')
          simp only [Option.some.injEq, Addr.mk.injEq, and_true] at he
          obtain ⟨rfl, rfl⟩ := he
          simpa [Nat.add_assoc] using ho.2.cell (fun h => h) hc0
        have hg : g < w0.heap.size := by
          obtain ⟨g', off', he, hg, _⟩ := Sl.cellAt HR.out.rul (j := i * 9 + 0) (by rw [getElem?_flatMap_enc (size := 9) (enc := encRul) (fun _ => rfl) _ i 0 (by omega) hi]; rfl)
          simp only [Option.some.injEq, Addr.mk.injEq, and_true] at he
          omega
        have hx := H2.out.calm (drew_keeps _)
        have hx := hx.upd hu hw
        refine (wrule_any hx.lay hw hx.np c.ruls[i].1 (v := c.ruls[i].2) hcs ((HR.out.stg _ (List.getElem_mem hi)).keep ho.2 (fun _ _ h => h)) (fun h' => by have := ho.1 _ h'; omega) (fun h0 b hb h' => by have := Sl.lt (HR.out.stg _ (List.getElem_mem hi)) h0 b hb; have := ho.1 _ h'; omega) (by simp [rulB_len] at hl'; omega)).mono ?_
        rintro e w'' ⟨rfl, F'', h2, u2⟩
        exact ⟨rfl, F'', by simpa using h2, u2⟩)
      have HL2 := hid hl2
      clear hl2
      have q0 := cell_at (i := 0) H2.out.hpb rfl
      go_wp2_with fail
      go_still_tail 6, (by kernel_rfl)
      go_wp2_with fail
      refine HL2.out.mono ?_
      rintro e wr3 ⟨rfl, F3, h3, u3⟩
      have H3 := hid (H2.out.upd (Upd.behind (drew_keeps _) u3) h3)
      have U3 := hid (U2.out.trans (Upd.behind (drew_keeps _) u3))
      clear u3 h3 HL2 q0

      have hl3 := wlistTab (w := wr3.drew) (qb := w.heap.size) (b := cb) (o := 2) (a := at_) (n := c.tab.length) (cap := capt) (H3.out.calm (drew_keeps _)).lay (H3.out.calm (drew_keeps _)).wr H3.out.np (fun h' => by have := (HOLD.out _ _ U3.out).1 _ h'; omega) (cellDr (HCELL.out _ _ U3.out 2 _ rfl)) (by have := HFIT2.out; have := len_flatten_ge (c.tab.map (fun l => slotB l.1)) (fun x hx => by obtain ⟨y, _, rfl⟩ := List.mem_map.1 hx; rw [slotB_len]; omega); simp only [List.length_map] at this; omega) (c.tab.map (fun l => slotB l.1)) (by simp) (fun h0 => by
          obtain ⟨g, off, rfl, _⟩ := Sl.cellAt HR.out.tab (j := 0) (u := c.tab[0].2) (by rw [List.getElem?_map, List.getElem?_eq_getElem h0]; rfl)
          exact ⟨g, off, rfl⟩) (by have := HFIT2.out; have e3 : lettersB.length = 3 := rfl; have := len_flatten_const sigB 8 len_sigB c.sigs; (try simp only [List.length_append, List.length_singleton] at *); omega) (by
        intro i hi g off ha w' F' l' hu hw hl'
        simp only [List.length_map] at hi
        have hu2 := U3.out.trans (Upd.behind (drew_keeps _) hu)
        have ho := HOLD.out _ _ hu2
        subst ha
        obtain ⟨g', off', he, hg, hc0⟩ := Sl.cellAt HR.out.tab (j := i) (u := c.tab[i].2) (by rw [List.getElem?_map, List.getElem?_eq_getElem hi]; rfl)
        simp only [Option.some.injEq, Addr.mk.injEq, and_true] at he
        obtain ⟨rfl, rfl⟩ := he
        have k0 := ho.2.cell (fun h => h) hc0
        refine (wslot_any ((H3.out.calm (drew_keeps _)).upd hu hw) c.tab[i].1 k0 (Sl.keep (HR.out.slot _ (List.getElem_mem hi)) ho.2 (fun _ _ h => h)) (fun h' => by have := ho.1 _ h'; omega) (fun h0 b hb h' => by have := Sl.lt (HR.out.slot _ (List.getElem_mem hi)) h0 b hb; have := ho.1 _ h'; omega) (by simp [slotB_len] at hl'; omega)).mono ?_
        rintro e w'' ⟨rfl, F'', h2, u2⟩
        exact ⟨rfl, F'', by simpa using h2.wr, u2⟩)
      have HL3 := hid hl3
      clear hl3
      have q0 := cell_at (i := 0) H3.out.hpb rfl
      go_wp2_with fail
      go_still_tail 5, (by kernel_rfl)
      go_wp2_with fail
      refine HL3.out.mono ?_
      rintro e wr4 ⟨rfl, F4, h4, u4⟩
      have H4 := hid (H3.out.upd (Upd.behind (drew_keeps _) u4) h4)
      have U4 := hid (U3.out.trans (Upd.behind (drew_keeps _) u4))
      clear u4 h4 HL3 q0
      obtain ⟨l4, hl4⟩ : ∃ l4, l4 = lettersB ++ ([(c.sigs.length : Int) % 256] ++ (c.sigs.map sigB).flatten) ++ ([(c.ruls.length : Int) % 256] ++ (c.ruls.map (fun r => rulB r.1)).flatten) ++ ([(c.tab.length : Int) % 256] ++ (c.tab.map (fun l => slotB l.1)).flatten) := ⟨_, rfl⟩
      have hlen4 : l4.length ≤ 90000 := by
        have := HFIT2.out
        have e3 : lettersB.length = 3 := rfl
        have := len_flatten_const sigB 8 len_sigB c.sigs
        rw [hl4]
        simp only [List.length_append, List.length_singleton] at *
        omega
      rw [← hl4] at H4
      have HL4 := hid hl4
      clear hl4
      have q0 := cell_at (i := 0) H4.out.hpb rfl
      go_wp2_with fail
      go_loopw [36] (fun v36 wr => ∃ (i : Nat) (F' : Nat → Prop), i ≤ 3 ∧ v36 = .int .i64 i ∧ Hid (WCtx wr w.heap.size pb wb F' (l4 ++ ((bandsB c).map (· % 256)).take i)) ∧ Hid (Upd F W1 wr F')) (fun v36 _ => 3 - (intOf v36).toNat)
      case atStart => exact ⟨0, F4, by omega, rfl, hid (by simpa using H4.out), U4⟩
      case round =>
        obtain ⟨i, F5, hi, rfl, H5, U5⟩ := hrel
        clear q0 H4 U4
        have q0 := cell_at (i := 0) H5.out.hpb rfl
        have hlen5 : (l4 ++ ((bandsB c).map (· % 256)).take i).length ≤ 90003 := by
          have : (((bandsB c).map (· % 256)).take i).length ≤ 3 := by simp [bandsB]; omega
          rw [List.length_append]; omega
        by_cases hlt : i < 3
        · obtain ⟨n, hn, htk⟩ := bands_take c hlt (.slice asg c.sigs.length caps) (.slice ar c.ruls.length capr) (.slice at_ c.tab.length capt)
          have HTK := hid htk
          have hs := wsmallI_any (w := wr.drew) (b := cb) (o := 3 + i) (H5.out.calm (drew_keeps _)).lay (H5.out.calm (drew_keeps _)).wr n (cellDr (HCELL.out _ _ U5.out _ _ hn)) (by omega)
          have HS := hid hs
          clear hs htk hn
          go_wp2_with fail
          go_still_tail 6, (by kernel_rfl)
          go_wp2_with fail
          refine HS.out.mono ?_
          rintro e w2 ⟨rfl, F6, h6, u6⟩
          have H6 := hid (H5.out.upd (Upd.behind (drew_keeps _) u6) h6)
          have U6 := hid (U5.out.trans (Upd.behind (drew_keeps _) u6))
          clear h6 u6 HS
          go_wp2_with fail
          go_roundw
          case rel => exact ⟨i + 1, F6, by omega, by go_num, hid (by rw [HTK.out]; simpa [List.append_assoc] using H6.out), U6⟩
          case measure => simp [intOf]; omega
        · obtain rfl : i = 3 := by omega
          obtain ⟨l5, hl5⟩ : ∃ l5, l5 = l4 ++ ((bandsB c).map (· % 256)).take 3 := ⟨_, rfl⟩
          rw [← hl5] at H5 hlen5
          have HL5 := hid hl5
          clear hl5 hlen4
          obtain ⟨wr5, rfl⟩ : ∃ x, x = wr := ⟨_, rfl⟩
          have hs := wsmallI_any (w := wr5.drew) (b := cb) (o := 6) (H5.out.calm (drew_keeps _)).lay (H5.out.calm (drew_keeps _)).wr c.drain (cellDr (HCELL.out _ _ U5.out 6 _ rfl)) (by simp; omega)
          have HS := hid hs
          clear hs
          go_wp2_with fail
          go_still_tail 4, (by kernel_rfl)
          go_wp2_with fail
          refine HS.out.mono ?_
          rintro e wr6 ⟨rfl, F6, h6, u6⟩
          have H6 := hid (H5.out.upd (Upd.behind (drew_keeps _) u6) h6)
          have U6 := hid (U5.out.trans (Upd.behind (drew_keeps _) u6))
          have q0 := cell_at (i := 0) H6.out.hpb rfl
          clear h6 u6 HS
          have hs := wwholeL_any (w := wr6.drew) (b := cb) (o := 7) (H6.out.calm (drew_keeps _)).lay (H6.out.calm (drew_keeps _)).wr c.pause (cellDr (HCELL.out _ _ U6.out 7 _ rfl)) (by simp; omega)
          have HS := hid hs
          clear hs
          go_wp2_with fail
          go_still_tail 4, (by kernel_rfl)
          go_wp2_with fail
          refine HS.out.mono ?_
          rintro e wr7 ⟨rfl, F7, h7, u7⟩
          have H7 := hid (H6.out.upd (Upd.behind (drew_keeps _) u7) h7)
          have U7 := hid (U6.out.trans (Upd.behind (drew_keeps _) u7))
          have q0 := cell_at (i := 0) H7.out.hpb rfl
          clear h7 u7 HS
          have hs := wwholeL_any (w := wr7.drew) (b := cb) (o := 8) (H7.out.calm (drew_keeps _)).lay (H7.out.calm (drew_keeps _)).wr c.off (cellDr (HCELL.out _ _ U7.out 8 _ rfl)) (by simp [int4]; omega)
          have HS := hid hs
          clear hs
          go_wp2_with fail
          go_still_tail 4, (by kernel_rfl)
          go_wp2_with fail
          refine HS.out.mono ?_
          rintro e wr8 ⟨rfl, F8, h8, u8⟩
          have H8 := hid (H7.out.upd (Upd.behind (drew_keeps _) u8) h8)
          have U8 := hid (U7.out.trans (Upd.behind (drew_keeps _) u8))
          have q0 := cell_at (i := 0) H8.out.hpb rfl
          clear h8 u8 HS
          have hs := wflagP_any (w := wr8.drew) (b := cb) (o := 9) (H8.out.calm (drew_keeps _)).lay (H8.out.calm (drew_keeps _)).wr c.brk (cellDr (HCELL.out _ _ U8.out 9 _ rfl)) (by simp [int4]; omega)
          have HS := hid hs
          clear hs
          go_wp2_with fail
          go_still_tail 4, (by kernel_rfl)
          go_wp2_with fail
          refine HS.out.mono ?_
          rintro e wr9 ⟨rfl, F9, h9, u9⟩
          have H9 := hid (H8.out.upd (Upd.behind (drew_keeps _) u9) h9)
          have U9 := hid (U8.out.trans (Upd.behind (drew_keeps _) u9))
          have q0 := cell_at (i := 0) H9.out.hpb rfl
          clear h9 u9 HS
          have hs := wwholeI_any (w := wr9.drew) (b := cb) (o := 10) (H9.out.calm (drew_keeps _)).lay (H9.out.calm (drew_keeps _)).wr c.log (cellDr (HCELL.out _ _ U9.out 10 _ rfl)) (by simp [int4]; omega)
          have HS := hid hs
          clear hs
          go_wp2_with fail
          go_still_tail 4, (by kernel_rfl)
          go_wp2_with fail
          refine HS.out.mono ?_
          rintro e wr10 ⟨rfl, F10, h10, u10⟩
          have H10 := hid (H9.out.upd (Upd.behind (drew_keeps _) u10) h10)
          have U10 := hid (U9.out.trans (Upd.behind (drew_keeps _) u10))
          have q0 := cell_at (i := 0) H10.out.hpb rfl
          clear h10 u10 HS
          go_wp2_with fail
          go_end0
          refine ⟨rfl, F10, ?_, UW.out _ _ U10.out⟩
          have := H10.out.wr
          rw [HL5.out, HL4.out, flatten_flatMap, flatten_flatMap, flatten_flatMap] at this
          simpa [cfgB, lettersB, bandsB, List.append_assoc] using this

end

set_option maxHeartbeats 2000000 in
set_option maxRecDepth 100000 in
/-- Encode: the image, closed; the writer has nothing of what was there. -/
theorem encode_any {w : World} {c : Cfg} {sv rv tv : Value} (R : CfgR w c sv rv tv) (hfit : Fits c) (hl : (cfgB c).length ≤ 900) (hby : Bytes (cfgB c)) :
    Calls Tryd.prog 12 #[c.val sv rv tv] w fun e w' => ∃ v', e = .returned v' ∧ w'.ownsRow 0 5 1 v' ((cfgB c).length + 2) ((cfgB c ++ [((mof (cfgB c)).toNat : Int) / 256, ((mof (cfgB c)).toNat : Int) % 256]).map (Value.int .u8)) ∧ Keeps No w w' ∧ ∀ k, v'.ownBlock = some k → w.heap.size ≤ k := by
  obtain ⟨W1, hW1⟩ : ∃ W1, W1 = w.alloc (.cells (c.cells sv rv tv) 33) := ⟨_, rfl⟩
  have k1 : Keeps No w W1 := by rw [hW1]; exact (Keeps.refl _ _).alloc _
  have hcb : W1.heap[w.heap.size]? = some (.cells (c.cells sv rv tv) 33 (0, 0)) := by rw [hW1]; exact heap_alloc_new w _
  obtain ⟨W2, hW2⟩ : ∃ W2, W2 = W1.alloc (.cells #[.slice none 0 0] 63) := ⟨_, rfl⟩
  obtain ⟨W3, hW3⟩ : ∃ W3, W3 = W2.alloc (.cells #[.pointer (some ⟨W1.heap.size, 0, none⟩), .pointer none] 66) := ⟨_, rfl⟩
  have z1 : W1.heap.size = w.heap.size + 1 := by rw [hW1]; simp
  have z2 : W2.heap.size = w.heap.size + 2 := by rw [hW2]; simp [z1]
  have k2 : Keeps No W1 W2 := by rw [hW2]; exact (Keeps.refl _ _).alloc _
  have k3 : Keeps No W2 W3 := by rw [hW3]; exact (Keeps.refl _ _).alloc _
  have hwr : Wr W3 W1.heap.size (fun k => k = W1.heap.size) [] := Wr.keep (by rw [hW2]; exact Wr.new W1) k3 (fun _ _ h => h)
  have hlay : Lay W3 W2.heap.size W1.heap.size := by rw [hW3]; exact heap_alloc_new W2 _
  have hcfg := wconfig_any (w := W3) (w0 := W1) (cb := w.heap.size) (R.calm k1) (k2.trans k3) (fun k hk => by omega) hlay hwr (by omega) hcb hfit
  rw [z1, z2] at hcfg
  have HC := hid hcfg
  have HK := hid (k1.trans (k2.trans k3))
  have HL := hid hlay
  have HB := hid hby
  have HZ1 := hid z1
  have HZ2 := hid z2
  have e1 : w.alloc (.cells (c.cells sv rv tv) 33) = W1 := hW1.symm
  have hw3 : ((w.alloc (.cells (c.cells sv rv tv) 33)).alloc (.cells #[.slice none 0 0] 63)).alloc (.cells #[.pointer (some ⟨w.heap.size + 1, 0, none⟩), .pointer none] 66) = W3 := by rw [hW3, hW2, hW1]; simp
  have HW3 := hid hw3
  unfold Cfg.cells at HW3
  unfold Cfg.val Cfg.cells
  clear R k1 k2 k3 hwr hlay hcfg hcb e1 hw3 hW1 hW2 hW3 z1 z2 hby hfit
  go_enter Tryd.func12, Tryd.ntmps12
  go_wp2_with fail
  rw [HW3.out]
  refine HC.out.mono ?_
  rintro e w1 ⟨rfl, F1, h1, u1⟩
  have hl1 : Lay w1 W2.heap.size W1.heap.size := u1.keeps.heap (by rw [HZ2.out]; omega) HL.out
  have c0 := cell_at (i := 0) hl1 rfl
  rw [HZ1.out, HZ2.out] at c0
  have hb1 := wbytes_any h1 (by omega)
  have HB1 := hid hb1
  have HK1 := hid (HK.out.trans' u1.keeps (fun _ _ h => h) (fun i hi e => by omega))
  clear u1 h1 hl1 hb1 HC HW3
  go_wp2_with fail
  refine HB1.out.mono ?_
  rintro e w2 ⟨v2, rfl, ho2, k2, hn2⟩
  have HK2 := hid (HK1.out.trans k2)
  have hcl := sclose_any (Sl.ofOwn ho2) HB.out (by omega)
  have HCL := hid hcl
  clear ho2 k2 hn2 hcl HB1 c0
  go_wp2_with fail
  refine HCL.out.mono ?_
  rintro e w3 ⟨v3, rfl, ho3, k3, hn3⟩
  have HK3 := hid (HK2.out.trans k3)
  have HO3 := hid ho3
  have HN3 := hid hn3
  have hz := HK2.out.size
  clear ho3 k3 hn3 HCL
  go_wp2_with fail
  go_ret
  exact ⟨_, rfl, HO3.out, HK3.out, fun k hk => Nat.le_trans hz (HN3.out k hk)⟩

end Go.Proofs.YtlenhccdkhgfgaaDoor
