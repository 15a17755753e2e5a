/-
  Together: ShortI, ImN, ImC.
-/
import Derived.Test.YtlenhccdkhgfgaaDoorMake1
import Derived.Test.YtlenhccdkhgfgaaDoorImL
import Derived.Test.YtlenhccdkhgfgaaDoorSame7
import Derived.Test.YtlenhccdkhgfgaaDoorMake2
import Derived.Test.YtlenhccdkhgfgaaDoorErr
import Derived.Test.YtlenhccdkhgfgaaDoorTie
import Derived.Test.YtlenhccdkhgfgaaDoorCards
import Derived.ChangeSame
import Derived.ChangeVars
import Derived.JoinedOf
import Derived.LaidLaws
import Derived.LaidHandle
import Derived.SevenTiedAt
/-
  Whether a draft is short (layer 6).
-/
namespace Go.Proofs.YtlenhccdkhgfgaaDoor
open Go.RowKit

def ShortPost (w : World) (e : Ending) (w' : World) : Prop := ∃ b : Bool, e = .returned (.bool b) ∧ Keeps No w w'

set_option maxHeartbeats 2000000 in
set_option maxRecDepth 100000 in
theorem short_any {w : World} {rules : List (LineD × Value)} {rv : Value} {slots : List Int} {sv : Value} (h : DraftR w rules rv slots sv) (ba dr pa of_ : Int) (br : Bool) (lo : Int) :
    Calls Tryd.prog 10 #[.agg #[rv, sv, .int .u8 ba, .int .u8 dr, .int .u8 pa, .int .u8 of_, .bool br, .int .u8 lo]] w (ShortPost w) := by
  obtain ⟨ra, rc, rfl⟩ := h.rul.any
  obtain ⟨sa, sc, rfl⟩ := h.slo.any
  obtain ⟨W1, hW1⟩ : ∃ W1, w.alloc (.cells #[.slice ra rules.length rc, .slice sa slots.length sc, .int .u8 ba, .int .u8 dr, .int .u8 pa, .int .u8 of_, .bool br, .int .u8 lo] 25) = W1 := ⟨_, rfl⟩
  have k1 : Keeps No w W1 := by rw [← hW1]; exact (Keeps.refl _ _).alloc _
  have hb : BlkL W1 w.heap.size 25 [.slice ra rules.length rc, .slice sa slots.length sc, .int .u8 ba, .int .u8 dr, .int .u8 pa, .int .u8 of_, .bool br, .int .u8 lo] := by rw [← hW1]; exact heap_alloc_new w _
  have c0 := hb.cell (o := 0) rfl
  have c1 := hb.cell (o := 1) rfl
  have H1 := hid (h.calm k1)
  have HW1 := hid hW1
  have K1 := hid k1
  clear h hW1 k1 hb
  by_cases h12 : 12 < rules.length
  · have d1 : decide ((rules.length : Int) > 12) = true := decide_eq_true (by omega)
    have d2 : decide ((12 : Int) < (rules.length : Int)) = true := decide_eq_true (by omega)
    go_enter Tryd.func10, Tryd.ntmps10
    go_upto_region 1 with fail
    rw [HW1.out]
    go_wp2_with fail
    go_ret
    exact ⟨_, rfl, K1.out⟩
  · have d1 : decide ((rules.length : Int) > 12) = false := decide_eq_false (by omega)
    have d2 : decide ((12 : Int) < (rules.length : Int)) = false := decide_eq_false (by omega)
    by_cases h40 : 40 < slots.length
    · have d3 : decide ((slots.length : Int) > 40) = true := decide_eq_true (by omega)
      have d4 : decide ((40 : Int) < (slots.length : Int)) = true := decide_eq_true (by omega)
      go_enter Tryd.func10, Tryd.ntmps10
      go_upto_region 1 with fail
      rw [HW1.out]
      go_wp2_with fail
      go_ret
      exact ⟨_, rfl, K1.out⟩
    · have d3 : decide ((slots.length : Int) > 40) = false := decide_eq_false (by omega)
      have d4 : decide ((40 : Int) < (slots.length : Int)) = false := decide_eq_false (by omega)
      go_enter Tryd.func10, Tryd.ntmps10
      go_upto_region 1 with fail
      rw [HW1.out]
      go_wp2_with fail
      go_loop [3] (fun v3 => ∃ i : Nat, i ≤ rules.length ∧ v3 = .int .i64 i) (fun v3 => rules.length - (intOf v3).toNat)
      case atStart => exact ⟨0, Nat.zero_le _, rfl⟩
      case round =>
        obtain ⟨i, hi, rfl⟩ := hrel
        by_cases hlt : i < rules.length
        · obtain ⟨g, off, rfl, _, hc⟩ := Sl.cellAt H1.out.rul (j := i * 9 + 8) (u := rules[i].2) (by rw [getElem?_flatMap_enc (size := 9) (fun _ => rfl) rules i 8 (by omega) hlt]; rfl)
          obtain ⟨va, vc, hv⟩ := (H1.out.stg rules[i] (List.getElem_mem hlt)).any
          rw [hv, ← Nat.add_assoc] at hc
          obtain ⟨n, hn⟩ : ∃ n, rules[i].1.stages.length = n := ⟨_, rfl⟩
          rw [hn] at hc
          clear hv hn
          by_cases h8 : 8 < n
          · have d5 : decide ((n : Int) > 8) = true := decide_eq_true (by omega)
            have d6 : decide ((8 : Int) < (n : Int)) = true := decide_eq_true (by omega)
            go_wp2_with fail
            go_ret
            exact ⟨_, rfl, K1.out⟩
          · have d5 : decide ((n : Int) > 8) = false := decide_eq_false (by omega)
            have d6 : decide ((8 : Int) < (n : Int)) = false := decide_eq_false (by omega)
            go_wp2_with fail
            go_round
            case rel => exact ⟨i + 1, by omega, by go_num⟩
            case measure => simp [intOf]; omega
        · go_wp2_with fail
          go_ret
          exact ⟨_, rfl, K1.out⟩

end Go.Proofs.YtlenhccdkhgfgaaDoor

/-
  The document's example of an image; a configuration's image, and back.
-/
namespace Go.Proofs.YtlenhccdkhgfgaaDoor
open Go.RowKit
set_option linter.unusedVariables false

theorem CfgR.shape {w : World} {C : Cfg} {sv rv tv : Value} (h : CfgR w C sv rv tv) : ∃ sa sc ra rc ta tc, sv = .slice sa C.sigs.length sc ∧ rv = .slice ra C.ruls.length rc ∧ tv = .slice ta C.tab.length tc := by
  obtain ⟨sa, sc, rfl⟩ := h.sig.any
  obtain ⟨ra, rc, rfl⟩ := h.rul.any
  obtain ⟨ta, tc, rfl⟩ := h.tab.any
  exact ⟨sa, sc, ra, rc, ta, tc, rfl, rfl, rfl⟩

/-- A configuration's image is read as it was written. -/
theorem code_any {w : World} {C : Cfg} {sv rv tv : Value} (R : CfgR w C sv rv tv) (hL : Laid C) (hs : (cfgB C).length ≤ 898) :
    Calls Tryd.prog 12 #[C.val sv rv tv] w fun e w' => ∃ v', e = .returned v' ∧ w'.ownsRow 0 5 1 v' (imgL C).length ((imgL C).map (Value.int .u8)) ∧ Keeps No w w' := by
  refine (encode_any R (fits_of_short (by omega)) (by omega) hL.bytes).mono ?_
  rintro e w' ⟨v', rfl, ho, hk, _⟩
  exact ⟨v', rfl, by rw [imgL_len]; exact ho, hk⟩

def Back (C : Cfg) (w : World) (e : Ending) (w' : World) : Prop := ∃ (D : Cfg) (sv rv tv : Value), e = .returned (.tuple #[D.val sv rv tv, .int .i64 0, .int .i64 0]) ∧ CfgR w' D sv rv tv ∧ D.pure = C.pure ∧ Keeps No w w'

theorem uncode_any {w : World} {C : Cfg} {v : Value} (hg : ErrV w) (h : SlB w v (imgL C)) (hL : Laid C) (hT : Tells C) (hs : (cfgB C).length ≤ 898) :
    Calls Tryd.prog 13 #[v] w (Back C w) := by
  refine (Decode_any hg h (imgL_bytes hL) (by rw [imgL_len]; omega)).mono ?_
  rintro e w' ⟨o, at_, c, cv, hd, rfl, hc, hk⟩
  obtain ⟨rfl, rfl, rfl⟩ := dec_back hT hd
  obtain ⟨D, sv, rv, tv, rfl, hr, hp⟩ := hc
  exact ⟨D, sv, rv, tv, rfl, hr, hp, hk⟩

set_option maxHeartbeats 8000000 in
set_option maxRecDepth 100000 in
theorem none_true {w : World} (hg : ErrV w) : Calls Tryd.prog 9 #[] w fun e w' => e = .returned (.bool true) ∧ Keeps No w w' := by
  have HG := hid hg
  clear hg
  go_enter Tryd.func9, Tryd.ntmps9
  go_wp2_with fail
  refine (Decode_any (p := []) HG.out (Sl.nil _ _) (fun x hx => by simp at hx) (by simp)).mono ?_
  rintro e w1 ⟨o, at_, c, cv, hd, rfl, hc, hk⟩
  obtain ⟨rfl, rfl, rfl⟩ := dec_nil hd
  have hcv : cv = .agg #[.slice none 0 0, .slice none 0 0, .slice none 0 0, .int .i64 0, .int .i64 0, .int .i64 0, .int .i64 0, .int .i64 0, .int .i64 0, .bool false, .int .i64 0] := hc
  subst hcv
  have K1 := hid hk
  have HG1 := hid (HG.out.keep hk)
  clear hd hc hk
  go_wp2_with fail
  obtain ⟨W2, hW2⟩ : ∃ W2, w1.alloc (.cells #[.slice none 0 0, .slice none 0 0, .slice none 0 0, .int .i64 0, .int .i64 0, .int .i64 0, .int .i64 0, .int .i64 0, .int .i64 0, .bool false, .int .i64 0] 33) = W2 := ⟨_, rfl⟩
  rw [hW2]
  have hk2 : Keeps No w1 W2 := by rw [← hW2]; exact (Keeps.refl _ _).alloc _
  have K2 := hid (K1.out.trans hk2)
  have HG2 := hid (HG1.out.keep hk2)
  clear hW2 hk2
  refine (make_any2 (rules := []) (slots := []) ⟨Sl.nil _ _, fun x hx => by simp at hx, fun x hx => by simp at hx, Sl.nil _ _, fun x hx => by simp at hx⟩ 0 0 0 0 false 0 (by constructor <;> decide) (by constructor <;> decide) (by constructor <;> decide) (by constructor <;> decide) (by constructor <;> decide)).mono ?_
  rintro e w3 ⟨C, csv, crv, ctv, rfl, hc, hm, hk, hown⟩
  obtain ⟨sg, sgc, ru, ruc, tb, tbc, rfl, rfl, rfl⟩ := hc.shape
  unfold Cfg.val Cfg.cells
  have HM := hid hm
  have K3 := hid (K2.out.trans hk)
  have HG3 := hid (HG2.out.keep hk)
  have HC := hid hc
  clear hc hm hk hown
  obtain ⟨W4, hW4⟩ : ∃ W4, w3.alloc (.cells #[.slice sg C.sigs.length sgc, .slice ru C.ruls.length ruc, .slice tb C.tab.length tbc, .int .i64 C.b0, .int .i64 C.b1, .int .i64 C.b2, .int .i64 C.drain, .int .i64 C.pause, .int .i64 C.off, .bool C.brk, .int .i64 C.log] 33) = W4 := ⟨_, rfl⟩
  have hk4 : Keeps No w3 W4 := by rw [← hW4]; exact (Keeps.refl _ _).alloc _
  have hb4 : BlkL W4 w3.heap.size 33 [.slice sg C.sigs.length sgc, .slice ru C.ruls.length ruc, .slice tb C.tab.length tbc, .int .i64 C.b0, .int .i64 C.b1, .int .i64 C.b2, .int .i64 C.drain, .int .i64 C.pause, .int .i64 C.off, .bool C.brk, .int .i64 C.log] := by rw [← hW4]; exact heap_alloc_new w3 _
  have K4 := hid (K3.out.trans hk4)
  have HG4 := hid (HG3.out.keep hk4)
  have HC4 := hid (HC.out.calm hk4)
  have HB4 := hid hb4
  have HW4 := hid hW4
  clear hk4 hW4
  go_upto_region 3 with fail
  rw [HW4.out]
  have x0 := hb4.cell (o := 0) rfl
  have x1 := hb4.cell (o := 1) rfl
  have x2 := hb4.cell (o := 2) rfl
  have x3 := hb4.cell (o := 3) rfl
  have x4 := hb4.cell (o := 4) rfl
  have x5 := hb4.cell (o := 5) rfl
  have x6 := hb4.cell (o := 6) rfl
  have x7 := hb4.cell (o := 7) rfl
  have x8 := hb4.cell (o := 8) rfl
  have x9 := hb4.cell (o := 9) rfl
  have x10 := hb4.cell (o := 10) rfl
  clear hb4
  go_wp2_with fail
  refine (code_any (C := C) HC4.out HM.out.laid HM.out.short).mono ?_
  rintro e w5 ⟨v5, rfl, ho, hk⟩
  have hsl : SlB w5 v5 (imgL C) := Sl.ofOwn ho
  obtain ⟨a5, c5, rfl⟩ := own_any ho
  have HV := hid hsl
  have K5 := hid (K4.out.trans hk)
  have HG5 := hid (HG4.out.keep hk)
  have HC5 := hid (HC4.out.calm hk)
  have HB5 := hid (HB4.out.keep hk (fun h => h))
  clear ho hsl hk x0 x1 x2 x3 x4 x5 x6 x7 x8 x9 x10
  go_wp2_with fail
  refine (uncode_any HG5.out HV.out HM.out.laid HM.out.tells HM.out.short).mono ?_
  rintro e w6 ⟨D, dsv, drv, dtv, rfl, hr, hp, hk⟩
  obtain ⟨sg2, sgc2, ru2, ruc2, tb2, tbc2, rfl, rfl, rfl⟩ := hr.shape
  unfold Cfg.val Cfg.cells
  have K6 := hid (K5.out.trans hk)
  have HC6 := hid (HC5.out.calm hk)
  have HB6 := hid (HB5.out.keep hk (fun h => h))
  have HD := hid hr
  have HP := hid hp
  clear hr hp hk HV HG5
  obtain ⟨W7, hW7⟩ : ∃ W7, w6.alloc (.cells #[.slice sg2 D.sigs.length sgc2, .slice ru2 D.ruls.length ruc2, .slice tb2 D.tab.length tbc2, .int .i64 D.b0, .int .i64 D.b1, .int .i64 D.b2, .int .i64 D.drain, .int .i64 D.pause, .int .i64 D.off, .bool D.brk, .int .i64 D.log] 33) = W7 := ⟨_, rfl⟩
  have hk7 : Keeps No w6 W7 := by rw [← hW7]; exact (Keeps.refl _ _).alloc _
  have hb7 : BlkL W7 w6.heap.size 33 [.slice sg2 D.sigs.length sgc2, .slice ru2 D.ruls.length ruc2, .slice tb2 D.tab.length tbc2, .int .i64 D.b0, .int .i64 D.b1, .int .i64 D.b2, .int .i64 D.drain, .int .i64 D.pause, .int .i64 D.off, .bool D.brk, .int .i64 D.log] := by rw [← hW7]; exact heap_alloc_new w6 _
  have hc7 := HB6.out.keep hk7 (fun h => h)
  have K7 := hid (K6.out.trans hk7)
  have HS := hid (csame_true (HC6.out.calm hk7) (HD.out.calm hk7) HP.out.symm)
  unfold Cfg.val Cfg.cells at HS
  have HW7 := hid hW7
  clear hk7 hW7
  go_upto_region 4 with fail
  rw [HW7.out]
  have x0 := hc7.cell (o := 0) rfl
  have x1 := hc7.cell (o := 1) rfl
  have x2 := hc7.cell (o := 2) rfl
  have x3 := hc7.cell (o := 3) rfl
  have x4 := hc7.cell (o := 4) rfl
  have x5 := hc7.cell (o := 5) rfl
  have x6 := hc7.cell (o := 6) rfl
  have x7 := hc7.cell (o := 7) rfl
  have x8 := hc7.cell (o := 8) rfl
  have x9 := hc7.cell (o := 9) rfl
  have x10 := hc7.cell (o := 10) rfl
  have y0 := hb7.cell (o := 0) rfl
  have y1 := hb7.cell (o := 1) rfl
  have y2 := hb7.cell (o := 2) rfl
  have y3 := hb7.cell (o := 3) rfl
  have y4 := hb7.cell (o := 4) rfl
  have y5 := hb7.cell (o := 5) rfl
  have y6 := hb7.cell (o := 6) rfl
  have y7 := hb7.cell (o := 7) rfl
  have y8 := hb7.cell (o := 8) rfl
  have y9 := hb7.cell (o := 9) rfl
  have y10 := hb7.cell (o := 10) rfl
  clear hc7 hb7
  go_wp2_with fail
  refine HS.out.mono ?_
  rintro e w8 ⟨rfl, hk⟩
  have K8 := hid (K7.out.trans hk)
  clear hk
  go_wp2_with fail
  go_ret
  exact ⟨rfl, K8.out⟩

end Go.Proofs.YtlenhccdkhgfgaaDoor

/-
  What the tied cards of layer 6 share: from the row's listed variable to its cell; a world in which it lies.
-/
namespace Go.Proofs.YtlenhccdkhgfgaaDoor
open Go.ChangeShapes Go.WideShapes Go.RowKit

theorem ownC : ownKnob Tryd.prog.godebug = none := by kernel_rfl
theorem etC : Tryd.prog.globalNamed "errors.errorType" = some 0 := by kernel_rfl
theorem rtC : (Tryd.prog.cutTypes.find? (·.1 == "internal/reflectlite.rtype")).map (·.2) = some 152 := by kernel_rfl
theorem oneRowC : ((List.range Tryd.prog.types.size).filter fun t => Tryd.prog.rowNamed t [101, 114, 114, 111, 114]) = [71] := by kernel_rfl

/-- What the condition gives a walk: the variable's one cell. -/
theorem handle_of_laid {W : World} (h : laidMetH Tryd.prog [("errors.errorType", Rows.laid_errors_errorType)] W) : ErrV W := by
  have h' : laidMet Tryd.prog [] W ∧ handlesMet Tryd.prog [("errors.errorType", Rows.laid_errors_errorType)] W := h
  obtain ⟨name, u, ty, e1, e2, e3, e4, e5⟩ := h'.2 _ (List.mem_singleton.2 rfl)
  have en : name = [101, 114, 114, 111, 114] := (Option.some.inj e1).symm
  subst en
  obtain rfl := Option.some.inj (rtC.symm.trans e2)
  have hm : ty ∈ (List.range Tryd.prog.types.size).filter fun t => Tryd.prog.rowNamed t [101, 114, 114, 111, 114] := List.mem_filter.2 ⟨List.mem_range.2 e3, e4⟩
  rw [oneRowC] at hm
  obtain rfl := List.mem_singleton.1 hm
  have hh : typeHandle Tryd.prog 71 = .pointer (some ⟨1, 71, none⟩) := by kernel_rfl
  rw [hh] at e5
  simpa [ErrV] using World.var?_cell etC e5 0

/-- A world that meets the condition: the settled one, the variable's cell laid. -/
noncomputable def laidWorld (os : Os) : World :=
  let w0 := World.holding Tryd.prog os ⟨#[], #[], []⟩
  { w0 with heap := w0.heap.modify 0 fun
      | .cells _ t frozen => .cells #[.iface 152 (.agg #[.pointer (some ⟨1, 71, none⟩)])] t frozen
      | o => o }
theorem laidWorld_met (os : Os) (args : Array Value) : laidMetH Tryd.prog [("errors.errorType", Rows.laid_errors_errorType)] ((laidWorld os).forCall (fun _ _ => 0) ⟨#[], args, []⟩).memory :=
  laidMetH_of_parts (laidMet_nil _ _) (by kernel_rfl)

end Go.Proofs.YtlenhccdkhgfgaaDoor
