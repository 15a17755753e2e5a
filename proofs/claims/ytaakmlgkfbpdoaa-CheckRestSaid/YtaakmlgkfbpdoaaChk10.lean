/-
  The program's First: the first rule that is broken, and where.
-/
import Derived.Test.YtaakmlgkfbpdoaaChk9
import Derived.Laws.EntriesVeiled
namespace Go.Proofs.Ytaakmlgkfbpdoaa
open Go.RowKit

def FirstPost (f : Nat → Rul → Nat → Bool) (C : Cfg) (w : World) (e : Ending) (w' : World) : Prop := ∃ n a : Nat, e = .returned (.tuple #[.int .i64 n, .int .i64 a]) ∧ IsFirst f C n a ∧ Keeps No w w'

theorem enter_of {P : Program} {f : FuncId} {F : Func} (hF : P.funcs[f]? = some F) (hn : (F.name == "runtime.NumGoroutine") = false) (hb : F.body.isNone = false) (args : Array Value) (w : World) : (callFunc f args).run P w = .ok (.enter f args) w := by
  have h1 : ¬ F.name = "runtime.NumGoroutine" := by simpa using hn
  have h2 : ¬ F.body = none := by intro e; rw [e] at hb; cases hb
  simp [callFunc, go_sem, hF, h1, h2]

/-- Each of the rules' functions is entered when it is called. -/
theorem enterAt (args : Array Value) (w : World) : ∀ i : Nat, i < 17 → (callFunc (fidAt i) args).run Try.prog w = .ok (.enter (fidAt i) args) w
  | 0, _ => enter_of Try.func57 (by kernel_rfl) (by kernel_rfl) args w
  | 1, _ => enter_of Try.func58 (by kernel_rfl) (by kernel_rfl) args w
  | 2, _ => enter_of Try.func59 (by kernel_rfl) (by kernel_rfl) args w
  | 3, _ => enter_of Try.func60 (by kernel_rfl) (by kernel_rfl) args w
  | 4, _ => enter_of Try.func61 (by kernel_rfl) (by kernel_rfl) args w
  | 5, _ => enter_of Try.func62 (by kernel_rfl) (by kernel_rfl) args w
  | 6, _ => enter_of Try.func63 (by kernel_rfl) (by kernel_rfl) args w
  | 7, _ => enter_of Try.func64 (by kernel_rfl) (by kernel_rfl) args w
  | 8, _ => enter_of Try.func65 (by kernel_rfl) (by kernel_rfl) args w
  | 9, _ => enter_of Try.func66 (by kernel_rfl) (by kernel_rfl) args w
  | 10, _ => enter_of Try.func67 (by kernel_rfl) (by kernel_rfl) args w
  | 11, _ => enter_of Try.func68 (by kernel_rfl) (by kernel_rfl) args w
  | 12, _ => enter_of Try.func69 (by kernel_rfl) (by kernel_rfl) args w
  | 13, _ => enter_of Try.func70 (by kernel_rfl) (by kernel_rfl) args w
  | 14, _ => enter_of Try.func71 (by kernel_rfl) (by kernel_rfl) args w
  | 15, _ => enter_of Try.func72 (by kernel_rfl) (by kernel_rfl) args w
  | 16, _ => enter_of Try.func73 (by kernel_rfl) (by kernel_rfl) args w
  | _ + 17, h => absurd h (by omega)

section
variable {w : World} {b : Nat} {C : Cfg} {sa ra ta : Option Addr} {sc rc tc : Nat}

set_option maxHeartbeats 4000000 in
set_option maxRecDepth 100000 in
theorem first_any (h : CfgR w C (.slice sa C.sigs.length sc) (.slice ra C.ruls.length rc) (.slice ta C.tab.length tc)) (he : entries (C.tab.map (·.1)) ≤ 1000000) (ht : C.tab.length ≤ 1000) (hr : C.ruls.length ≤ 1000) (hs : C.sigs.length ≤ 1000) :
    Calls Try.prog 26 #[cfgV (.slice sa C.sigs.length sc) (.slice ra C.ruls.length rc) (.slice ta C.tab.length tc) C.b0 C.b1 C.b2 C.drain C.pause C.off C.brk C.log] w (FirstPost rulP C w) := by
  unfold cfgV
  obtain ⟨W1, hW1⟩ : ∃ W1, w.alloc (.cells #[.slice sa C.sigs.length sc, .slice ra C.ruls.length rc, .slice ta C.tab.length tc, .int .i64 C.b0, .int .i64 C.b1, .int .i64 C.b2, .int .i64 C.drain, .int .i64 C.pause, .int .i64 C.off, .bool C.brk, .int .i64 C.log] 33) = W1 := ⟨_, rfl⟩
  have k1 : Keeps No w W1 := by rw [← hW1]; exact (Keeps.refl _ _).alloc _
  have hb : CfgB W1 w.heap.size C sa ra ta sc rc tc := ⟨by rw [← hW1]; exact heap_alloc_new w _, h.calm k1⟩
  have HB := hid hb
  have HL := hid (laws_any hb)
  have HW1 := hid hW1
  have K1 := hid k1
  have HE := hid he
  have HT := hid ht
  have hpl : ∀ i, placesB C i ≤ 1000 := fun i => by
    unfold placesB
    split <;> omega
  have HP := hid hpl
  clear h hW1 k1 hb he ht hr hs hpl
  go_enter Try.func26, Try.ntmps26
  go_upto_region 1 with fail
  rw [HW1.out]
  go_wp2_with fail
  refine HL.out.mono ?_
  rintro e w2 ⟨rfl, hlb, hk2⟩
  have HLB := hid hlb
  have K2 := hid hk2
  clear hlb hk2
  go_wp2_with fail
  go_loopw [9] (fun v9 wr => ∃ i : Nat, i ≤ 17 ∧ v9 = .int .i64 i ∧ Hid (Keeps No w2 wr) ∧ Hid (∀ j, j < i → ∀ c, c < placesB C j → keepB rulP C j c = true)) (fun v9 _ => 17 - (intOf v9).toNat)
  case atStart => exact ⟨0, Nat.zero_le _, rfl, hid (Keeps.refl _ _), hid (fun j hj => by omega)⟩
  case round =>
    obtain ⟨wr', hwr'⟩ : ∃ x, x = wr := ⟨_, rfl⟩
    subst hwr'
    obtain ⟨i, hi, rfl, KR, HK⟩ := hrel
    by_cases hlt : i < 17
    · have hd17 : decide ((i : Int) < 17) = true := decide_eq_true (by omega)
      have hat := lawsL_at C i hlt
      have hlb := HLB.out.keep KR.out (fun h => h)
      have x0 := hlb.cell hat.1
      have x1 := hlb.cell hat.2
      have hlbs := hlb.lt
      have hne : ¬ W1.heap.size = wr'.heap.size := by omega
      obtain ⟨p, hp⟩ : ∃ p, placesB C i = p := ⟨_, rfl⟩
      rw [hp] at x0
      have HPL := hid hp
      have hp1 : p ≤ 1000 := by rw [← hp]; exact HP.out i
      have hl17 := HK.out
      have HLT := hid hlt
      have hF : ∀ w', Keeps No W1 w' → ∀ a, a < p → Calls Try.prog (fidAt i) #[.pointer (some ⟨w.heap.size, 0, none⟩), .int .i64 a] w' fun e w'' => e = .returned (.bool (keepB rulP C i a)) ∧ Keeps No w' w'' := fun w' k a ha => law_any (HB.out.calm k) HE.out HT.out i hlt a (by rw [hp]; exact ha)
      have HF := hid hF
      have hcf := fun args w => enterAt args w i hlt
      obtain ⟨fi, hfi⟩ : ∃ fi, fidAt i = fi := ⟨_, rfl⟩
      rw [hfi] at x1 HF
      simp only [hfi] at hcf
      clear hat hlb hp hl17 hF hfi
      go_wp2_with fail
      obtain ⟨W3, hW3⟩ : ∃ W3, wr'.alloc (.cells #[.int .i64 (p : Nat), .func (.func fi) #[] #[]] 107) = W3 := ⟨_, rfl⟩
      have k3 : Keeps No wr' W3 := by rw [← hW3]; exact (Keeps.refl _ _).alloc _
      have b3 : BlkL W3 wr'.heap.size 107 [.int .i64 (p : Nat), .func (.func fi) #[] #[]] := by rw [← hW3]; exact heap_alloc_new wr' _
      rw [hW3]
      have K3 := hid k3
      have B3 := hid b3
      clear hW3 k3 b3 x0 x1
      go_loopw [16] (fun v16 wk => ∃ k : Nat, k ≤ p ∧ v16 = .int .i64 k ∧ Hid (Keeps No W3 wk) ∧ Hid (∀ c, c < k → keepB rulP C i c = true)) (fun v16 _ => p - (intOf v16).toNat)
      case atStart => exact ⟨0, Nat.zero_le _, rfl, hid (Keeps.refl _ _), hid (fun c hc => by omega)⟩
      case round =>
        obtain ⟨wk, hwk⟩ : ∃ x, x = wr := ⟨_, rfl⟩
        subst hwk
        obtain ⟨k, hk, rfl, KK, HC⟩ := hrel
        have hb3 := B3.out.keep KK.out (fun h => h)
        have y0 := hb3.cell (o := 0) rfl
        have y1 := hb3.cell (o := 1) rfl
        have KW := hid (K2.out.trans (KR.out.trans (K3.out.trans KK.out)))
        clear hb3
        by_cases hkp : k < p
        · have hc := HF.out wk KW.out k hkp
          cases hv : keepB rulP C i k
          · rw [hv] at hc
            have HCL := hid hc
            have HPOST : Hid (IsFirst rulP C (i + 1) k) := hid (Or.inr ⟨i, rfl, HLT.out, by rw [HPL.out]; exact hkp, hv, HC.out, HK.out⟩)
            clear hc hv
            go_wp2_with fail
            refine HCL.out.mono ?_
            rintro e w5 ⟨rfl, k5⟩
            have K5 := hid k5
            clear k5
            go_wp2_with fail
            go_ret2
            exact ⟨i + 1, k, by go_num, HPOST.out, K1.out.trans (KW.out.trans K5.out)⟩
          · rw [hv] at hc
            have HCL := hid hc
            have HC2 : Hid (∀ c, c < k + 1 → keepB rulP C i c = true) := hid (fun c hc => by
              rcases Nat.lt_or_ge c k with h | h
              · exact HC.out c h
              · rw [show c = k by omega]; exact hv)
            clear hc hv
            go_wp2_with fail
            refine HCL.out.mono ?_
            rintro e w5 ⟨rfl, k5⟩
            have K5 := hid k5
            clear k5
            go_wp2_with fail
            go_roundw
            case rel => exact ⟨k + 1, by omega, by go_num, hid (KK.out.trans K5.out), HC2⟩
            case measure => simp [intOf]; omega
        · have HK2 : Hid (∀ j, j < i + 1 → ∀ c, c < placesB C j → keepB rulP C j c = true) := hid (fun j hj c hc => by
            rcases Nat.lt_or_ge j i with h | h
            · exact HK.out j h c hc
            · have hji : j = i := by omega
              subst hji
              exact HC.out c (by have := HPL.out; omega))
          go_wp2_with fail
          go_roundw
          case rel => exact ⟨i + 1, by have := HLT.out; omega, by go_num, hid (KR.out.trans (K3.out.trans KK.out)), HK2⟩
          case measure => have := HLT.out; simp [intOf]; omega
    · have HPOST : Hid (IsFirst rulP C 0 0) := hid (Or.inl ⟨rfl, rfl, fun j hj c hc => HK.out j (by omega) c hc⟩)
      go_wp2_with fail
      go_ret2
      exact ⟨0, 0, rfl, HPOST.out, K1.out.trans (K2.out.trans KR.out)⟩

end
end Go.Proofs.Ytaakmlgkfbpdoaa
