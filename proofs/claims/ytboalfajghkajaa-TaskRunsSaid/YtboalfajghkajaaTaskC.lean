/-
  Samples that come in; rules by numbers.
-/
import Derived.Test.YtboalfajghkajaaArgs
import Derived.Test.YtboalfajghkajaaTaskK
import Derived.ProofKit
import Derived.OpenShut
namespace Go.Proofs.Ytboalfajghkajaa
open Go.ChangeShapes Go.WideShapes Go.ChangeAt Go.RowKit
set_option linter.unusedVariables false

structure ComeT where
  behind : Int
  sig : Int
  val : Int
  bad : Bool
  look : Bool
def encComeT (x : ComeT) : List Value := [.int .u8 x.behind, .int .u8 x.sig, .int .i16 x.val, .bool x.bad, .bool x.look]
theorem encComeT_len (x : ComeT) : (encComeT x).length = 5 := rfl
def goodComeT (x : ComeT) : Prop := (Lit.int .u8 x.behind).wf = true ∧ (Lit.int .u8 x.sig).wf = true ∧ (Lit.int .i16 x.val).wf = true

set_option maxRecDepth 100000 in
theorem decComeT {H : Type} {enc : TypeId × Value → H} {W : World} {n : Nat} {cs : List Value} {x} (h : DataW.trod enc Try.prog W 0 (fun _ => true) true n 37 cs = some x) : ∃ y : ComeT, cs = encComeT y ∧ goodComeT y := by
  obtain ⟨xs, m, _, _, hl, hlen, hf⟩ := DataW.trod_struct Try.underlying37 h
  rw [show Try.prog.cellsOf 37 = 5 by kernel_rfl] at hl
  match cs, hl, xs, hlen with
  | [c0, c1, c2, c3, c4], _, [y0, y1, y2, y3, y4], _ =>
    have h0 : DataW.trod enc Try.prog W 0 (fun _ => true) true m 5 (([c0, c1, c2, c3, c4].drop 0).take (Try.prog.cellsOf 5)) = some y0 := hf 0 _ rfl
    have h1 : DataW.trod enc Try.prog W 0 (fun _ => true) true m 5 (([c0, c1, c2, c3, c4].drop 1).take (Try.prog.cellsOf 5)) = some y1 := hf 1 _ rfl
    have h2 : DataW.trod enc Try.prog W 0 (fun _ => true) true m 22 (([c0, c1, c2, c3, c4].drop 2).take (Try.prog.cellsOf 22)) = some y2 := hf 2 _ rfl
    have h3 : DataW.trod enc Try.prog W 0 (fun _ => true) true m 4 (([c0, c1, c2, c3, c4].drop 3).take (Try.prog.cellsOf 4)) = some y3 := hf 3 _ rfl
    have h4 : DataW.trod enc Try.prog W 0 (fun _ => true) true m 4 (([c0, c1, c2, c3, c4].drop 4).take (Try.prog.cellsOf 4)) = some y4 := hf 4 _ rfl
    rw [show Try.prog.cellsOf 5 = 1 by kernel_rfl] at h0 h1
    rw [show Try.prog.cellsOf 22 = 1 by kernel_rfl] at h2
    rw [show Try.prog.cellsOf 4 = 1 by kernel_rfl] at h3 h4
    obtain ⟨a0, e0, _, w0⟩ := DataW.trod_int Try.underlying5 h0
    obtain ⟨a1, e1, _, w1⟩ := DataW.trod_int Try.underlying5 h1
    obtain ⟨a2, e2, _, w2⟩ := DataW.trod_int Try.underlying22 h2
    obtain ⟨a3, e3, _⟩ := DataW.trod_bool Try.underlying4 h3
    obtain ⟨a4, e4, _⟩ := DataW.trod_bool Try.underlying4 h4
    simp at e0 e1 e2 e3 e4
    exact ⟨⟨a0, a1, a2, a3, a4⟩, by simp [e0, e1, e2, e3, e4, encComeT], w0, w1, w2⟩

set_option maxHeartbeats 1000000 in
set_option maxRecDepth 100000 in
theorem rule_any (k sig lim back de sp : Int) (w : World) (hk : 0 ≤ k ∧ k ≤ 255) (hs : 0 ≤ sig ∧ sig ≤ 255) (hl : -32768 ≤ lim ∧ lim ≤ 32767) (hb : -32768 ≤ back ∧ back ≤ 32767) (hd : 0 ≤ de ∧ de ≤ 255) (hsp : 0 ≤ sp ∧ sp ≤ 255) :
    Calls Try.prog 9 #[.int .u8 k, .int .u8 sig, .int .i16 lim, .int .i16 back, .int .u8 de, .int .u8 sp] w fun e w' => e = .returned (.agg #[.int .u8 (k % 8), .int .i64 (sig % 3), .int .i64 lim, .int .i64 back, .int .i64 (de % 12), .int .i64 (sp % 20), .int .u8 0, .bool false, .slice none 0 0]) ∧ Keeps No w w' := by
  obtain ⟨k0, k1⟩ := hk
  obtain ⟨s0, s1⟩ := hs
  obtain ⟨l0, l1⟩ := hl
  obtain ⟨b0, b1⟩ := hb
  obtain ⟨d0, d1⟩ := hd
  obtain ⟨p0, p1⟩ := hsp
  go_enter Try.func9, Try.ntmps9
  go_wp2_with fail
  go_returns
  refine ⟨rfl, ?_⟩
  repeat' (first | with_reducible exact Keeps.refl _ _ | with_reducible assumption | with_reducible refine Keeps.drewN ?_ _ | with_reducible refine Keeps.drew ?_ | with_reducible refine Keeps.alloc ?_ _ | with_reducible refine Keeps.setCell ?_ ?_ _ | exact Or.inl (by simp) | exact Or.inl (by simp; omega) | exact Or.inl (by omega))

theorem tsput_raw {w : World} {sb : Nat} {F : Nat → Prop} {n : Nat} {l : List SeenD} (h : Sto w sb F n l) (x : SeenD) (hl : l.length ≤ 100) (hx : I64 x.at_) (hr : ∀ y ∈ l, y.at_ ≤ x.at_) (ht : takes n x = true) :
    Calls Try.prog 12 #[.pointer (some ⟨sb, 0, none⟩), .int .i64 x.at_, .agg #[.int .i64 x.sig, .int .u8 x.seq, .int .i64 x.val, .bool x.bad]] w fun e w' => e = .returned (.bool true) ∧ ∃ F', Sto w' sb F' n (l ++ [x]) ∧ Upd F w w' F' := by
  have := cput_any h x hl hx hr
  rw [ht, if_pos rfl] at this
  exact this

end Go.Proofs.Ytboalfajghkajaa
