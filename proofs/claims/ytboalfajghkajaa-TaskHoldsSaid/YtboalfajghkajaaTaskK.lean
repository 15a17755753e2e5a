/-
  A store and a task, made behind a world w0.
-/
import Derived.Test.YtboalfajghkajaaTaskO
namespace Go.Proofs.Ytboalfajghkajaa
open Go.RowKit
set_option linter.unusedVariables false

/-- A task's block apart from a store's, all of it new since w0. -/
structure TSt (w0 w : World) (sb tb : Nat) (F : Nat → Prop) (n : Nat) (l : List SeenD) (k sig lim back delay span : Int) (a6 a7 a8 : Value) (g : GateD) : Prop where
  sto : Sto w sb F n l
  task : Bk w tb 57 [.int .u8 k, .int .i64 sig, .int .i64 lim, .int .i64 back, .int .i64 delay, .int .i64 span, a6, a7, a8, .bool g.on, .bool g.hd, .int .i64 g.since]
  newF : ∀ i, F i → w0.heap.size ≤ i
  newT : w0.heap.size ≤ tb
  apart : ¬ F tb
  keeps : Keeps No w0 w

section
variable {w0 w : World} {sb tb : Nat} {F : Nat → Prop} {n : Nat} {l : List SeenD} {k sig lim back delay span : Int} {a6 a7 a8 : Value} {g : GateD}

theorem TSt.kept {w' : World} (h : TSt w0 w sb tb F n l k sig lim back delay span a6 a7 a8 g) (kp : Keeps No w w') : TSt w0 w' sb tb F n l k sig lim back delay span a6 a7 a8 g :=
  ⟨h.sto.keep kp (fun _ _ h => h), h.task.kept kp, h.newF, h.newT, h.apart, h.keeps.trans kp⟩

theorem TSt.keep {S : Nat → Prop} {w' : World} (h : TSt w0 w sb tb F n l k sig lim back delay span a6 a7 a8 g) (kp : Keeps S w w') (hF : ∀ i, F i → ¬ S i) (hT : ¬ S tb) (h0 : ∀ i, S i → w0.heap.size ≤ i) : TSt w0 w' sb tb F n l k sig lim back delay span a6 a7 a8 g :=
  ⟨h.sto.keep kp hF, h.task.keep kp hT, h.newF, h.newT, h.apart, h.keeps.trans' kp (fun _ _ h => h) (fun b hb e => by have := h0 b e; omega)⟩

/-- A new task beside a store. -/
theorem TSt.new {w1 w2 : World} (hs : Sto w1 sb F n l) (hF : ∀ i, F i → w0.heap.size ≤ i) (k1 : Keeps No w0 w1) (ht : w1.heap.size ≤ tb) (hb : Bk w2 tb 57 [.int .u8 k, .int .i64 sig, .int .i64 lim, .int .i64 back, .int .i64 delay, .int .i64 span, a6, a7, a8, .bool false, .bool false, .int .i64 0]) (k2 : Keeps No w1 w2) : TSt w0 w2 sb tb F n l k sig lim back delay span a6 a7 a8 ⟨false, false, 0⟩ :=
  ⟨hs.keep k2 (fun _ _ h => h), hb, hF, Nat.le_trans k1.size ht, fun h => by have := hs.lt tb h; omega, k1.trans k2⟩

theorem tsput_any (h : TSt w0 w sb tb F n l k sig lim back delay span a6 a7 a8 g) (x : SeenD) (hl : l.length ≤ 100) (hx : I64 x.at_) (hr : ∀ y ∈ l, y.at_ ≤ x.at_) :
    Calls Try.prog 12 #[.pointer (some ⟨sb, 0, none⟩), .int .i64 x.at_, .agg #[.int .i64 x.sig, .int .u8 x.seq, .int .i64 x.val, .bool x.bad]] w fun e w' => e = .returned (.bool (takes n x)) ∧ ∃ F', TSt w0 w' sb tb F' n (if takes n x then l ++ [x] else l) k sig lim back delay span a6 a7 a8 g ∧ Upd F w w' F' := by
  refine (cput_any h.sto x hl hx hr).mono ?_
  rintro e w' ⟨he, F', h2, u⟩
  have hu := newUpd h.newF h.keeps u
  exact ⟨he, F', ⟨h2, h.task.keep u.keeps h.apart, hu.1, h.newT, u.out h.task.lt h.apart, hu.2⟩, u⟩

theorem tsrun_any (h : TSt w0 w sb tb F n l k sig lim back delay span a6 a7 a8 g) (now : Int) (hn : I64 now) (hg : I64 g.since) (hsp : I64 span) {g2 : GateD} (hst : stepD g now (obsD k sig lim back span l now).1 (obsD k sig lim back span l now).2 delay = g2) :
    Calls Try.prog 16 #[.pointer (some ⟨tb, 0, none⟩), .int .i64 now, .pointer (some ⟨sb, 0, none⟩)] w fun e w' => e = .returned (.bool g2.on) ∧ TSt w0 w' sb tb F n l k sig lim back delay span a6 a7 a8 g2 ∧ Keeps (fun i => i = tb) w w' := by
  obtain ⟨on, hd, s⟩ := g
  obtain ⟨on2, hd2, s2⟩ := g2
  refine (trun_any k sig lim back delay span a6 a7 a8 on hd s now h.task hn hg _ (fun w' kw => tobs_any (h.sto.keep kw (fun _ _ h => h)) k sig lim back delay span a6 a7 a8 now hn hsp) on2 hd2 s2 hst).mono ?_
  rintro e w' ⟨he, hb, kk⟩
  exact ⟨he, ⟨h.sto.keep kk (fun i hi e => h.apart (by rw [← e]; exact hi)), hb, h.newF, h.newT, h.apart, h.keeps.trans' kk (fun _ _ h => h) (fun b hb e => by have := h.newT; omega)⟩, kk⟩

theorem tson_any (h : TSt w0 w sb tb F n l k sig lim back delay span a6 a7 a8 g) :
    Calls Try.prog 18 #[.pointer (some ⟨tb, 0, none⟩)] w fun e w' => e = .returned (.bool g.on) ∧ TSt w0 w' sb tb F n l k sig lim back delay span a6 a7 a8 g ∧ Keeps No w w' :=
  (ton_any k sig lim back delay span a6 a7 a8 g.on g.hd g.since h.task).mono (fun e w' ⟨he, kk⟩ => ⟨he, h.kept kk, kk⟩)

theorem tsgate_any (h : TSt w0 w sb tb F n l k sig lim back delay span a6 a7 a8 g) :
    Calls Try.prog 17 #[.pointer (some ⟨tb, 0, none⟩)] w fun e w' => e = .returned (.agg #[.bool g.on, .bool g.hd, .int .i64 g.since]) ∧ TSt w0 w' sb tb F n l k sig lim back delay span a6 a7 a8 g ∧ Keeps No w w' :=
  (tgate_any k sig lim back delay span a6 a7 a8 g.on g.hd g.since h.task).mono (fun e w' ⟨he, kk⟩ => ⟨he, h.kept kk, kk⟩)
end

def bx1 : SeenD := ⟨1, 0, 0, 0, true⟩
def bx2 : SeenD := ⟨2, 0, 0, 1, false⟩

set_option maxHeartbeats 4000000 in
set_option maxRecDepth 100000 in
theorem bad_true (w : World) : Calls Try.prog 8 #[] w fun e w' => e = .returned (.bool true) ∧ Keeps No w w' := by
  go_enter Try.func8, Try.ntmps8
  go_wp2_with fail
  refine (cnew_any 1 w ⟨by decide, by decide⟩).mono ?_
  rintro e w1 ⟨sb, F1, rfl, h1, k1, n1⟩
  have e1 : clampS 1 = 1 := rfl
  rw [e1] at h1
  have H1 := hid h1
  have K1 := hid k1
  have N1 := hid n1
  clear h1 k1 n1 e1
  go_wp2_with fail
  refine (tnew_any 6 0 0 0 0 0 _ _ _ _).mono ?_
  rintro e w2 ⟨tb, rfl, ht, hb, k2⟩
  have T2 := hid (TSt.new H1.out N1.out K1.out ht hb k2)
  clear ht hb k2 H1 K1 N1
  go_wp2_with fail
  refine (tsput_any T2.out bx1 (by simp) ⟨by decide, by decide⟩ (fun y hy => by simp at hy)).mono ?_
  rintro e w3 ⟨rfl, F3, h3, u3⟩
  have e3 : takes 1 bx1 = true := rfl
  rw [e3] at h3 ⊢
  rw [if_pos rfl] at h3
  have T3 := hid h3
  clear h3 u3 e3 T2
  go_wp2_with fail
  refine (tsrun_any T3.out 1 ⟨by decide, by decide⟩ ⟨by decide, by decide⟩ ⟨by decide, by decide⟩ (g2 := ⟨true, false, 0⟩) (by rfl)).mono ?_
  rintro e w4 ⟨rfl, h4, k4⟩
  have T4 := hid h4
  clear h4 k4 T3
  go_wp2_with fail
  refine (tsput_any T4.out bx2 (by simp) ⟨by decide, by decide⟩ (fun y hy => by simp at hy; subst hy; decide)).mono ?_
  rintro e w5 ⟨rfl, F5, h5, u5⟩
  have e5 : takes 1 bx2 = true := rfl
  rw [e5] at h5 ⊢
  rw [if_pos rfl] at h5
  have T5 := hid h5
  clear h5 u5 e5 T4
  go_wp2_with fail
  refine (tsrun_any T5.out 2 ⟨by decide, by decide⟩ ⟨by decide, by decide⟩ ⟨by decide, by decide⟩ (g2 := ⟨false, false, 0⟩) (by rfl)).mono ?_
  rintro e w6 ⟨rfl, h6, k6⟩
  have T6 := hid h6
  clear h6 k6 T5
  go_wp2_with fail
  refine (tson_any T6.out).mono ?_
  rintro e w7 ⟨rfl, h7, k7⟩
  have K7 := hid h7.keeps
  clear h7 k7 T6
  go_wp2_with fail
  go_ret
  exact ⟨rfl, K7.out⟩

end Go.Proofs.Ytboalfajghkajaa
