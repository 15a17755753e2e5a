/-
  TaskRuns: all that lives from tick to tick.
-/
import Derived.Test.YtboalfajghkajaaTaskC
import Derived.Test.YtboalfajghkajaaTaskM
namespace Go.Proofs.Ytboalfajghkajaa
open Go.RowKit
set_option linter.unusedVariables false

structure RunSt (w0 w : World) (sb tb rb gb : Nat) (F : Nat → Prop) (l : List SeenD) (kk sg lim back de sp : Int) (g gd : GateD) (a : Option Addr) (nm c : Nat) : Prop where
  ts : TSt w0 w sb tb F 2 l kk sg lim back de sp (.int .u8 0) (.bool false) (.slice none 0 0) g
  rule : Bk w rb 27 [.int .u8 kk, .int .i64 sg, .int .i64 lim, .int .i64 back, .int .i64 de, .int .i64 sp, .int .u8 0, .bool false, .slice none 0 0]
  gate : Bk w gb 35 [.bool gd.on, .bool gd.hd, .int .i64 gd.since]
  row : w.ownsRow 0 42 5 (.slice a nm c) nm (l.flatMap encSn)
  rt : rb ≠ tb
  gt : gb ≠ tb
  rg : rb ≠ gb
  fr : ¬ F rb
  fg : ¬ F gb
  ng : w0.heap.size ≤ gb
  own : ∀ b, (Value.slice a nm c).ownBlock = some b → w0.heap.size ≤ b ∧ ¬ F b ∧ b ≠ tb ∧ b ≠ gb ∧ b ≠ rb

section
variable {w0 w w' : World} {sb tb rb gb : Nat} {F F' : Nat → Prop} {l : List SeenD} {kk sg lim back de sp : Int} {g gd g2 : GateD} {a : Option Addr} {nm c : Nat}

theorem RunSt.kept (h : RunSt w0 w sb tb rb gb F l kk sg lim back de sp g gd a nm c) (k : Keeps No w w') : RunSt w0 w' sb tb rb gb F l kk sg lim back de sp g gd a nm c :=
  ⟨h.ts.kept k, h.rule.kept k, h.gate.kept k, Keeps.own k h.row (fun b hb h => h), h.rt, h.gt, h.rg, h.fr, h.fg, h.ng, h.own⟩

/-- Into the blocks S, none of these, was written. -/
theorem RunSt.keepS {S : Nat → Prop} (h : RunSt w0 w sb tb rb gb F l kk sg lim back de sp g gd a nm c) (k : Keeps S w w') (hF : ∀ i, F i → ¬ S i) (h1 : ¬ S tb) (h2 : ¬ S rb) (h3 : ¬ S gb) (h4 : ∀ b, (Value.slice a nm c).ownBlock = some b → ¬ S b) (h0 : ∀ i, S i → w0.heap.size ≤ i) : RunSt w0 w' sb tb rb gb F l kk sg lim back de sp g gd a nm c :=
  ⟨h.ts.keep k hF h1 h0, h.rule.keep k h2, h.gate.keep k h3, Keeps.own k h.row (fun b hb hs => h4 b hb hs), h.rt, h.gt, h.rg, h.fr, h.fg, h.ng, h.own⟩

theorem RunSt.put {l' : List SeenD} (h : RunSt w0 w sb tb rb gb F l kk sg lim back de sp g gd a nm c) (ht : TSt w0 w' sb tb F' 2 l' kk sg lim back de sp (.int .u8 0) (.bool false) (.slice none 0 0) g) (u : Upd F w w' F') : 
    TSt w0 w' sb tb F' 2 l' kk sg lim back de sp (.int .u8 0) (.bool false) (.slice none 0 0) g ∧ Bk w' rb 27 [.int .u8 kk, .int .i64 sg, .int .i64 lim, .int .i64 back, .int .i64 de, .int .i64 sp, .int .u8 0, .bool false, .slice none 0 0] ∧ Bk w' gb 35 [.bool gd.on, .bool gd.hd, .int .i64 gd.since] ∧ w'.ownsRow 0 42 5 (.slice a nm c) nm (l.flatMap encSn) ∧ ¬ F' rb ∧ ¬ F' gb ∧
    (∀ b, (Value.slice a nm c).ownBlock = some b → w0.heap.size ≤ b ∧ ¬ F' b ∧ b ≠ tb ∧ b ≠ gb ∧ b ≠ rb) :=
  ⟨ht, h.rule.keep u.keeps h.fr, h.gate.keep u.keeps h.fg, Keeps.own u.keeps h.row (fun b hb e => (h.own b hb).2.1 e), u.out h.rule.lt h.fr, u.out h.gate.lt h.fg,
    fun b hb => ⟨(h.own b hb).1, u.out (h.row.lt b hb).2 (h.own b hb).2.1, (h.own b hb).2.2⟩⟩

theorem RunSt.run (h : RunSt w0 w sb tb rb gb F l kk sg lim back de sp g gd a nm c) (ht : TSt w0 w' sb tb F 2 l kk sg lim back de sp (.int .u8 0) (.bool false) (.slice none 0 0) g2) (k : Keeps (fun i => i = tb) w w') : RunSt w0 w' sb tb rb gb F l kk sg lim back de sp g2 gd a nm c :=
  ⟨ht, h.rule.keep k h.rt, h.gate.keep k h.gt, Keeps.own k h.row (fun b hb e => (h.own b hb).2.2.1 e), h.rt, h.gt, h.rg, h.fr, h.fg, h.ng, h.own⟩

theorem RunSt.step (h : RunSt w0 w sb tb rb gb F l kk sg lim back de sp g gd a nm c) (hb : Bk w' gb 35 [.bool g2.on, .bool g2.hd, .int .i64 g2.since]) (k : Keeps (fun i => i = gb) w w') : RunSt w0 w' sb tb rb gb F l kk sg lim back de sp g g2 a nm c :=
  ⟨h.ts.keep k (fun i hi e => h.fg (by rw [← e]; exact hi)) (fun e => h.gt e.symm) (fun i e => by have := h.ng; omega), h.rule.keep k h.rg, hb, Keeps.own k h.row (fun b hb e => (h.own b hb).2.2.2.1 e), h.rt, h.gt, h.rg, h.fr, h.fg, h.ng, h.own⟩
end

end Go.Proofs.Ytboalfajghkajaa
