/-
  Drafts: configurations by numbers; what a configuration must be to be right.
-/
import Derived.Test.YtoodlhagecannaaCfg
import Derived.Deep.DeepCutAuto
import Derived.Deep.CutBlock
namespace Go.Proofs.Ytoodlhagecannaa
open Go.RowKit

structure LineD where
  kind : Int
  sig : Int
  limit : Int
  back : Int
  delay : Int
  span : Int
  pri : Int
  latch : Bool
  stages : List Int

def encLine (x : LineD × Value) : List Value := [.int .u8 x.1.kind, .int .u8 x.1.sig, .int .u8 x.1.limit, .int .u8 x.1.back, .int .u8 x.1.delay, .int .u8 x.1.span, .int .u8 x.1.pri, .bool x.1.latch, x.2]

def U8 (x : Int) : Prop := 0 ≤ x ∧ x ≤ 255

structure OkLine (x : LineD) : Prop where
  kind : U8 x.kind
  sig : U8 x.sig
  limit : U8 x.limit
  back : U8 x.back
  delay : U8 x.delay
  span : U8 x.span
  pri : U8 x.pri
  stg : Bytes x.stages

/-- What a draft's rules and slots read. -/
structure DraftR (w : World) (rules : List (LineD × Value)) (rv : Value) (slots : List Int) (sv : Value) : Prop where
  rul : Sl w 9 rv rules.length (rules.flatMap encLine)
  stg : ∀ x ∈ rules, SlB w x.2 x.1.stages
  ok : ∀ x ∈ rules, OkLine x.1
  slo : SlB w sv slots
  sby : Bytes slots

theorem DraftR.calm {w w' : World} {rules : List (LineD × Value)} {rv : Value} {slots : List Int} {sv : Value} (h : DraftR w rules rv slots sv) (k : Keeps No w w') : DraftR w' rules rv slots sv :=
  ⟨h.rul.keep k (fun _ _ h => h), fun x hx => Sl.keep (h.stg x hx) k (fun _ _ h => h), h.ok, Sl.keep h.slo k (fun _ _ h => h), h.sby⟩

/-- Stages rise from a priority on. -/
def StOk : Int → List Stg → Prop
  | _, [] => True
  | p, s :: l => 1 ≤ s.wait ∧ s.wait ≤ 12 ∧ p ≤ s.pri ∧ s.pri ≤ 3 ∧ StOk s.pri l

def lastPri : Int → List Stg → Int
  | p, [] => p
  | _, s :: l => lastPri s.pri l

theorem StOk.snoc : ∀ {p : Int} {l : List Stg} {s : Stg}, StOk p l → 1 ≤ s.wait → s.wait ≤ 12 → lastPri p l ≤ s.pri → s.pri ≤ 3 → StOk p (l ++ [s])
  | _, [], _, _, h1, h2, h3, h4 => ⟨h1, h2, h3, h4, trivial⟩
  | _, _ :: l, _, h, h1, h2, h3, h4 => ⟨h.1, h.2.1, h.2.2.1, h.2.2.2.1, StOk.snoc (l := l) h.2.2.2.2 h1 h2 h3 h4⟩

theorem lastPri_snoc : ∀ (p : Int) (l : List Stg) (s : Stg), lastPri p (l ++ [s]) = s.pri
  | _, [], _ => rfl
  | _, x :: l, s => lastPri_snoc x.pri l s

/-- A rule's numbers, but its stages. -/
structure NumOk (k s l b d sp p : Int) : Prop where
  kind : 1 ≤ k ∧ k ≤ 6
  sig : 0 ≤ s ∧ s ≤ 2
  limit : 0 ≤ l ∧ l ≤ 255
  back : -20 ≤ b ∧ b ≤ 275
  above : k = 1 → b ≤ l
  below : k = 2 → l ≤ b
  rise : k = 3 ∨ k = 4 → 1 ≤ l ∧ 0 ≤ b ∧ b ≤ l
  none_ : k = 5 ∨ k = 6 → l = 0 ∧ b = 0
  delay : 0 ≤ d ∧ d ≤ 7
  span : k = 3 ∨ k = 4 ∨ k = 5 → 1 ≤ sp ∧ sp ≤ 12
  span0 : k = 1 ∨ k = 2 ∨ k = 6 → sp = 0
  pri : 1 ≤ p ∧ p ≤ 3

structure RulOk (r : Rul) : Prop where
  num : NumOk r.kind r.sig r.limit r.back r.delay r.span r.pri
  few : r.stages.length ≤ 4
  stg : StOk r.pri r.stages

structure SlotOk (n : Nat) (l : List Int) : Prop where
  nodup : l.Nodup
  rul : ∀ x ∈ l, 0 ≤ x ∧ x < n

def entries (t : List (List Int)) : Nat := t.flatten.length

/-- A configuration that a draft tells; it is right. -/
structure Made (C : Cfg) : Prop where
  sigs : C.sigs = [⟨-100, 300⟩, ⟨0, 250⟩, ⟨-2147483648, 2147483647⟩]
  few : 1 ≤ C.ruls.length ∧ C.ruls.length ≤ 8
  ruls : ∀ x ∈ C.ruls, RulOk x.1
  slots : 1 ≤ C.tab.length ∧ C.tab.length ≤ 6
  tab : ∀ x ∈ C.tab, SlotOk C.ruls.length x.1
  stands : ∀ i : Nat, i < C.ruls.length → ∃ x ∈ C.tab, (i : Int) ∈ x.1
  b0 : 1 ≤ C.b0 ∧ C.b0 ≤ 3
  b1 : 1 ≤ C.b1 ∧ C.b1 ≤ 3
  b2 : 1 ≤ C.b2 ∧ C.b2 ≤ 4
  drain : 1 ≤ C.drain ∧ C.drain ≤ 64
  room : (entries (C.tab.map (·.1)) : Int) < C.drain * C.tab.length
  pause : 1 ≤ C.pause ∧ C.pause ≤ 30
  off : 1 ≤ C.off ∧ C.off ≤ 30
  log : 1 ≤ C.log ∧ C.log ≤ 40

theorem cells9 {w : World} {b : Nat} {T : TypeId} {u0 u1 u2 u3 u4 u5 u6 u7 u8 : Value} (h : BlkL w b T [u0, u1, u2, u3, u4, u5, u6, u7, u8]) :
    w.cell? ⟨b, 0, none⟩ = some u0 ∧ w.cell? ⟨b, 1, none⟩ = some u1 ∧ w.cell? ⟨b, 2, none⟩ = some u2 ∧ w.cell? ⟨b, 3, none⟩ = some u3 ∧ w.cell? ⟨b, 4, none⟩ = some u4 ∧ w.cell? ⟨b, 5, none⟩ = some u5 ∧ w.cell? ⟨b, 6, none⟩ = some u6 ∧ w.cell? ⟨b, 7, none⟩ = some u7 ∧ w.cell? ⟨b, 8, none⟩ = some u8 :=
  ⟨h.cell rfl, h.cell rfl, h.cell rfl, h.cell rfl, h.cell rfl, h.cell rfl, h.cell rfl, h.cell rfl, h.cell rfl⟩

theorem frees9 {w : World} {b : Nat} {T : TypeId} {xs : List Value} (h : BlkL w b T xs) :
    w.frozen? ⟨b, 0, none⟩ = false ∧ w.frozen? ⟨b, 1, none⟩ = false ∧ w.frozen? ⟨b, 2, none⟩ = false ∧ w.frozen? ⟨b, 3, none⟩ = false ∧ w.frozen? ⟨b, 4, none⟩ = false ∧ w.frozen? ⟨b, 5, none⟩ = false ∧ w.frozen? ⟨b, 6, none⟩ = false ∧ w.frozen? ⟨b, 7, none⟩ = false ∧ w.frozen? ⟨b, 8, none⟩ = false :=
  ⟨h.free 0, h.free 1, h.free 2, h.free 3, h.free 4, h.free 5, h.free 6, h.free 7, h.free 8⟩

theorem info_stgA : (Try.prog.info? 75).map (fun i => (i.zero, i.size, i.bytes)) = some (some (.agg #[.int .i64 0, .int .u8 0]), 2, 16) := by kernel_rfl
theorem info_rulA : (Try.prog.info? 68).map (fun i => (i.zero, i.size, i.bytes)) = some (some (.agg #[.int .u8 0, .int .i64 0, .int .i64 0, .int .i64 0, .int .i64 0, .int .i64 0, .int .u8 0, .bool false, .slice none 0 0]), 9, 80) := by kernel_rfl
theorem info_intA : (Try.prog.info? 3).map (fun i => (i.zero, i.size, i.bytes)) = some (some (.int .i64 0), 1, 8) := by kernel_rfl
theorem info_slotA : (Try.prog.info? 61).map (fun i => (i.zero, i.size, i.bytes)) = some (some (.slice none 0 0), 1, 24) := by kernel_rfl

end Go.Proofs.Ytoodlhagecannaa
