/-
  A configuration as numbers, and what its cells read; a block known whole. (It needs no code of image.)
-/
import Derived.Test.YtoodlhagecannaaRows
import Derived.Test.YtoodlhagecannaaBytesPlain
namespace Go.Proofs.Ytoodlhagecannaa
open Go.RowKit

structure Sig where
  mn : Int
  mx : Int

structure Stg where
  wait : Int
  pri : Int

structure Rul where
  kind : Int
  sig : Int
  limit : Int
  back : Int
  delay : Int
  span : Int
  pri : Int
  latch : Bool
  stages : List Stg

/-- A configuration: the rules with where their stages stand, the slots with where their numbers stand. -/
structure Cfg where
  sigs : List Sig
  ruls : List (Rul × Value)
  tab : List (List Int × Value)
  b0 : Int
  b1 : Int
  b2 : Int
  drain : Int
  pause : Int
  off : Int
  brk : Bool
  log : Int

def encSig (s : Sig) : List Value := [.int .i64 s.mn, .int .i64 s.mx]
def encStg (s : Stg) : List Value := [.int .i64 s.wait, .int .u8 s.pri]
def encRul (r : Rul × Value) : List Value := [.int .u8 r.1.kind, .int .i64 r.1.sig, .int .i64 r.1.limit, .int .i64 r.1.back, .int .i64 r.1.delay, .int .i64 r.1.span, .int .u8 r.1.pri, .bool r.1.latch, r.2]

/-- What stands in a configuration's cells reads as it. -/
structure CfgR (w : World) (c : Cfg) (sv rv tv : Value) : Prop where
  sig : Sl w 2 sv c.sigs.length (c.sigs.flatMap encSig)
  rul : Sl w 9 rv c.ruls.length (c.ruls.flatMap encRul)
  tab : Sl w 1 tv c.tab.length (c.tab.map (·.2))
  stg : ∀ x ∈ c.ruls, Sl w 2 x.2 x.1.stages.length (x.1.stages.flatMap encStg)
  slot : ∀ x ∈ c.tab, SlI w x.2 x.1

def Cfg.cells (c : Cfg) (sv rv tv : Value) : Array Value :=
  #[sv, rv, tv, .int .i64 c.b0, .int .i64 c.b1, .int .i64 c.b2, .int .i64 c.drain, .int .i64 c.pause, .int .i64 c.off, .bool c.brk, .int .i64 c.log]

def Cfg.val (c : Cfg) (sv rv tv : Value) : Value := .agg (c.cells sv rv tv)

theorem CfgR.calm {w w' : World} {c : Cfg} {sv rv tv : Value} (h : CfgR w c sv rv tv) (k : Keeps No w w') : CfgR w' c sv rv tv :=
  ⟨h.sig.keep k (fun _ _ h => h), h.rul.keep k (fun _ _ h => h), h.tab.keep k (fun _ _ h => h), fun x hx => (h.stg x hx).keep k (fun _ _ h => h), fun x hx => Sl.keep (h.slot x hx) k (fun _ _ h => h)⟩

/-- The blocks that are there and are none of F. -/
theorem CfgR.keep {S : Nat → Prop} {w w' : World} {c : Cfg} {sv rv tv : Value} (h : CfgR w c sv rv tv) (k : Keeps S w w')
    (h1 : ∀ b, sv.ownBlock = some b → ¬ S b) (h2 : ∀ b, rv.ownBlock = some b → ¬ S b) (h3 : ∀ b, tv.ownBlock = some b → ¬ S b)
    (h4 : ∀ x ∈ c.ruls, ∀ b, x.2.ownBlock = some b → ¬ S b) (h5 : ∀ x ∈ c.tab, ∀ b, x.2.ownBlock = some b → ¬ S b) : CfgR w' c sv rv tv :=
  ⟨h.sig.keep k h1, h.rul.keep k h2, h.tab.keep k h3, fun x hx => (h.stg x hx).keep k (h4 x hx), fun x hx => Sl.keep (h.slot x hx) k (h5 x hx)⟩

/-- A block known whole, its cells as a list; none is frozen. -/
def BlkL (w : World) (b : Nat) (T : TypeId) (xs : List Value) : Prop := w.heap[b]? = some (.cells xs.toArray T (0, 0))

theorem BlkL.keep {S : Nat → Prop} {w w' : World} {b : Nat} {T : TypeId} {xs : List Value} (h : BlkL w b T xs) (k : Keeps S w w') (hs : ¬ S b) : BlkL w' b T xs := k.heap hs h

theorem BlkL.cell {w : World} {b : Nat} {T : TypeId} {xs : List Value} (h : BlkL w b T xs) {o : Nat} {v : Value} (hv : xs[o]? = some v) : w.cell? ⟨b, o, none⟩ = some v := cell_at h (by simpa using hv)

theorem BlkL.free {w : World} {b : Nat} {T : TypeId} {xs : List Value} (h : BlkL w b T xs) (o : Nat) : w.frozen? ⟨b, o, none⟩ = false := free_at h

theorem BlkL.set {w : World} {b : Nat} {T : TypeId} {xs : List Value} (h : BlkL w b T xs) (o : Nat) (v : Value) : BlkL (w.setCell ⟨b, o, none⟩ v) b T (xs.set o v) := by
  have := heap_setCell_at (i := o) (v := v) h
  simpa [BlkL] using this

/-- .. with the list that is left written out. -/
theorem BlkL.put {w : World} {b : Nat} {T : TypeId} {xs ys : List Value} (h : BlkL w b T xs) (o : Nat) (v : Value) (he : xs.set o v = ys) : BlkL (w.setCell ⟨b, o, none⟩ v) b T ys := he ▸ h.set o v

theorem BlkL.drew {w : World} {b : Nat} {T : TypeId} {xs : List Value} (h : BlkL w b T xs) : BlkL w.drew b T xs := h

theorem BlkL.drewN {w : World} {b : Nat} {T : TypeId} {xs : List Value} (h : BlkL w b T xs) (n : Nat) : BlkL (w.drewN n) b T xs := h

theorem BlkL.lt {w : World} {b : Nat} {T : TypeId} {xs : List Value} (h : BlkL w b T xs) : b < w.heap.size := lt_of_block h

def zeroCfg : List Value := [.slice none 0 0, .slice none 0 0, .slice none 0 0, .int .i64 0, .int .i64 0, .int .i64 0, .int .i64 0, .int .i64 0, .int .i64 0, .bool false, .int .i64 0]

end Go.Proofs.Ytoodlhagecannaa
