/-
  How alarms sound, what is shown and heard, what is written: plain.
-/
import Derived.Test.YtnmlaobiljmgaaaLifeP
import Derived.Test.YtnmlaobiljmgaaaHushP
namespace Go.Proofs.Ytnmlaobiljmgaaa
open Go.RowKit
set_option linter.unusedVariables false

/-- At which ticks of a period there are pulses; the period. -/
def pulsesD (p : Int) : List Int × Int :=
  if p = 3 then ([0, 2, 4, 7, 9, 16, 18, 20, 23, 25], 32) else if p = 2 then ([0, 3, 6], 24) else if p = 1 then ([0, 4], 40) else ([], 0)
def soundD (p phase : Int) : Bool := decide (0 < (pulsesD p).2) && (decide (0 ≤ phase) && (pulsesD p).1.contains (phase % (pulsesD p).2))

/-- A condition, how high it is, what has become of it. -/
structure LightD where
  cond : Int
  pri : Int
  life : LifeD

structure LampD where
  cond : Int
  pri : Int
  stage : Int
  cause : Bool
  acked : Bool
deriving DecidableEq

def LampD.zero : LampD := ⟨0, 0, 0, false, false⟩
def lampOf (x : LightD) : LampD := ⟨x.cond, x.pri, x.life.stage, x.life.on, x.life.ack⟩
/-- Does it go ahead of it? -/
def aheadD (a b : LampD) : Bool := decide (b.pri < a.pri) || (decide (a.pri = b.pri) && decide (a.cond < b.cond))
/-- It is put ahead of the first one that it goes ahead of. -/
def insD (a : LampD) : List LampD → List LampD
  | [] => [a]
  | b :: l => if aheadD a b then a :: b :: l else b :: insD a l
def lampsD (l : List LightD) : List LampD := l.foldl (fun o x => if x.life.lit then insD (lampOf x) o else o) []
/-- The greatest priority of those that count. -/
def highD (f : LightD → Bool) (l : List LightD) : Int := l.foldl (fun p x => if f x && decide (p < x.pri) then x.pri else p) 0
def litD (x : LightD) : Bool := x.life.lit
def loudL (x : LightD) : Bool := x.life.lit && !x.life.ack

structure PanelD where
  audio : Int
  began : Int

structure OutD where
  tick : Int
  lamps : List LampD
  audio : Int
  sound : Bool
  paused : Bool
  off : Bool

def audioD (now : Int) (l : List LightD) (h : HushD) : Int := if now < h.til ∨ now < h.off then 0 else highD loudL l
def showP (p : PanelD) (now : Int) (l : List LightD) (h : HushD) : PanelD := if audioD now l h = p.audio then p else ⟨audioD now l h, now⟩
def showD (p : PanelD) (now : Int) (l : List LightD) (h : HushD) : OutD :=
  ⟨now, lampsD l, audioD now l h, soundD (audioD now l h) (held (now - (showP p now l h).began)), decide (now < h.til), decide (now < h.off)⟩

/-- What has happened: its tick, its kind, its condition. -/
structure EntD where
  tick : Int
  kind : Int
  cond : Int
deriving DecidableEq

/-- Those for which there is room. -/
def roomD (n : Int) : Nat := if n < 0 then 0 else if 1024 < n then 1024 else n.toNat
def bookAll (n : Int) (l : List EntD) : List EntD := l.drop (l.length - roomD n)
/-- What one light's change writes. -/
def cmpOne (tick : Int) (x y : LightD) : List EntD :=
  if y.life.lit then (if x.life.lit = false ∨ x.life.since ≠ y.life.since then [⟨tick, 1, y.cond⟩] else if y.life.ack ∧ x.life.ack = false then [⟨tick, 3, y.cond⟩] else [])
  else if x.life.lit then [⟨tick, 2, y.cond⟩] else []
def cmpD (tick : Int) : List LightD → List LightD → List EntD
  | x :: was, y :: is_ => cmpOne tick x y ++ cmpD tick was is_
  | _, _ => []

end Go.Proofs.Ytnmlaobiljmgaaa
