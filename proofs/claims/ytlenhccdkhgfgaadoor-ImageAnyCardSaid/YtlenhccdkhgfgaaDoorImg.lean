/-
  A configuration's image as bytes; what a pass that lays does with one number.
-/
import Derived.Test.YtlenhccdkhgfgaaDoorWord
import Derived.Test.YtlenhccdkhgfgaaDoorCfg
namespace Go.Proofs.YtlenhccdkhgfgaaDoor
open Go.RowKit

def sigB (s : Sig) : List Int := int4 s.mn ++ int4 s.mx
def stgB (s : Stg) : List Int := int4 s.wait ++ [s.pri]
def rulB (r : Rul) : List Int := [r.kind] ++ [r.sig % 256] ++ int4 r.limit ++ int4 r.back ++ int4 r.delay ++ int4 r.span ++ [r.pri] ++ [flagB r.latch] ++ ([(r.stages.length : Int) % 256] ++ r.stages.flatMap stgB)
def slotB (l : List Int) : List Int := [(l.length : Int) % 256] ++ l.flatMap (fun n => [n % 256])
def cfgB (c : Cfg) : List Int := [72, 66, 49] ++ ([(c.sigs.length : Int) % 256] ++ c.sigs.flatMap sigB) ++ ([(c.ruls.length : Int) % 256] ++ c.ruls.flatMap (fun r => rulB r.1)) ++
  ([(c.tab.length : Int) % 256] ++ c.tab.flatMap (fun l => slotB l.1)) ++ [c.b0 % 256] ++ [c.b1 % 256] ++ [c.b2 % 256] ++ [c.drain % 256] ++ int4 c.pause ++ int4 c.off ++ [flagB c.brk] ++ int4 c.log

/-- The pass at block pb lays, with the writer at wb. -/
def Lay (w : World) (pb wb : Nat) : Prop := w.heap[pb]? = some (.cells #[.pointer (some ⟨wb, 0, none⟩), .pointer none] 66 (0, 0))

section
variable {w : World} {pb wb : Nat} {F : Nat → Prop} {l : List Int} {b o : Nat}

set_option maxHeartbeats 1000000 in
set_option maxRecDepth 100000 in
theorem wsmallB_any (hp : Lay w pb wb) (h : Wr w wb F l) (n : Int) (hc : w.cell? ⟨b, o, none⟩ = some (.int .u8 n)) (hl : l.length + 1 ≤ 100000) :
    Calls Tryd.prog 33 #[.pointer (some ⟨pb, 0, none⟩), .pointer (some ⟨b, o, none⟩)] w fun e w' => e = .returned (.tuple #[]) ∧ ∃ F', Wr w' wb F' (l ++ [n]) ∧ Upd F w w' F' := by
  have c0 := cell_at (i := 0) hp rfl
  have HW := fun m => wbyte_any (h.keep ((Keeps.refl No w).drewN m) (fun _ _ h => h)) n hl
  have H := hid HW
  clear hp h HW hl
  go_enter Tryd.func33, Tryd.ntmps33
  go_wp2_with fail
  go_region_with ((go_at_call 60; refine (H.out _).mono ?_; rintro e w' ⟨rfl, F', h', u'⟩; have H' := hid h'; have U' := hid u'; clear h' u'))
  all_goals
    go_wp2_with fail
    refine bodyPost_ret (results_none rfl _ _ _) rfl ?_
    exact ⟨rfl, F', H'.out, Upd.behind ((Keeps.refl _ _).drewN _) U'.out⟩

set_option maxHeartbeats 1000000 in
set_option maxRecDepth 100000 in
theorem wsmallI_any (hp : Lay w pb wb) (h : Wr w wb F l) (n : Int) (hc : w.cell? ⟨b, o, none⟩ = some (.int .i64 n)) (hl : l.length + 1 ≤ 100000) :
    Calls Tryd.prog 43 #[.pointer (some ⟨pb, 0, none⟩), .pointer (some ⟨b, o, none⟩)] w fun e w' => e = .returned (.tuple #[]) ∧ ∃ F', Wr w' wb F' (l ++ [n % 256]) ∧ Upd F w w' F' := by
  have c0 := cell_at (i := 0) hp rfl
  have HW := fun m => wbyte_any (h.keep ((Keeps.refl No w).drewN m) (fun _ _ h => h)) (n % 256) hl
  have H := hid HW
  clear hp h HW hl
  go_enter Tryd.func43, Tryd.ntmps43
  go_wp2_with fail
  go_region_with ((go_at_call 60; refine (H.out _).mono ?_; rintro e w' ⟨rfl, F', h', u'⟩; have H' := hid h'; have U' := hid u'; clear h' u'))
  all_goals
    go_wp2_with fail
    refine bodyPost_ret (results_none rfl _ _ _) rfl ?_
    exact ⟨rfl, F', H'.out, Upd.behind ((Keeps.refl _ _).drewN _) U'.out⟩

set_option maxHeartbeats 1000000 in
set_option maxRecDepth 100000 in
theorem wwholeI_any (hp : Lay w pb wb) (h : Wr w wb F l) (n : Int) (hc : w.cell? ⟨b, o, none⟩ = some (.int .i64 n)) (hl : l.length + 4 ≤ 100000) :
    Calls Tryd.prog 36 #[.pointer (some ⟨pb, 0, none⟩), .pointer (some ⟨b, o, none⟩)] w fun e w' => e = .returned (.tuple #[]) ∧ ∃ F', Wr w' wb F' (l ++ int4 n) ∧ Upd F w w' F' := by
  have c0 := cell_at (i := 0) hp rfl
  have HW := fun m => wint_any (h.keep ((Keeps.refl No w).drewN m) (fun _ _ h => h)) n hl
  have H := hid HW
  clear hp h HW hl
  go_enter Tryd.func36, Tryd.ntmps36
  go_wp2_with fail
  go_region_with ((go_at_call 62; refine (H.out _).mono ?_; rintro e w' ⟨rfl, F', h', u'⟩; have H' := hid h'; have U' := hid u'; clear h' u'))
  all_goals
    go_wp2_with fail
    refine bodyPost_ret (results_none rfl _ _ _) rfl ?_
    exact ⟨rfl, F', H'.out, Upd.behind ((Keeps.refl _ _).drewN _) U'.out⟩

set_option maxHeartbeats 1000000 in
set_option maxRecDepth 100000 in
theorem wwholeL_any (hp : Lay w pb wb) (h : Wr w wb F l) (n : Int) (hc : w.cell? ⟨b, o, none⟩ = some (.int .i64 n)) (hl : l.length + 4 ≤ 100000) :
    Calls Tryd.prog 44 #[.pointer (some ⟨pb, 0, none⟩), .pointer (some ⟨b, o, none⟩)] w fun e w' => e = .returned (.tuple #[]) ∧ ∃ F', Wr w' wb F' (l ++ int4 n) ∧ Upd F w w' F' := by
  have c0 := cell_at (i := 0) hp rfl
  have HW := fun m => wint_any (h.keep ((Keeps.refl No w).drewN m) (fun _ _ h => h)) n hl
  have H := hid HW
  clear hp h HW hl
  go_enter Tryd.func44, Tryd.ntmps44
  go_wp2_with fail
  go_region_with ((go_at_call 62; refine (H.out _).mono ?_; rintro e w' ⟨rfl, F', h', u'⟩; have H' := hid h'; have U' := hid u'; clear h' u'))
  all_goals
    go_wp2_with fail
    refine bodyPost_ret (results_none rfl _ _ _) rfl ?_
    exact ⟨rfl, F', H'.out, Upd.behind ((Keeps.refl _ _).drewN _) U'.out⟩

set_option maxHeartbeats 1000000 in
set_option maxRecDepth 100000 in
theorem wflagP_any (hp : Lay w pb wb) (h : Wr w wb F l) (n : Bool) (hc : w.cell? ⟨b, o, none⟩ = some (.bool n)) (hl : l.length + 1 ≤ 100000) :
    Calls Tryd.prog 45 #[.pointer (some ⟨pb, 0, none⟩), .pointer (some ⟨b, o, none⟩)] w fun e w' => e = .returned (.tuple #[]) ∧ ∃ F', Wr w' wb F' (l ++ [flagB n]) ∧ Upd F w w' F' := by
  have c0 := cell_at (i := 0) hp rfl
  have HW := fun m => wflag_any (h.keep ((Keeps.refl No w).drewN m) (fun _ _ h => h)) n hl
  have H := hid HW
  clear hp h HW hl
  go_enter Tryd.func45, Tryd.ntmps45
  go_wp2_with fail
  go_region_with ((go_at_call 66; refine (H.out _).mono ?_; rintro e w' ⟨rfl, F', h', u'⟩; have H' := hid h'; have U' := hid u'; clear h' u'))
  all_goals
    go_wp2_with fail
    refine bodyPost_ret (results_none rfl _ _ _) rfl ?_
    exact ⟨rfl, F', H'.out, Upd.behind ((Keeps.refl _ _).drewN _) U'.out⟩

end
end Go.Proofs.YtlenhccdkhgfgaaDoor
