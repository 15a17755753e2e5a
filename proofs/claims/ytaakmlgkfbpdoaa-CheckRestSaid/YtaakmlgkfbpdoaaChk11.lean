/-
  The program's Right.
-/
import Derived.Test.YtaakmlgkfbpdoaaChk10
namespace Go.Proofs.Ytaakmlgkfbpdoaa
open Go.RowKit

def RightPost (C : Cfg) (w : World) (e : Ending) (w' : World) : Prop := ∃ n a : Nat, e = .returned (.bool ((n : Int) == 0)) ∧ IsFirst rulP C n a ∧ Keeps No w w'

section
variable {w : World} {C : Cfg} {sa ra ta : Option Addr} {sc rc tc : Nat}

set_option maxHeartbeats 2000000 in
set_option maxRecDepth 100000 in
theorem right_any (h : CfgR w C (.slice sa C.sigs.length sc) (.slice ra C.ruls.length rc) (.slice ta C.tab.length tc)) (he : entries (C.tab.map (·.1)) ≤ 1000000) (ht : C.tab.length ≤ 1000) (hr : C.ruls.length ≤ 1000) (hs : C.sigs.length ≤ 1000) :
    Calls Try.prog 27 #[cfgV (.slice sa C.sigs.length sc) (.slice ra C.ruls.length rc) (.slice ta C.tab.length tc) C.b0 C.b1 C.b2 C.drain C.pause C.off C.brk C.log] w (RightPost C w) := by
  unfold cfgV
  obtain ⟨W1, hW1⟩ : ∃ W1, w.alloc (.cells #[.slice sa C.sigs.length sc, .slice ra C.ruls.length rc, .slice ta C.tab.length tc, .int .i64 C.b0, .int .i64 C.b1, .int .i64 C.b2, .int .i64 C.drain, .int .i64 C.pause, .int .i64 C.off, .bool C.brk, .int .i64 C.log] 33) = W1 := ⟨_, rfl⟩
  have k1 : Keeps No w W1 := by rw [← hW1]; exact (Keeps.refl _ _).alloc _
  have hb : BlkL W1 w.heap.size 33 [.slice sa C.sigs.length sc, .slice ra C.ruls.length rc, .slice ta C.tab.length tc, .int .i64 C.b0, .int .i64 C.b1, .int .i64 C.b2, .int .i64 C.drain, .int .i64 C.pause, .int .i64 C.off, .bool C.brk, .int .i64 C.log] := by rw [← hW1]; exact heap_alloc_new w _
  have hF := first_any (h.calm k1) he ht hr hs
  unfold cfgV at hF
  have HF := hid hF
  have x0 := hb.cell (o := 0) rfl
  have x1 := hb.cell (o := 1) rfl
  have x2 := hb.cell (o := 2) rfl
  have x3 := hb.cell (o := 3) rfl
  have x4 := hb.cell (o := 4) rfl
  have x5 := hb.cell (o := 5) rfl
  have x6 := hb.cell (o := 6) rfl
  have x7 := hb.cell (o := 7) rfl
  have x8 := hb.cell (o := 8) rfl
  have x9 := hb.cell (o := 9) rfl
  have x10 := hb.cell (o := 10) rfl
  have HW1 := hid hW1
  have K1 := hid k1
  clear h hW1 k1 hb he ht hr hs hF
  go_enter Try.func27, Try.ntmps27
  go_upto_region 1 with fail
  rw [HW1.out]
  go_wp2_with fail
  refine HF.out.mono ?_
  rintro e w2 ⟨n, a, rfl, hI, hk2⟩
  have HI := hid hI
  have K2 := hid hk2
  clear hI hk2
  go_wp2_with fail
  go_ret
  exact ⟨n, a, rfl, HI.out, K1.out.trans K2.out⟩

end
end Go.Proofs.Ytaakmlgkfbpdoaa
