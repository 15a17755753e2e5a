/-
  The document's example for layer 1 holds.
-/
import Derived.Test.YtebodpphimfdoaaRing6
namespace Go.Proofs.Ytebodpphimfdoaa
open Go.RowKit

set_option maxHeartbeats 400000 in
set_option maxRecDepth 100000 in
theorem fits_true (w : World) :
    Calls Try.prog 14 #[] w fun e w' => e = .returned (.bool true) ∧ Keeps No w w' := by
  go_enter Try.func14, Try.ntmps14
  go_wp2_with fail
  refine (inew_any 2 w).mono ?_
  rintro e w1 ⟨rfl, h1, k1⟩
  have H1 := hid h1
  have K1 := hid k1
  clear h1 k1
  go_wp2_with fail
  refine (ipush_ok H1.out (by decide) 1).mono ?_
  rintro e w2 ⟨rfl, F2, h2, k2⟩
  have H2 := hid h2
  have K2 := hid k2
  clear h2 k2
  go_wp2_with fail
  refine (ipush_ok H2.out (by decide) 2).mono ?_
  rintro e w3 ⟨rfl, F3, h3, k3⟩
  have H3 := hid h3
  have K3 := hid k3
  clear h3 k3
  go_wp2_with fail
  refine (ipush_full H3.out rfl 3).mono ?_
  rintro e w' ⟨rfl, rfl⟩
  go_wp2_with fail
  refine (iforce_full (y := 1) (l := [2]) H3.out rfl 4).mono ?_
  rintro e w4 ⟨rfl, F4, h4, k4⟩
  have H4 := hid h4
  have K4 := hid k4
  clear h4 k4
  go_wp2_with fail
  refine (iall_any H4.out).mono ?_
  rintro e w5 ⟨v5, rfl, ho, k5, hb5⟩
  have hsl : SlI w5 v5 [2, 4] := Sl.ofOwn ho
  have HS := hid hsl
  have K5 := hid k5
  clear hsl ho k5 hb5
  go_wp2_with fail
  refine (msame_true (l := [2, 4]) (HS.out.alloc _) (Sl.new _ _ _ _ _ rfl (by decide))).mono ?_
  rintro e w6 ⟨rfl, k6⟩
  have K6 := hid k6
  clear k6
  go_wp2_with fail
  go_ret
  refine ⟨rfl, ?_⟩
  have u : Upd (fun k => k = w.heap.size) w1 w4 F4 := (K2.out.trans K3.out).trans K4.out
  have a1 : Keeps No w w4 := K1.out.trans' u.keeps (fun _ _ h => h) (fun i hi h => by omega)
  exact ((a1.trans K5.out).alloc _).trans K6.out

end Go.Proofs.Ytebodpphimfdoaa
