/-
  The document's example of a tracker; and what all samples that came say of a signal.
-/
import Derived.Test.YtaakmlgkfbpdoaaSmp2
namespace Go.Proofs.Ytaakmlgkfbpdoaa
open Go.RowKit

theorem tnext_z {w : World} {tb g : Nat} {L : List (Int × Int × Int)} (h : Tk w tb g L) {k : Nat} {z : Int} (hz : z = k) (hk : k < L.length) (hb : ∀ t ∈ L, 0 ≤ t.2.1 ∧ t.2.1 ≤ 100000 ∧ 0 ≤ t.2.2 ∧ t.2.2 ≤ 100000000) (sq v : Int) (b : Bool) (hq : 0 ≤ sq ∧ sq ≤ 255) (ht : 0 ≤ L[k].1 ∧ L[k].1 ≤ 255) {r : (Int × Bool) × (Int × Int × Int)} (hr : nextT L[k] sq = r) :
    Calls Try.prog 22 #[.pointer (some ⟨tb, 0, none⟩), .agg #[.int .i64 z, .int .u8 sq, .int .i64 v, .bool b]] w fun e w' => e = .returned (.tuple #[.int .i64 r.1.1, .bool r.1.2]) ∧ Tk w' tb g (L.set k r.2) ∧ Keeps (fun i => i = g) w w' := by
  subst hz
  subst hr
  exact tnext_in h hk h.blk.lt h.row.lt hb sq v b hq ht

theorem tcount_z {w : World} {tb g : Nat} {L : List (Int × Int × Int)} (h : Tk w tb g L) {k : Nat} {z : Int} (hz : z = k) (hk : k < L.length) {t : Int × Int × Int} (ht : L[k] = t) :
    Calls Try.prog 24 #[.pointer (some ⟨tb, 0, none⟩), .int .i64 z] w fun e w' => e = .returned (.tuple #[.int .i64 t.2.1, .int .i64 t.2.2]) ∧ Keeps No w w' := by
  subst hz
  subst ht
  exact tcount_in h hk

set_option maxHeartbeats 4000000 in
set_option maxRecDepth 100000 in
theorem gaps_true (w : World) :
    Calls Try.prog 14 #[] w fun r w' => r = .returned (.bool true) ∧ Keeps No w w' := by
  go_enter Try.func14, Try.ntmps14
  go_wp2_with fail
  with_reducible refine (tnew_any _ _).mono ?_
  rintro e w1 ⟨tb, g, rfl, ht, hk, h1, h2⟩
  have ht : Tk w1 tb g [(0, 0, 0)] := ht
  have HT1 := hid ht
  have K1 := hid hk
  have hlb := ht.blk.lt
  have hlg := ht.row.lt
  clear ht hk
  go_wp2_with fail
  with_reducible refine (tnext_z HT1.out (k := 0) (z := 0) rfl (by decide) (by intro t ht; simp at ht; subst ht; decide) 250 0 false (by decide) (by decide) (r := ((0, true), (250, 1, 0))) (by decide)).mono ?_
  rintro e w2 ⟨rfl, ht, hk⟩
  have ht : Tk w2 tb g [(250, 1, 0)] := ht
  have HT2 := hid ht
  have K2 := hid (K1.out.trans' hk (T := No) (fun _ _ h => h) (fun i hi e => by omega))
  have hlb := ht.blk.lt
  have hlg := ht.row.lt
  clear ht hk HT1 K1
  go_wp2_with fail
  with_reducible refine (tnext_z HT2.out (k := 0) (z := 0) rfl (by decide) (by intro t ht; simp at ht; subst ht; decide) 2 0 false (by decide) (by decide) (r := ((7, true), (2, 2, 7))) (by decide)).mono ?_
  rintro e w3 ⟨rfl, ht, hk⟩
  have K3 := hid (K2.out.trans' hk (T := No) (fun _ _ h => h) (fun i hi e => by omega))
  clear ht hk HT2 K2
  go_wp2_with fail
  go_ret
  exact ⟨rfl, K3.out⟩

end Go.Proofs.Ytaakmlgkfbpdoaa
