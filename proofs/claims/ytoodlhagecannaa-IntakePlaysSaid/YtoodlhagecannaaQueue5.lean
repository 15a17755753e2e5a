/-
  The document's example for layer 2 holds.
-/
import Derived.Test.YtoodlhagecannaaQueue4
namespace Go.Proofs.Ytoodlhagecannaa
open Go.RowKit

/-- A queue of the call's own, behind a step that changed it alone. -/
theorem QueueE.own {w wr wr' : World} {F F' : Nat → Prop} (hF : ∀ i, F i → w.heap.size ≤ i) (hk : Keeps No w wr) (hu : Upd F wr wr' F') : (∀ i, F' i → w.heap.size ≤ i) ∧ Keeps No w wr' := newUpd hF hk hu

end Go.Proofs.Ytoodlhagecannaa
