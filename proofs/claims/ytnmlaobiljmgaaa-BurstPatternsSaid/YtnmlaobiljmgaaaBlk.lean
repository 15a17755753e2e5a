/-
  Blocks known whole.
-/
import Derived.Test.YtnmlaobiljmgaaaLib2
namespace Go.Proofs.Ytnmlaobiljmgaaa
open Go.RowKit
set_option linter.unusedVariables false

/-- A block known whole, by a list. -/
def Bk (w : World) (b : Nat) (T : TypeId) (xs : List Value) : Prop := w.heap[b]? = some (.cells xs.toArray T (0, 0))
section
variable {w w' : World} {b : Nat} {T : TypeId} {xs : List Value}
theorem Bk.keep {S : Nat → Prop} (h : Bk w b T xs) (k : Keeps S w w') (hs : ¬ S b) : Bk w' b T xs := k.heap hs h
theorem Bk.kept (h : Bk w b T xs) (k : Keeps No w w') : Bk w' b T xs := k.heap (fun h => h) h
theorem Bk.cell (h : Bk w b T xs) (o : Nat) {v : Value} (hv : xs[o]? = some v) : w.cell? ⟨b, o, none⟩ = some v := cell_at h (by simpa using hv)
theorem Bk.free (h : Bk w b T xs) (o : Nat) : w.frozen? ⟨b, o, none⟩ = false := free_at h
theorem Bk.lt (h : Bk w b T xs) : b < w.heap.size := lt_of_block h
theorem Bk.put (h : Bk w b T xs) (o : Nat) (v : Value) {ys : List Value} (he : xs.set o v = ys) : Bk (w.setCell ⟨b, o, none⟩ v) b T ys := by
  subst he
  have := heap_setCell_at (i := o) (v := v) h
  simpa [Bk] using this
theorem Bk.other (h : Bk w b T xs) {p : Addr} (hp : ¬ b = p.block) (v : Value) : Bk (w.setCell p v) b T xs := by
  unfold Bk; rw [Below.heap_setCell _ _ _ _ hp]; exact h
theorem Bk.alloc (h : Bk w b T xs) (o : Obj) : Bk (w.alloc o) b T xs := heapA _ h
theorem Bk.drew (h : Bk w b T xs) : Bk w.drew b T xs := h
theorem Bk.drewN (h : Bk w b T xs) (n : Nat) : Bk (w.drewN n) b T xs := h
theorem Bk.new {k : Nat} (hk : w.heap.size = k) (xs : List Value) (T : TypeId) : Bk (w.alloc (.cells xs.toArray T)) k T xs := heap_alloc_at hk _
end

theorem Bk.put3 {w : World} {b : Nat} {T : TypeId} {u0 u1 u2 v0 v1 v2 : Value} (h : Bk w b T [u0, u1, u2]) : Bk (((w.setCell ⟨b, 0, none⟩ v0).setCell ⟨b, 1, none⟩ v1).setCell ⟨b, 2, none⟩ v2) b T [v0, v1, v2] := (((h.put 0 v0 rfl).put 1 v1 rfl).put 2 v2 rfl)
theorem Bk.other3 {w : World} {a b : Nat} {T : TypeId} {xs : List Value} {v0 v1 v2 : Value} (hab : ¬ a = b) (h : Bk w a T xs) : Bk (((w.setCell ⟨b, 0, none⟩ v0).setCell ⟨b, 1, none⟩ v1).setCell ⟨b, 2, none⟩ v2) a T xs := (((h.other (p := ⟨b, 0, none⟩) hab v0).other (p := ⟨b, 1, none⟩) hab v1).other (p := ⟨b, 2, none⟩) hab v2)
theorem Bk.put5 {w : World} {b : Nat} {T : TypeId} {u0 u1 u2 u3 u4 v0 v1 v2 v3 v4 : Value} (h : Bk w b T [u0, u1, u2, u3, u4]) : Bk (((((w.setCell ⟨b, 0, none⟩ v0).setCell ⟨b, 1, none⟩ v1).setCell ⟨b, 2, none⟩ v2).setCell ⟨b, 3, none⟩ v3).setCell ⟨b, 4, none⟩ v4) b T [v0, v1, v2, v3, v4] := (((((h.put 0 v0 rfl).put 1 v1 rfl).put 2 v2 rfl).put 3 v3 rfl).put 4 v4 rfl)
theorem Bk.other5 {w : World} {a b : Nat} {T : TypeId} {xs : List Value} {v0 v1 v2 v3 v4 : Value} (hab : ¬ a = b) (h : Bk w a T xs) : Bk (((((w.setCell ⟨b, 0, none⟩ v0).setCell ⟨b, 1, none⟩ v1).setCell ⟨b, 2, none⟩ v2).setCell ⟨b, 3, none⟩ v3).setCell ⟨b, 4, none⟩ v4) a T xs := (((((h.other (p := ⟨b, 0, none⟩) hab v0).other (p := ⟨b, 1, none⟩) hab v1).other (p := ⟨b, 2, none⟩) hab v2).other (p := ⟨b, 3, none⟩) hab v3).other (p := ⟨b, 4, none⟩) hab v4)

end Go.Proofs.Ytnmlaobiljmgaaa
