/-
  What stood in a block stands there still.
-/
import Derived.Test.YtbjmbndeaobbeaaDoorSup
namespace Go.Proofs.YtbjmbndeaobbeaaDoor
open Go.RowKit
theorem kept {w w' : World} {g : Nat} {o : Obj} (h : w.heap[g]? = some o) (b : Below w.heap.size w w') : w'.heap[g]? = some o := by
  rw [b.block g (Array.getElem?_eq_some_iff.1 h).1]; exact h
end Go.Proofs.YtbjmbndeaobbeaaDoor
