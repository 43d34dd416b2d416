/-
  Blocks of records that a call does not reach, and their cells.
-/
import Derived.Test.YtlbnakoaflladaaEx14
import Derived.Outline
namespace Go.Proofs.Ytlbnakoaflladaa
open Go.RowKit
set_option linter.unusedVariables false
/-- A block that a call does not reach. -/
theorem kept {w w' : World} {g : Nat} {o : Obj} (h : w.heap[g]? = some o) (b : Below w.heap.size w w') : w'.heap[g]? = some o := by
  rw [b.block g (Array.getElem?_eq_some_iff.1 h).1]; exact h
theorem kept1 {w w' : World} {o : Obj} (b : Below (w.alloc o).heap.size (w.alloc o) w') : w'.heap[w.heap.size]? = some o := kept (heap_alloc_new w o) b
theorem kept2 {w w' : World} {g : Nat} {o p : Obj} (h : w.heap[g]? = some o) (b : Below (w.alloc p).heap.size (w.alloc p) w') : w'.heap[g]? = some o :=
  kept (by rw [heap_alloc_old w p (Array.getElem?_eq_some_iff.1 h).1]; exact h) b
theorem chain1 {w a b : World} {o : Obj} (h : Below w.heap.size w a) (k : Below (a.alloc o).heap.size (a.alloc o) b) : Below w.heap.size w b := chain (h.alloc h.size o) (by exact k)
theorem cells4 {w : World} {g : Nat} {v0 v1 v2 v3 : Value} {t : TypeId} {fr : Nat × Nat} (h : w.heap[g]? = some (.cells #[v0, v1, v2, v3] t fr)) : w.cell? ⟨g, 0, none⟩ = some v0 ∧ w.cell? ⟨g, 1, none⟩ = some v1 ∧ w.cell? ⟨g, 2, none⟩ = some v2 ∧ w.cell? ⟨g, 3, none⟩ = some v3 := by
  refine ⟨?_, ?_, ?_, ?_⟩ <;> (rw [Go.Joins.cell_of_block h]; rfl)
theorem cells10 {w : World} {g : Nat} {v0 v1 v2 v3 v4 v5 v6 v7 v8 v9 : Value} {t : TypeId} {fr : Nat × Nat} (h : w.heap[g]? = some (.cells #[v0, v1, v2, v3, v4, v5, v6, v7, v8, v9] t fr)) : w.cell? ⟨g, 0, none⟩ = some v0 ∧ w.cell? ⟨g, 1, none⟩ = some v1 ∧ w.cell? ⟨g, 2, none⟩ = some v2 ∧ w.cell? ⟨g, 3, none⟩ = some v3 ∧ w.cell? ⟨g, 4, none⟩ = some v4 ∧ w.cell? ⟨g, 5, none⟩ = some v5 ∧ w.cell? ⟨g, 6, none⟩ = some v6 ∧ w.cell? ⟨g, 7, none⟩ = some v7 ∧ w.cell? ⟨g, 8, none⟩ = some v8 ∧ w.cell? ⟨g, 9, none⟩ = some v9 := by
  refine ⟨?_, ?_, ?_, ?_, ?_, ?_, ?_, ?_, ?_, ?_⟩ <;> (rw [Go.Joins.cell_of_block h]; rfl)
theorem chainS {w a b : World} (h : Below w.heap.size w a) (k : Below a.heap.size a b) : Below w.heap.size w b := chain h k
/-- A block whose cell is written. -/
theorem stored {w : World} {g i : Nat} {cs : Array Value} {t : TypeId} {fr : Nat × Nat} (h : w.heap[g]? = some (.cells cs t fr)) (v : Value) : (w.setCell ⟨g, i, none⟩ v).heap[g]? = some (.cells (cs.setIfInBounds i v) t fr) :=
  Go.Joins.block_setCell h v
theorem stored_other {w : World} {g k i : Nat} {o : Obj} (h : w.heap[g]? = some o) (v : Value) (hk : k ≠ g) : (w.setCell ⟨k, i, none⟩ v).heap[g]? = some o := by
  rw [← h]; exact Below.heap_setCell w ⟨k, i, none⟩ v g (fun e => hk e.symm)
end Go.Proofs.Ytlbnakoaflladaa
