/-
 SlV.
-/
import Derived.Test.YthcejfnngkmojaaGreatDoorM17
import Derived.Test.YthcejfnngkmojaaGreatDoorMzSlM
import Derived.Laws.Rows
import Derived.Laws.Tables
namespace Go.Proofs.YthcejfnngkmojaaGreatDoor
open Go Go.RowKit
set_option maxRecDepth 20000
set_option maxHeartbeats 12800000
set_option linter.unusedVariables false
set_option linter.unusedSimpArgs false
theorem u8_cellA {w : World} {a : Option Addr} {len cap : Nat} {zs : List Int} (hk : IsInts .u8 w a len cap zs) (j : Nat) (hj : j < len) : ∃ (x : Addr) (z : Int), a = some x ∧ zs.getD j 0 = z ∧ (0 ≤ z ∧ z ≤ 255) ∧ Hid (∀ wr, Below w.heap.size w wr → wr.cell? (x.add j) = some (.int .u8 z)) := by
 rcases hk with ⟨rfl, rfl, rfl, rfl⟩ | ⟨x, rfl, h1, h2, h3, h4, h5⟩
 ·omega
 ·have hjl : j < zs.length := by omega
  refine ⟨x, _, rfl, rfl, ?_, Hd fun wr hb => ?_⟩
  ·have hm : zs.getD j 0 ∈ zs := by
    rw [List.getD_eq_getElem?_getD, List.getElem?_eq_getElem hjl];exact List.getElem_mem hjl
   have hw := h5 _ hm;generalize zs.getD j 0 = z at hw ⊢;simp [Lit.wf] at hw;have e1 : IntKind.u8.min = 0 := by rfl
   have e2 : IntKind.u8.max = 255 := by rfl
   omega
  ·have hc := h4 j hjl
   have hlt : (x.add j).block < w.heap.size := by
    unfold World.cell? at hc
    cases hq : w.heap[(x.add j).block]? with
    | none => rw [hq] at hc; simp at hc
    | some b => exact (Array.getElem?_eq_some_iff.1 hq).1
   exact (hb.cell hlt).trans hc
theorem u8_len {w : World} {a : Option Addr} {len cap : Nat} {zs : List Int} (hk : IsInts .u8 w a len cap zs) : (len : Int) ≤ 9223372036854775807 := by
 rcases hk with ⟨_, rfl, _, _⟩ | ⟨_, _, h1, h2, _⟩
 ·decide
 ·unfold maxLen at h2; omega
theorem setl_same {α : Type} {l : List α} {n : Nat} {x : α} (h : l[n]? = some x) : l.set n x = l := by
 apply List.ext_getElem?;intro k;rw [List.getElem?_set]
 by_cases hk : n = k
 ·subst hk
  rw [if_pos rfl, if_pos (List.getElem?_eq_some_iff.1 h).1, h]
 ·rw [if_neg hk]
def VI (l : List Int) : Array Value := (l.map fun x => Value.int .i64 x).toArray
def ArI (T : TypeId) (w : World) (g : Nat) (l : List Int) : Prop := w.heap[g]? = some (.cells (VI l) T (0, 0))
theorem ArI.cell {T : TypeId} {w : World} {g : Nat} {l : List Int} (h : ArI T w g l) {j : Nat} {x : Int} (hj : l[j]? = some x) : w.cell? ⟨g, j, none⟩ = some (.int .i64 x) := by
 rw [cell_of_row w g j _ T _ h];unfold VI;rw [List.getElem?_toArray, List.getElem?_map, hj]
 rfl
theorem ArI.free {T : TypeId} {w : World} {g : Nat} {l : List Int} (h : ArI T w g l) (j : Nat) : w.frozen? ⟨g, j, none⟩ = false := frozen_of_row w g j _ T h
theorem ArI.kept {T : TypeId} {w w' : World} {g : Nat} {l : List Int} (h : ArI T w g l) (hk : w'.heap[g]? = w.heap[g]?) : ArI T w' g l := hk.trans h
theorem ArI.set {T : TypeId} {w : World} {g : Nat} {l : List Int} (h : ArI T w g l) (j : Nat) (v : Int) : ArI T (w.setCell ⟨g, j, none⟩ (.int .i64 v)) g (l.set j v) := by
 unfold ArI;rw [heap_setCell_same w g j _ T _ h]
 congr 2
 unfold VI;rw [List.setIfInBounds_toArray, List.map_set]
end Go.Proofs.YthcejfnngkmojaaGreatDoor
