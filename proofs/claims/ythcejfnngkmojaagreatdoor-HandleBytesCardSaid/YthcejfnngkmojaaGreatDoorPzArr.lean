/-
 Arr.
-/
import Derived.Test.YthcejfnngkmojaaGreatDoorPzShaMath
import Derived.Laws.Rows
import Derived.Laws.Tables
import Derived.BigRegion
namespace Go.Proofs.YthcejfnngkmojaaGreatDoor
open Go.RowKit
set_option maxRecDepth 20000
set_option maxHeartbeats 12800000
set_option linter.unusedVariables false
set_option linter.unusedSimpArgs false
def Arr (T:TypeId) (w:World) (g:Nat) (l:List Nat):Prop:=w.heap[g]?=some (.cells (U l) T (0,0))
theorem Arr.lt {T:TypeId} {w:World} {g:Nat} {l:List Nat} (h:Arr T w g l):g < w.heap.size:=(Array.getElem?_eq_some_iff.1 h).1
theorem Arr.cell {T:TypeId} {w:World} {g:Nat} {l:List Nat} (h:Arr T w g l) (j:Nat) (hj:j < l.length):w.cell? ⟨g,j,none⟩=some (.int .u32 ((l[j]:Nat):Int)):=by
 rw [cell_of_row w g j _ T _ h,aEW l j hj]
theorem Arr.free {T:TypeId} {w:World} {g:Nat} {l:List Nat} (h:Arr T w g l) (j:Nat):w.frozen? ⟨g,j,none⟩=false:=frozen_of_row w g j _ T h
theorem Arr.drew {T:TypeId} {w:World} {g:Nat} {l:List Nat} (h:Arr T w g l):Arr T w.drew g l:=h
theorem Arr.drewN {T:TypeId} {w:World} {g:Nat} {l:List Nat} (h:Arr T w g l) (n:Nat):Arr T (w.drewN n) g l:=h
theorem aEV (l:List Nat) (j v:Nat):(U l).setIfInBounds j (.int .u32 (v:Int))=U (l.set j v):=by
 apply Array.ext';simp [U,List.map_set]
theorem Arr.set {T:TypeId} {w:World} {g:Nat} {l:List Nat} (h:Arr T w g l) (j v:Nat):Arr T (w.setCell ⟨g,j,none⟩ (.int .u32 (v:Int))) g (l.set j v):=by
 unfold Arr;rw [heap_setCell_same w g j _ T _ h,aEV]
theorem Arr.other {T:TypeId} {w:World} {g:Nat} {l:List Nat} (h:Arr T w g l) (a:Addr) (v:Value) (hne:g≠a.block):Arr T (w.setCell a v) g l:=by
 unfold Arr;rw [heap_setCell_other w a g v hne];exact h
theorem Arr.alloc {T:TypeId} {w:World} {g:Nat} {l:List Nat} (h:Arr T w g l) (o:Obj):Arr T (w.alloc o) g l:=by
 unfold Arr;have hs:=h.lt;have:(w.alloc o).heap=w.heap.push o:=rfl;rw [this,Array.getElem?_push_lt hs];rw [← Array.getElem?_eq_getElem hs];exact h
theorem Arr.below {T:TypeId} {w w' : World} {g:Nat} {l:List Nat} (h:Arr T w g l) (hb:Below w.heap.size w w'):Arr T w' g l:=(hb.block g h.lt).trans h
theorem Arr.new {T:TypeId} (w:World) (l:List Nat):Arr T (w.alloc (.cells (U l) T)) w.heap.size l:=heap_alloc_new w _
theorem Arr.row {T:TypeId} {w:World} {g:Nat} {l:List Nat} (h:Arr T w g l) (m:List Nat):Arr T (w.setRow g (U m)) g m:=setRow_heap w g _ _ T _ h
end Go.Proofs.YthcejfnngkmojaaGreatDoor
