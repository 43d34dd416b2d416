/-
  A row of bytes of the call's own, known whole: made, set, copied into, turned into a text.
-/
import Derived.Test.YtbjmbndeaobbeaaDoorSup
import Derived.Laws.Rows
import Derived.Laws.Tables
import Derived.Laws.MakeOwn
import Derived.Laws.CopyOwn
import Derived.Lib.BufferWrite
import Derived.BigRegion
namespace Go.Proofs.YtbjmbndeaobbeaaDoor
open Go.RowKit
set_option linter.unusedVariables false
def vb (b : UInt8) : Value := .int .u8 (b.toNat : Int)
/-- Bytes as values. -/
def By (l : List UInt8) : Array Value := (l.map vb).toArray
theorem By_size (l : List UInt8) : (By l).size = l.length := by simp [By]
/-- Block g is a row of bytes of type T. -/
def Byt (T : TypeId) (w : World) (g : Nat) (l : List UInt8) : Prop := w.heap[g]? = some (.cells (By l) T (0, 0))
theorem Byt.lt {T : TypeId} {w : World} {g : Nat} {l : List UInt8} (h : Byt T w g l) : g < w.heap.size := (Array.getElem?_eq_some_iff.1 h).1
theorem Byt.cell {T : TypeId} {w : World} {g : Nat} {l : List UInt8} (h : Byt T w g l) (j : Nat) (hj : j < l.length) : w.cell? ⟨g, j, none⟩ = some (vb l[j]) := by
  rw [cell_of_row w g j _ T _ h]
  simp [By, List.getElem?_eq_getElem hj]
theorem Byt.free {T : TypeId} {w : World} {g : Nat} {l : List UInt8} (h : Byt T w g l) (j : Nat) : w.frozen? ⟨g, j, none⟩ = false := frozen_of_row w g j _ T h
theorem Byt.set {T : TypeId} {w : World} {g : Nat} {l : List UInt8} (h : Byt T w g l) (j : Nat) (v : UInt8) : Byt T (w.setCell ⟨g, j, none⟩ (vb v)) g (l.set j v) := by
  unfold Byt
  rw [heap_setCell_same w g j _ T _ h]
  congr 2
  apply Array.ext'
  simp [By, List.map_set]
theorem Byt.below {T : TypeId} {w w' : World} {g : Nat} {l : List UInt8} (h : Byt T w g l) (hb : Below w.heap.size w w') : Byt T w' g l := (hb.block g h.lt).trans h
theorem Byt.conv {T : TypeId} {w : World} {g : Nat} {l : List UInt8} (h : Byt T w g l) (n cap : Nat) (hn : n ≤ l.length) : (convert 85 9 (.slice (some ⟨g, 0, none⟩) n cap)).run Tryd.prog w = .ok (.string (Str (l.take n))) w := by
  have := run_convert_bytes_back (P := Tryd.prog) w 85 9 5 ⟨g, 0, none⟩ cap (l.take n) Tryd.underlying85 Tryd.underlying5 Tryd.underlying9 (fun j hj => by
    rw [addr_add, List.getElem_take]
    simpa [vb] using h.cell j (by rw [List.length_take] at hj; omega))
  rw [List.length_take, Nat.min_eq_left hn] at this
  exact this
theorem Byt.row {T : TypeId} {w : World} {g : Nat} {l : List UInt8} (h : Byt T w g l) (m : List UInt8) : Byt T (w.setRow g (By m)) g m := setRow_heap w g _ _ T _ h
set_option maxRecDepth 20000 in
/-- What 'make([]byte, n, c)' leaves. -/
theorem made_bytes (w : World) (n c : Nat) (hn : n ≤ c) (hc : c ≤ 140737488351232) : ∃ w2, (Instr.makeSlice 85 (.int .i64 (n : Int)) (.int .i64 (c : Int))).run Tryd.prog w = .ok (.slice (some ⟨w.heap.size, 0, none⟩) n c) w2 ∧ Byt 5 w2 w.heap.size (List.replicate c 0) ∧ Below w.heap.size w w2 := by
  have hr := run_make (P := Tryd.prog) w 85 5 Tryd.t5 (.int .u8 0) Tryd.underlying85 (by kernel_rfl) (by kernel_rfl) .i64 .i64 (n : Int) (c : Int) (by omega) (by omega) (by show ((1 : Nat) : Int) * _ ≤ _; omega) (by omega)
  have hsz : (Tryd.t5).size = 1 := by kernel_rfl
  rw [Int.toNat_natCast, Int.toNat_natCast, hsz, Nat.mul_one] at hr
  refine ⟨_, hr, ?_, (Below.refl _ _).alloc (Nat.le_refl _) _⟩
  unfold Byt
  rw [heap_alloc_new]
  congr 2
  apply Array.ext
  · simp [madeCells, By]
  · intro i h1 h2
    simp [madeCells, By, Value.cells, vb, Nat.mod_one]
theorem wpList_copy_text {P : Program} {w : World} {ops : Array Oper} {rest : List Oper} {o : Oper} {a : Act} {Q : Exit → Act → World → Prop} (hgd : o.guard = none) (d s : Operand) (dT sT : TypeId)
    (ho : o.op = .call { callee := .builtin .copy, args := #[d, s], argTypes := #[dT, sT] }) (elem : TypeId) (hu : P.underlying dT = some (.slice elem)) (hsz : (P.info? elem).map (·.size) = some 1)
    (g off dLen dCap : Nat) (hd : a.eval d = .slice (some ⟨g, off, none⟩) dLen dCap) (t : ByteArray) (hs : a.eval s = .string t)
    (l : List UInt8) (T : TypeId) (hg : Byt T w g l) (hle : t.size ≤ dLen) (hfit : off + t.size ≤ l.length)
    (h : wpList P ops Q rest (a.put o.dst (goInt t.size)) (w.setRow g (By (l.take off ++ t.data.toList ++ l.drop (off + t.size))))) : wpList P ops Q (o :: rest) a w := by
  refine wpList_plain hgd fun K hK => ?_
  have hrun := Lib.run_copy_row_string (P := P) w dT sT o.type elem g off dLen dCap t (By l) T hu hsz hg hle (by rw [By_size]; exact hfit)
  have e : ((By l).toList.take off ++ Lib.byteCells t.data.toList ++ (By l).toList.drop (off + t.size)).toArray = By (l.take off ++ t.data.toList ++ l.drop (off + t.size)) := by
    apply Array.ext'
    simp only [By, Lib.byteCells, List.map_append, List.map_take, List.map_drop]
    rfl
  rw [e] at hrun
  unfold Oper.wp
  simp [execOp, ho, resolve, invoke, builtin, hd, hs, hrun, Result.andThen]
  refine hK _ _ ?_
  simpa using h
end Go.Proofs.YtbjmbndeaobbeaaDoor
