/-
  make([]byte, n) as one fact.
-/
import Derived.Test.YtglmepdgepjeiaaBuf
import Derived.Laws.MakeOwn
namespace Go.Proofs.Ytglmepdgepjeiaa
open Go.RowKit
set_option linter.unusedVariables false

theorem Buf.zeros (w : World) (n : Nat) (hn : n ≤ 140737488351232) : ∃ w2, (Instr.makeSlice 27 (.int .i64 (n : Int)) (.int .i64 (n : Int))).run Try.prog w = .ok (.slice (some ⟨w.heap.size, 0, none⟩) n n) w2 ∧ Buf w2 w.heap.size (List.replicate n 0) ∧ Below w.heap.size w w2 ∧
    (convert 27 9 (.slice (some ⟨w.heap.size, 0, none⟩) n n)).run Try.prog w2 = .ok (.string (Str (List.replicate n 0))) w2 := by
  have hr := run_make (P := Try.prog) w 27 5 Try.t5 (.int .u8 0) Try.underlying27 (by kernel_rfl) (by kernel_rfl) .i64 .i64 (n : Int) (n : Int) (by omega) (by omega) (by show ((1 : Nat) : Int) * _ ≤ _; omega) (by omega)
  have hsz : (Try.t5).size = 1 := by kernel_rfl
  rw [Int.toNat_natCast, hsz, Nat.mul_one] at hr
  have hB : Buf (w.alloc (.cells (madeCells (Value.int .u8 0).cells n) 5)) w.heap.size (List.replicate n 0) := by
    refine ⟨by simp, fun j hj => ?_⟩
    have hj' : j < n := by simpa using hj
    constructor
    · rw [World.cell?_alloc_new]
      simp only [madeCells, List.getElem_replicate, Array.getElem?_map]
      rw [Array.getElem?_range, if_pos hj']
      simp [Value.cells, Nat.mod_one]
    · have hh := heap_alloc_new w (.cells (madeCells (Value.int .u8 0).cells n) 5)
      simp only [World.frozen?, hh]
      simp
  refine ⟨_, hr, hB, (Below.refl _ _).alloc (Nat.le_refl _) _, ?_⟩
  have := hB.conv n
  rwa [List.length_replicate] at this
end Go.Proofs.Ytglmepdgepjeiaa
