/-
  Texts that came in, and their beginnings.
-/
import Derived.Test.YtbjmbndeaobbeaaDoorShE
namespace Go.Proofs.YtbjmbndeaobbeaaDoor
open Go.RowKit
set_option linter.unusedVariables false
set_option linter.unusedSimpArgs false
theorem text_cellA {w : World} {a : Option Addr} {len cap : Nat} {ss : List ByteArray} (hk : IsStrs w a len cap ss) (j : Nat) (hj : j < len) : ∃ x s, a = some x ∧ Hid ((∀ wr, Below w.heap.size w wr → wr.cell? (x.add j) = some (.string s)) ∧ ss.getD j ByteArray.empty = s) := by
  rcases hk with ⟨rfl, rfl, rfl, rfl⟩ | ⟨x, rfl, h1, h2, h3, h4, h5⟩
  · omega
  · have hjl : j < ss.length := by omega
    refine ⟨x, _, rfl, Lib.hid ⟨fun wr hb => ?_, rfl⟩⟩
    have hc := h4 j hjl
    have hlt : (x.add j).block < w.heap.size := by
      unfold World.cell? at hc
      cases hq : w.heap[(x.add j).block]? with
      | none => rw [hq] at hc; simp at hc
      | some b => exact (Array.getElem?_eq_some_iff.1 hq).1
    exact (hb.cell hlt).trans hc
def cut240 (s : ByteArray) : ByteArray := s.extract 0 (if (240 : Int) < (s.size : Int) then (240 : Int) else (s.size : Int)).toNat
theorem cut240_le (s : ByteArray) : (cut240 s).size ≤ 240 := by
  unfold cut240; rw [ByteArray.size_extract]; split <;> omega
end Go.Proofs.YtbjmbndeaobbeaaDoor
