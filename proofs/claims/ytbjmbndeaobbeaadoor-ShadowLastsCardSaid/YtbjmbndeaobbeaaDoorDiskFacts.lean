/-
  Plain facts on what a disk does.
-/
import Derived.Test.YtbjmbndeaobbeaaDoorDiskC
namespace Go.Proofs.YtbjmbndeaobbeaaDoor
open Go.RowKit
set_option linter.unusedVariables false
theorem loosened_up (st : DkS) (n : Nat) : (st.loosened n).up = st.up := by unfold DkS.loosened; split <;> rfl
theorem loosened_fuse (st : DkS) (n : Nat) : (st.loosened n).fuse = st.fuse := by unfold DkS.loosened; split <;> rfl
theorem wrote_up (st : DkS) (n : Nat) (s : List UInt8) : (st.wrote n s).up = st.up := by
  show (DkS.loosened _ n).up = _
  rw [loosened_up]
theorem wrote_fuse (st : DkS) (n : Nat) (s : List UInt8) : (st.wrote n s).fuse = if 0 < st.fuse then st.fuse - 1 else st.fuse := by
  show (DkS.loosened _ n).fuse = _
  rw [loosened_fuse]
theorem wrote_S (st : DkS) (n : Nat) (s : List UInt8) : (st.wrote n s).S = st.S.set n s := by
  show (DkS.loosened _ n).S.set n s = _
  rw [loosened_S]
theorem wrote_L (st : DkS) (n : Nat) (s : List UInt8) : (st.wrote n s).L = if st.L.any (fun p => p.1 == n) = true then st.L else st.L ++ [(n, st.S.getD n [])] := by
  show (DkS.loosened _ n).L = _
  unfold DkS.loosened
  by_cases h : (st.L.any fun p => p.1 == n) = true
  · rw [if_pos h, if_pos h]
  · rw [if_neg h, if_neg h]
/-- A Write that is done. -/
theorem write_done (st : DkS) (n : Nat) (s : List UInt8) (hu : st.up = true) (hn : n < st.S.length) (hs : s.length = 256) (hf : st.fuse ≠ 0) : st.write (n : Int) s = (st.wrote n s, 0) := by
  unfold DkS.write
  rw [if_neg (by rw [hu]; simp), if_neg (by rw [hs]; simp; omega), if_neg hf]
  rfl
theorem read_done (st : DkS) (n : Nat) (hu : st.up = true) (hn : n < st.S.length) : st.read (n : Int) = (st.S[n], 0) := by
  unfold DkS.read
  rw [if_neg (by rw [hu]; simp), if_neg (by simp; omega), Int.toNat_natCast, List.getD_eq_getElem?_getD, List.getElem?_eq_getElem hn]
  rfl
end Go.Proofs.YtbjmbndeaobbeaaDoor
