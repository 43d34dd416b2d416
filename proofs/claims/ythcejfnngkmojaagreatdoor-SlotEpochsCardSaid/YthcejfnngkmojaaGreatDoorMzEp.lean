/-
 Ep.
-/
import Derived.Test.YthcejfnngkmojaaGreatDoorM19
namespace Go.Proofs.YthcejfnngkmojaaGreatDoor
open Go Go.RowKit
set_option maxRecDepth 20000
set_option maxHeartbeats 12800000
set_option linter.unusedVariables false
set_option linter.unusedSimpArgs false
def epL (i : Nat) : List (Int × Int × Int) := List.replicate (i / 15) (0, 16, 0) ++ (if i % 15 = 0 then [] else [(0, ((i % 15 : Nat) : Int) + 1, 0)])
def epM (i : Nat) : List (Int × Int × Int) := List.replicate (i / 15) (0, 16, 0) ++ [(3, ((i % 15 : Nat) : Int) + 1, (i : Int))]
theorem epM_at (i : Nat) : (epM i)[i / 15]? = some (3, ((i % 15 : Nat) : Int) + 1, (i : Int)) := by
 unfold epM;rw [List.getElem?_append_right (by simp), List.length_replicate, Nat.sub_self]
 rfl
theorem epM_free (i : Nat) : (epM i).map (goneL 3) = epL (i + 1) ∧ ((epM i).filter (goneX 3)).length = 1 := by
 have h1 : goneX 3 (0, 16, 0) = false := by decide
 have h2 : goneX 3 (3, ((i % 15 : Nat) : Int) + 1, (i : Int)) = true := by unfold goneX liveB; rfl
 have e1 : goneL 3 (0, 16, 0) = (0, 16, 0) := by decide
 have e2 : goneL 3 (3, ((i % 15 : Nat) : Int) + 1, (i : Int)) = (0, ((i % 15 : Nat) : Int) + 1 + 1, 0) := by unfold goneL; rw [if_pos h2]
 refine ⟨?_, ?_⟩
 ·unfold epM epL
  rw [List.map_append, List.map_replicate, e1, List.map_cons, List.map_nil, e2]
  by_cases h : i % 15 = 14
  ·rw [if_pos (by omega), List.append_nil, show (i + 1) / 15 = i / 15 + 1 by omega, List.replicate_succ', h]
   rfl
  ·rw [if_neg (by omega), show (i + 1) / 15 = i / 15 by omega, show (i + 1) % 15 = i % 15 + 1 by omega]
   simp
 ·unfold epM
  rw [List.filter_append, List.filter_replicate_of_neg (by rw [h1]; decide), List.nil_append, List.filter_cons, if_pos h2]
  rfl
theorem epL_at (i : Nat) : (epL (i + 1))[i / 15]? = some (0, ((i % 15 : Nat) : Int) + 1 + 1, 0) := by
 rw [← (epM_free i).1, List.getElem?_map, epM_at];have h2 : goneX 3 (3, ((i % 15 : Nat) : Int) + 1, (i : Int)) = true := by unfold goneX liveB; rfl
 have e2 : goneL 3 (3, ((i % 15 : Nat) : Int) + 1, (i : Int)) = (0, ((i % 15 : Nat) : Int) + 1 + 1, 0) := by unfold goneL; rw [if_pos h2]
 rw [Option.map_some, e2]
theorem epL_zero {i : Nat} {x : Int × Int × Int} (h : x ∈ epL i) : x.1 = 0 := by
 unfold epL at h
 rcases List.mem_append.1 h with h | h
 ·rw [List.eq_of_mem_replicate h]
 ·by_cases hr : i % 15 = 0
  ·rw [if_pos hr] at h; cases h
  ·rw [if_neg hr] at h
   rw [List.mem_singleton.1 h]
theorem take_ep {w0 w : World} {R : List Nat} {t d s : Nat} {i : Nat} (h : TxS w0 R w t d s 640 (slE 0 (epL i))) (hL : SlL (epL i)) (hi : i ≤ 100) :
  Calls Tryz.prog 22 #[.pointer (some ⟨t, 0, none⟩), .int .i64 3, .int .u64 (i : Int)] w fun e w' => e = .returned (.tuple #[.agg #[.int .i64 ((i / 15 + 1 : Nat) : Int), .int .i64 3, .int .i64 (((i % 15 : Nat) : Int) + 1), .int .u64 (i : Int)], .int .i64 0]) ∧ TxS w0 R w' t d s 640 (slE 0 (epM i)) ∧ KeptT R t w w' ∧ SlL (epM i) := by
 have hbu : ∀ x ∈ epL i, bearsB x.1 x.2.2 (i : Int) = false := fun x hx => by
  unfold bearsB;rw [epL_zero hx]
  rfl
 by_cases hr : i % 15 = 0
 ·have e : epL i = List.replicate (i / 15) (0, 16, 0) := by unfold epL; rw [if_pos hr, List.append_nil]
  have e2 : epL i ++ [(3, 1, (i : Int))] = epM i := by rw [e]; unfold epM; rw [hr]; rfl
  have hlen : (epL i).length = i / 15 := by rw [e, List.length_replicate]
  have := stake_new (ca := 3) (nc := (i : Int)) h hL (by decide) (by omega) hbu (by omega) (fun y hy => by
   rw [e] at hy;rw [List.eq_of_mem_replicate hy]
   rfl)
  rw [e2, hlen] at this;rw [hr];exact this
 ·have e : epL i = List.replicate (i / 15) (0, 16, 0) ++ [(0, ((i % 15 : Nat) : Int) + 1, 0)] := by unfold epL; rw [if_neg hr]
  have hx : (epL i)[i / 15]? = some (0, ((i % 15 : Nat) : Int) + 1, 0) := by
   rw [e, List.getElem?_append_right (by simp), List.length_replicate, Nat.sub_self]
   rfl
  have e2 : (epL i).set (i / 15) (3, ((i % 15 : Nat) : Int) + 1, (i : Int)) = epM i := by
   rw [e];unfold epM;rw [List.set_append_right _ _ (by simp), List.length_replicate, Nat.sub_self]
   rfl
  have := stake_old (ca := 3) (nc := (i : Int)) h hL (by decide) (by omega) hbu hx (by unfold openB; simp; omega) (fun j y hj hy => by
   rw [e, List.getElem?_append_left (by simpa using hj)] at hy;rw [List.eq_of_mem_replicate (List.mem_of_getElem? hy)]
   rfl)
  rw [e2] at this;exact this
theorem free_ep {w0 w : World} {R : List Nat} {t d s : Nat} {i : Nat} (h : TxS w0 R w t d s 640 (slE 0 (epM i))) (hL : SlL (epM i)) :
  Calls Tryz.prog 23 #[.pointer (some ⟨t, 0, none⟩), .int .i64 3] w fun e w' => e = .returned (.tuple #[.int .i64 1, .int .i64 0]) ∧ TxS w0 R w' t d s 640 (slE 0 (epL (i + 1))) ∧ KeptT R t w w' := by
 have := sfree_L 3 h hL;rw [(epM_free i).1, (epM_free i).2] at this;exact this
theorem epM_ok {i : Nat} (h : SlL (epM i)) : SlL (epL (i + 1)) := by
 rw [← (epM_free i).1];exact h.free 3
end Go.Proofs.YthcejfnngkmojaaGreatDoor
