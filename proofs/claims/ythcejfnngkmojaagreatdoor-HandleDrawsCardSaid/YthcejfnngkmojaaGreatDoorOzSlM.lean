/-
 SlM.
-/
import Derived.Test.YthcejfnngkmojaaGreatDoorO01
namespace Go.Proofs.YthcejfnngkmojaaGreatDoor
open Go Go.RowKit
set_option maxRecDepth 20000
set_option maxHeartbeats 12800000
set_option linter.unusedVariables false
set_option linter.unusedSimpArgs false
theorem GA (a:Int) (k:Nat) (hk:0 < k):∃ f:Nat,f < k ∧ ((a < 0 ∧ -((a + 1).tmod (k:Int)) = (f:Int)) ∨ (0 ≤ a ∧ a % (k:Int) = (f:Int))):=by
 by_cases h0:a < 0
 ·refine ⟨((-(a + 1)) % (k:Int)).toNat,?_,.inl ⟨h0,?_⟩⟩
  ·have:=Int.emod_lt_of_pos (-(a + 1)) (show (0:Int) < (k:Int) by omega)
   omega
  ·have e:(a + 1).tmod (k:Int) = -((-(a + 1)).tmod (k:Int)):=by rw [Int.neg_tmod,Int.neg_neg]
   rw [e,Int.tmod_eq_emod_of_nonneg (by omega)];have:=Int.emod_nonneg (-(a + 1)) (show (k:Int) ≠ 0 by omega);omega
 ·refine ⟨(a % (k:Int)).toNat,?_,.inr ⟨by omega,?_⟩⟩
  ·have:=Int.emod_lt_of_pos a (show (0:Int) < (k:Int) by omega)
   omega
  ·have:=Int.emod_nonneg a (show (k:Int) ≠ 0 by omega)
   omega
theorem qZ (a:Int) (v:(Lit.int .i64 a).wf = true):-9223372036854775808 ≤ a ∧ a ≤ 9223372036854775807:=by
 simp only [Lit.wf,Bool.and_eq_true,decide_eq_true_eq] at v;exact v
end Go.Proofs.YthcejfnngkmojaaGreatDoor
