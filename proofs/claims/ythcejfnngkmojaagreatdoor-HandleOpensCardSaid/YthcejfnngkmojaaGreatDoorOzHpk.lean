/-
 Hpk.
-/
import Derived.Test.YthcejfnngkmojaaGreatDoorOzSlM
namespace Go.Proofs.YthcejfnngkmojaaGreatDoor
open Go Go.RowKit
set_option maxRecDepth 20000
set_option maxHeartbeats 12800000
set_option linter.unusedVariables false
set_option linter.unusedSimpArgs false
def LJ (a:Int) (k m:Nat):Prop:=m < k ∧ ((a < 0 ∧ -((a + 1).tmod (k:Int)) = (m:Int)) ∨ (0 ≤ a ∧ a % (k:Int) = (m:Int)))
theorem AU (a:Int) (k:Nat) (hk:0 < k):∃ m,LJ a k m:=GA a k hk
theorem aDT (a:Int) (m:Nat) (w:World) (h:LJ a 21 m) (a0:-9223372036854775808 ≤ a) (a1:a ≤ 9223372036854775807) :
  Calls Tryz.prog 32 #[.int .i64 a,.int .i64 21] w fun e w' => e = .returned (.int .i64 (m:Int)) ∧ w = w' := by
 obtain ⟨hm,h⟩:=h;have hm' : (m:Int) < 21:=by omega
 obtain ⟨x,hx⟩:∃ x:Int,(m:Int) = x:=⟨_,rfl⟩
 rw [hx] at h hm' ⊢;have hw:IntKind.i64.wrap x = x:=IntWalk.i64_in _ (by omega);clear hx hm
 rcases h with ⟨ha,hr⟩ | ⟨ha,hr⟩
 ·have hr' : -((a + 1).tmod 21) = x:=hr
  clear hr;go_enter Tryz.func32,Tryz.ntmps32;go_wp2_with fail;go_ret;exact ⟨rfl,rfl⟩
 ·have hr' : a % 21 = x:=hr
  have ha' : ¬ a < 0:=by omega
  clear hr;go_enter Tryz.func32,Tryz.ntmps32;go_wp2_with fail;go_ret;exact ⟨rfl,rfl⟩
theorem NW (a:Int) (m:Nat) (w:World) (h:LJ a 16 m) (a0:-9223372036854775808 ≤ a) (a1:a ≤ 9223372036854775807) :
  Calls Tryz.prog 32 #[.int .i64 a,.int .i64 16] w fun e w' => e = .returned (.int .i64 (m:Int)) ∧ w = w' := by
 obtain ⟨hm,h⟩:=h;have hm' : (m:Int) < 16:=by omega
 obtain ⟨x,hx⟩:∃ x:Int,(m:Int) = x:=⟨_,rfl⟩
 rw [hx] at h hm' ⊢;have hw:IntKind.i64.wrap x = x:=IntWalk.i64_in _ (by omega);clear hx hm
 rcases h with ⟨ha,hr⟩ | ⟨ha,hr⟩
 ·have hr' : -((a + 1).tmod 16) = x:=hr
  clear hr;go_enter Tryz.func32,Tryz.ntmps32;go_wp2_with fail;go_ret;exact ⟨rfl,rfl⟩
 ·have hr' : a % 16 = x:=hr
  have ha' : ¬ a < 0:=by omega
  clear hr;go_enter Tryz.func32,Tryz.ntmps32;go_wp2_with fail;go_ret;exact ⟨rfl,rfl⟩
theorem UK (a:Int) (m:Nat) (w:World) (h:LJ a 4 m) (a0:-9223372036854775808 ≤ a) (a1:a ≤ 9223372036854775807) :
  Calls Tryz.prog 32 #[.int .i64 a,.int .i64 4] w fun e w' => e = .returned (.int .i64 (m:Int)) ∧ w = w' := by
 obtain ⟨hm,h⟩:=h;have hm' : (m:Int) < 4:=by omega
 obtain ⟨x,hx⟩:∃ x:Int,(m:Int) = x:=⟨_,rfl⟩
 rw [hx] at h hm' ⊢;have hw:IntKind.i64.wrap x = x:=IntWalk.i64_in _ (by omega);clear hx hm
 rcases h with ⟨ha,hr⟩ | ⟨ha,hr⟩
 ·have hr' : -((a + 1).tmod 4) = x:=hr
  clear hr;go_enter Tryz.func32,Tryz.ntmps32;go_wp2_with fail;go_ret;exact ⟨rfl,rfl⟩
 ·have hr' : a % 4 = x:=hr
  have ha' : ¬ a < 0:=by omega
  clear hr;go_enter Tryz.func32,Tryz.ntmps32;go_wp2_with fail;go_ret;exact ⟨rfl,rfl⟩
end Go.Proofs.YthcejfnngkmojaaGreatDoor
