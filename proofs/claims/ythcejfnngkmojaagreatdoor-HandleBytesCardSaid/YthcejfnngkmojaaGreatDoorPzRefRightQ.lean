/-
 RefRightQ.
-/
import Derived.Test.YthcejfnngkmojaaGreatDoorPzRefSha1
import Derived.Outline
namespace Go.Proofs.YthcejfnngkmojaaGreatDoor
open Go.RowKit
set_option maxRecDepth 20000
set_option maxHeartbeats 12800000
set_option linter.unusedVariables false
set_option linter.unusedSimpArgs false
theorem AE (x:Nat) (w:World) (hx:x < 4294967296) :
  Calls Tryz.prog 160 #[.int .u32 (x:Int),.int .i64 2] w fun e w' => e=.returned (.int .u32 (S.rot x 2:Int))∧∃ n,w'=w.drewN n:=by
 have ho:=aH (x / 2 ^ 2) (x * 2 ^ (32 - 2) % 4294967296) (Nat.lt_of_le_of_lt (Nat.div_le_self _ _) hx) (Nat.mod_lt _ (by decide));rw [Nat.or_comm] at ho;change _=(S.rot x 2:Int) at ho;generalize S.rot x 2=r at *;simp only [Int.natCast_emod,Int.natCast_mul,Int.natCast_ediv,Nat.reducePow,Nat.reduceSub,Int.cast_ofNat_Int] at ho;go_enter Tryz.func160,Tryz.ntmps160;go_wp2_with fail
 go_quiet (fail)
 go_wp2_with fail;go_ret;exact ⟨rfl,_,rfl⟩
theorem AD (x:Nat) (w:World) (hx:x < 4294967296) :
  Calls Tryz.prog 160 #[.int .u32 (x:Int),.int .i64 6] w fun e w' => e=.returned (.int .u32 (S.rot x 6:Int))∧∃ n,w'=w.drewN n:=by
 have ho:=aH (x / 2 ^ 6) (x * 2 ^ (32 - 6) % 4294967296) (Nat.lt_of_le_of_lt (Nat.div_le_self _ _) hx) (Nat.mod_lt _ (by decide));rw [Nat.or_comm] at ho;change _=(S.rot x 6:Int) at ho;generalize S.rot x 6=r at *;simp only [Int.natCast_emod,Int.natCast_mul,Int.natCast_ediv,Nat.reducePow,Nat.reduceSub,Int.cast_ofNat_Int] at ho;go_enter Tryz.func160,Tryz.ntmps160;go_wp2_with fail
 go_quiet (fail)
 go_wp2_with fail;go_ret;exact ⟨rfl,_,rfl⟩
theorem wQ (x:Nat) (w:World) (hx:x < 4294967296) :
  Calls Tryz.prog 160 #[.int .u32 (x:Int),.int .i64 11] w fun e w' => e=.returned (.int .u32 (S.rot x 11:Int))∧∃ n,w'=w.drewN n:=by
 have ho:=aH (x / 2 ^ 11) (x * 2 ^ (32 - 11) % 4294967296) (Nat.lt_of_le_of_lt (Nat.div_le_self _ _) hx) (Nat.mod_lt _ (by decide));rw [Nat.or_comm] at ho;change _=(S.rot x 11:Int) at ho;generalize S.rot x 11=r at *;simp only [Int.natCast_emod,Int.natCast_mul,Int.natCast_ediv,Nat.reducePow,Nat.reduceSub,Int.cast_ofNat_Int] at ho;go_enter Tryz.func160,Tryz.ntmps160;go_wp2_with fail
 go_quiet (fail)
 go_wp2_with fail;go_ret;exact ⟨rfl,_,rfl⟩
theorem wP (x:Nat) (w:World) (hx:x < 4294967296) :
  Calls Tryz.prog 160 #[.int .u32 (x:Int),.int .i64 13] w fun e w' => e=.returned (.int .u32 (S.rot x 13:Int))∧∃ n,w'=w.drewN n:=by
 have ho:=aH (x / 2 ^ 13) (x * 2 ^ (32 - 13) % 4294967296) (Nat.lt_of_le_of_lt (Nat.div_le_self _ _) hx) (Nat.mod_lt _ (by decide));rw [Nat.or_comm] at ho;change _=(S.rot x 13:Int) at ho;generalize S.rot x 13=r at *;simp only [Int.natCast_emod,Int.natCast_mul,Int.natCast_ediv,Nat.reducePow,Nat.reduceSub,Int.cast_ofNat_Int] at ho;go_enter Tryz.func160,Tryz.ntmps160;go_wp2_with fail
 go_quiet (fail)
 go_wp2_with fail;go_ret;exact ⟨rfl,_,rfl⟩
theorem wO (x:Nat) (w:World) (hx:x < 4294967296) :
  Calls Tryz.prog 160 #[.int .u32 (x:Int),.int .i64 22] w fun e w' => e=.returned (.int .u32 (S.rot x 22:Int))∧∃ n,w'=w.drewN n:=by
 have ho:=aH (x / 2 ^ 22) (x * 2 ^ (32 - 22) % 4294967296) (Nat.lt_of_le_of_lt (Nat.div_le_self _ _) hx) (Nat.mod_lt _ (by decide));rw [Nat.or_comm] at ho;change _=(S.rot x 22:Int) at ho;generalize S.rot x 22=r at *;simp only [Int.natCast_emod,Int.natCast_mul,Int.natCast_ediv,Nat.reducePow,Nat.reduceSub,Int.cast_ofNat_Int] at ho;go_enter Tryz.func160,Tryz.ntmps160;go_wp2_with fail
 go_quiet (fail)
 go_wp2_with fail;go_ret;exact ⟨rfl,_,rfl⟩
theorem wN (x:Nat) (w:World) (hx:x < 4294967296) :
  Calls Tryz.prog 160 #[.int .u32 (x:Int),.int .i64 25] w fun e w' => e=.returned (.int .u32 (S.rot x 25:Int))∧∃ n,w'=w.drewN n:=by
 have ho:=aH (x / 2 ^ 25) (x * 2 ^ (32 - 25) % 4294967296) (Nat.lt_of_le_of_lt (Nat.div_le_self _ _) hx) (Nat.mod_lt _ (by decide));rw [Nat.or_comm] at ho;change _=(S.rot x 25:Int) at ho;generalize S.rot x 25=r at *;simp only [Int.natCast_emod,Int.natCast_mul,Int.natCast_ediv,Nat.reducePow,Nat.reduceSub,Int.cast_ofNat_Int] at ho;go_enter Tryz.func160,Tryz.ntmps160;go_wp2_with fail
 go_quiet (fail)
 go_wp2_with fail;go_ret;exact ⟨rfl,_,rfl⟩
theorem FJ (x:Nat) (k:Int) (w:World) (hx:x < 4294967296) (hk:k=2∨k=6∨k=11∨k=13∨k=22∨k=25) :
  Calls Tryz.prog 160 #[.int .u32 (x:Int),.int .i64 k] w fun e w' => e=.returned (.int .u32 (S.rot x k.toNat:Int))∧∃ n,w'=w.drewN n:=by
 rcases hk with rfl | rfl | rfl | rfl | rfl | rfl
 ·exact AE x w hx
 ·exact AD x w hx
 ·exact wQ x w hx
 ·exact wP x w hx
 ·exact wO x w hx
 ·exact wN x w hx
theorem RC (w:World) (a b:Nat):(w.drewN a).drewN b=w.drewN (a + b):=by
 unfold World.drewN; simp [Nat.add_assoc]
theorem lI (w0:World) (n:Nat) (x:Nat) (k:Int) (hx:x < 4294967296) (hk:k=2∨k=6∨k=11∨k=13∨k=22∨k=25) :
  Calls Tryz.prog 160 #[.int .u32 (x:Int),.int .i64 k] (w0.drewN n) fun e w' => e=.returned (.int .u32 (S.rot x k.toNat:Int))∧∃ m,w'=w0.drewN m:=by
 refine (FJ x k _ hx hk).mono ?_;rintro e w' ⟨rfl,m,rfl⟩;exact ⟨rfl,_,RC _ _ _⟩
end Go.Proofs.YthcejfnngkmojaaGreatDoor
