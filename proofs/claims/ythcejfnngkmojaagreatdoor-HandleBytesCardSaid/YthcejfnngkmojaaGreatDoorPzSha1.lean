/-
 Sha1.
-/
import Derived.Test.YthcejfnngkmojaaGreatDoorPzShaMath
import Derived.Outline
namespace Go.Proofs.YthcejfnngkmojaaGreatDoor
open Go.RowKit
set_option maxRecDepth 20000
set_option maxHeartbeats 12800000
set_option linter.unusedVariables false
set_option linter.unusedSimpArgs false
theorem aCS (x:Nat) (w:World) (hx:x < 4294967296) :
  Calls Tryz.prog 201 #[.int .u32 (x:Int),.int .i64 (-2)] w fun e w' => e=.returned (.int .u32 (S.rot x 2:Int))∧w=w' := by
 have ho:=aH (x * 2 ^ (32 - 2) % 4294967296) (x / 2 ^ 2) (Nat.mod_lt _ (by decide)) (Nat.lt_of_le_of_lt (Nat.div_le_self _ _) hx);have hb:bits .and .u64 (IntKind.u64.wrap (-2)) 31=30:=by decide
 change _=(S.rot x 2:Int) at ho;generalize S.rot x 2=r at *;simp only [Int.natCast_emod,Int.natCast_mul,Int.natCast_ediv,Nat.reducePow,Nat.reduceSub,Int.cast_ofNat_Int] at ho;go_enter Tryz.func201,Tryz.ntmps201;go_wp2_with fail;go_ret;exact ⟨rfl,rfl⟩
theorem aAD (x:Nat) (w:World) (hx:x < 4294967296) :
  Calls Tryz.prog 180 #[.int .u32 (x:Int),.int .i64 2] w fun e w' => e=.returned (.int .u32 (S.rot x 2:Int))∧w=w' := by
 go_enter Tryz.func180,Tryz.ntmps180;go_wp2_with fail;refine (aCS _ _ hx).mono ?_;rintro e w1 ⟨rfl,rfl⟩;go_wp2_with fail;go_ret;exact ⟨rfl,rfl⟩
theorem aCR (x:Nat) (w:World) (hx:x < 4294967296) :
  Calls Tryz.prog 201 #[.int .u32 (x:Int),.int .i64 (-6)] w fun e w' => e=.returned (.int .u32 (S.rot x 6:Int))∧w=w' := by
 have ho:=aH (x * 2 ^ (32 - 6) % 4294967296) (x / 2 ^ 6) (Nat.mod_lt _ (by decide)) (Nat.lt_of_le_of_lt (Nat.div_le_self _ _) hx);have hb:bits .and .u64 (IntKind.u64.wrap (-6)) 31=26:=by decide
 change _=(S.rot x 6:Int) at ho;generalize S.rot x 6=r at *;simp only [Int.natCast_emod,Int.natCast_mul,Int.natCast_ediv,Nat.reducePow,Nat.reduceSub,Int.cast_ofNat_Int] at ho;go_enter Tryz.func201,Tryz.ntmps201;go_wp2_with fail;go_ret;exact ⟨rfl,rfl⟩
theorem aAC (x:Nat) (w:World) (hx:x < 4294967296) :
  Calls Tryz.prog 180 #[.int .u32 (x:Int),.int .i64 6] w fun e w' => e=.returned (.int .u32 (S.rot x 6:Int))∧w=w' := by
 go_enter Tryz.func180,Tryz.ntmps180;go_wp2_with fail;refine (aCR _ _ hx).mono ?_;rintro e w1 ⟨rfl,rfl⟩;go_wp2_with fail;go_ret;exact ⟨rfl,rfl⟩
theorem aCQ (x:Nat) (w:World) (hx:x < 4294967296) :
  Calls Tryz.prog 201 #[.int .u32 (x:Int),.int .i64 (-7)] w fun e w' => e=.returned (.int .u32 (S.rot x 7:Int))∧w=w' := by
 have ho:=aH (x * 2 ^ (32 - 7) % 4294967296) (x / 2 ^ 7) (Nat.mod_lt _ (by decide)) (Nat.lt_of_le_of_lt (Nat.div_le_self _ _) hx);have hb:bits .and .u64 (IntKind.u64.wrap (-7)) 31=25:=by decide
 change _=(S.rot x 7:Int) at ho;generalize S.rot x 7=r at *;simp only [Int.natCast_emod,Int.natCast_mul,Int.natCast_ediv,Nat.reducePow,Nat.reduceSub,Int.cast_ofNat_Int] at ho;go_enter Tryz.func201,Tryz.ntmps201;go_wp2_with fail;go_ret;exact ⟨rfl,rfl⟩
theorem KI (x:Nat) (w:World) (hx:x < 4294967296) :
  Calls Tryz.prog 180 #[.int .u32 (x:Int),.int .i64 7] w fun e w' => e=.returned (.int .u32 (S.rot x 7:Int))∧w=w' := by
 go_enter Tryz.func180,Tryz.ntmps180;go_wp2_with fail;refine (aCQ _ _ hx).mono ?_;rintro e w1 ⟨rfl,rfl⟩;go_wp2_with fail;go_ret;exact ⟨rfl,rfl⟩
theorem aAA (x:Nat) (w:World) (hx:x < 4294967296) :
  Calls Tryz.prog 201 #[.int .u32 (x:Int),.int .i64 (-11)] w fun e w' => e=.returned (.int .u32 (S.rot x 11:Int))∧w=w' := by
 have ho:=aH (x * 2 ^ (32 - 11) % 4294967296) (x / 2 ^ 11) (Nat.mod_lt _ (by decide)) (Nat.lt_of_le_of_lt (Nat.div_le_self _ _) hx);have hb:bits .and .u64 (IntKind.u64.wrap (-11)) 31=21:=by decide
 change _=(S.rot x 11:Int) at ho;generalize S.rot x 11=r at *;simp only [Int.natCast_emod,Int.natCast_mul,Int.natCast_ediv,Nat.reducePow,Nat.reduceSub,Int.cast_ofNat_Int] at ho;go_enter Tryz.func201,Tryz.ntmps201;go_wp2_with fail;go_ret;exact ⟨rfl,rfl⟩
theorem UN (x:Nat) (w:World) (hx:x < 4294967296) :
  Calls Tryz.prog 180 #[.int .u32 (x:Int),.int .i64 11] w fun e w' => e=.returned (.int .u32 (S.rot x 11:Int))∧w=w' := by
 go_enter Tryz.func180,Tryz.ntmps180;go_wp2_with fail;refine (aAA _ _ hx).mono ?_;rintro e w1 ⟨rfl,rfl⟩;go_wp2_with fail;go_ret;exact ⟨rfl,rfl⟩
theorem ZZ (x:Nat) (w:World) (hx:x < 4294967296) :
  Calls Tryz.prog 201 #[.int .u32 (x:Int),.int .i64 (-13)] w fun e w' => e=.returned (.int .u32 (S.rot x 13:Int))∧w=w' := by
 have ho:=aH (x * 2 ^ (32 - 13) % 4294967296) (x / 2 ^ 13) (Nat.mod_lt _ (by decide)) (Nat.lt_of_le_of_lt (Nat.div_le_self _ _) hx);have hb:bits .and .u64 (IntKind.u64.wrap (-13)) 31=19:=by decide
 change _=(S.rot x 13:Int) at ho;generalize S.rot x 13=r at *;simp only [Int.natCast_emod,Int.natCast_mul,Int.natCast_ediv,Nat.reducePow,Nat.reduceSub,Int.cast_ofNat_Int] at ho;go_enter Tryz.func201,Tryz.ntmps201;go_wp2_with fail;go_ret;exact ⟨rfl,rfl⟩
theorem UM (x:Nat) (w:World) (hx:x < 4294967296) :
  Calls Tryz.prog 180 #[.int .u32 (x:Int),.int .i64 13] w fun e w' => e=.returned (.int .u32 (S.rot x 13:Int))∧w=w' := by
 go_enter Tryz.func180,Tryz.ntmps180;go_wp2_with fail;refine (ZZ _ _ hx).mono ?_;rintro e w1 ⟨rfl,rfl⟩;go_wp2_with fail;go_ret;exact ⟨rfl,rfl⟩
theorem ZY (x:Nat) (w:World) (hx:x < 4294967296) :
  Calls Tryz.prog 201 #[.int .u32 (x:Int),.int .i64 (-17)] w fun e w' => e=.returned (.int .u32 (S.rot x 17:Int))∧w=w' := by
 have ho:=aH (x * 2 ^ (32 - 17) % 4294967296) (x / 2 ^ 17) (Nat.mod_lt _ (by decide)) (Nat.lt_of_le_of_lt (Nat.div_le_self _ _) hx);have hb:bits .and .u64 (IntKind.u64.wrap (-17)) 31=15:=by decide
 change _=(S.rot x 17:Int) at ho;generalize S.rot x 17=r at *;simp only [Int.natCast_emod,Int.natCast_mul,Int.natCast_ediv,Nat.reducePow,Nat.reduceSub,Int.cast_ofNat_Int] at ho;go_enter Tryz.func201,Tryz.ntmps201;go_wp2_with fail;go_ret;exact ⟨rfl,rfl⟩
theorem zT (x:Nat) (w:World) (hx:x < 4294967296) :
  Calls Tryz.prog 180 #[.int .u32 (x:Int),.int .i64 17] w fun e w' => e=.returned (.int .u32 (S.rot x 17:Int))∧w=w' := by
 go_enter Tryz.func180,Tryz.ntmps180;go_wp2_with fail;refine (ZY _ _ hx).mono ?_;rintro e w1 ⟨rfl,rfl⟩;go_wp2_with fail;go_ret;exact ⟨rfl,rfl⟩
theorem ZX (x:Nat) (w:World) (hx:x < 4294967296) :
  Calls Tryz.prog 201 #[.int .u32 (x:Int),.int .i64 (-18)] w fun e w' => e=.returned (.int .u32 (S.rot x 18:Int))∧w=w' := by
 have ho:=aH (x * 2 ^ (32 - 18) % 4294967296) (x / 2 ^ 18) (Nat.mod_lt _ (by decide)) (Nat.lt_of_le_of_lt (Nat.div_le_self _ _) hx);have hb:bits .and .u64 (IntKind.u64.wrap (-18)) 31=14:=by decide
 change _=(S.rot x 18:Int) at ho;generalize S.rot x 18=r at *;simp only [Int.natCast_emod,Int.natCast_mul,Int.natCast_ediv,Nat.reducePow,Nat.reduceSub,Int.cast_ofNat_Int] at ho;go_enter Tryz.func201,Tryz.ntmps201;go_wp2_with fail;go_ret;exact ⟨rfl,rfl⟩
theorem zS (x:Nat) (w:World) (hx:x < 4294967296) :
  Calls Tryz.prog 180 #[.int .u32 (x:Int),.int .i64 18] w fun e w' => e=.returned (.int .u32 (S.rot x 18:Int))∧w=w' := by
 go_enter Tryz.func180,Tryz.ntmps180;go_wp2_with fail;refine (ZX _ _ hx).mono ?_;rintro e w1 ⟨rfl,rfl⟩;go_wp2_with fail;go_ret;exact ⟨rfl,rfl⟩
theorem ZV (x:Nat) (w:World) (hx:x < 4294967296) :
  Calls Tryz.prog 201 #[.int .u32 (x:Int),.int .i64 (-19)] w fun e w' => e=.returned (.int .u32 (S.rot x 19:Int))∧w=w' := by
 have ho:=aH (x * 2 ^ (32 - 19) % 4294967296) (x / 2 ^ 19) (Nat.mod_lt _ (by decide)) (Nat.lt_of_le_of_lt (Nat.div_le_self _ _) hx);have hb:bits .and .u64 (IntKind.u64.wrap (-19)) 31=13:=by decide
 change _=(S.rot x 19:Int) at ho;generalize S.rot x 19=r at *;simp only [Int.natCast_emod,Int.natCast_mul,Int.natCast_ediv,Nat.reducePow,Nat.reduceSub,Int.cast_ofNat_Int] at ho;go_enter Tryz.func201,Tryz.ntmps201;go_wp2_with fail;go_ret;exact ⟨rfl,rfl⟩
theorem zR (x:Nat) (w:World) (hx:x < 4294967296) :
  Calls Tryz.prog 180 #[.int .u32 (x:Int),.int .i64 19] w fun e w' => e=.returned (.int .u32 (S.rot x 19:Int))∧w=w' := by
 go_enter Tryz.func180,Tryz.ntmps180;go_wp2_with fail;refine (ZV _ _ hx).mono ?_;rintro e w1 ⟨rfl,rfl⟩;go_wp2_with fail;go_ret;exact ⟨rfl,rfl⟩
theorem ZU (x:Nat) (w:World) (hx:x < 4294967296) :
  Calls Tryz.prog 201 #[.int .u32 (x:Int),.int .i64 (-22)] w fun e w' => e=.returned (.int .u32 (S.rot x 22:Int))∧w=w' := by
 have ho:=aH (x * 2 ^ (32 - 22) % 4294967296) (x / 2 ^ 22) (Nat.mod_lt _ (by decide)) (Nat.lt_of_le_of_lt (Nat.div_le_self _ _) hx);have hb:bits .and .u64 (IntKind.u64.wrap (-22)) 31=10:=by decide
 change _=(S.rot x 22:Int) at ho;generalize S.rot x 22=r at *;simp only [Int.natCast_emod,Int.natCast_mul,Int.natCast_ediv,Nat.reducePow,Nat.reduceSub,Int.cast_ofNat_Int] at ho;go_enter Tryz.func201,Tryz.ntmps201;go_wp2_with fail;go_ret;exact ⟨rfl,rfl⟩
theorem UL (x:Nat) (w:World) (hx:x < 4294967296) :
  Calls Tryz.prog 180 #[.int .u32 (x:Int),.int .i64 22] w fun e w' => e=.returned (.int .u32 (S.rot x 22:Int))∧w=w' := by
 go_enter Tryz.func180,Tryz.ntmps180;go_wp2_with fail;refine (ZU _ _ hx).mono ?_;rintro e w1 ⟨rfl,rfl⟩;go_wp2_with fail;go_ret;exact ⟨rfl,rfl⟩
theorem ZT (x:Nat) (w:World) (hx:x < 4294967296) :
  Calls Tryz.prog 201 #[.int .u32 (x:Int),.int .i64 (-25)] w fun e w' => e=.returned (.int .u32 (S.rot x 25:Int))∧w=w' := by
 have ho:=aH (x * 2 ^ (32 - 25) % 4294967296) (x / 2 ^ 25) (Nat.mod_lt _ (by decide)) (Nat.lt_of_le_of_lt (Nat.div_le_self _ _) hx);have hb:bits .and .u64 (IntKind.u64.wrap (-25)) 31=7:=by decide
 change _=(S.rot x 25:Int) at ho;generalize S.rot x 25=r at *;simp only [Int.natCast_emod,Int.natCast_mul,Int.natCast_ediv,Nat.reducePow,Nat.reduceSub,Int.cast_ofNat_Int] at ho;go_enter Tryz.func201,Tryz.ntmps201;go_wp2_with fail;go_ret;exact ⟨rfl,rfl⟩
theorem UK (x:Nat) (w:World) (hx:x < 4294967296) :
  Calls Tryz.prog 180 #[.int .u32 (x:Int),.int .i64 25] w fun e w' => e=.returned (.int .u32 (S.rot x 25:Int))∧w=w' := by
 go_enter Tryz.func180,Tryz.ntmps180;go_wp2_with fail;refine (ZT _ _ hx).mono ?_;rintro e w1 ⟨rfl,rfl⟩;go_wp2_with fail;go_ret;exact ⟨rfl,rfl⟩
end Go.Proofs.YthcejfnngkmojaaGreatDoor
