/-
 RefSha1.
-/
import Derived.Test.YthcejfnngkmojaaGreatDoorPzTurn2
import Derived.Outline
namespace Go.Proofs.YthcejfnngkmojaaGreatDoor
open Go.RowKit
set_option maxRecDepth 20000
set_option maxHeartbeats 12800000
set_option linter.unusedVariables false
set_option linter.unusedSimpArgs false
theorem wR (w:World) :
  Calls Tryz.prog 156 #[] w fun e w' => ∃ g,e=.returned (.slice (some ⟨g,0,none⟩) 8 8)∧Arr 43 w' g S.HS.list∧w.heap.size≤g∧Below w.heap.size w w' := by
 go_enter Tryz.func156,Tryz.ntmps156;go_wp2_with fail;go_ret;exact ⟨_,rfl,(heap_alloc_new w _).trans (by kernel_rfl),Nat.le_refl _,Br.alloc (Nat.le_refl _) _⟩
theorem wL (w:World) :
  Calls Tryz.prog 157 #[] w fun e w' => ∃ g,e=.returned (.slice (some ⟨g,0,none⟩) 64 64)∧Arr 43 w' g S.KS∧w.heap.size≤g∧Below w.heap.size w w' := by
 go_enter Tryz.func157,Tryz.ntmps157;go_wp2_with fail;go_ret;exact ⟨_,rfl,(heap_alloc_new w _).trans (by kernel_rfl),Nat.le_refl _,Br.alloc (Nat.le_refl _) _⟩
theorem FO (x:Nat) (w:World) (hx:x < 4294967296) :
  Calls Tryz.prog 160 #[.int .u32 (x:Int),.int .i64 2] w fun e w' => e=.returned (.int .u32 (S.rot x 2:Int))∧Below w.heap.size w w' := by
 have ho:=aH (x / 2 ^ 2) (x * 2 ^ (32 - 2) % 4294967296) (Nat.lt_of_le_of_lt (Nat.div_le_self _ _) hx) (Nat.mod_lt _ (by decide));rw [Nat.or_comm] at ho;change _=(S.rot x 2:Int) at ho;generalize S.rot x 2=r at *;simp only [Int.natCast_emod,Int.natCast_mul,Int.natCast_ediv,Nat.reducePow,Nat.reduceSub,Int.cast_ofNat_Int] at ho;go_enter Tryz.func160,Tryz.ntmps160;go_wp2_with fail
 go_quiet (fail)
 go_wp2_with fail;go_ret;exact ⟨rfl,aD Br _⟩
theorem FN (x:Nat) (w:World) (hx:x < 4294967296) :
  Calls Tryz.prog 160 #[.int .u32 (x:Int),.int .i64 6] w fun e w' => e=.returned (.int .u32 (S.rot x 6:Int))∧Below w.heap.size w w' := by
 have ho:=aH (x / 2 ^ 6) (x * 2 ^ (32 - 6) % 4294967296) (Nat.lt_of_le_of_lt (Nat.div_le_self _ _) hx) (Nat.mod_lt _ (by decide));rw [Nat.or_comm] at ho;change _=(S.rot x 6:Int) at ho;generalize S.rot x 6=r at *;simp only [Int.natCast_emod,Int.natCast_mul,Int.natCast_ediv,Nat.reducePow,Nat.reduceSub,Int.cast_ofNat_Int] at ho;go_enter Tryz.func160,Tryz.ntmps160;go_wp2_with fail
 go_quiet (fail)
 go_wp2_with fail;go_ret;exact ⟨rfl,aD Br _⟩
theorem FM (x:Nat) (w:World) (hx:x < 4294967296) :
  Calls Tryz.prog 160 #[.int .u32 (x:Int),.int .i64 7] w fun e w' => e=.returned (.int .u32 (S.rot x 7:Int))∧Below w.heap.size w w' := by
 have ho:=aH (x / 2 ^ 7) (x * 2 ^ (32 - 7) % 4294967296) (Nat.lt_of_le_of_lt (Nat.div_le_self _ _) hx) (Nat.mod_lt _ (by decide));rw [Nat.or_comm] at ho;change _=(S.rot x 7:Int) at ho;generalize S.rot x 7=r at *;simp only [Int.natCast_emod,Int.natCast_mul,Int.natCast_ediv,Nat.reducePow,Nat.reduceSub,Int.cast_ofNat_Int] at ho;go_enter Tryz.func160,Tryz.ntmps160;go_wp2_with fail
 go_quiet (fail)
 go_wp2_with fail;go_ret;exact ⟨rfl,aD Br _⟩
theorem AC (x:Nat) (w:World) (hx:x < 4294967296) :
  Calls Tryz.prog 160 #[.int .u32 (x:Int),.int .i64 11] w fun e w' => e=.returned (.int .u32 (S.rot x 11:Int))∧Below w.heap.size w w' := by
 have ho:=aH (x / 2 ^ 11) (x * 2 ^ (32 - 11) % 4294967296) (Nat.lt_of_le_of_lt (Nat.div_le_self _ _) hx) (Nat.mod_lt _ (by decide));rw [Nat.or_comm] at ho;change _=(S.rot x 11:Int) at ho;generalize S.rot x 11=r at *;simp only [Int.natCast_emod,Int.natCast_mul,Int.natCast_ediv,Nat.reducePow,Nat.reduceSub,Int.cast_ofNat_Int] at ho;go_enter Tryz.func160,Tryz.ntmps160;go_wp2_with fail
 go_quiet (fail)
 go_wp2_with fail;go_ret;exact ⟨rfl,aD Br _⟩
theorem AB (x:Nat) (w:World) (hx:x < 4294967296) :
  Calls Tryz.prog 160 #[.int .u32 (x:Int),.int .i64 13] w fun e w' => e=.returned (.int .u32 (S.rot x 13:Int))∧Below w.heap.size w w' := by
 have ho:=aH (x / 2 ^ 13) (x * 2 ^ (32 - 13) % 4294967296) (Nat.lt_of_le_of_lt (Nat.div_le_self _ _) hx) (Nat.mod_lt _ (by decide));rw [Nat.or_comm] at ho;change _=(S.rot x 13:Int) at ho;generalize S.rot x 13=r at *;simp only [Int.natCast_emod,Int.natCast_mul,Int.natCast_ediv,Nat.reducePow,Nat.reduceSub,Int.cast_ofNat_Int] at ho;go_enter Tryz.func160,Tryz.ntmps160;go_wp2_with fail
 go_quiet (fail)
 go_wp2_with fail;go_ret;exact ⟨rfl,aD Br _⟩
theorem AA (x:Nat) (w:World) (hx:x < 4294967296) :
  Calls Tryz.prog 160 #[.int .u32 (x:Int),.int .i64 17] w fun e w' => e=.returned (.int .u32 (S.rot x 17:Int))∧Below w.heap.size w w' := by
 have ho:=aH (x / 2 ^ 17) (x * 2 ^ (32 - 17) % 4294967296) (Nat.lt_of_le_of_lt (Nat.div_le_self _ _) hx) (Nat.mod_lt _ (by decide));rw [Nat.or_comm] at ho;change _=(S.rot x 17:Int) at ho;generalize S.rot x 17=r at *;simp only [Int.natCast_emod,Int.natCast_mul,Int.natCast_ediv,Nat.reducePow,Nat.reduceSub,Int.cast_ofNat_Int] at ho;go_enter Tryz.func160,Tryz.ntmps160;go_wp2_with fail
 go_quiet (fail)
 go_wp2_with fail;go_ret;exact ⟨rfl,aD Br _⟩
theorem zZ (x:Nat) (w:World) (hx:x < 4294967296) :
  Calls Tryz.prog 160 #[.int .u32 (x:Int),.int .i64 18] w fun e w' => e=.returned (.int .u32 (S.rot x 18:Int))∧Below w.heap.size w w' := by
 have ho:=aH (x / 2 ^ 18) (x * 2 ^ (32 - 18) % 4294967296) (Nat.lt_of_le_of_lt (Nat.div_le_self _ _) hx) (Nat.mod_lt _ (by decide));rw [Nat.or_comm] at ho;change _=(S.rot x 18:Int) at ho;generalize S.rot x 18=r at *;simp only [Int.natCast_emod,Int.natCast_mul,Int.natCast_ediv,Nat.reducePow,Nat.reduceSub,Int.cast_ofNat_Int] at ho;go_enter Tryz.func160,Tryz.ntmps160;go_wp2_with fail
 go_quiet (fail)
 go_wp2_with fail;go_ret;exact ⟨rfl,aD Br _⟩
theorem zY (x:Nat) (w:World) (hx:x < 4294967296) :
  Calls Tryz.prog 160 #[.int .u32 (x:Int),.int .i64 19] w fun e w' => e=.returned (.int .u32 (S.rot x 19:Int))∧Below w.heap.size w w' := by
 have ho:=aH (x / 2 ^ 19) (x * 2 ^ (32 - 19) % 4294967296) (Nat.lt_of_le_of_lt (Nat.div_le_self _ _) hx) (Nat.mod_lt _ (by decide));rw [Nat.or_comm] at ho;change _=(S.rot x 19:Int) at ho;generalize S.rot x 19=r at *;simp only [Int.natCast_emod,Int.natCast_mul,Int.natCast_ediv,Nat.reducePow,Nat.reduceSub,Int.cast_ofNat_Int] at ho;go_enter Tryz.func160,Tryz.ntmps160;go_wp2_with fail
 go_quiet (fail)
 go_wp2_with fail;go_ret;exact ⟨rfl,aD Br _⟩
theorem zX (x:Nat) (w:World) (hx:x < 4294967296) :
  Calls Tryz.prog 160 #[.int .u32 (x:Int),.int .i64 22] w fun e w' => e=.returned (.int .u32 (S.rot x 22:Int))∧Below w.heap.size w w' := by
 have ho:=aH (x / 2 ^ 22) (x * 2 ^ (32 - 22) % 4294967296) (Nat.lt_of_le_of_lt (Nat.div_le_self _ _) hx) (Nat.mod_lt _ (by decide));rw [Nat.or_comm] at ho;change _=(S.rot x 22:Int) at ho;generalize S.rot x 22=r at *;simp only [Int.natCast_emod,Int.natCast_mul,Int.natCast_ediv,Nat.reducePow,Nat.reduceSub,Int.cast_ofNat_Int] at ho;go_enter Tryz.func160,Tryz.ntmps160;go_wp2_with fail
 go_quiet (fail)
 go_wp2_with fail;go_ret;exact ⟨rfl,aD Br _⟩
theorem zW (x:Nat) (w:World) (hx:x < 4294967296) :
  Calls Tryz.prog 160 #[.int .u32 (x:Int),.int .i64 25] w fun e w' => e=.returned (.int .u32 (S.rot x 25:Int))∧Below w.heap.size w w' := by
 have ho:=aH (x / 2 ^ 25) (x * 2 ^ (32 - 25) % 4294967296) (Nat.lt_of_le_of_lt (Nat.div_le_self _ _) hx) (Nat.mod_lt _ (by decide));rw [Nat.or_comm] at ho;change _=(S.rot x 25:Int) at ho;generalize S.rot x 25=r at *;simp only [Int.natCast_emod,Int.natCast_mul,Int.natCast_ediv,Nat.reducePow,Nat.reduceSub,Int.cast_ofNat_Int] at ho;go_enter Tryz.func160,Tryz.ntmps160;go_wp2_with fail
 go_quiet (fail)
 go_wp2_with fail;go_ret;exact ⟨rfl,aD Br _⟩
theorem iE (x:Nat) (k:Int) (w:World) (hx:x < 4294967296) (hk:k=2∨k=6∨k=7∨k=11∨k=13∨k=17∨k=18∨k=19∨k=22∨k=25) :
  Calls Tryz.prog 160 #[.int .u32 (x:Int),.int .i64 k] w fun e w' => e=.returned (.int .u32 (S.rot x k.toNat:Int))∧Below w.heap.size w w' := by
 rcases hk with rfl | rfl | rfl | rfl | rfl | rfl | rfl | rfl | rfl | rfl
 ·exact FO x w hx
 ·exact FN x w hx
 ·exact FM x w hx
 ·exact AC x w hx
 ·exact AB x w hx
 ·exact AA x w hx
 ·exact zZ x w hx
 ·exact zY x w hx
 ·exact zX x w hx
 ·exact zW x w hx
end Go.Proofs.YthcejfnngkmojaaGreatDoor
