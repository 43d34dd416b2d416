/-
 BitsCount.
-/
import Derived.Test.YtmomlhiokggfbaaGreatDoorC06
namespace Go.Proofs.YtmomlhiokggfbaaGreatDoor
open Go.RowKit
set_option maxRecDepth 20000
set_option maxHeartbeats 12800000
set_option linter.unusedVariables false
set_option linter.unusedSimpArgs false
def pc : Nat → Nat → Nat
 | 0, _ => 0
 | k + 1, x => x % 2 + pc k (x / 2)
theorem pc_le (k x : Nat) : pc k x ≤ k := by
 induction k generalizing x with
 | zero => exact Nat.le_refl _
 | succ k ih => simp only [pc]; have := ih (x / 2); omega
theorem ones8_any (x : Nat) (w : World) (hx : x < 256) :
  Calls Tryz.prog 93 #[.int .u8 (x : Int)] w fun e w' => e = .returned (.int .i64 (pc 8 x : Int)) ∧ w = w' := by
 go_enter Tryz.func93, Tryz.ntmps93;generalize hS : (ByteArray.mk (List.toArray _)) = S
 have hT : S.size = 256 ∧ ∀ i : Fin 256, (S.data.getD i.val 0).toNat = pc 8 i.val := by
  subst hS
  decide +kernel
 clear hS;obtain ⟨hsz, hat⟩ := hT;have hx' : x < S.size := by omega
 have hv : (S[x]'hx').toNat = pc 8 x := by
  have := hat ⟨x, hx⟩;rw [Array.getD_eq_getD_getElem?, Array.getElem?_eq_getElem (by simpa using hx')] at this;exact this
 have HV := Hd hv;clear hv hat hsz hx
 set_option maxRecDepth 10000 in
 go_wp2_with fail;go_ret;exact ⟨ret_int (by rw [HV.out]; have := pc_le 8 x; unfold wrap64; omega), rfl⟩
def cntL (l : List UInt8) : Nat := (l.map fun c => pc 8 c.toNat).sum
theorem cntL_le (l : List UInt8) : cntL l ≤ 8 * l.length := by
 induction l with
 | nil => simp [cntL]
 | cons c l ih =>
  simp only [cntL, List.map_cons, List.sum_cons, List.length_cons] at ih ⊢;have := pc_le 8 c.toNat;omega
theorem cntL_take (l : List UInt8) (j : Nat) (h : j < l.length) : cntL (l.take (j + 1)) = cntL (l.take j) + pc 8 (l[j]).toNat := by
 simp only [cntL];rw [List.take_succ_eq_append_getElem h, List.map_append, List.sum_append];simp
theorem count_any (b : ByteArray) (w : World) (hb : b.size ≤ 140737488351232) :
  Calls Tryz.prog 55 #[.string b] w fun e w' => e = .returned (.int .i64 (cntL b.data.toList : Int)) ∧ w = w' := by
 go_enter Tryz.func55, Tryz.ntmps55;go_wp2_with fail
 go_loopw [3, 7] (fun c i wr => ∃ j : Nat, j ≤ b.size ∧ c = .int .i64 (cntL (b.data.toList.take j) : Int) ∧ i = .int .i64 (j : Int) ∧ wr = w) (fun _ i _ => b.size + 1 - (intOf i).toNat)
 case atStart => exact ⟨0, Nat.zero_le _, rfl, rfl, rfl⟩
 case round =>
  obtain ⟨j, hj, rfl, rfl, rfl⟩ := hrel
  by_cases hlt : j < b.size
  ·have hlt' : (j : Int) < (b.size : Int) := by omega
   have hl : j < b.data.toList.length := by simpa using hlt
   have hs := cntL_take b.data.toList j hl;have hle := cntL_le (b.data.toList.take j);have hlen : (b.data.toList.take j).length ≤ j := by simp; omega
   have hp := pc_le 8 (b[j]'hlt).toNat;have he : (b.data.toList[j]'hl) = b[j]'hlt := by simp [ByteArray.getElem_eq_getElem_data]
   rw [he] at hs;have hc := UInt8.toNat_lt (b[j]'hlt);have HS := Hd hs;clear hs he;generalize cntL (b.data.toList.take j) = q at *;generalize hcc : (b[j]'hlt).toNat = c at *;have HC := Hd hcc;clear hcc;go_wp2_with fail;rw [HC.out];refine (ones8_any c _ hc).mono ?_;rintro e w1 ⟨rfl, rfl⟩;generalize pc 8 c = r at *;go_wp2_with fail;go_roundw
   case rel => exact ⟨j + 1, by omega, by rw [HS.out]; go_num, by go_num, trivial⟩
   case measure => simp [intOf]; omega
  ·have hle : b.size ≤ j := by omega
   have ht : b.data.toList.take j = b.data.toList := List.take_of_length_le (by simpa using hle);rw [ht];have hlt' : ¬ (j : Int) < (b.size : Int) := by omega
   go_wp2_with fail;go_ret;exact ⟨rfl, rfl⟩
end Go.Proofs.YtmomlhiokggfbaaGreatDoor
