/-
 RefPT.
-/
import Derived.Test.YthcejfnngkmojaaGreatDoorP03
namespace Go.Proofs.YthcejfnngkmojaaGreatDoor
open Go.RowKit
set_option maxRecDepth 20000
set_option maxHeartbeats 12800000
set_option linter.unusedVariables false
set_option linter.unusedSimpArgs false
def fQ (m size:Nat):Nat→Array Value
 | 0=>(List.replicate size (.int .u8 0)).toArray
 | k + 1=>(fQ m size k).setIfInBounds (size - 1 - k) (.int .u8 (((m / 256 ^ k:Nat):Int) % 256))
theorem qN (m size k:Nat):(fQ m size k).size=size:=by
 induction k with
 | zero=>simp [fQ]
 | succ k ih=>simp [fQ,ih]
theorem OA (m size k j:Nat) (hj:j < size):∃ v,(fQ m size k)[j]?=some v :=
 ⟨(fQ m size k)[j]'(by rw [qN]; omega),Array.getElem?_eq_getElem _⟩
theorem FQ (m size k j:Nat) (hk:k≤size) (hj:j < size) (hjk:size - 1 - j < k) :
  (fQ m size k)[j]?=some (.int .u8 (((m / 256 ^ (size - 1 - j):Nat):Int) % 256)):=by
 induction k with
 | zero=>omega
 | succ k ih =>
  rw [fQ]
  by_cases e:j=size - 1 - k
  ·have ek:size - 1 - j=k:=by omega
   rw [ek,← e,Array.getElem?_setIfInBounds_self_of_lt (by rw [qN]; omega)]
  ·rw [Array.getElem?_setIfInBounds_ne (by omega)]
   exact ih (by omega) (by omega)
theorem NZ (m size j:Nat) (hj:j < (M.be size m).length) :
  (fQ m size size)[j]?=some (.int .u8 (((M.be size m)[j]).toNat:Int)):=by
 have hj' : j < size:=by rwa [M.be_length] at hj
 rw [FQ _ _ _ _ (Nat.le_refl _) hj' (by omega)];have:=M.be_get size m j hj';rw [List.getElem?_eq_getElem hj] at this;rw [Option.some.inj this,UInt8.toNat_ofNat', Nat.mod_mod_of_dvd _ (by decide)];simp
theorem aAE (size:Nat) (h:size≤8) (W:World):(Instr.makeSlice 31 (.int .i64 (size:Int)) (.int .i64 (size:Int))).run Tryz.prog W =
  .ok (.slice (some ⟨W.heap.size,0,none⟩) size size) (W.alloc (.cells (fQ 0 size 0) 5)):=by
 have hinfo:(Tryz.prog.info? 5).map (fun i=>(i.zero,i.size,i.bytes))=some (some (.int .u8 0),1,1):=by kernel_rfl
 obtain ⟨i0,hi,hz0,hz1,hz2⟩:=info_parts hinfo;have:=run_make (P:=Tryz.prog) W 31 5 i0 (.int .u8 0) Tryz.underlying31 hi hz0 .i64 .i64 size size (by omega) (by omega) (by rw [hz2]; omega) (by omega);rw [this,hz1]
 have e:madeCells (Value.int .u8 0).cells (size * 1)=fQ 0 size 0:=by
  apply Array.toList_inj.1;rw [show (Value.int .u8 0).cells=#[.int .u8 0] from rfl,toList_madeCells_one];simp [fQ]
 simp only [Int.toNat_natCast,e]
theorem XU (m k:Nat):(m:Int) / 256 ^ k / 256=((m / 256 ^ (k + 1):Nat):Int):=by
 rw [Nat.pow_succ,← Nat.div_div_eq_div_mul]; simp
theorem NT (m:Nat) (size:Nat) (w:World) (_hmm:m≤18446744073709551615) (h1:1≤size) (h8:size≤8) (hf:size < 8→m / 2 ^ (8 * size)=0) :
  Calls Tryz.prog 131 #[.int .u64 (m:Int),.int .i64 size] w fun e w' => e=.returned (.tuple #[.string (Str (M.be size m)),.bool true])∧Below w.heap.size w w' := by
 have hf' : size < 8→(m:Int) / 2 ^ (8 * size)=0:=fun h=>by have:=hf h; exact_mod_cast this
 have hcells:=fun j hj=>NZ m size j hj
 have hconv:=run_convert_bytes_back (P:=Tryz.prog) (w.alloc (.cells (fQ m size size) 5)) 31 9 5 ⟨w.heap.size,0,none⟩ size (M.be size m) Tryz.underlying31 Tryz.underlying5 Tryz.underlying9 (fun j hj=>by
  have:=hcells j hj;rw [show (⟨w.heap.size,0,none⟩:Addr).add j=⟨w.heap.size,j,none⟩ by unfold Addr.add; split <;> simp_all];rw [← this]; simp)
 rw [M.be_length] at hconv;have HC:=Hd hconv;have HMK:=aAE size h8;have HF:=Hd hf';clear hconv hcells hf hf'
 by_cases hs:size < 8
 all_goals
  have h2:=HF.out
  first | (have h3:=h2 hs; clear h2) | clear h2
  go_enter Tryz.func131,Tryz.ntmps131;go_wp2_with fail
  go_loopw [0,7] (fun n i wr=>∃ k:Nat,k≤size∧i=.int .i64 ((size:Int) - 1 - k)∧n=.int .u64 ((m / 256 ^ k:Nat):Int)∧wr=w.alloc (.cells (fQ m size k) 5)) (fun _ i _=>(intOf i + 1).toNat)
  case atStart=>exact ⟨0,Nat.zero_le _,by simp,by simp,rfl⟩
  case round =>
   obtain ⟨k,hk,rfl,rfl,rfl⟩:=hrel
   by_cases hlt:k < size
   ·obtain ⟨v,hv⟩:=OA m size k (size - 1 - k) (by omega)
    go_wp2
    go_roundw
    case rel=>exact ⟨k + 1,by omega,by go_num,by rw [XU],rfl⟩
    case measure=>simp [intOf]; omega
   ·obtain rfl:k=size:=by omega
    have hconv:=HC.out
    go_wp2
    go_ret2;exact ⟨rfl,Br.alloc (Nat.le_refl _) _⟩
theorem AG (n size:Int) (w:World) (h:¬ (1≤size∧size≤8)) :
  Calls Tryz.prog 131 #[.int .u64 n,.int .i64 size] w fun e w' => e=.returned (.tuple #[.string ⟨#[]⟩,.bool false])∧w=w' := by
 have h' : size < 1∨8 < size:=by omega
 clear h
 rcases h' with h | h
 all_goals
  go_enter Tryz.func131,Tryz.ntmps131
  go_wp2
  go_ret2;exact ⟨rfl,rfl⟩
theorem AF (n:Int) (size:Nat) (w:World) (h1:1≤size) (h8:size < 8) (hf:0 < n / 2 ^ (8 * size)) :
  Calls Tryz.prog 131 #[.int .u64 n,.int .i64 size] w fun e w' => e=.returned (.tuple #[.string ⟨#[]⟩,.bool false])∧w=w' := by
 go_enter Tryz.func131,Tryz.ntmps131
 go_wp2
 go_ret2;exact ⟨rfl,rfl⟩
theorem FP (n size:Int) (w:World) (h0:0≤n) (hm:n≤18446744073709551615) :
  Calls Tryz.prog 131 #[.int .u64 n,.int .i64 size] w fun e w' => e=.returned (.tuple #[.string (Str (aL n size)),.bool (cE n size)])∧Below w.heap.size w w' := by
 obtain ⟨m,rfl⟩:=Int.eq_ofNat_of_zero_le h0
 by_cases h:1≤size∧size≤8
 ·obtain ⟨s,rfl⟩:=Int.eq_ofNat_of_zero_le (show 0≤size by omega)
  cases hk:cE (m:Int) (s:Int)
  ·have hf:¬ m / 2 ^ (8 * s)=0:=by
    intro hf;simp only [cE,h,and_self,decide_true,Bool.true_and,beq_eq_false_iff_ne,show (8 * (s:Int)).toNat=8 * s by omega] at hk;apply hk
    exact_mod_cast hf
   have h8:s < 8:=by
    rcases Nat.lt_or_ge s 8 with h' | h'
    ·exact h'
    ·exfalso
     apply hf;apply Nat.div_eq_of_lt;have e:s=8:=by omega
     subst e;have e:(2:Nat) ^ (8 * 8)=18446744073709551616:=by simp
     rw [e]; omega
   have hf' : 0 < (m:Int) / 2 ^ (8 * s):=by
    have:0 < m / 2 ^ (8 * s):=Nat.pos_of_ne_zero hf
    exact_mod_cast this
   refine (AF m s w (by omega) h8 hf').mono ?_;rintro e w' ⟨rfl,rfl⟩;exact ⟨by simp [aL,hk,Str],Br⟩
  ·have hf:m / 2 ^ (8 * s)=0:=by
    simp only [cE,Bool.and_eq_true,beq_iff_eq,show (8 * (s:Int)).toNat=8 * s by omega] at hk
    exact_mod_cast hk.2
   refine (NT m s w (by omega) (by omega) (by omega) (fun _=>hf)).mono ?_;rintro e w' ⟨rfl,hb⟩;exact ⟨by simp [aL,hk],hb⟩
 ·refine (AG _ size w h).mono ?_
  rintro e w' ⟨rfl,rfl⟩;have hk:cE (m:Int) size=false:=by simp [cE,h]
  exact ⟨by simp [aL,hk,Str],Br⟩
theorem EZ (b:ByteArray) (size:Nat) (w:World) (h1:1≤size) (h8:size≤8) (hl:size≤b.size) :
  Calls Tryz.prog 69 #[.string b,.int .i64 size] w fun e w' => e=.returned (.tuple #[.int .u64 (M.val (b.data.toList.take size)),.string (b.extract size b.size),.int .i64 0])∧Below w.heap.size w w' := by
 have ht:decide (b.size < size)=false:=by simp; omega
 have ht1:decide ((size:Int) < 1)=false:=by simp; omega
 have ht2:decide (8 < (size:Int))=false:=by simp; omega
 go_enter Tryz.func69,Tryz.ntmps69
 go_wp2
 go_loop [7,8] (fun n i=>∃ k:Nat,k≤size∧i=.int .i64 k∧n=.int .u64 (M.val (b.data.toList.take k))) (fun _ i=>size - (intOf i).toNat)
 case atStart=>exact ⟨0,Nat.zero_le _,rfl,rfl⟩
 case round =>
  obtain ⟨k,hk,rfl,rfl⟩:=hrel
  by_cases hlt:k < size
  ·go_wp2
   go_round
   case rel=>exact ⟨k + 1,by omega,by go_num,by rw [yE b k (by omega),← KU _ _ (yG b k (by omega))]⟩
   case measure=>simp [intOf]; omega
  ·obtain rfl:k=size:=by omega
   go_wp2
   go_region
   all_goals go_wp2
   all_goals go_ret3
   all_goals exact ⟨rfl,Br.drew⟩
theorem wM (b:ByteArray) (size:Int) (w:World) (h:¬ (1≤size∧size≤8)) :
  Calls Tryz.prog 69 #[.string b,.int .i64 size] w fun e w' => e=.returned (.tuple #[.int .u64 0,.string ⟨#[]⟩,.int .i64 1])∧w=w' := by
 have h' : size < 1∨8 < size:=by omega
 clear h
 rcases h' with h | h
 all_goals
  go_enter Tryz.func69,Tryz.ntmps69
  go_wp2
  go_ret3;exact ⟨rfl,rfl⟩
theorem uA (b:ByteArray) (size:Int) (w:World) (h1:1≤size) (h8:size≤8) (hl:(b.size:Int) < size) :
  Calls Tryz.prog 69 #[.string b,.int .i64 size] w fun e w' => e=.returned (.tuple #[.int .u64 0,.string ⟨#[]⟩,.int .i64 2])∧w=w' := by
 go_enter Tryz.func69,Tryz.ntmps69
 go_wp2
 go_ret3;exact ⟨rfl,rfl⟩
theorem dK (b:ByteArray) (size:Int) (w:World) :
  Calls Tryz.prog 69 #[.string b,.int .i64 size] w fun e w' => e=.returned (.tuple #[.int .u64 (aC b size),.string (aA b size),.int .i64 (cH b size)])∧Below w.heap.size w w' := by
 by_cases h:1≤size∧size≤8
 ·by_cases hl:size≤b.size
  ·have hk:cC b size=true:=by simp [cC,h,hl]
   obtain ⟨s,rfl⟩:=Int.eq_ofNat_of_zero_le (show 0≤size by omega);refine (EZ b s w (by omega) (by omega) (by omega)).mono ?_;rintro e w' ⟨rfl,hb⟩;exact ⟨by simp [aC,aA,cH,hk],hb⟩
  ·refine (uA b size w h.1 h.2 (by omega)).mono ?_
   rintro e w' ⟨rfl,rfl⟩;exact ⟨by simp [aC,aA,cH,cC,h,hl],Br⟩
 ·refine (wM b size w h).mono ?_
  rintro e w' ⟨rfl,rfl⟩;exact ⟨by simp [aC,aA,cH,cC,h],Br⟩
end Go.Proofs.YthcejfnngkmojaaGreatDoor
