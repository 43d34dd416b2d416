/-
 Num, PutMath, TakePut, NodeE, Build, Shelf, NodeEn, NodeDn, TrM, TrP.
-/
import Derived.Test.YtblbiihpfjjhhaaGreatDoorS01
import Derived.Deep.DeepCutAuto
import Derived.BigQuiet
import Derived.Deep.QuietTactic
import Derived.Shelf.Strings.Builder1
import Derived.Test.YtblbiihpfjjhhaaGreatDoorProg
import Derived.Test.YtblbiihpfjjhhaaGreatDoorS02
namespace Go.Proofs.YtblbiihpfjjhhaaGreatDoor
open Go.RowKit
set_option maxRecDepth 20000
set_option maxHeartbeats 12800000
set_option linter.unusedVariables false
set_option linter.unusedSimpArgs false
theorem fO (a:Int) (w:World) (h1:1≤a) (h2:a≤8) :
  Calls Tryz.prog 163 #[.int .i64 a] w fun e w' => e=.returned (.bool true)∧w=w' := by
 go_enter Tryz.func163,Tryz.ntmps163
 go_wp2
 go_ret;simp
theorem mF (a:Int) (w:World) (h:¬ (1≤a∧a≤8)) :
  Calls Tryz.prog 163 #[.int .i64 a] w fun e w' => e=.returned (.bool false)∧w=w' := by
 have h' : a < 1∨8 < a:=by omega
 clear h
 rcases h' with h | h
 all_goals
  go_enter Tryz.func163,Tryz.ntmps163
  go_wp2
  go_ret;simp
 omega
theorem wM (n:Int) (size:Int) (b:Bool) (w:World) (h1:1≤size) (h8:size≤8) (hb:(n / 2 ^ (8 * size).toNat == 0)=b) :
  Calls Tryz.prog 164 #[.int .u64 n,.int .i64 size] w fun e w' => e=.returned (.bool b)∧w=w' := by
 have e1:min (8 * size).toNat 64=(8 * size).toNat:=by omega
 have H:=Hd hb;clear hb;go_enter Tryz.func164,Tryz.ntmps164
 go_wp2
 go_ret;exact ⟨by rw [← H.out]; rfl,rfl⟩
def gZ (n:Int) (size:Nat):Nat→Array Value
 | 0=>#[.int .u8 0,.int .u8 0,.int .u8 0,.int .u8 0,.int .u8 0,.int .u8 0,.int .u8 0,.int .u8 0]
 | k + 1=>(gZ n size k).setIfInBounds (size - 1 - k) (.int .u8 (n / 2 ^ (8 * k) % 256))
theorem oC (n:Int) (size k:Nat):(gZ n size k).size=8:=by
 induction k with
 | zero=>rfl
 | succ k ih=>simp [gZ,ih]
theorem EB (n:Int) (size k j:Nat) (hj:j < 8):∃ v,(gZ n size k)[j]?=some v :=
 ⟨(gZ n size k)[j]'(by rw [oC]; omega),Array.getElem?_eq_getElem _⟩
theorem yH (n:Int) (size k j:Nat) (hs:size≤8) (hk:k≤size) (hj:j < size) (hjk:size - 1 - j < k) :
  (gZ n size k)[j]?=some (.int .u8 (n / 2 ^ (8 * (size - 1 - j)) % 256)):=by
 induction k with
 | zero=>omega
 | succ k ih =>
  rw [gZ]
  by_cases e:j=size - 1 - k
  ·have ek:size - 1 - j=k:=by omega
   rw [ek,← e,Array.getElem?_setIfInBounds_self_of_lt (by rw [oC]; omega)]
  ·rw [Array.getElem?_setIfInBounds_ne (by omega)]
   exact ih (by omega) (by omega)
theorem QL (n:Nat) (k:Nat):((UInt8.ofNat (n / 256 ^ k % 256)).toNat:Int)=(n:Int) / 2 ^ (8 * k) % 256:=by
 have e:(256:Nat) ^ k=2 ^ (8 * k):=by rw [Nat.pow_mul]
 rw [UInt8.toNat_ofNat', Nat.mod_mod_of_dvd _ (by decide),e,Int.natCast_emod,Int.natCast_ediv,Int.natCast_pow]
 rfl
theorem EA (n:Nat) (size j:Nat) (hs:size≤8) (hj:j < (M.be size n).length) :
  (gZ (n:Int) size size)[j]?=some (.int .u8 (((M.be size n)[j]).toNat:Int)):=by
 have hj' : j < size:=by rwa [M.be_length] at hj
 rw [yH _ _ _ _ hs (Nat.le_refl _) hj' (by omega)];have:=M.be_get size n j hj';rw [List.getElem?_eq_getElem hj] at this;rw [Option.some.inj this,QL]
theorem SE (a:Addr) (k:Nat) (hk:k≤8) (W:World):(Instr.sliceAt 216 (.pointer (some a)) none (some (.int .i64 (k:Int))) none).run Tryz.prog W=.ok (.slice (some a) k 8) W:=by
 have hl:Tryz.prog.arrayLen 216=8:=by kernel_rfl
 have he:Tryz.prog.elem 216=5:=by kernel_rfl
 have hs:∀ w,(sizeOf 5).run Tryz.prog w=.ok 1 w:=fun w=>by kernel_rfl
 have ht:Tryz.prog.underlying 216=some (.array (Tryz.prog.arrayLen 216) (Tryz.prog.elem 216)):=by rw [hl,he]; exact Tryz.underlying216
 rw [run_sliceAt_array_h W _ a ht .i64 k (by omega) (by rw [hl]; omega),he,hs,hl];simp [Result.andThen,slicedAt,Addr.add]
def dG (n size:Int):Bool:=decide (1≤size∧size≤8) && (n / 2 ^ (8 * size).toNat == 0)
def aY (n size:Int):List UInt8:=if dG n size=true then M.be size.toNat n.toNat else []
def vO (n size:Int):Int:=if dG n size=true then 0 else 1
theorem SM (m:Nat) (size:Nat) (w:World) (h1:1≤size) (h8:size≤8) (hf:((m:Int) / 2 ^ (8 * size) == 0)=true) :
  Calls Tryz.prog 136 #[.int .u64 (m:Int),.int .i64 size] w fun e w' => e=.returned (.tuple #[.string (Str (M.be size m)),.int .i64 0])∧Below w.heap.size w w' := by
 have H:=Hd hf;clear hf;have hcells:=fun j hj=>EA m size j h8 hj
 have hconv:=run_convert_bytes_back (P:=Tryz.prog) (w.alloc (.cells (gZ (m:Int) size size) 216)) 22 9 5 ⟨w.heap.size,0,none⟩ 8 (M.be size m) Tryz.underlying22 Tryz.underlying5 Tryz.underlying9 (fun j hj=>by
  have:=hcells j hj;rw [show (⟨w.heap.size,0,none⟩:Addr).add j=⟨w.heap.size,j,none⟩ by unfold Addr.add; split <;> simp_all];rw [← this]; simp)
 rw [M.be_length] at hconv;have HC:=Hd hconv;clear hconv hcells;generalize hn:(m:Int)=n at *;have Hn:=Hd hn;clear hn;go_enter Tryz.func136,Tryz.ntmps136
 go_wp2_with (first | (go_at_call 163; refine (fO _ _ (by omega) (by omega)).mono ?_; rintro e w' ⟨rfl,rfl⟩) | (go_at_call 164; refine (wM _ _ true _ (by omega) (by omega) H.out).mono ?_; rintro e w' ⟨rfl,rfl⟩))
 go_loopw [7,18] (fun _ i wr=>∃ k:Nat,k≤size∧i=.int .i64 k∧wr=w.alloc (.cells (gZ n size k) 216)) (fun _ i _=>size - (intOf i).toNat)
 case atStart=>exact ⟨0,Nat.zero_le _,rfl,rfl⟩
 case round =>
  obtain ⟨k,hk,rfl,rfl⟩:=hrel
  by_cases hlt:k < size
  ·obtain ⟨v,hv⟩:=EB n size k (size - 1 - k) (by omega)
   go_wp2
   go_roundw
   case rel=>exact ⟨k + 1,by omega,by go_num,rfl⟩
   case measure=>simp [intOf]; omega
  ·obtain rfl:k=size:=by omega
   have hconv:=HC.out;have hsl:=SE ⟨w.heap.size,0,none⟩ k h8
   go_wp2
   go_ret2;exact ⟨rfl,Br.alloc (Nat.le_refl _) _⟩
theorem KE (n:Int) (size:Int) (w:World) (h:¬ (1≤size∧size≤8)) :
  Calls Tryz.prog 136 #[.int .u64 n,.int .i64 size] w fun e w' => e=.returned (.tuple #[.string ⟨#[]⟩,.int .i64 1])∧w=w' := by
 have H:=Hd h;clear h;go_enter Tryz.func136,Tryz.ntmps136
 go_wp2_with (first | (go_at_call 163; refine (mF _ _ H.out).mono ?_; rintro e w' ⟨rfl,rfl⟩))
 go_ret2;exact ⟨rfl,rfl⟩
theorem KC (n:Int) (size:Int) (w:World) (h1:1≤size) (h8:size≤8) (hf:(n / 2 ^ (8 * size).toNat == 0)=false) :
  Calls Tryz.prog 136 #[.int .u64 n,.int .i64 size] w fun e w' => e=.returned (.tuple #[.string ⟨#[]⟩,.int .i64 1])∧w=w' := by
 have H:=Hd hf;clear hf;go_enter Tryz.func136,Tryz.ntmps136
 go_wp2_with (first | (go_at_call 163; refine (fO _ _ (by omega) (by omega)).mono ?_; rintro e w' ⟨rfl,rfl⟩) | (go_at_call 164; refine (wM _ _ false _ (by omega) (by omega) H.out).mono ?_; rintro e w' ⟨rfl,rfl⟩))
 go_ret2;exact ⟨rfl,rfl⟩
theorem kD (n size:Int) (w:World) (h0:0≤n) :
  Calls Tryz.prog 136 #[.int .u64 n,.int .i64 size] w fun e w' => e=.returned (.tuple #[.string (Str (aY n size)),.int .i64 (vO n size)])∧Below w.heap.size w w' := by
 by_cases h:1≤size∧size≤8
 ·cases hf:(n / 2 ^ (8 * size).toNat == 0)
  ·refine (KC n size w h.1 h.2 hf).mono ?_
   rintro e w' ⟨rfl,rfl⟩;exact ⟨by simp [aY,vO,dG,hf,Str],Br⟩
  ·obtain ⟨m,rfl⟩:=Int.eq_ofNat_of_zero_le h0
   obtain ⟨s,rfl⟩:=Int.eq_ofNat_of_zero_le (show 0≤size by omega);rw [show (8 * (s:Int)).toNat=8 * s by omega] at hf;refine (SM m s w (by omega) (by omega) hf).mono ?_;rintro e w' ⟨rfl,hb⟩;refine ⟨?_,hb⟩
   have hk:dG (m:Int) (s:Int)=true:=by
    simp only [dG,show (8 * (s:Int)).toNat=8 * s by omega,hf,Bool.and_true,decide_eq_true_eq]; exact h
   simp [aY,vO,hk]
 ·refine (KE n size w h).mono ?_
  rintro e w' ⟨rfl,rfl⟩;exact ⟨by simp [aY,vO,dG,h,Str],Br⟩
theorem OM (n size:Int) (w:World) (h0:0≤n) (hk:dG n size=true) :
  Calls Tryz.prog 136 #[.int .u64 n,.int .i64 size] w fun e w' => e=.returned (.tuple #[.string (Str (M.be size.toNat n.toNat)),.int .i64 0])∧Below w.heap.size w w' := by
 have:=kD n size w h0
 simpa [aY,vO,hk] using this
def cL (b:ByteArray) (size:Int):Bool:=decide (1≤size∧size≤8) && decide (size≤b.size)
def aH (b:ByteArray) (size:Int):Int:=if cL b size=true then (M.val (b.data.toList.take size.toNat):Int) else 0
def aB (b:ByteArray) (size:Int):ByteArray:=if cL b size=true then b.extract size.toNat b.size else ⟨#[]⟩
def cM (b:ByteArray) (size:Int):Int:=if cL b size=true then 0 else if 1≤size∧size≤8 then 2 else 1
theorem uA (a:Nat) (h:a < 18446744073709551616):IntKind.u64.wrap (a:Int)=(a:Int):=by
 rw [IntKind.wrap_u64]; exact Int.emod_eq_of_lt (Int.natCast_nonneg _) (Int.ofNat_lt.2 h)
theorem OX (v:Nat) (c:UInt8) (h:v * 256 + 255 < 18446744073709551616) :
  bits BinOp.or IntKind.u64 (IntKind.u64.wrap ((v:Int) * 256)) (IntKind.u64.wrap (c.toNat:Int))=((v * 256 + c.toNat:Nat):Int):=by
 have hc:c.toNat < 256:=c.toNat_lt;have h1:v * 256 < 18446744073709551616:=Nat.lt_of_le_of_lt (Nat.le_add_right _ _) h;have h2:c.toNat < 18446744073709551616:=Nat.lt_of_lt_of_le hc (by decide);have h3:v * 256 % 2 ^ 8=0:=by simp
 have h4:c.toNat < 2 ^ 8:=by simp; omega
 have e1:IntKind.u64.wrap ((v:Int) * 256)=((v * 256:Nat):Int):=uA _ h1;have e2:IntKind.u64.wrap (c.toNat:Int)=(c.toNat:Int):=uA _ h2;rw [e1,e2,u64_or_nat (v * 256) c.toNat h1 h2,nat_join 8 (v * 256) c.toNat h3 h4]
theorem IJ (b:ByteArray) (k:Nat) (h:k < b.size):M.val (b.data.toList.take (k + 1))=M.val (b.data.toList.take k) * 256 + b[k].toNat:=by
 rw [List.take_succ_eq_append_getElem (by simpa using h),M.val_snoc]; rfl
theorem IL (b:ByteArray) (k:Nat) (h:k≤7):M.val (b.data.toList.take k) * 256 + 255 < 18446744073709551616:=by
 have h1:=M.val_lt (b.data.toList.take k);have h2:256 ^ (b.data.toList.take k).length≤256 ^ 7:=Nat.pow_le_pow_right (by decide) (by simp; omega);have h3:(256:Nat) ^ 7=72057594037927936:=by simp
 rw [h3] at h2;generalize M.val (b.data.toList.take k)=v at *;generalize 256 ^ (b.data.toList.take k).length=u at *;omega
theorem NW (b:ByteArray) (size:Nat) (w:World) (h1:1≤size) (h8:size≤8) (hl:size≤b.size) :
  Calls Tryz.prog 146 #[.string b,.int .i64 size] w fun e w' => e=.returned (.tuple #[.int .u64 (M.val (b.data.toList.take size)),.string (b.extract size b.size),.int .i64 0])∧Below w.heap.size w w' := by
 have ht:decide (b.size < size)=false:=by simp; omega
 go_enter Tryz.func146,Tryz.ntmps146
 go_wp2_with (first | (go_at_call 163; refine (fO _ _ (by omega) (by omega)).mono ?_; rintro e w' ⟨rfl,rfl⟩))
 go_loop [4,7,16] (fun n _ i=>∃ k:Nat,k≤size∧i=.int .i64 k∧n=.int .u64 (M.val (b.data.toList.take k))) (fun _ _ i=>size - (intOf i).toNat)
 case atStart=>exact ⟨0,Nat.zero_le _,rfl,rfl⟩
 case round =>
  obtain ⟨k,hk,rfl,rfl⟩:=hrel
  by_cases hlt:k < size
  ·go_wp2
   go_round
   case rel=>exact ⟨k + 1,by omega,by go_num,by rw [IJ b k (by omega),← OX _ _ (IL b k (by omega))]⟩
   case measure=>simp [intOf]; omega
  ·obtain rfl:k=size:=by omega
   go_wp2
   go_region
   all_goals go_wp2
   all_goals go_ret3
   all_goals exact ⟨rfl,Br.drew⟩
theorem CZ (b:ByteArray) (size:Int) (w:World) (h:¬ (1≤size∧size≤8)) :
  Calls Tryz.prog 146 #[.string b,.int .i64 size] w fun e w' => e=.returned (.tuple #[.int .u64 0,.string ⟨#[]⟩,.int .i64 1])∧w=w' := by
 have H:=Hd h;clear h;go_enter Tryz.func146,Tryz.ntmps146
 go_wp2_with (first | (go_at_call 163; refine (mF _ _ H.out).mono ?_; rintro e w' ⟨rfl,rfl⟩))
 go_ret3;exact ⟨rfl,rfl⟩
theorem pE (b:ByteArray) (size:Int) (w:World) (h1:1≤size) (h8:size≤8) (hl:(b.size:Int) < size) :
  Calls Tryz.prog 146 #[.string b,.int .i64 size] w fun e w' => e=.returned (.tuple #[.int .u64 0,.string ⟨#[]⟩,.int .i64 2])∧w=w' := by
 go_enter Tryz.func146,Tryz.ntmps146
 go_wp2_with (first | (go_at_call 163; refine (fO _ _ (by omega) (by omega)).mono ?_; rintro e w' ⟨rfl,rfl⟩))
 go_ret3;exact ⟨rfl,rfl⟩
theorem pF (b:ByteArray) (size:Int) (w:World) :
  Calls Tryz.prog 146 #[.string b,.int .i64 size] w fun e w' => e=.returned (.tuple #[.int .u64 (aH b size),.string (aB b size),.int .i64 (cM b size)])∧Below w.heap.size w w' := by
 by_cases h:1≤size∧size≤8
 ·by_cases hl:size≤b.size
  ·have hk:cL b size=true:=by simp [cL,h,hl]
   obtain ⟨s,rfl⟩:=Int.eq_ofNat_of_zero_le (show 0≤size by omega);refine (NW b s w (by omega) (by omega) (by omega)).mono ?_;rintro e w' ⟨rfl,hb⟩;exact ⟨by simp [aH,aB,cM,hk],hb⟩
  ·refine (pE b size w h.1 h.2 (by omega)).mono ?_
   rintro e w' ⟨rfl,rfl⟩;exact ⟨by simp [aH,aB,cM,cL,h,hl],Br⟩
 ·refine (CZ b size w h).mono ?_
  rintro e w' ⟨rfl,rfl⟩;exact ⟨by simp [aH,aB,cM,cL,h],Br⟩
theorem uL (b:ByteArray) (size:Int) (w:World) (hk:cL b size=true) :
  Calls Tryz.prog 146 #[.string b,.int .i64 size] w fun e w' => e=.returned (.tuple #[.int .u64 (M.val (b.data.toList.take size.toNat)),.string (b.extract size.toNat b.size),.int .i64 0])∧Below w.heap.size w w' := by
 have:=pF b size w
 simpa [aH,aB,cM,hk] using this
def cC (s:ByteArray):ByteArray:=if s.size≤255 then Str (UInt8.ofNat s.size :: s.data.toList) else ⟨#[]⟩
def pD (s:ByteArray):Int:=if s.size≤255 then 0 else 16
theorem VV (n:Nat) (h:n≤255):dG (n:Int) 1=true:=by simp [dG]; omega
theorem be1 (n:Nat) (h:n≤255):M.be (1:Int).toNat (n:Int).toNat=[UInt8.ofNat n]:=by
 show [UInt8.ofNat (n % 256)]=_
 rw [Nat.mod_eq_of_lt (by omega)]
theorem xR (s:ByteArray) (w:World) (h:s.size≤255) :
  Calls Tryz.prog 192 #[.string s] w fun e w' => e=.returned (.tuple #[.string (cC s),.int .i64 (pD s)])∧Below w.heap.size w w' := by
 have ht:decide (255 < s.size)=false:=by simp; omega
 have hp:=Hd (VV s.size h);have hz:(Str (M.be (1:Int).toNat (s.size:Int).toNat)).size=1:=by rw [be1 _ h]; rfl
 have fin:Ending.returned (.tuple #[.string (Str (M.be (1:Int).toNat (s.size:Int).toNat) ++ s),.int .i64 0])=Ending.returned (.tuple #[.string (cC s),.int .i64 (pD s)]):=by
  rw [be1 _ h,qT]; simp [cC,pD,h]
 have F:=Hd fin;clear fin;generalize hg:Str (M.be (1:Int).toNat (s.size:Int).toNat)=p at *;have G:=Hd hg;have hz1:p.size≤1:=by omega
 clear hg hz;go_enter Tryz.func192,Tryz.ntmps192
 go_wp2_with (first | (go_at_call 136; refine (OM _ _ _ (by omega) hp.out).mono ?_; rw [G.out]; rintro e w1 ⟨rfl,hb⟩))
 go_ret2;exact ⟨F.out,by assumption⟩
theorem CS (s:ByteArray) (w:World) (h:255 < s.size) :
  Calls Tryz.prog 192 #[.string s] w fun e w' => e=.returned (.tuple #[.string (cC s),.int .i64 (pD s)])∧Below w.heap.size w w' := by
 have fin:Ending.returned (.tuple #[.string ⟨#[]⟩,.int .i64 16])=Ending.returned (.tuple #[.string (cC s),.int .i64 (pD s)]):=by
  simp [cC,pD,show ¬ s.size≤255 by omega]
 have F:=Hd fin;clear fin;go_enter Tryz.func192,Tryz.ntmps192
 go_wp2
 go_ret2;exact ⟨F.out,Br⟩
theorem IW (s:ByteArray) (w:World) :
  Calls Tryz.prog 192 #[.string s] w fun e w' => e=.returned (.tuple #[.string (cC s),.int .i64 (pD s)])∧Below w.heap.size w w' := by
 by_cases h:s.size≤255
 ·exact xR s w h
 ·exact CS s w (by omega)
def ttN (s:ByteArray):Nat:=M.val (s.data.toList.take (1:Int).toNat)
def ttB (s:ByteArray):ByteArray:=s.extract (1:Int).toNat s.size
def lT (s:ByteArray):Bool:=decide (1≤s.size) && decide (ttN s≤(ttB s).size)
def ttS (s:ByteArray):ByteArray:=if lT s=true then (ttB s).extract 0 (ttN s) else ⟨#[]⟩
def ttR (s:ByteArray):ByteArray:=if lT s=true then (ttB s).extract (ttN s) (ttB s).size else ⟨#[]⟩
def ttE (s:ByteArray):Int:=if lT s=true then 0 else 2
theorem qW (s:ByteArray) (w:World) (h:s.size=0) :
  Calls Tryz.prog 162 #[.string s] w fun e w' => e=.returned (.tuple #[.string ⟨#[]⟩,.string ⟨#[]⟩,.int .i64 2])∧Below w.heap.size w w' := by
 have H:=Hd h;clear h;go_enter Tryz.func162,Tryz.ntmps162
 go_wp2_with (first | (go_at_call 146; refine (pE _ _ _ (by omega) (by omega) (by rw [H.out]; decide)).mono ?_; rintro e w1 ⟨rfl,rfl⟩))
 go_ret3;exact ⟨rfl,Br⟩
theorem pG (s r:ByteArray) (n:Nat) (w:World) (hn:M.val (s.data.toList.take (1:Int).toNat)=n) (hr:s.extract (1:Int).toNat s.size=r) (hk:cL s 1=true) (hx:r.size < n) (_hb:n < 256) :
  Calls Tryz.prog 162 #[.string s] w fun e w' => e=.returned (.tuple #[.string ⟨#[]⟩,.string ⟨#[]⟩,.int .i64 2])∧Below w.heap.size w w' := by
 have H:=Hd hn;have R:=Hd hr;have K:=Hd hk;have ht:decide (r.size < n)=true:=by simp; omega
 clear hn hr hk;go_enter Tryz.func162,Tryz.ntmps162
 go_wp2_with (first | (go_at_call 146; refine (uL _ _ _ K.out).mono ?_; rw [H.out,R.out]; rintro e w1 ⟨rfl,hb⟩))
 go_ret3;exact ⟨rfl,by assumption⟩
theorem uM (s r:ByteArray) (n:Nat) (w:World) (hn:M.val (s.data.toList.take (1:Int).toNat)=n) (hr:s.extract (1:Int).toNat s.size=r) (hk:cL s 1=true) (hx:n≤r.size) (_hb:n < 256) (hm:r.size≤9223372036854775807) :
  Calls Tryz.prog 162 #[.string s] w fun e w' => e=.returned (.tuple #[.string (r.extract 0 n),.string (r.extract n r.size),.int .i64 0])∧Below w.heap.size w w' := by
 have H:=Hd hn;have R:=Hd hr;have K:=Hd hk;have ht:decide (r.size < n)=false:=by simp; omega
 clear hn hr hk;go_enter Tryz.func162,Tryz.ntmps162
 go_wp2_with (first | (go_at_call 146; refine (uL _ _ _ K.out).mono ?_; rw [H.out,R.out]; rintro e w1 ⟨rfl,hb⟩))
 go_region
 all_goals go_wp2
 all_goals go_ret3
 all_goals exact ⟨rfl,hb.drew⟩
theorem uP (s:ByteArray):ttN s < 256:=by
 have h1:=M.val_lt (s.data.toList.take (1:Int).toNat);have h2:256 ^ (s.data.toList.take (1:Int).toNat).length≤256 ^ 1:=Nat.pow_le_pow_right (by decide) (by simp; omega);unfold ttN;omega
theorem sU (s:ByteArray) (w:World) (hm:s.size≤9223372036854775807) :
  Calls Tryz.prog 162 #[.string s] w fun e w' => e=.returned (.tuple #[.string (ttS s),.string (ttR s),.int .i64 (ttE s)])∧Below w.heap.size w w' := by
 by_cases h:1≤s.size
 ·have hk:cL s 1=true:=by simp [cL]; omega
  have hb:=uP s
  by_cases hx:ttN s≤(ttB s).size
  ·have ho:lT s=true:=by simp [lT,h,hx]
   refine (uM s (ttB s) (ttN s) w rfl rfl hk hx hb (by simp [ttB]; omega)).mono ?_;rintro e w' ⟨rfl,hb⟩;exact ⟨by simp [ttS,ttR,ttE,ho],hb⟩
  ·refine (pG s (ttB s) (ttN s) w rfl rfl hk (by omega) hb).mono ?_
   rintro e w' ⟨rfl,hb⟩;exact ⟨by simp [ttS,ttR,ttE,lT,h,hx],hb⟩
 ·refine (qW s w (by omega)).mono ?_
  rintro e w' ⟨rfl,hb⟩;exact ⟨by simp [ttS,ttR,ttE,lT,h],hb⟩
theorem dN (m:Nat) (size:Int):dG (m:Int) size=true ↔ 1≤size∧size≤8∧m < 256 ^ size.toNat:=by
 simp only [dG,Bool.and_eq_true,decide_eq_true_eq,beq_iff_eq];constructor
 ·rintro ⟨⟨h1,h8⟩,h⟩
  refine ⟨h1,h8,?_⟩;obtain ⟨s,rfl⟩:=Int.eq_ofNat_of_zero_le (show 0≤size by omega);rw [show (8 * (s:Int)).toNat=8 * s by omega] at h;have h' : m / 2 ^ (8 * s)=0:=by exact_mod_cast h
  have hp:0 < 2 ^ (8 * s):=Nat.pow_pos (by decide);have e:(256:Nat) ^ s=2 ^ (8 * s):=by rw [Nat.pow_mul]
  simp only [Int.toNat_natCast];rw [e];exact (Nat.div_eq_zero_iff_lt hp).1 h'
 ·rintro ⟨h1,h8,h⟩
  refine ⟨⟨h1,h8⟩,?_⟩;obtain ⟨s,rfl⟩:=Int.eq_ofNat_of_zero_le (show 0≤size by omega);rw [show (8 * (s:Int)).toNat=8 * s by omega];simp only [Int.toNat_natCast] at h;have hp:0 < 2 ^ (8 * s):=Nat.pow_pos (by decide);have e:(256:Nat) ^ s=2 ^ (8 * s):=by rw [Nat.pow_mul]
  rw [e] at h;have h' := (Nat.div_eq_zero_iff_lt hp).2 h
  exact_mod_cast h'
theorem vN {n size:Int} (h0:0≤n) (h:dG n size=true):n.toNat < 256 ^ size.toNat∧1≤size∧size≤8:=by
 obtain ⟨a,rfl⟩:=Int.eq_ofNat_of_zero_le h0;have:=(dN a size).1 h;exact ⟨by simpa using this.2.2,this.1,this.2.1⟩
theorem NZ (m s:Nat) (rest:ByteArray):(Str (M.be s m) ++ rest).data.toList.take s=M.be s m:=by
 rw [aP,aN];exact List.take_left' (M.be_length s m)
theorem uD (m s:Nat) (rest:ByteArray) (h:m < 256 ^ s):M.val ((Str (M.be s m) ++ rest).data.toList.take s)=m:=by
 rw [NZ,M.val_be,Nat.mod_eq_of_lt h]
theorem rC (l:List UInt8) (rest:ByteArray):(Str l ++ rest).extract l.length (Str l ++ rest).size=rest:=by
 apply aD;rw [aE,aP,aN,List.drop_left,List.take_of_length_le];simp [bY]
theorem mT (s rest:ByteArray):(s ++ rest).extract 0 s.size=s:=by
 apply aD;rw [aE,aP,List.drop_zero,Nat.sub_zero,List.take_left' (cQ s)]
theorem jV (s rest:ByteArray):(s ++ rest).extract s.size (s ++ rest).size=rest:=by
 apply aD;rw [aE,aP,List.drop_left' (cQ s),List.take_of_length_le];simp
theorem lU (r:ByteArray) (n:Nat):Str (r.data.toList.take n) ++ r.extract n r.size=r:=by
 apply aD;rw [aP,aN,aE];have:(r.data.toList.drop n).take (r.size - n)=r.data.toList.drop n:=List.take_of_length_le (by simp);rw [this,List.take_append_drop]
theorem ON (r:ByteArray) (size:Nat) (h1:1≤size) (h8:size≤8):dG (M.val (r.data.toList.take size):Int) (size:Int)=true:=by
 rw [dN];refine ⟨by omega,by omega,?_⟩;have h1:=M.val_lt (r.data.toList.take size);simp only [Int.toNat_natCast];exact Nat.lt_of_lt_of_le h1 (Nat.pow_le_pow_right (by decide) (List.length_take_le _ _))
theorem wY (r:ByteArray) (size:Nat) (h:size≤r.size):M.be size (M.val (r.data.toList.take size))=r.data.toList.take size :=
 M.be_eq _ _ (by rw [List.length_take,cQ]; omega)
theorem nV (s:ByteArray) (h:s.size≤255):(cC s).size=s.size + 1:=by simp [cC,h,bY]
theorem pC (s rest:ByteArray) (h:s.size≤255):cC s ++ rest=Str (UInt8.ofNat s.size :: (s ++ rest).data.toList):=by
 apply aD;simp [cC,h,Str]
theorem uF (s rest:ByteArray) (h:s.size≤255):ttN (cC s ++ rest)=s.size:=by
 rw [pC s rest h];unfold ttN;rw [aN];simp only [Int.toNat_one,List.take_succ_cons,List.take_zero,M.val,List.foldl_cons,List.foldl_nil,UInt8.toNat_ofNat'];omega
theorem uG (s rest:ByteArray) (h:s.size≤255):ttB (cC s ++ rest)=s ++ rest:=by
 apply aD;unfold ttB;rw [aE,pC s rest h,aN];simp only [Int.toNat_one,List.drop_succ_cons,List.drop_zero];rw [List.take_of_length_le];simp [bY]
theorem CR (s rest:ByteArray) (h:s.size≤255):lT (cC s ++ rest)=true:=by
 have e:(cC s ++ rest).size=s.size + 1 + rest.size:=by rw [ByteArray.size_append,nV s h]
 simp only [lT,uF s rest h,uG s rest h,ByteArray.size_append,Bool.and_eq_true,decide_eq_true_eq,e];omega
theorem NP (s rest:ByteArray) (h:s.size≤255):ttS (cC s ++ rest)=s∧ttR (cC s ++ rest)=rest∧ttE (cC s ++ rest)=0:=by
 simp only [ttS,ttR,ttE,CR s rest h,if_true,uF s rest h,uG s rest h,mT,jV,and_self]
theorem yL {n k:Int} (rest:ByteArray) (h0:0≤n) (h:dG n k=true):aH (Str (aY n k) ++ rest) k=n∧aB (Str (aY n k) ++ rest) k=rest:=by
 obtain ⟨m,rfl⟩:=Int.eq_ofNat_of_zero_le h0;obtain ⟨s1,s8,hm⟩:=(dN m k).1 h;obtain ⟨s,rfl⟩:=Int.eq_ofNat_of_zero_le (show 0≤k by omega);simp only [Int.toNat_natCast] at hm;have e:aY (m:Int) (s:Int)=M.be s m:=by unfold aY; rw [h,if_pos rfl]; rfl
 have hz:(Str (M.be s m)).size=s:=by rw [bY,M.be_length]
 have hk:cL (Str (M.be s m) ++ rest) (s:Int)=true:=by
  unfold cL;rw [ByteArray.size_append,hz,Bool.and_eq_true,decide_eq_true_eq,decide_eq_true_eq]; omega
 rw [e];refine ⟨?_,?_⟩
 ·unfold aH; rw [hk,if_pos rfl,Int.toNat_natCast,uD m s rest hm]
 ·unfold aB; rw [hk,if_pos rfl,Int.toNat_natCast]
  have:=rC (M.be s m) rest;rw [M.be_length] at this; exact this
theorem iS {n k:Int} (h:dG n k=true):((Str (aY n k)).size:Int)=k:=by
 unfold aY;rw [h,if_pos rfl,bY,M.be_length];simp [dG] at h; omega
theorem tB (s:ByteArray) {k:Int} (h1:1≤k) (h8:k≤8):dG (aH s k) k=true∧0≤aH s k:=by
 obtain ⟨j,rfl⟩:=Int.eq_ofNat_of_zero_le (show 0≤k by omega);unfold aH
 split
 ·exact ⟨ON s j (by omega) (by omega),by omega⟩
 ·refine ⟨?_,Int.le_refl _⟩
  have:=(dN 0 (j:Int)).2 ⟨by omega,by omega,Nat.pos_of_ne_zero (by simp)⟩;exact this
theorem oO (s:ByteArray) {k:Int} (h1:1≤k) (h8:k≤8) (hs:k≤s.size):Str (aY (aH s k) k) ++ aB s k=s∧((aB s k).size:Int) + k=s.size:=by
 obtain ⟨j,rfl⟩:=Int.eq_ofNat_of_zero_le (show 0≤k by omega);have hk:cL s (j:Int)=true:=by unfold cL; rw [Bool.and_eq_true,decide_eq_true_eq,decide_eq_true_eq]; omega
 have ho:=(tB s h1 h8).1
 have e:aY (aH s j) j=s.data.toList.take j:=by
  unfold aY; rw [ho,if_pos rfl,Int.toNat_natCast];unfold aH; rw [hk,if_pos rfl,Int.toNat_natCast,Int.toNat_natCast];exact wY s j (by omega)
 have e2:aB s j=s.extract j s.size:=by unfold aB; rw [hk,if_pos rfl,Int.toNat_natCast]
 rw [e,e2,lU];refine ⟨rfl,?_⟩;rw [ByteArray.size_extract]; omega
theorem cK {s:ByteArray} (h:s.size=0):s=⟨#[]⟩:=by
 apply aD;have:=cQ s;rw [h] at this;rw [List.length_eq_zero_iff.1 this]
theorem tQ (s:ByteArray):s ++ (⟨#[]⟩:ByteArray)=s:=by
 apply aD; rw [aP]; simp
theorem AM (s:ByteArray) (h:lT s=true):cC (ttS s) ++ ttR s=s∧(ttS s).size=ttN s∧ttN s≤255∧(ttS s).size + 1 + (ttR s).size=s.size:=by
 have hk:=h;unfold lT at h;simp only [Bool.and_eq_true,decide_eq_true_eq] at h;obtain ⟨h1,h2⟩:=h;have hb:ttB s=s.extract 1 s.size:=rfl;have hn:ttN s≤255:=by have:=uP s; omega
 have hS:ttS s=(ttB s).extract 0 (ttN s):=by unfold ttS; rw [hk,if_pos rfl]
 have hR:ttR s=(ttB s).extract (ttN s) (ttB s).size:=by unfold ttR; rw [hk,if_pos rfl]
 have hz:(ttS s).size=ttN s:=by rw [hS,ByteArray.size_extract]; omega
 have hj:ttS s ++ ttR s=ttB s:=by
  apply aD;rw [aP,hS,hR,aE,aE,List.drop_zero,Nat.sub_zero];have:((ttB s).data.toList.drop (ttN s)).take ((ttB s).size - ttN s)=(ttB s).data.toList.drop (ttN s):=List.take_of_length_le (by simp);rw [this,List.take_append_drop]
 have hbz:(ttB s).size + 1=s.size:=by rw [hb,ByteArray.size_extract]; omega
 have hsum:(ttS s).size + (ttR s).size=(ttB s).size:=by rw [← hj,ByteArray.size_append]
 refine ⟨?_,hz,hn,by omega⟩;rw [pC _ _ (by omega),hj,hz];apply aD;rw [aN,hb,aE];obtain ⟨⟨l⟩⟩:=s
 cases l with
 | nil=>simp [ByteArray.size] at h1
 | cons c t =>
  have e:UInt8.ofNat (ttN ⟨⟨c :: t⟩⟩)=c:=by
   have:ttN ⟨⟨c :: t⟩⟩=c.toNat:=by simp [ttN,M.val]
   rw [this]; simp
  rw [e];simp [ByteArray.size]
theorem UI (s:ByteArray) (h:lT s=false):ttS s=⟨#[]⟩∧ttR s=⟨#[]⟩:=by
 unfold ttS ttR; rw [h]; exact ⟨rfl,rfl⟩
theorem pR (K:List Int) (a:Option Addr) (c:Nat) (w:World) (h:Rd w a (K.map bG)) (h1:K.length≤1000) (hs:∀ i (h:i + 1 < K.length),K[i] < K[i + 1]) :
  Calls Tryz.prog 243 #[.slice a K.length c] w fun e w' => e=.returned (.bool true)∧Below w.heap.size w w' := by
 have HR:=Hd h;have HS:=Hd hs;obtain ⟨m,hm⟩:∃ m,K.length=m:=⟨_,rfl⟩
 rw [hm] at h1 ⊢;clear h hs;go_enter Tryz.func243,Tryz.ntmps243;go_wp2_with fail
 go_loopw [3] (fun i wr=>∃ j q:Nat,j≤1000∧i=.int .i64 ((j:Int) + 1)∧wr=w.drewN q) (fun i _=>1002 - (intOf i).toNat)
 case atStart=>exact ⟨0,0,by omega,rfl,rfl⟩
 case round =>
  obtain ⟨j,q,hj,rfl,rfl⟩:=hrel
  by_cases hlt:j + 1 < m
  ·have hji:(j:Int) + 1 < (m:Int):=by omega
   have hji2:(j:Int) < (m:Int):=by omega
   have hjl:j < (K.map bG).length:=by rw [List.length_map]; omega
   have hjl2:j + 1 < (K.map bG).length:=by rw [List.length_map]; omega
   obtain ⟨b,off,hab,hb,z1⟩:=HR.out.at j hjl;obtain ⟨b2,off2,hab2,_,z2⟩:=HR.out.at (j + 1) hjl2;rw [hab] at hab2
   obtain ⟨rfl,rfl⟩:b2=b∧off2=off:=by
    have:=Option.some.inj hab2;exact ⟨(congrArg Addr.block this).symm,(congrArg Addr.off this).symm⟩
   subst hab;have e1:(K.map bG)[j]=.int .u64 (K[j]'(by omega)):=by rw [List.getElem_map]; rfl
   have e2:(K.map bG)[j + 1]=.int .u64 (K[j + 1]'(by omega)):=by rw [List.getElem_map]; rfl
   rw [e1] at z1;rw [e2] at z2;have hlt2:=HS.out j (by omega);clear e1 e2 hab2 hb;generalize K[j]'(by omega)=x at *;generalize K[j + 1]'(by omega)=y at *;have hge:¬ (y≤x):=by omega
   have hw0:IntKind.i64.wrap ((j:Int) + 1 - 1)=(j:Int):=by rw [IntKind.wrap_i64]; omega
   have hw1:IntKind.i64.wrap (j:Int)=(j:Int):=by rw [IntKind.wrap_i64]; omega
   have ht1:((j:Int) + 1).toNat=j + 1:=by omega
   clear hlt2;go_wp2_with fail
   go_quiet (fail)
   go_wp2_with fail;go_roundw
   case rel=>exact ⟨j + 1,_,by omega,by go_num,rfl⟩
   case measure=>simp [intOf]; omega
  ·have hji:¬ (j:Int) + 1 < (m:Int):=by omega
   go_wp2_with fail;go_ret;exact ⟨rfl,bI Br _⟩
theorem EC (n:Nod) (ak av ac:Option Addr) (ck cv cc:Nat) (w:World) (h:NodR w n ak av ac ck cv cc) (hw:aU n=true) (hs:∀ i (h:i + 1 < n.K.length),n.K[i] < n.K[i + 1]) (hv:∀ v∈n.V,v.size≤40) (hc:∀ c∈n.C,2≤c∧c < 640) :
  Calls Tryz.prog 235 #[aK n ak av ac ck cv cc] w fun e w' => e=.returned (.bool true)∧Below w.heap.size w w' := by
 have WH:=Hd (fun w=>gD n ak av ac ck cv cc w h.ok true hw);have RI:=Hd (fun w' (hb:Below w.heap.size w w')=>pR n.K ak ck w' (h.k.below hb) h.ok.k1 hs);have hv1:=h.ok.v1;have hc1:=h.ok.c1;have HV0:=h.v;have HC0:=h.c;clear h hw hs;obtain ⟨lf,K,V,C⟩:=n;unfold aK at *
 dsimp only at WH RI hv1 hc1 HV0 HC0 hv hc ⊢
 obtain ⟨lk,hlk⟩:∃ lk,K.length=lk:=⟨_,rfl⟩
 obtain ⟨lv,hlv⟩:∃ lv,V.length=lv:=⟨_,rfl⟩
 obtain ⟨lc,hlc⟩:∃ lc,C.length=lc:=⟨_,rfl⟩
 rw [hlk,hlv,hlc] at WH ⊢;rw [hlk] at RI;rw [hlv] at hv1;rw [hlc] at hc1;obtain ⟨W,hW⟩:∃ W,w.alloc (.cells #[.bool lf,.slice ak lk ck,.slice av lv cv,.slice ac lc cc] 206)=W:=⟨_,rfl⟩
 have bel:Below w.heap.size w W:=by rw [← hW]; exact aA _ _
 have XA:W.heap[w.heap.size]?=some (.cells #[.bool lf,.slice ak lk ck,.slice av lv cv,.slice ac lc cc] 206):=by rw [← hW]; exact han w _
 have x0:=cl XA 0 rfl;have x1:=cl XA 1 rfl;have x2:=cl XA 2 rfl;have x3:=cl XA 3 rfl;have HV:=Hd (HV0.below bel);have HC:=Hd (HC0.below bel);have HVB:=Hd hv;have HCB:=Hd hc;have BEL:=Hd bel;have XH:=Hd XA;have HW:=Hd hW;clear bel XA hW HV0 HC0 hv hc;go_enter Tryz.func235,Tryz.ntmps235;go_upto_region 1 with fail
 rw [HW.out];go_wp2_with fail
 go_loop [10] (fun i=>∃ j:Nat,j≤lv∧i=.int .i64 (j:Int)) (fun i=>lv + 1 - (intOf i).toNat)
 case atStart=>exact ⟨0,Nat.zero_le _,rfl⟩
 case round =>
  obtain ⟨j,hj,rfl⟩:=hrel
  by_cases hlt:j < lv
  ·have hji:(j:Int) < (lv:Int):=by omega
   have hjl:j < (V.map Value.string).length:=by rw [List.length_map]; omega
   obtain ⟨b,off,rfl,hb,z⟩:=HV.out.at j hjl;have e1:(V.map Value.string)[j]=.string (V[j]'(by omega)):=by rw [List.getElem_map]
   rw [e1] at z;have hz:=HVB.out (V[j]'(by omega)) (List.getElem_mem _);clear e1 hb;generalize V[j]'(by omega)=x at *;have hz2:¬ (40:Int) < (x.size:Int):=by omega
   clear hz;go_wp2_with fail
   go_round
   case rel=>exact ⟨j + 1,by omega,by go_num⟩
   case measure=>simp [intOf]; omega
  ·obtain rfl:j=lv:=by omega
   have hji:¬ (j:Int) < (j:Int):=by omega
   go_wp2_with fail
   go_loop [21] (fun i=>∃ k:Nat,k≤lc∧i=.int .i64 (k:Int)) (fun i=>lc + 1 - (intOf i).toNat)
   case atStart=>exact ⟨0,Nat.zero_le _,rfl⟩
   case round =>
    obtain ⟨k,hk,rfl⟩:=hrel
    by_cases hlt2:k < lc
    ·have hki:(k:Int) < (lc:Int):=by omega
     have hkl:k < (C.map eY).length:=by rw [List.length_map]; omega
     obtain ⟨b,off,rfl,hb,z⟩:=HC.out.at k hkl;have e1:(C.map eY)[k]=.int .i64 (C[k]'(by omega)):=by rw [List.getElem_map]; rfl
     rw [e1] at z;have hz:=HCB.out (C[k]'(by omega)) (List.getElem_mem _);clear e1 hb;generalize C[k]'(by omega)=x at *;have hz1:¬ x < 2:=by omega
     have hz2:¬ 640≤x:=by omega
     clear hz;go_wp2_with fail
     go_round
     case rel=>exact ⟨k + 1,by omega,by go_num⟩
     case measure=>simp [intOf]; omega
    ·obtain rfl:k=lc:=by omega
     have hki:¬ (k:Int) < (k:Int):=by omega
     go_wp2_with fail;refine (WH.out _).mono ?_;rintro e w1 ⟨rfl,b1⟩;have B1:=Hd (chain BEL.out b1)
     have y1:w1.cell? ⟨w.heap.size,1,none⟩=some (.slice ak lk ck):=by
      have X1:w1.heap[w.heap.size]?=_:=(b1.block _ (zl XH.out)).trans XH.out;rw [cob X1]; rfl
     clear b1;go_wp2_with fail;refine (RI.out _ B1.out).mono ?_;rintro e w2 ⟨rfl,b2⟩;go_wp2_with fail;go_ret;exact ⟨rfl,chain B1.out b2⟩
theorem DW (n:Nod) (ak av ac:Option Addr) (ck cv cc:Nat) (w:World) (h:NodR w n ak av ac ck cv cc) (hw:aU n=true) (hs:∀ i (h:i + 1 < n.K.length),n.K[i] < n.K[i + 1]) (hv:∀ v∈n.V,v.size≤40) (hc:∀ c∈n.C,2≤c∧c < 640) (h0:n.leaf=true) (h1:0 < n.K.length) (hz:aG n≤240) :
  Calls Tryz.prog 219 #[aK n ak av ac ck cv cc] w fun e w' => e=.returned (.bool true)∧Below w.heap.size w w' := by
 obtain ⟨z,hzz⟩:∃ z,aG n=z:=⟨_,rfl⟩
 have PL:=Hd (fun w' (hb:Below w.heap.size w w')=>EC n ak av ac ck cv cc w' (h.below hb) hw hs hv hc);have SZ:=Hd (fun w' (hb:Below w.heap.size w w')=>mE n ak av ac ck cv cc w' (h.below hb) z (Hd hzz) hw);rw [hzz] at hz;clear h hw hs hv hc hzz;obtain ⟨lf,K,V,C⟩:=n;unfold aK at *
 dsimp only at PL SZ h0 h1 ⊢
 subst h0;generalize K.length=lk at *;generalize V.length=lv at *;generalize C.length=lc at *;have h1i:(0:Int) < (lk:Int):=by omega
 have hzi:(z:Int)≤240:=by omega
 have b0:Below w.heap.size w (w.alloc (.cells #[.bool true,.slice ak lk ck,.slice av lv cv,.slice ac lc cc] 206)):=aA _ _;have B0:=Hd b0;clear b0 h1 hz;go_enter Tryz.func219,Tryz.ntmps219;go_wp2_with fail;refine (PL.out _ B0.out).mono ?_;rintro e w1 ⟨rfl,b1⟩;have X1:=gN b1;have B1:=Hd (dS b1);have y0:=cl X1 0 rfl;have y1:=cl X1 1 rfl;have y2:=cl X1 2 rfl;have y3:=cl X1 3 rfl;clear X1 b1;go_wp2_with fail;refine (SZ.out _ B1.out).mono ?_;rintro e w2 ⟨rfl,b2⟩;go_wp2_with fail;go_ret;exact ⟨rfl,chain B1.out b2⟩
theorem gU (n size:Int) (x:ByteArray) (w:World) (h0:0≤n) (hx:Str (aY n size)=x) :
  Calls Tryz.prog 237 #[.int .u64 n,.int .i64 size] w fun e w' => e=.returned (.string x)∧Below w.heap.size w w' := by
 subst hx;have PA:=Hd (fun w=>kD n size w h0);generalize Str (aY n size)=x at *;generalize vO n size=y at *;go_enter Tryz.func237,Tryz.ntmps237;go_wp2_with fail;refine (PA.out _).mono ?_;rintro e w1 ⟨rfl,b1⟩;go_wp2_with fail;go_ret;exact ⟨rfl,b1⟩
theorem uZ:(Tryz.prog.info? 292).map (fun i=>i.size)=some 2:=by kernel_rfl
theorem zS (b:Nat) (w:World) (h0:w.cell? ⟨b,0,none⟩=some (.pointer (some ⟨b,0,none⟩))) :
  Calls Tryz.prog 244 #[.pointer (some ⟨b,0,none⟩)] w fun e w' => e=.returned (.tuple #[])∧w'=w:=by
 obtain ⟨j,hj,_⟩:=Option.map_eq_some_iff.1 uZ;go_enter Tryz.func244,Tryz.ntmps244
 go_wp2
 rw [Lib.run_neq_ptr_same w _ Tryz.underlying290 hj]
 go_wp2
 go_end0
 exact ⟨rfl,rfl⟩
theorem wV (b:Nat) (w:World) (h0:w.cell? ⟨b,0,none⟩=some (.pointer none)) (hsh:w.shape? b=some (292,2)) (hfz:w.frozen? ⟨b,0,none⟩=false) :
  Calls Tryz.prog 244 #[.pointer (some ⟨b,0,none⟩)] w fun e w' => e=.returned (.tuple #[])∧w'=w.setCell ⟨b,0,none⟩ (.pointer (some ⟨b,0,none⟩)):=by
 obtain ⟨j,hj,hjs⟩:=Option.map_eq_some_iff.1 uZ;go_enter Tryz.func244,Tryz.ntmps244
 go_wp2
 rw [Lib.run_to_unsafe w ⟨b,0,none⟩ Tryz.underlying290 Tryz.underlying303 hj (by rw [hjs]; decide) hsh (Nat.zero_lt_succ 1)];simp only [Result.andThen];rw [Oper.upon_value]
 go_wp2
 rw [run_callFunc_extern Tryz.func246 (by kernel_rfl) (by kernel_rfl) (by kernel_rfl) (e:=Extern.AbiNoEscape.same) (by kernel_rfl)];rw [Lib.run_noEscape];simp only [Result.andThen];rw [Oper.upon_value]
 go_wp2
 rw [Lib.run_from_unsafe w ⟨b,0,none⟩ Tryz.underlying303 Tryz.underlying290 hj hsh (by kernel_rfl)];simp only [Result.andThen];rw [Oper.upon_value]
 go_wp2
 go_end0
 exact ⟨rfl,rfl⟩
theorem GU (B b:Nat) (bs:List Value) (w:World) (h:Lib.IsBuilder 292 5 B b bs w) :
  Calls Tryz.prog 244 #[.pointer (some ⟨b,0,none⟩)] w fun e w' => e=.returned (.tuple #[])∧(Lib.BuilderAt 292 5 B b (.pointer (some ⟨b,0,none⟩)) bs w'∧Below B w w'):=by
 rcases h with h | h
 ·refine (wV b w h.cell0 h.shape h.frozen0).mono ?_
  rintro e w' ⟨rfl,rfl⟩;exact ⟨rfl,h.used _,(Below.refl B w).setCell (p:=⟨b,0,none⟩) h.1 _⟩
 ·refine (zS b w h.cell0).mono ?_
  rintro e w' ⟨rfl,rfl⟩;exact ⟨rfl,h,Below.refl B _⟩
theorem PY:(Tryz.prog.info? 5).map (fun i=>(i.zero,i.size,i.bytes))=some (some (.int .u8 0),1,1):=by kernel_rfl
theorem fM (B b:Nat) (bs:List Value) (s:ByteArray) (w:World) (h:Lib.IsBuilder 292 5 B b bs w) (hlen:bs.length + s.size≤140737488355328) (hBw:B≤w.heap.size) :
  Calls Tryz.prog 236 #[.pointer (some ⟨b,0,none⟩),.string s] w fun e w' => e=.returned (.tuple #[.int .i64 s.size,.nilIface])∧(Lib.BuilderAt 292 5 B b (.pointer (some ⟨b,0,none⟩)) (bs ++ Lib.strCells s) w'∧Below B w w'):=by
 obtain ⟨i0,hi,hz0,hz1,hz2⟩:=info_parts PY;go_enter Tryz.func236,Tryz.ntmps236
 go_wp2_with (go_at_call 244; refine (GU B b bs _ h).mono ?_)
 rintro e w1 ⟨rfl,h1,hb1⟩;obtain ⟨hB,v,hbk,hown,hne⟩:=h1;have c0:w1.cell? ⟨b,0,none⟩=some (.pointer (some ⟨b,0,none⟩)):=by rw [Lib.cell_of_heap hbk]; rfl
 have c1:w1.cell? ⟨b,1,none⟩=some v:=by rw [Lib.cell_of_heap hbk]; rfl
 go_wp2_with (at_builtin; refine Lib.wpList_append_own_string _ rfl _ _ 22 9 rfl B 5 i0 Tryz.underlying22 Tryz.underlying9 hi hz0 hz1 hz2 _ _ _ rfl hown s rfl ?c3 ?c4 ?c5 ?_)
 case c3=>unfold maxLen; omega
 case c4=>omega
 case c5=>have:=hb1.size; omega
 intro v' w2 hown' hgrow _
 have hlt:b < w1.heap.size:=by
  rcases Nat.lt_or_ge b w1.heap.size with h' | h'
  ·exact h'
  ·simp [Array.getElem?_eq_none h'] at hbk
 have hb2:w2.heap[b]?=some (.cells #[.pointer (some ⟨b,0,none⟩),v] 292 (0,0)):=by
  rw [hgrow.block b hlt (fun e=>hne e.symm)];exact hbk
 have d0:w2.cell? ⟨b,0,none⟩=some (.pointer (some ⟨b,0,none⟩)):=by rw [Lib.cell_of_heap hb2]; rfl
 have d1:w2.cell? ⟨b,1,none⟩=some v:=by rw [Lib.cell_of_heap hb2]; rfl
 have f1:w2.frozen? ⟨b,1,none⟩=false:=Lib.frozen_of_heap hb2 1
 obtain ⟨ao,n', cap,rfl⟩:∃ ao n' cap,v'=.slice ao n' cap:=by
  rcases hown'.2 with ⟨hv,_⟩ | ⟨g,cap,cur,hv,_⟩
  ·exact ⟨_,_,_,hv⟩
  ·exact ⟨_,_,_,hv⟩
 go_wp2
 go_ret2;refine ⟨rfl,?_,?_⟩
 ·exact Lib.BuilderAt.put (T:=292) (e:=5) hB hb2 (bs' := bs ++ Lib.strCells s) (by simpa [Lib.strCells_length] using hown') (by decide)
 ·exact (hb1.grown hgrow (by have:=hb1.size; omega) (fun k hk=>(hown.lt k hk).1)).setCell (p:=⟨b,1,none⟩) hB _
end Go.Proofs.YtblbiihpfjjhhaaGreatDoor
namespace Go.Proofs
set_option linter.unusedVariables false
set_option linter.unusedSimpArgs false
open Go.Shelf
def Tryz.lays169_ren:Go.Shelf.Ren:=⟨fun | 169=>238 | n=>n,fun | 70=>290 | 9=>9 | 0=>0 | 72=>292 | 37=>22 | 127=>301 | 3=>3 | 5=>5 | n=>n,fun | n=>n⟩
theorem Tryz.lays169:Go.Proofs.Lays.n169 Tryz.prog Tryz.lays169_ren:={
 mixed:=by kernel_rfl
 f169:=Tryz.func238.trans (congrArg some (by kernel_rfl))
 t0:=Tryz.underlying0
 a0:=Tryz.isAgg0
 z0:=Tryz.sizeOf0
 v0:=Tryz.zeroValue0
 t3:=Tryz.underlying3
 a3:=Tryz.isAgg3
 z3:=Tryz.sizeOf3
 v3:=Tryz.zeroValue3
 t9:=Tryz.underlying9
 a9:=Tryz.isAgg9
 z9:=Tryz.sizeOf9
 v9:=Tryz.zeroValue9
 t37:=Tryz.underlying22
 a37:=Tryz.isAgg22
 z37:=Tryz.sizeOf22
 v37:=Tryz.zeroValue22
 t70:=Tryz.underlying290
 a70:=Tryz.isAgg290
 z70:=Tryz.sizeOf290
 v70:=Tryz.zeroValue290
 t72:=Tryz.underlying292
 a72:=Tryz.isAgg292
 z72:=Tryz.sizeOf292
 v72:=Tryz.zeroValue292
 t127:=Tryz.underlying301
 a127:=Tryz.isAgg301
 z127:=Tryz.sizeOf301
 v127:=Tryz.zeroValue301 }
theorem Tryz.Builder_Extra_169:Builder.Extra Tryz.prog Tryz.lays169_ren:={
 sizeBuilder:=by kernel_rfl
 liesBuilder:=by kernel_rfl
 t5:=Tryz.underlying5
 a5:=Tryz.isAgg5
 z5:=Tryz.sizeOf5
 v5:=Tryz.zeroValue5
 infoByte:=by kernel_rfl
 cellsByte:=by kernel_rfl
 sizeByte:=by kernel_rfl
 neB5:=by decide }
open Go.RowKit in
theorem Tryz.Builder_String_any (B b:Nat) (l:List UInt8) (w:World) (h:Lib.IsBuilder 292 5 B b (Lib.byteCells l) w) (hBw:B≤w.heap.size) :
  Calls Tryz.prog 238 #[.pointer (some ⟨b,0,none⟩)] w fun e w' => e=.returned (.string ⟨l.toArray⟩)∧Below B w w' := Any.Builder_String_any Tryz.lays169 Tryz.Builder_Extra_169 B b l w h hBw
end Go.Proofs
namespace Go.Proofs.YtblbiihpfjjhhaaGreatDoor
open Go.RowKit
set_option maxRecDepth 20000
set_option maxHeartbeats 12800000
set_option linter.unusedVariables false
set_option linter.unusedSimpArgs false
theorem rV {w w' : World} {B:Nat} {e:TypeId} {v:Value} {n:Nat} {xs:List Value} (h:w.ownsRow B e 1 v n xs) (hb:Below w.heap.size w w'):w'.ownsRow B e 1 v n xs:=by
 refine ⟨h.1,?_⟩
 rcases h.2 with hx | ⟨g,cap,cur,hv,hbg,hh,r⟩
 ·exact .inl hx
 ·exact .inr ⟨g,cap,cur,hv,hbg,(hb.block g (zl hh)).trans hh,r⟩
theorem iN {w w' : World} {T e:TypeId} {B b:Nat} {bs:List Value} (h:Lib.IsBuilder T e B b bs w) (hb:Below w.heap.size w w'):Lib.IsBuilder T e B b bs w' := by
 rcases h with ⟨h1,v,h2,h3,h4⟩ | ⟨h1,v,h2,h3,h4⟩
 ·exact .inl ⟨h1,v,(hb.block b (zl h2)).trans h2,rV h3 hb,h4⟩
 ·exact .inr ⟨h1,v,(hb.block b (zl h2)).trans h2,rV h3 hb,h4⟩
def mV (K:List Int) (V:List ByteArray):Nat→List UInt8
 | 0=>[1]
 | j + 1=>mV K V j ++ aY (K.getD j 0) 8 ++ (cC (V.getD j ByteArray.empty)).data.toList
theorem be_length (k n:Nat):(M.be k n).length=k:=by
 induction k generalizing n with
 | zero=>rfl
 | succ k ih=>simp [M.be,ih]
theorem oN (n:Int):(aY n 8).length≤8:=by
 unfold aY
 split
 ·rw [be_length]; decide
 ·exact Nat.zero_le _
theorem uJ (s:ByteArray):(cC s).size≤256:=by
 unfold cC
 split
 ·rw [bY]; simp; omega
 ·exact Nat.zero_le _
theorem QI (K:List Int) (V:List ByteArray) (j:Nat):(mV K V j).length≤1 + 264 * j:=by
 induction j with
 | zero=>exact Nat.le_refl _
 | succ j ih =>
  have h1:=oN (K.getD j 0);have h2:=uJ (V.getD j ByteArray.empty);simp only [mV,List.length_append,cQ];omega
theorem wR (n:Nod) (ak av ac:Option Addr) (ck cv cc:Nat) (w:World) (h:NodR w n ak av ac ck cv cc) (hw:aU n=true) (hs:∀ i (h:i + 1 < n.K.length),n.K[i] < n.K[i + 1]) (hv:∀ v∈n.V,v.size≤40) (h0:n.leaf=true) (h1:0 < n.K.length) (hz:aG n≤240) :
  Calls Tryz.prog 222 #[aK n ak av ac ck cv cc] w fun e w' => e=.returned (.tuple #[.string (Str (mV n.K n.V n.K.length)),.int .i64 0])∧Below w.heap.size w w' := by
 have hwl:=(aX h0).1 hw;have RG:=Hd (fun w' (hb:Below w.heap.size w w')=>DW n ak av ac ck cv cc w' (h.below hb) hw hs hv (by rw [List.eq_nil_of_length_eq_zero hwl.2]; intro c hc; cases hc) h0 h1 hz);have hk1:=h.ok.k1;have hkb:=h.ok.kb;have HK0:=h.k;have HV0:=h.v;clear h hw hs hv hz;obtain ⟨lf,K,V,C⟩:=n;unfold aK at *
 dsimp only at RG h0 h1 hwl hk1 hkb HK0 HV0 ⊢
 subst h0;obtain ⟨lk,hlk⟩:∃ lk,K.length=lk:=⟨_,rfl⟩
 have hlv:V.length=lk:=by rw [hwl.1,hlk]
 rw [hlk,hlv] at RG ⊢;rw [hlk] at hk1;generalize C.length=lc at *;have b0:Below w.heap.size w (w.alloc (.cells #[.bool true,.slice ak lk ck,.slice av lk cv,.slice ac lc cc] 206)):=aA _ _;have B0:=Hd b0;have HKB:=Hd hkb;have HLE:=Hd (QI K V);clear b0 hwl h1 hkb;go_enter Tryz.func222,Tryz.ntmps222;go_wp2_with fail;refine (RG.out _ B0.out).mono ?_;rintro e w1 ⟨rfl,b1⟩;have X1:=Hd (gN b1);have B1:=Hd (dS b1);clear b1 RG B0;have FB:=Lib.fresh_isBuilder 292 5 w1
 have bA:Below w1.heap.size w1 (w1.alloc (.cells #[.pointer none,.slice none 0 0] 292)):=aA _ _;have XA:=Hd ((bA.block _ (zl X1.out)).trans X1.out);have y0:=cl XA.out 0 rfl;have FBH:=Hd FB;have BA:=Hd bA;clear FB bA;go_wp2_with fail;refine (fM w1.heap.size w1.heap.size [] ⟨#[1]⟩ _ FBH.out (by decide) BA.out.size).mono ?_;rintro e w2 ⟨rfl,h2,b2⟩
 have I2:Lib.IsBuilder 292 5 w1.heap.size w1.heap.size (Lib.byteCells (mV K V 0)) w2:=by
  rw [List.nil_append,Lib.strCells_eq] at h2;exact .inr h2
 have B2:=Hd (BA.out.trans b2);have I2H:=Hd I2
 have z1:w2.cell? ⟨w.heap.size,1,none⟩=some (.slice ak lk ck):=by
  have X2:=(B2.out.block _ (zl X1.out)).trans X1.out;rw [cob X2]; rfl
 clear h2 b2 I2 y0;go_wp2_with fail
 go_loopw [26] (fun i wr=>∃ j:Nat,j≤lk∧i=.int .i64 (j:Int)∧Below w1.heap.size w1 wr∧Lib.IsBuilder 292 5 w1.heap.size w1.heap.size (Lib.byteCells (mV K V j)) wr) (fun i _=>lk + 1 - (intOf i).toNat)
 case atStart=>exact ⟨0,Nat.zero_le _,rfl,B2.out,I2H.out⟩
 case round =>
  obtain ⟨j,hj,rfl,hb,hI⟩:=hrel;have HB:=Hd hb;have HI:=Hd hI;clear hI
  by_cases hlt:j < lk
  ·have hji:(j:Int) < (lk:Int):=by omega
   have hjl:j < (K.map bG).length:=by rw [List.length_map]; omega
   have hjv:j < (V.map Value.string).length:=by rw [List.length_map]; omega
   obtain ⟨b,off,rfl,hbl,zk0⟩:=HK0.at j hjl;obtain ⟨b', off', rfl,hbl', zv0⟩:=HV0.at j hjv;have zk:=(hb.cell (p:=⟨b,off + j,none⟩) (Nat.lt_of_lt_of_le hbl B1.out.size)).trans ((B1.out.cell (p:=⟨b,off + j,none⟩) hbl).trans zk0);have zv1:=(B1.out.cell (p:=⟨b', off' + j,none⟩) hbl').trans zv0;have e1:(K.map bG)[j]=.int .u64 (K.getD j 0):=by rw [List.getElem_map,List.getD_eq_getElem?_getD,List.getElem?_eq_getElem (by omega)]; rfl
   have e2:(V.map Value.string)[j]=.string (V.getD j ByteArray.empty):=by rw [List.getElem_map,List.getD_eq_getElem?_getD,List.getElem?_eq_getElem (by omega)]; rfl
   rw [e1] at zk;rw [e2] at zv1;have ZV1:=Hd zv1
   have hkj:0≤K.getD j 0:=by
    rw [List.getD_eq_getElem?_getD,List.getElem?_eq_getElem (by omega)];exact (HKB.out _ (List.getElem_mem _)).1
   have hle:=HLE.out j;have hp8:=oN (K.getD j 0);have ht8:=uJ (V.getD j ByteArray.empty);have ES:Hid (mV K V (j + 1)=mV K V j ++ aY (K.getD j 0) 8 ++ (cC (V.getD j ByteArray.empty)).data.toList):=Hd rfl;clear e1 e2 zk0 zv0 zv1;generalize K.getD j 0=kx at *;generalize V.getD j ByteArray.empty=vx at *;have XR:=(hb.block _ (zl X1.out)).trans X1.out;have XRH:=Hd XR;clear XR hb;go_wp2_with fail;refine (gU kx 8 _ _ hkj rfl).mono ?_;rintro e w3 ⟨rfl,b3⟩;have I3:=Hd (iN HI.out b3);have B3:=Hd (chain HB.out b3)
   clear b3 zk hbl;go_wp2_with fail;refine (fM w1.heap.size w1.heap.size _ _ _ I3.out (by rw [Lib.byteCells_length,bY]; omega) B3.out.size).mono ?_;rintro e w4 ⟨rfl,h4,b4⟩;have B4:=Hd (B3.out.trans b4)
   have I4:Hid (Lib.IsBuilder 292 5 w1.heap.size w1.heap.size (Lib.byteCells (mV K V j ++ aY kx 8)) w4):=Hd (by
    rw [Lib.strCells_eq,aN,← Lib.byteCells_append] at h4;exact .inr h4)
   have X4:=(B4.out.block _ (zl X1.out)).trans X1.out;have u0:=cl X4 0 rfl;have u2:=cl X4 2 rfl;clear X4 h4 b4;have zv4:w4.cell? ⟨b', off' + j,none⟩=some (.string vx):=(B4.out.cell (p:=⟨b', off' + j,none⟩) (Nat.lt_of_lt_of_le hbl' B1.out.size)).trans ZV1.out;go_wp2_with fail;refine (IW vx _).mono ?_;rintro e w5 ⟨rfl,b5⟩;have I5:=Hd (iN I4.out b5);have B5:=Hd (chain B4.out b5);clear b5 zv4 u0 u2;go_wp2_with fail
   refine (fM w1.heap.size w1.heap.size _ _ _ I5.out (by rw [Lib.byteCells_length,List.length_append]; omega) B5.out.size).mono ?_;rintro e w6 ⟨rfl,h6,b6⟩;have B6:=Hd (B5.out.trans b6)
   have I6:Hid (Lib.IsBuilder 292 5 w1.heap.size w1.heap.size (Lib.byteCells (mV K V (j + 1))) w6):=Hd (by
    rw [Lib.strCells_eq,← Lib.byteCells_append] at h6;rw [ES.out];exact .inr h6)
   clear h6 b6;go_wp2_with fail;go_roundw
   case rel=>exact ⟨j + 1,by omega,by go_num,B6.out,I6.out⟩
   case measure=>simp [intOf]; omega
  ·obtain rfl:j=lk:=by omega
   have hji:¬ (j:Int) < (j:Int):=by omega
   clear hb;go_wp2_with fail;refine (Tryz.Builder_String_any w1.heap.size w1.heap.size _ _ HI.out HB.out.size).mono ?_;rintro e w3 ⟨rfl,b3⟩;go_wp2_with fail;go_ret2;exact ⟨rfl,chain B1.out (HB.out.trans b3)⟩
def vG (K:List Int):Bool:=(List.range (K.length - 1)).all fun i=>decide (K.getD i 0 < K.getD (i + 1) 0)
theorem nH (K:List Int):vG K=true ↔ ∀ i (h:i + 1 < K.length),K[i] < K[i + 1]:=by
 unfold vG;rw [List.all_eq_true];constructor
 ·intro h i hi
  have:=h i (List.mem_range.2 (by omega));rw [decide_eq_true_eq,List.getD_eq_getElem?_getD,List.getD_eq_getElem?_getD,List.getElem?_eq_getElem (by omega),List.getElem?_eq_getElem hi] at this;exact this
 ·intro h i hi
  have hi' := List.mem_range.1 hi;rw [decide_eq_true_eq,List.getD_eq_getElem?_getD,List.getD_eq_getElem?_getD,List.getElem?_eq_getElem (by omega),List.getElem?_eq_getElem (by omega)];exact h i (by omega)
def iT (n:Nod):Bool:=vG n.K && n.V.all (fun v=>decide (v.size≤40)) && n.C.all fun c=>decide (2≤c∧c < 640)
theorem cJ (n:Nod):iT n=true ↔ (∀ i (h:i + 1 < n.K.length),n.K[i] < n.K[i + 1])∧(∀ v∈n.V,v.size≤40)∧∀ c∈n.C,2≤c∧c < 640:=by
 unfold iT;rw [Bool.and_eq_true,Bool.and_eq_true,nH,List.all_eq_true,List.all_eq_true];simp only [decide_eq_true_eq,and_assoc]
def bN (n:Nod):Bool:=iT n && aU n && (!n.leaf || decide (0 < n.K.length)) && decide (aG n≤240)
theorem cI (n:Nod):bN n=true ↔ iT n=true∧aU n=true∧(n.leaf=true→0 < n.K.length)∧aG n≤240:=by
 unfold bN;rw [Bool.and_eq_true,Bool.and_eq_true,Bool.and_eq_true,decide_eq_true_eq]
 cases n.leaf <;> simp [and_assoc]
def fX (K C:List Int):Nat→List UInt8
 | 0=>2 :: aY (C.getD 0 0) 2
 | j + 1=>fX K C j ++ aY (K.getD j 0) 8 ++ aY (C.getD (j + 1) 0) 2
def cA (n:Nod):ByteArray:=if n.leaf then Str (mV n.K n.V n.K.length) else Str (fX n.K n.C n.K.length)
def eZ:List Int→List ByteArray→ByteArray
 | k :: K,v :: V=>Str (aY k 8) ++ (cC v ++ eZ K V)
 | _,_=>⟨#[]⟩
def dT:List Int→List Int→ByteArray
 | k :: K,c :: C=>Str (aY k 8) ++ (Str (aY c 2) ++ dT K C)
 | _,_=>⟨#[]⟩
def aS:Nat→ByteArray→List Int × List ByteArray × Bool
 | 0,_=>([],[],false)
 | f + 1,s=>if s.size=0 then ([],[],false) else
  (aH s 8 :: (aS f (ttR (aB s 8))).1,ttS (aB s 8) :: (aS f (ttR (aB s 8))).2.1,(decide (cM s 8≠0) || decide (ttE (aB s 8)≠0)) || (aS f (ttR (aB s 8))).2.2)
def cV:Nat→ByteArray→List Int × List Int × Bool
 | 0,_=>([],[],false)
 | f + 1,s=>if s.size=0 then ([],[],false) else
  (aH s 8 :: (cV f (aB (aB s 8) 2)).1,aH (aB s 8) 2 :: (cV f (aB (aB s 8) 2)).2.1,(decide (cM s 8≠0) || decide (cM (aB s 8) 2≠0)) || (cV f (aB (aB s 8) 2)).2.2)
def rdN (s:ByteArray):Option (Nod × Bool) :=
 if s.extract 0 1=⟨#[1]⟩ then some (⟨true,(aS s.size (s.extract 1 s.size)).1,(aS s.size (s.extract 1 s.size)).2.1,[]⟩,(aS s.size (s.extract 1 s.size)).2.2)
 else if s.extract 0 1=⟨#[2]⟩ then some (⟨false,(cV s.size (aB (s.extract 1 s.size) 2)).1,[],aH (s.extract 1 s.size) 2 :: (cV s.size (aB (s.extract 1 s.size) 2)).2.1⟩,decide (cM (s.extract 1 s.size) 2≠0) || (cV s.size (aB (s.extract 1 s.size) 2)).2.2)
 else none
def tL (s:ByteArray):Option Nod :=
 if s.size=0∨240 < s.size then none else
 match rdN s with
 | some (n,bad)=>if (!bad && bN n)=true then some n else none
 | none=>none
theorem lZ {s:ByteArray} {k:Int}:cM s k=0 ↔ cL s k=true:=by
 unfold cM
 split
 ·simp [*]
 ·split <;> simp [*]
theorem UJ {s:ByteArray}:ttE s=0 ↔ lT s=true:=by
 unfold ttE
 split <;> simp [*]
theorem jH (s:ByteArray) (k:Int):(aB s k).size≤s.size:=by
 unfold aB; split
 ·rw [ByteArray.size_extract]; omega
 ·exact Nat.zero_le _
theorem lY (s:ByteArray) (h:s.size≠0) {k:Int} (h1:1≤k):(aB s k).size < s.size:=by
 unfold aB; split
 ·rw [ByteArray.size_extract]; omega
 ·exact Nat.pos_of_ne_zero h
theorem IS (s:ByteArray):(ttR s).size≤s.size:=by
 unfold ttR; split
 ·have h:(ttB s).size≤s.size:=by unfold ttB; rw [ByteArray.size_extract]; omega
  rw [ByteArray.size_extract]; omega
 ·exact Nat.zero_le _
theorem RY (s:ByteArray):(ttS s).size≤255:=by
 cases h:lT s with
 | true=>have:=AM s h; omega
 | false=>rw [(UI s h).1]; exact Nat.zero_le _
theorem rM (s:ByteArray):0≤aH s 8∧aH s 8≤18446744073709551615:=by
 have h:=tB s (k:=8) (by decide) (by decide);have h2:=vN h.2 h.1;have e:(256:Nat) ^ (8:Int).toNat=18446744073709551616:=by decide
 rw [e] at h2;omega
theorem kA (s:ByteArray):0≤aH s 2∧aH s 2≤65535:=by
 have h:=tB s (k:=2) (by decide) (by decide);have h2:=vN h.2 h.1;have e:(256:Nat) ^ (2:Int).toNat=65536:=by decide
 rw [e] at h2;omega
theorem gQ {s:ByteArray} {k:Int} (h:cL s k=true):k≤s.size:=by
 unfold cL at h; simp at h; omega
theorem mI:∀ (f:Nat) (s:ByteArray),(aS f s).1.length=(aS f s).2.1.length∧(aS f s).1.length≤f∧(aS f s).1.length≤s.size∧(∀ x∈(aS f s).1,0≤x∧x≤18446744073709551615)∧(∀ v∈(aS f s).2.1,v.size≤255)∧(s.size≤f→(aS f s).2.2=false→eZ (aS f s).1 (aS f s).2.1=s):=by
 intro f
 induction f with
 | zero =>
  intro s;refine ⟨rfl,Nat.le_refl _,Nat.zero_le _,by simp [aS],by simp [aS],fun h _=>?_⟩;exact (cK (by omega)).symm
 | succ f ih =>
  intro s;unfold aS
  by_cases h0:s.size=0
  ·rw [if_pos h0]
   exact ⟨rfl,Nat.zero_le _,Nat.zero_le _,by simp,by simp,fun h _=>(cK h0).symm⟩
  ·rw [if_neg h0]
   obtain ⟨i1,i2,i3,i4,i5,i6⟩:=ih (ttR (aB s 8));have l1:=lY s h0 (k:=8) (by decide);have l2:=IS (aB s 8);refine ⟨by simp [i1],by simp; omega,by simp; omega,?_,?_,?_⟩
   ·intro x hx
    rcases List.mem_cons.1 hx with rfl | hx
    ·exact rM s
    ·exact i4 x hx
   ·intro v hv
    rcases List.mem_cons.1 hv with rfl | hv
    ·exact RY _
    ·exact i5 v hv
   ·intro hf hb
    simp only [Bool.or_eq_false_iff,decide_eq_false_iff_not,Decidable.not_not,ne_eq] at hb;obtain ⟨⟨e1,e2⟩,e3⟩:=hb;have t1:=oO s (k:=8) (by decide) (by decide) (gQ (lZ.1 e1));have t2:=AM (aB s 8) (UJ.1 e2)
    show Str (aY (aH s 8) 8) ++ (cC (ttS (aB s 8)) ++ eZ _ _)=s
    rw [i6 (by omega) e3,t2.1,t1.1]
theorem pT:∀ (f:Nat) (s:ByteArray),(cV f s).1.length=(cV f s).2.1.length∧(cV f s).1.length≤f∧(cV f s).1.length≤s.size∧(∀ x∈(cV f s).1,0≤x∧x≤18446744073709551615)∧(∀ v∈(cV f s).2.1,0≤v∧v≤65535)∧(s.size≤f→(cV f s).2.2=false→dT (cV f s).1 (cV f s).2.1=s):=by
 intro f
 induction f with
 | zero =>
  intro s;refine ⟨rfl,Nat.le_refl _,Nat.zero_le _,by simp [cV],by simp [cV],fun h _=>?_⟩;exact (cK (by omega)).symm
 | succ f ih =>
  intro s;unfold cV
  by_cases h0:s.size=0
  ·rw [if_pos h0]
   exact ⟨rfl,Nat.zero_le _,Nat.zero_le _,by simp,by simp,fun h _=>(cK h0).symm⟩
  ·rw [if_neg h0]
   obtain ⟨i1,i2,i3,i4,i5,i6⟩:=ih (aB (aB s 8) 2);have l1:=lY s h0 (k:=8) (by decide);have l2:=jH (aB s 8) 2;refine ⟨by simp [i1],by simp; omega,by simp; omega,?_,?_,?_⟩
   ·intro x hx
    rcases List.mem_cons.1 hx with rfl | hx
    ·exact rM s
    ·exact i4 x hx
   ·intro v hv
    rcases List.mem_cons.1 hv with rfl | hv
    ·exact kA _
    ·exact i5 v hv
   ·intro hf hb
    simp only [Bool.or_eq_false_iff,decide_eq_false_iff_not,Decidable.not_not,ne_eq] at hb;obtain ⟨⟨e1,e2⟩,e3⟩:=hb;have t1:=oO s (k:=8) (by decide) (by decide) (gQ (lZ.1 e1));have t2:=oO (aB s 8) (k:=2) (by decide) (by decide) (gQ (lZ.1 e2))
    show Str (aY (aH s 8) 8) ++ (Str (aY (aH (aB s 8) 2) 2) ++ dT _ _)=s
    rw [i6 (by omega) e3,t2.1,t1.1]
theorem OQ {k:Int} (h:0≤k∧k≤18446744073709551615):dG k 8=true:=by
 obtain ⟨m,rfl⟩:=Int.eq_ofNat_of_zero_le h.1;exact (dN m 8).2 ⟨by decide,by decide,by show m < 18446744073709551616; omega⟩
theorem OR {k:Int} (h:0≤k∧k≤65535):dG k 2=true:=by
 obtain ⟨m,rfl⟩:=Int.eq_ofNat_of_zero_le h.1;exact (dN m 2).2 ⟨by decide,by decide,by show m < 65536; omega⟩
theorem OT {n k:Int} (rest:ByteArray) (h:dG n k=true):cM (Str (aY n k) ++ rest) k=0:=by
 rw [lZ];have:=iS h;unfold cL;simp [dG] at h;rw [ByteArray.size_append,Bool.and_eq_true,decide_eq_true_eq,decide_eq_true_eq];omega
theorem vI:∀ (K:List Int) (V:List ByteArray) (f:Nat),K.length=V.length→K.length≤f→(∀ x∈K,0≤x∧x≤18446744073709551615)→(∀ v∈V,v.size≤255)→aS f (eZ K V)=(K,V,false):=by
 intro K
 induction K with
 | nil =>
  intro V f h1 h2 h3 h4;have:V=[]:=List.eq_nil_of_length_eq_zero (by simpa using h1.symm);subst this
  cases f <;> rfl
 | cons k K ih =>
  intro V f h1 h2 h3 h4
  cases V with
  | nil=>simp at h1
  | cons v V =>
   cases f with
   | zero=>simp at h2
   | succ f =>
    have p8:=OQ (h3 k (by simp));have hs:=iS p8;have e1:=yL (cC v ++ eZ K V) (h3 k (by simp)).1 p8;have e2:=OT (cC v ++ eZ K V) p8;have e3:=NP v (eZ K V) (h4 v (by simp));have ih' := ih V f (by simpa using h1) (by simpa using h2) (fun x hx=>h3 x (by simp [hx])) (fun x hx=>h4 x (by simp [hx]));unfold eZ aS;rw [if_neg (by rw [ByteArray.size_append]; omega),e1.1,e1.2,e2,e3.1,e3.2.1,e3.2.2,ih']
    rfl
theorem DZ:∀ (K C:List Int) (f:Nat),K.length=C.length→K.length≤f→(∀ x∈K,0≤x∧x≤18446744073709551615)→(∀ v∈C,0≤v∧v≤65535)→cV f (dT K C)=(K,C,false):=by
 intro K
 induction K with
 | nil =>
  intro V f h1 h2 h3 h4;have:V=[]:=List.eq_nil_of_length_eq_zero (by simpa using h1.symm);subst this
  cases f <;> rfl
 | cons k K ih =>
  intro V f h1 h2 h3 h4
  cases V with
  | nil=>simp at h1
  | cons v V =>
   cases f with
   | zero=>simp at h2
   | succ f =>
    have p8:=OQ (h3 k (by simp));have p2:=OR (h4 v (by simp));have hs:=iS p8;have e1:=yL (Str (aY v 2) ++ dT K V) (h3 k (by simp)).1 p8;have e2:=OT (Str (aY v 2) ++ dT K V) p8;have e3:=yL (dT K V) (h4 v (by simp)).1 p2;have e4:=OT (dT K V) p2;have ih' := ih V f (by simpa using h1) (by simpa using h2) (fun x hx=>h3 x (by simp [hx])) (fun x hx=>h4 x (by simp [hx]));unfold dT cV;rw [if_neg (by rw [ByteArray.size_append]; omega),e1.1,e1.2,e2,e3.1,e3.2,e4,ih']
    rfl
theorem xS:∀ (K:List Int) (V:List ByteArray) (k:Int) (v:ByteArray),K.length=V.length→eZ (K ++ [k]) (V ++ [v])=eZ K V ++ (Str (aY k 8) ++ cC v):=by
 intro K
 induction K with
 | nil =>
  intro V k v h;have:V=[]:=List.eq_nil_of_length_eq_zero (by simpa using h.symm);subst this;apply aD;simp [eZ,aP]
 | cons a K ih =>
  intro V k v h
  cases V with
  | nil=>simp at h
  | cons b V =>
   show Str (aY a 8) ++ (cC b ++ eZ (K ++ [k]) (V ++ [v]))=_
   rw [ih V k v (by simpa using h)];apply aD;simp [eZ,aP]
theorem xT:∀ (K C:List Int) (k c:Int),K.length=C.length→dT (K ++ [k]) (C ++ [c])=dT K C ++ (Str (aY k 8) ++ Str (aY c 2)):=by
 intro K
 induction K with
 | nil =>
  intro V k v h;have:V=[]:=List.eq_nil_of_length_eq_zero (by simpa using h.symm);subst this;apply aD;simp [dT,aP]
 | cons a K ih =>
  intro V k v h
  cases V with
  | nil=>simp at h
  | cons b V =>
   show Str (aY a 8) ++ (Str (aY b 2) ++ dT (K ++ [k]) (V ++ [v]))=_
   rw [ih V k v (by simpa using h)];apply aD;simp [dT,aP]
theorem GI (K:List Int) (V:List ByteArray) (h:K.length=V.length):∀ j,j≤K.length→Str (mV K V j)=Str [1] ++ eZ (K.take j) (V.take j):=by
 intro j
 induction j with
 | zero=>intro _; apply aD; simp [mV,eZ,aP,aN]
 | succ j ih =>
  intro hj;have e1:K.take (j + 1)=K.take j ++ [K[j]]:=List.take_succ_eq_append_getElem (by omega);have e2:V.take (j + 1)=V.take j ++ [V[j]]:=List.take_succ_eq_append_getElem (by omega);rw [e1,e2,xS _ _ _ _ (by simp; omega)];have hi:=congrArg (fun b:ByteArray=>b.data.toList) (ih (by omega));simp only [aN,aP] at hi;apply aD;simp only [mV,aP,aN,hi,List.append_assoc];rw [List.getD_eq_getElem?_getD,List.getElem?_eq_getElem (by omega),List.getD_eq_getElem?_getD,List.getElem?_eq_getElem (by omega)]
  rfl
theorem zP (K C:List Int) (h:C.length=K.length + 1):∀ j,j≤K.length→Str (fX K C j)=Str [2] ++ (Str (aY (C.getD 0 0) 2) ++ dT (K.take j) (C.tail.take j)):=by
 intro j
 induction j with
 | zero=>intro _; apply aD; simp [fX,dT,aP,aN]
 | succ j ih =>
  intro hj;have e1:K.take (j + 1)=K.take j ++ [K[j]]:=List.take_succ_eq_append_getElem (by omega);have hl:j < C.tail.length:=by simp; omega
  have e2:C.tail.take (j + 1)=C.tail.take j ++ [C.tail[j]]:=List.take_succ_eq_append_getElem hl;have e3:C.tail[j]=C.getD (j + 1) 0:=by rw [List.getElem_tail,List.getD_eq_getElem?_getD,List.getElem?_eq_getElem (by omega)]; rfl
  rw [e1,e2,xT _ _ _ _ (by simp; omega),e3];have hi:=congrArg (fun b:ByteArray=>b.data.toList) (ih (by omega));simp only [aN,aP] at hi;apply aD;simp only [fX,aP,aN,hi,List.append_assoc];rw [List.getD_eq_getElem?_getD (l:=K),List.getElem?_eq_getElem (by omega)]
  rfl
theorem jX (K:List Int) (V:List ByteArray) (h:K.length=V.length):cA ⟨true,K,V,[]⟩=Str [1] ++ eZ K V:=by
 have:=GI K V h K.length (Nat.le_refl _);rw [List.take_length,h,List.take_length] at this;unfold cA;simp only [if_true];rw [h]; exact this
theorem iA (K C:List Int) (c:Int) (h:K.length=C.length):cA ⟨false,K,[],c :: C⟩=Str [2] ++ (Str (aY c 2) ++ dT K C):=by
 have:=zP K (c :: C) (by simp [h]) K.length (Nat.le_refl _);rw [List.take_length,List.tail_cons,h,List.take_length] at this;unfold cA;simp only [Bool.false_eq_true,if_false];rw [h]; exact this
theorem qK (b:UInt8) (t:ByteArray):(Str [b] ++ t).extract 0 1=⟨#[b]⟩∧(Str [b] ++ t).extract 1 (Str [b] ++ t).size=t:=by
 have e:(Str [b]).size=1:=rfl;refine ⟨?_,?_⟩
 ·have:=mT (Str [b]) t
  rw [e] at this; exact this
 ·have:=jV (Str [b]) t
  rw [e] at this; exact this
theorem wN (s:ByteArray) (b:UInt8) (h:s.extract 0 1=⟨#[b]⟩):s=Str [b] ++ s.extract 1 s.size:=by
 have h1:=lU s 1
 have h2:Str (s.data.toList.take 1)=⟨#[b]⟩:=by
  rw [← h]; apply aD; rw [aE,aN,List.drop_zero,Nat.sub_zero]
 rw [h2] at h1;exact h1.symm
theorem wS (n:Nod) (hw:aU n=true) (ho:cX n) (hv:∀ v∈n.V,v.size≤40) (hc:∀ c∈n.C,2≤c∧c < 640):(cA n).size=aG n:=by
 obtain ⟨lf,K,V,C⟩:=n
 cases lf with
 | true =>
  have h:=(aX (n:=⟨true,K,V,C⟩) rfl).1 hw;have hC:C=[]:=List.eq_nil_of_length_eq_zero h.2;subst hC;rw [jX K V h.1.symm,ByteArray.size_append]
  have:∀ (K:List Int) (V:List ByteArray),K.length=V.length→(∀ x∈K,0≤x∧x≤18446744073709551615)→(∀ v∈V,v.size≤40)→(eZ K V).size=9 * K.length + bB V:=by
   intro K
   induction K with
   | nil=>intro V h _ _; have:V=[]:=List.eq_nil_of_length_eq_zero (by simpa using h.symm); subst this; rfl
   | cons k K ih =>
    intro V h h3 h4
    cases V with
    | nil=>simp at h
    | cons v V =>
     have:=ih V (by simpa using h) (fun x hx=>h3 x (by simp [hx])) (fun x hx=>h4 x (by simp [hx]));have e8:=iS (OQ (h3 k (by simp)));have et:=nV v (by have:=h4 v (by simp); omega);simp only [eZ,ByteArray.size_append,this,bB,List.length_cons];omega
  rw [this K V h.1.symm ho.kb hv];unfold aG;simp only [if_true]
  show 1 + _=_
  omega
 | false =>
  have h:=(aO (n:=⟨false,K,V,C⟩) rfl).1 hw;have hV:V=[]:=List.eq_nil_of_length_eq_zero h.2;subst hV
  cases C with
  | nil=>simp at h
  | cons c C =>
   have h1:K.length=C.length:=by have:=h.1; simp at this; omega
   rw [iA K C c h1,ByteArray.size_append,ByteArray.size_append]
   have:∀ (K C:List Int),K.length=C.length→(∀ x∈K,0≤x∧x≤18446744073709551615)→(∀ v∈C,2≤v∧v < 640)→(dT K C).size=10 * K.length:=by
    intro K
    induction K with
    | nil=>intro V h _ _; have:V=[]:=List.eq_nil_of_length_eq_zero (by simpa using h.symm); subst this; rfl
    | cons k K ih =>
     intro V h h3 h4
     cases V with
     | nil=>simp at h
     | cons v V =>
      have:=ih V (by simpa using h) (fun x hx=>h3 x (by simp [hx])) (fun x hx=>h4 x (by simp [hx]));have e8:=iS (OQ (h3 k (by simp)));have e2:=iS (OR (k:=v) (by have:=h4 v (by simp); omega));simp only [dT,ByteArray.size_append,this,List.length_cons];omega
   rw [this K C h1 ho.kb (fun v hv=>hc v (by simp [hv]))];have e2:=iS (OR (k:=c) (by have:=hc c (by simp); omega));unfold aG;simp only [Bool.false_eq_true,if_false,List.length_cons]
   show 1 + _=_
   omega
theorem QK (n:Nod) (ho:cX n) (hr:bN n=true):tL (cA n)=some n:=by
 have hr' := hr;rw [cI] at hr';obtain ⟨hp,hw,h0,hz⟩:=hr';rw [cJ] at hp;obtain ⟨p1,p2,p3⟩:=hp;have hs:=wS n hw ho p2 p3;obtain ⟨lf,K,V,C⟩:=n
 cases lf with
 | true =>
  have h:=(aX (n:=⟨true,K,V,C⟩) rfl).1 hw;have hC:C=[]:=List.eq_nil_of_length_eq_zero h.2;subst hC;have hk:K.length≤aG ⟨true,K,V,[]⟩:=by unfold aG; simp only [if_true]; omega
  have hk0:0 < aG ⟨true,K,V,[]⟩:=by unfold aG; simp only [if_true]; omega
  have hrd:rdN (cA ⟨true,K,V,[]⟩)=some (⟨true,K,V,[]⟩,false):=by
   rw [← hs] at hk;rw [jX K V h.1.symm] at hk ⊢;have hf:=qK 1 (eZ K V);unfold rdN;rw [if_pos hf.1,hf.2,vI K V _ h.1.symm hk ho.kb (fun v hv=>by have:=p2 v hv; omega)]
  unfold tL;rw [if_neg (by omega),hrd]
  show (if (!false && bN ⟨true,K,V,[]⟩)=true then some (⟨true,K,V,[]⟩:Nod) else none)=_
  rw [hr]; rfl
 | false =>
  have h:=(aO (n:=⟨false,K,V,C⟩) rfl).1 hw;have hV:V=[]:=List.eq_nil_of_length_eq_zero h.2;subst hV
  cases C with
  | nil=>simp at h
  | cons c C =>
   have h1:K.length=C.length:=by have:=h.1; simp at this; omega
   have hk:K.length≤aG ⟨false,K,[],c :: C⟩:=by unfold aG; simp only [Bool.false_eq_true,if_false]; omega
   have hk0:0 < aG ⟨false,K,[],c :: C⟩:=by unfold aG; simp only [Bool.false_eq_true,if_false]; omega
   have p2' := OR (k:=c) (by have:=p3 c (by simp); omega)
   have hrd:rdN (cA ⟨false,K,[],c :: C⟩)=some (⟨false,K,[],c :: C⟩,false):=by
    rw [← hs] at hk;rw [iA K C c h1] at hk ⊢;have hf:=qK 2 (Str (aY c 2) ++ dT K C);have hn:=yL (dT K C) (by have:=p3 c (by simp); omega) p2';have he:=OT (dT K C) p2';unfold rdN;rw [if_neg (by rw [hf.1]; decide),if_pos hf.1,hf.2,hn.1,hn.2,he,DZ K C _ h1 hk ho.kb (fun v hv=>by have:=p3 v (by simp [hv]); omega)]
    rfl
   unfold tL;rw [if_neg (by omega),hrd]
   show (if (!false && bN ⟨false,K,[],c :: C⟩)=true then some (⟨false,K,[],c :: C⟩:Nod) else none)=_
   rw [hr]; rfl
theorem QH (s:ByteArray) (n:Nod) (h:tL s=some n):cA n=s∧bN n=true∧cX n:=by
 unfold tL at h
 split at h
 ·cases h
 ·rename_i hsz
  split at h
  ·rename_i m bad hrd
   split at h
   ·rename_i hb
    obtain rfl:=Option.some.inj h;rw [Bool.and_eq_true,Bool.not_eq_true'] at hb;obtain ⟨rfl,hr⟩:=hb;refine ⟨?_,hr,?_⟩
    all_goals
     unfold rdN at hrd
     split at hrd
     ·rename_i h1
      obtain ⟨e1,e2⟩:=Prod.mk.inj (Option.some.inj hrd);obtain ⟨i1,i2,i3,i4,i5,i6⟩:=mI s.size (s.extract 1 s.size);have hle:(s.extract 1 s.size).size≤s.size:=by rw [ByteArray.size_extract]; omega
      subst e1
      first
       | exact (jX _ _ i1).trans ((congrArg (Str [1] ++ ·) (i6 hle e2)).trans (wN s 1 h1).symm)
       | exact ⟨by dsimp only; omega,by dsimp only; omega,Nat.zero_le _,i4,fun v hv=>by have:=i5 v hv; omega,fun x hx=>by cases hx⟩
     ·split at hrd
      ·rename_i h0 h1
       obtain ⟨e1,e2⟩:=Prod.mk.inj (Option.some.inj hrd);obtain ⟨i1,i2,i3,i4,i5,i6⟩:=pT s.size (aB (s.extract 1 s.size) 2);have hle:(s.extract 1 s.size).size≤s.size:=by rw [ByteArray.size_extract]; omega
       have hle2:=jH (s.extract 1 s.size) 2;simp only [Bool.or_eq_false_iff,decide_eq_false_iff_not,ne_eq,Decidable.not_not] at e2;have t2:=oO (s.extract 1 s.size) (k:=2) (by decide) (by decide) (gQ (lZ.1 e2.1));subst e1
       first
        | exact (iA _ _ _ i1).trans ((congrArg (fun t=>Str [2] ++ (Str (aY (aH (s.extract 1 s.size) 2) 2) ++ t)) (i6 (by omega) e2.2)).trans ((congrArg (Str [2] ++ ·) t2.1).trans (wN s 2 h1).symm))
        | exact ⟨by dsimp only; omega,Nat.zero_le _,by simp only [List.length_cons]; omega,i4,(fun v hv=>by cases hv),fun x hx=>by
          rcases List.mem_cons.1 hx with rfl | hx
          ·have:=kA (s.extract 1 s.size); omega
          ·have:=i5 x hx; omega⟩
      ·cases hrd
   ·cases h
  ·cases h
abbrev Mk:=Int × Option ByteArray
abbrev Ent:=Int × ByteArray
def cY (m:Mk):Int:=2 * m.1 + (if m.2.isSome then 1 else 0)
def bF (F:List Mk):Prop:=F.Pairwise fun a b=>cY a < cY b
def qP (m:Mk):Option Ent:=m.2.map fun v=>(m.1,v)
def aC (F:List Mk):List Ent:=F.filterMap qP
def bZ (k:Int) (v:ByteArray) (m:List Ent):List Ent:=m.filter (fun e=>decide (e.1 < k)) ++ (k,v) :: m.filter (fun e=>decide (k < e.1))
def VE (k:Int) (m:List Ent):List Ent:=m.filter fun e=>decide (e.1≠k)
def oL (k:Int) (m:List Ent):Option ByteArray:=(m.find? fun e=>decide (e.1=k)).map (·.2)
def mZ (m:List Ent):Prop:=m.Pairwise fun a b=>a.1 < b.1
def bS:List Int→List ByteArray→List Mk
 | k :: K,v :: V=>(k,some v) :: bS K V
 | _,_=>[]
structure Kid where
 p:Int
 F:List Mk
 P:List Int
def kP (Q:List Kid):List Int:=Q.map Kid.p
def kPs (Q:List Kid):List Int:=(Q.map Kid.P).flatten
def cU (K:List Int) (Q:List Kid):List Mk:=(List.zipWith (fun k (q:Kid)=>q.F ++ [(k,none)]) K Q).flatten
def fF (K:List Int) (Q:List Kid):List Mk:=(List.zipWith (fun k (q:Kid)=>(k,none) :: q.F) K Q).flatten
def aT:List Int→List Kid→List Mk
 | _,[]=>[]
 | [],q :: _=>q.F
 | k :: K,q :: Q=>q.F ++ (k,none) :: aT K Q
def fN (R:Int→Option Nod):Nat→Nod→List Mk→List Int→Prop
 | 0,N,F,P=>N.leaf=true∧N.V.length=N.K.length∧N.C=[]∧F=bS N.K N.V∧P=[]
 | h + 1,N,F,P=>N.leaf=false∧N.V=[]∧∃ Q:List Kid,N.C=kP Q∧Q.length=N.K.length + 1∧(∀ q∈Q,∃ M PM,R q.p=some M∧M.K≠[]∧fN R h M q.F PM∧q.P=q.p :: PM)∧F=aT N.K Q∧P=kPs Q
def IsT (R:Int→Option Nod) (h:Nat) (p:Int) (F:List Mk) (P:List Int):Prop:=∃ M PM,R p=some M∧M.K≠[]∧fN R h M F PM∧P=p :: PM
theorem eX {R:Int→Option Nod} {h:Nat} {N:Nod} {F:List Mk} {P:List Int} :
  fN R (h + 1) N F P ↔ N.leaf=false∧N.V=[]∧∃ Q:List Kid,N.C=kP Q∧Q.length=N.K.length + 1∧(∀ q∈Q,IsT R h q.p q.F q.P)∧F=aT N.K Q∧P=kPs Q:=Iff.rfl
theorem dI (A B:List Kid):kPs (A ++ B)=kPs A ++ kPs B:=by simp [kPs]
theorem qA (q:Kid) (B:List Kid):kPs (q :: B)=q.P ++ kPs B:=by simp [kPs]
theorem kG (A B:List Kid):kP (A ++ B)=kP A ++ kP B:=by simp [kP]
theorem fL (A:List Kid):(kP A).length=A.length:=by simp [kP]
theorem oQ {x:Int} {Q:List Kid}:x∈kPs Q ↔ ∃ q∈Q,x∈q.P:=by
 unfold kPs;rw [List.mem_flatten];constructor
 ·rintro ⟨l,hl,hx⟩
  obtain ⟨q,hq,rfl⟩:=List.mem_map.1 hl;exact ⟨q,hq,hx⟩
 ·rintro ⟨q,hq,hx⟩
  exact ⟨q.P,List.mem_map.2 ⟨q,hq,rfl⟩,hx⟩
theorem aZ (A B:List Mk):aC (A ++ B)=aC A ++ aC B:=by simp [aC]
theorem kJ (k:Int) (B:List Mk):aC ((k,none) :: B)=aC B:=List.filterMap_cons_none rfl
theorem iL (k:Int) (v:ByteArray) (B:List Mk):aC ((k,some v) :: B)=(k,v) :: aC B:=List.filterMap_cons_some rfl
theorem aF {A B:List Mk}:bF (A ++ B) ↔ bF A∧bF B∧∀ a∈A,∀ b∈B,cY a < cY b:=List.pairwise_append
theorem dM {a:Mk} {B:List Mk}:bF (a :: B) ↔ (∀ b∈B,cY a < cY b)∧bF B:=List.pairwise_cons
theorem gC (k:Int):cY (k,none)=2 * k:=by simp [cY]
theorem fC (k:Int) (v:ByteArray):cY (k,some v)=2 * k + 1:=by simp [cY]
theorem gO {R R' : Int→Option Nod}:∀ (h:Nat) {N:Nod} {F:List Mk} {P:List Int},fN R h N F P→(∀ p∈P,R' p=R p)→fN R' h N F P:=by
 intro h
 induction h with
 | zero=>intro N F P hn _; exact hn
 | succ h ih =>
  intro N F P hn hr;obtain ⟨h1,h2,Q,h3,h4,h5,h6,h7⟩:=hn;refine ⟨h1,h2,Q,h3,h4,fun q hq=>?_,h6,h7⟩;obtain ⟨M,PM,m1,m2,m3,m4⟩:=h5 q hq;have hsub:∀ p∈q.P,R' p=R p:=fun p hp=>hr p (by rw [h7]; exact oQ.2 ⟨q,hq,hp⟩)
  exact ⟨M,PM,(hsub q.p (by rw [m4]; simp)).trans m1,m2,ih m3 (fun p hp=>hsub p (by rw [m4]; simp [hp])),m4⟩
theorem sM {R R' : Int→Option Nod} {h:Nat} {p:Int} {F:List Mk} {P:List Int} (ht:IsT R h p F P) (hr:∀ p∈P,R' p=R p):IsT R' h p F P:=by
 obtain ⟨M,PM,m1,m2,m3,m4⟩:=ht;exact ⟨M,PM,(hr p (by rw [m4]; simp)).trans m1,m2,gO h m3 (fun x hx=>hr x (by rw [m4]; simp [hx])),m4⟩
theorem fE:∀ (K:List Int) (V:List ByteArray) (K' : List Int) (V' : List ByteArray),V.length=K.length→bS (K ++ K') (V ++ V')=bS K V ++ bS K' V' := by
 intro K
 induction K with
 | nil=>intro V K' V' h; cases V with | nil=>rfl | cons _ _=>cases h
 | cons k K ih =>
  intro V K' V' h
  cases V with
  | nil=>cases h
  | cons v V=>simp only [List.cons_append,bS]; rw [ih V K' V' (by simpa using h)]
theorem yX:∀ (K:List Int) (V:List ByteArray),V.length=K.length→(aC (bS K V)).length=K.length:=by
 intro K
 induction K with
 | nil=>intro V h; rfl
 | cons k K ih =>
  intro V h
  cases V with
  | nil=>cases h
  | cons v V=>simp only [bS,iL,List.length_cons]; rw [ih V (by simpa using h)]
theorem iK {K:List Int} {V:List ByteArray} {m:Mk}:m∈bS K V→∃ v,m.2=some v∧m.1∈K∧v∈V:=by
 induction K generalizing V with
 | nil=>intro h; cases V <;> cases h
 | cons k K ih =>
  intro h
  cases V with
  | nil=>cases h
  | cons v V =>
   simp only [bS,List.mem_cons] at h
   rcases h with rfl | h
   ·exact ⟨v,rfl,by simp,by simp⟩
   ·obtain ⟨x,h1,h2,h3⟩:=ih h
    exact ⟨x,h1,by simp [h2],by simp [h3]⟩
theorem pZ:∀ (K:List Int) (V:List ByteArray),V.length=K.length→(bS K V).map (·.1)=K:=by
 intro K
 induction K with
 | nil=>intro V h; cases V with | nil=>rfl | cons _ _=>cases h
 | cons k K ih =>
  intro V h
  cases V with
  | nil=>cases h
  | cons v V=>simp only [bS,List.map_cons]; rw [ih V (by simpa using h)]
theorem wJ (k:Int) (K:List Int) (q:Kid) (Q:List Kid):cU (k :: K) (q :: Q)=q.F ++ (k,none) :: cU K Q:=by simp [cU]
theorem oF (k:Int) (K:List Int) (q:Kid) (Q:List Kid):fF (k :: K) (q :: Q)=(k,none) :: (q.F ++ fF K Q):=by simp [fF]
theorem LJ:∀ (K:List Int) (q:Kid) (Q:List Kid),Q.length=K.length→aT K (q :: Q)=q.F ++ fF K Q:=by
 intro K
 induction K with
 | nil=>intro q Q h; cases Q with | nil=>simp [aT,fF] | cons _ _=>cases h
 | cons k K ih =>
  intro q Q h
  cases Q with
  | nil=>cases h
  | cons q' Q=>rw [oF]; show q.F ++ (k,none) :: aT K (q' :: Q)=_; rw [ih q' Q (by simpa using h)]
theorem jQ:∀ (KA:List Int) (A:List Kid) (K:List Int) (Q:List Kid),A.length=KA.length→Q≠[]→aT (KA ++ K) (A ++ Q)=cU KA A ++ aT K Q:=by
 intro KA
 induction KA with
 | nil=>intro A K Q h hq; cases A with | nil=>simp [cU] | cons _ _=>cases h
 | cons k KA ih =>
  intro A K Q h hq
  cases A with
  | nil=>cases h
  | cons a A =>
   rw [wJ]
   show a.F ++ (k,none) :: aT (KA ++ K) (A ++ Q)=_
   rw [ih A K Q (by simpa using h) hq];simp
theorem qD (KA KM KB:List Int) (A QM B:List Kid) (hA:A.length=KA.length) (hM:QM.length=KM.length + 1) (hB:B.length=KB.length) :
  aT (KA ++ KM ++ KB) (A ++ QM ++ B)=cU KA A ++ aT KM QM ++ fF KB B:=by
 rw [List.append_assoc,List.append_assoc,jQ KA A _ _ hA (by cases QM with | nil=>simp at hM | cons _ _=>simp)]
 have e:aT (KM ++ KB) (QM ++ B)=aT KM QM ++ fF KB B:=by
  obtain ⟨X,q,rfl⟩:∃ X q,QM=X ++ [q]:=by
   cases h:QM.reverse with
   | nil=>simp at h; subst h; simp at hM
   | cons q X=>exact ⟨X.reverse,q,by simpa using congrArg List.reverse h⟩
  have hX:X.length=KM.length:=by simpa using hM
  rw [List.append_assoc,jQ KM X KB ([q] ++ B) hX (by simp)];have e1:=jQ KM X [] [q] hX (by simp);rw [List.append_nil] at e1;rw [e1]
  show cU KM X ++ aT KB (q :: B)=_
  rw [LJ KB q B hB];simp [aT]
 rw [e]; simp
theorem qC (q:Kid):aT [] [q]=q.F:=rfl
theorem qB (k:Int) (q r:Kid):aT [k] [q,r]=q.F ++ (k,none) :: r.F:=rfl
theorem wI:∀ (K:List Int) (Q:List Kid),Q.length=K.length + 1→List.Sublist (K.map fun k=>((k,none):Mk)) (aT K Q):=by
 intro K
 induction K with
 | nil=>intro Q h; exact List.nil_sublist _
 | cons k K ih =>
  intro Q h
  cases Q with
  | nil=>simp at h
  | cons q Q =>
   show List.Sublist _ (q.F ++ (k,none) :: aT K Q)
   exact (List.Sublist.cons_cons _ (ih Q (by simpa using h))).trans (List.sublist_append_right _ _)
theorem fA {R:Int→Option Nod} {h:Nat} {N:Nod} {F:List Mk} {P:List Int} (ht:fN R h N F P) (hs:bF F):N.K.Pairwise (· < ·):=by
 cases h with
 | zero =>
  obtain ⟨h1,h2,h3,h4,h5⟩:=ht;rw [← pZ N.K N.V h2];subst h4;rw [List.pairwise_map];refine List.Pairwise.imp_of_mem ?_ hs;intro a b ha hb hab;obtain ⟨va,ea,_⟩:=iK ha;obtain ⟨vb,eb,_⟩:=iK hb;unfold cY at hab;rw [ea,eb] at hab;simp at hab;omega
 | succ h =>
  obtain ⟨h1,h2,Q,h3,h4,h5,h6,h7⟩:=ht;subst h6;have hp:=List.Pairwise.sublist (wI N.K Q h4) hs;rw [List.pairwise_map] at hp;refine List.Pairwise.imp ?_ hp;intro a b hab;rw [gC,gC] at hab;omega
theorem gI {R:Int→Option Nod} {h:Nat} {N:Nod} {F:List Mk} {P:List Int} (ht:fN R h N F P):aU N=true:=by
 cases h with
 | zero =>
  obtain ⟨h1,h2,h3,h4,h5⟩:=ht;exact (aX h1).2 ⟨h2,by rw [h3]; rfl⟩
 | succ h =>
  obtain ⟨h1,h2,Q,h3,h4,h5,h6,h7⟩:=ht;exact (aO h1).2 ⟨by rw [h3,fL,h4],by rw [h2]; rfl⟩
theorem BC {R:Int→Option Nod} {h:Nat} {N:Nod} {F:List Mk} {P:List Int} (ht:fN R h N F P):N.leaf=decide (h=0):=by
 cases h with
 | zero=>rw [ht.1]; rfl
 | succ h=>rw [ht.1]; simp
theorem pS {R:Int→Option Nod} {h:Nat} {N:Nod} {F:List Mk} {P:List Int} (ht:fN R h N F P) (hs:bF F) (hv:∀ v∈N.V,v.size≤40) (hc:∀ c∈N.C,2≤c∧c < 640) (hk:N.K≠[]) (hz:aG N≤240):bN N=true:=by
 refine (cI N).2 ⟨(cJ N).2 ⟨fun i hi=>?_,hv,hc⟩,gI ht,fun _=>?_,hz⟩
 ·exact List.pairwise_iff_getElem.1 (fA ht hs) i (i + 1) (by omega) hi (by omega)
 ·exact List.length_pos_iff.2 hk
theorem tD:∀ (K:List Int) (Q:List Kid),Q.length=K.length + 1→(aC (aT K Q)).length=(Q.map fun q=>(aC q.F).length).sum:=by
 intro K
 induction K with
 | nil =>
  intro Q h
  cases Q with
  | nil=>simp at h
  | cons q Q=>cases Q with | nil=>simp [aT] | cons _ _=>simp at h
 | cons k K ih =>
  intro Q h
  cases Q with
  | nil=>simp at h
  | cons q Q =>
   show (aC (q.F ++ (k,none) :: aT K Q)).length=_
   rw [aZ,kJ,List.length_append,ih Q (by simpa using h)];simp
theorem MU {R:Int→Option Nod}:∀ (h:Nat) {N:Nod} {F:List Mk} {P:List Int},fN R h N F P→N.K≠[]→P.length + 2≤2 * (aC F).length∧2 ^ h≤(aC F).length:=by
 intro h
 induction h with
 | zero =>
  intro N F P ht hk;obtain ⟨h1,h2,h3,h4,h5⟩:=ht;subst h4 h5;have:=List.length_pos_iff.2 hk;rw [yX _ _ h2];simp; omega
 | succ h ih =>
  intro N F P ht hk;obtain ⟨h1,h2,Q,h3,h4,h5,h6,h7⟩:=ht;subst h6 h7;rw [tD _ _ h4]
  have hq:∀ q∈Q,q.P.length + 1≤2 * (aC q.F).length∧2 ^ h≤(aC q.F).length:=by
   intro q hq;obtain ⟨M,PM,m1,m2,m3,m4⟩:=h5 q hq;have:=ih m3 m2;rw [m4,List.length_cons];omega
  have h2:2≤Q.length:=by have:=List.length_pos_iff.2 hk; omega
  have e1:(kPs Q).length + Q.length≤2 * (Q.map fun q=>(aC q.F).length).sum:=by
   clear h3 h4 h5 h2
   induction Q with
   | nil=>simp [kPs]
   | cons q Q ihq =>
    have h1:=(hq q (by simp)).1;have h2:=ihq fun r hr=>hq r (by simp [hr])
    rw [qA];simp only [List.length_append,List.length_cons,List.map_cons,List.sum_cons];omega
  have e2:Q.length * 2 ^ h≤(Q.map fun q=>(aC q.F).length).sum:=by
   clear h3 h4 h5 h2 e1
   induction Q with
   | nil=>simp
   | cons q Q ihq =>
    have h1:=(hq q (by simp)).2;have h2:=ihq fun r hr=>hq r (by simp [hr])
    simp only [List.length_cons,List.map_cons,List.sum_cons,Nat.add_mul];omega
  refine ⟨by omega,Nat.le_trans ?_ e2⟩;rw [Nat.pow_succ,Nat.mul_comm];exact Nat.mul_le_mul_right _ h2
theorem kL {R:Int→Option Nod} {h:Nat} {p:Int} {F:List Mk} {P:List Int} (ht:IsT R h p F P):P.length + 1≤2 * (aC F).length∧2 ^ h≤(aC F).length:=by
 obtain ⟨M,PM,m1,m2,m3,m4⟩:=ht;have:=MU h m3 m2;rw [m4,List.length_cons];omega
theorem dL {α:Type} (p:α→Bool) (l:List α) (h:∀ x∈l,p x=true):l.filter p=l:=List.filter_eq_self.2 h
theorem eW {α:Type} (p:α→Bool) (l:List α) (h:∀ x∈l,p x=false):l.filter p=[]:=List.filter_eq_nil_iff.2 fun x hx=>by rw [h x hx]; decide
theorem LN (A B:List Ent) (k:Int) (v:ByteArray) (hA:∀ e∈A,e.1 < k) (hB:∀ e∈B,k < e.1):bZ k v (A ++ B)=A ++ (k,v) :: B:=by
 unfold bZ;rw [List.filter_append,List.filter_append,dL _ A (fun e he=>decide_eq_true (hA e he)),eW _ B (fun e he=>decide_eq_false (by have:=hB e he; omega)),eW _ A (fun e he=>decide_eq_false (by have:=hA e he; omega)),dL _ B (fun e he=>decide_eq_true (hB e he))];simp
theorem LM (A B:List Ent) (k:Int) (x v:ByteArray) (hA:∀ e∈A,e.1 < k) (hB:∀ e∈B,k < e.1):bZ k v (A ++ (k,x) :: B)=A ++ (k,v) :: B:=by
 unfold bZ;rw [List.filter_append,List.filter_append,dL _ A (fun e he=>decide_eq_true (hA e he)),eW _ A (fun e he=>decide_eq_false (by have:=hA e he; omega)),List.filter_cons_of_neg (by simp),List.filter_cons_of_neg (by simp),eW _ B (fun e he=>decide_eq_false (by have:=hB e he; omega)),dL _ B (fun e he=>decide_eq_true (hB e he))];simp
theorem VD (A B:List Ent) (k:Int) (x:ByteArray) (hA:∀ e∈A,e.1 < k) (hB:∀ e∈B,k < e.1):VE k (A ++ (k,x) :: B)=A ++ B:=by
 unfold VE;rw [List.filter_append,dL _ A (fun e he=>decide_eq_true (by have:=hA e he; omega)),List.filter_cons_of_neg (by simp),dL _ B (fun e he=>decide_eq_true (by have:=hB e he; omega))]
theorem GB (m:List Ent) (k:Int) (h:∀ e∈m,e.1≠k):oL k m=none:=by
 unfold oL;rw [List.find?_eq_none.2 (fun e he=>by simpa using h e he)]
 rfl
theorem LW (A B:List Ent) (k:Int) (x:ByteArray) (hA:∀ e∈A,e.1 < k):oL k (A ++ (k,x) :: B)=some x:=by
 unfold oL;rw [List.find?_append,List.find?_eq_none.2 (fun e he=>by have:=hA e he; simp; omega)];simp
theorem RL (key:Int):∀ (K:List Int) (i:Nat),K.Pairwise (· < ·)→∃ q,
  (cZ true key K i=(i + q,true)∧q < K.length∧K[q]?=some key∧(∀ x∈K.take q,x < key)∧∀ x∈K.drop (q + 1),key < x) ∨
  (cZ true key K i=(i + q,false)∧q≤K.length∧(∀ x∈K.take q,x < key)∧∀ x∈K.drop q,key < x):=by
 intro K
 induction K with
 | nil=>exact fun i _=>⟨0,.inr ⟨rfl,Nat.le_refl _,by simp,by simp⟩⟩
 | cons k r ih =>
  intro i hp;obtain ⟨hp1,hp2⟩:=List.pairwise_cons.1 hp;unfold cZ
  by_cases h1:k=key
  ·subst h1
   exact ⟨0,.inl ⟨by simp,by simp,by simp,by simp,by simpa using hp1⟩⟩
  ·rw [if_neg (by simp [h1])]
   by_cases h2:key < k
   ·rw [if_pos h2]
    refine ⟨0,.inr ⟨rfl,Nat.zero_le _,by simp,?_⟩⟩;intro x hx;simp only [List.drop_zero,List.mem_cons] at hx
    rcases hx with rfl | hx
    ·exact h2
    ·have:=hp1 x hx; omega
   ·rw [if_neg h2]
    obtain ⟨q,hq⟩:=ih (i + 1) hp2;refine ⟨q + 1,?_⟩
    rcases hq with ⟨a,b,c,d,e⟩ | ⟨a,b,d,e⟩
    ·refine .inl ⟨by rw [a]; simp; omega,by simp; omega,by simpa using c,?_,by simpa using e⟩
     intro x hx;simp only [List.take_succ_cons,List.mem_cons] at hx
     rcases hx with rfl | hx
     ·omega
     ·exact d x hx
    ·refine .inr ⟨by rw [a]; simp; omega,by simp; omega,?_,by simpa using e⟩
     intro x hx;simp only [List.take_succ_cons,List.mem_cons] at hx
     rcases hx with rfl | hx
     ·omega
     ·exact d x hx
theorem RM (key:Int):∀ (K:List Int) (i:Nat),K.Pairwise (· < ·)→∃ q,cZ false key K i=(i + q,true)∧q≤K.length∧(∀ x∈K.take q,x≤key)∧∀ x∈K.drop q,key < x:=by
 intro K
 induction K with
 | nil=>exact fun i _=>⟨0,rfl,Nat.le_refl _,by simp,by simp⟩
 | cons k r ih =>
  intro i hp;obtain ⟨hp1,hp2⟩:=List.pairwise_cons.1 hp;unfold cZ;rw [if_neg (by simp)]
  by_cases h2:key < k
  ·rw [if_pos h2]
   refine ⟨0,rfl,Nat.zero_le _,by simp,?_⟩;intro x hx;simp only [List.drop_zero,List.mem_cons] at hx
   rcases hx with rfl | hx
   ·exact h2
   ·have:=hp1 x hx; omega
  ·rw [if_neg h2]
   obtain ⟨q,a,b,d,e⟩:=ih (i + 1) hp2;refine ⟨q + 1,by rw [a]; simp; omega,by simp; omega,?_,by simpa using e⟩;intro x hx;simp only [List.take_succ_cons,List.mem_cons] at hx
   rcases hx with rfl | hx
   ·omega
   ·exact d x hx
theorem pY {R:Int→Option Nod} {N:Nod} {F:List Mk} {P:List Int} (ht:fN R 0 N F P) (hs:bF F) (key:Int) :
  ∃ (i:Nat) (X Y:List Mk),(∀ m∈X,cY m < 2 * key + 1)∧(∀ m∈Y,2 * key + 1 < cY m) ∧
   ((∃ old,aW N key=(i,true)∧i < N.K.length∧N.V[i]?=some old∧F=X ++ (key,some old) :: Y ∧
     (∀ v,fN R 0 (dO N key v) (X ++ (key,some v) :: Y) [])∧fN R 0 (uB N i) (X ++ Y) []) ∨
    (aW N key=(i,false)∧F=X ++ Y∧∀ v,fN R 0 (dO N key v) (X ++ (key,some v) :: Y) [])):=by
 have hw:=gI ht;have hr:=fA ht hs;obtain ⟨h1,h2,h3,h4,h5⟩:=ht;have hf:aW N key=cZ true key N.K 0:=by unfold aW; rw [if_pos hw,h1]
 have hput:∀ v,dO N key v={ leaf:=true,K:=N.K.take (aW N key).1 ++ [key] ++ N.K.drop ((aW N key).1 + (if (aW N key).2 then 1 else 0)),V:=N.V.take (aW N key).1 ++ [v] ++ N.V.drop ((aW N key).1 + (if (aW N key).2 then 1 else 0)),C:=[] }:=by
  intro v; unfold dO; rw [if_pos (by rw [h1,hw]; rfl)]
 have lt:∀ j,(N.V.take j).length=(N.K.take j).length:=fun j=>by simp [h2]
 have ld:∀ j,(N.V.drop j).length=(N.K.drop j).length:=fun j=>by simp [h2]
 have small:∀ q,(∀ x∈N.K.take q,x < key)→∀ m∈bS (N.K.take q) (N.V.take q),cY m < 2 * key + 1:=by
  intro q hq m hm;obtain ⟨v,e,hk,_⟩:=iK hm;have:=hq _ hk;unfold cY; rw [e]; simp; omega
 have great:∀ q,(∀ x∈N.K.drop q,key < x)→∀ m∈bS (N.K.drop q) (N.V.drop q),2 * key + 1 < cY m:=by
  intro q hq m hm;obtain ⟨v,e,hk,_⟩:=iK hm;have:=hq _ hk;unfold cY; rw [e]; simp; omega
 have oK:∀ q d v,bS (N.K.take q ++ [key] ++ N.K.drop d) (N.V.take q ++ [v] ++ N.V.drop d)=bS (N.K.take q) (N.V.take q) ++ (key,some v) :: bS (N.K.drop d) (N.V.drop d):=by
  intro q d v;rw [List.append_assoc,List.append_assoc,fE _ _ _ _ (lt q)]
  rfl
 obtain ⟨q,hq⟩:=RL key N.K 0 hr
 rcases hq with ⟨a,b,c,d,e⟩ | ⟨a,b,d,e⟩
 ·have hq2:aW N key=(q,true):=by rw [hf,a]; simp
  have hv:q < N.V.length:=by omega
  refine ⟨q,bS (N.K.take q) (N.V.take q),bS (N.K.drop (q + 1)) (N.V.drop (q + 1)),small q d,great (q + 1) e,.inl ⟨N.V[q],hq2,b,List.getElem?_eq_getElem hv,?_,?_,?_⟩⟩
  ·rw [h4]
   have ek:N.K=N.K.take q ++ (key :: N.K.drop (q + 1)):=by
    obtain ⟨hb,hc⟩:=List.getElem?_eq_some_iff.1 c;rw [← hc,← List.drop_eq_getElem_cons hb,List.take_append_drop]
   have ev:N.V=N.V.take q ++ (N.V[q] :: N.V.drop (q + 1)):=by
    rw [← List.drop_eq_getElem_cons hv,List.take_append_drop]
   have:=fE (N.K.take q) (N.V.take q) (key :: N.K.drop (q + 1)) (N.V[q] :: N.V.drop (q + 1)) (lt q);rw [← ek,← ev] at this;rw [this]; rfl
  ·intro v
   rw [hput v,hq2];refine ⟨rfl,by simp [h2],rfl,?_,rfl⟩;simp only [if_true];exact (oK q (q + 1) v).symm
  ·refine ⟨rfl,by simp [uB,h2],rfl,?_,rfl⟩
   show _=bS (N.K.take q ++ N.K.drop (q + 1)) (N.V.take q ++ N.V.drop (q + 1))
   rw [fE _ _ _ _ (lt q)]
 ·have hq2:aW N key=(q,false):=by rw [hf,a]; simp
  refine ⟨q,bS (N.K.take q) (N.V.take q),bS (N.K.drop q) (N.V.drop q),small q d,great q e,.inr ⟨hq2,?_,?_⟩⟩
  ·rw [h4,← fE _ _ _ _ (lt q),List.take_append_drop,List.take_append_drop]
  ·intro v
   rw [hput v,hq2];refine ⟨rfl,by simp [h2],rfl,?_,rfl⟩;simp only [Bool.false_eq_true,if_false,Nat.add_zero];exact (oK q q v).symm
structure aR where
 page:Int
 N:Nod
 KA:List Int
 KB:List Int
 A:List Kid
 B:List Kid
structure FrameOk (R:Int→Option Nod) (h:Nat) (f:aR):Prop where
 a:f.A.length=f.KA.length
 b:f.B.length=f.KB.length
 lf:f.N.leaf=false
 v:f.N.V=[]
 k:f.N.K=f.KA ++ f.KB
 c:∃ c,f.N.C=kP f.A ++ [c] ++ kP f.B
 ka:∀ q∈f.A,IsT R h q.p q.F q.P
 kb:∀ q∈f.B,IsT R h q.p q.F q.P
 k0:f.N.K≠[]
 r:bN f.N=true
 ok:cX f.N
def Ctx (R:Int→Option Nod):List aR→Nat→List Mk→List Mk→List Int→Prop
 | [],_,FL,FR,PC=>FL=[]∧FR=[]∧PC=[]
 | f :: fs,h,FL,FR,PC=>FrameOk R h f∧∃ FL' FR' PC', Ctx R fs (h + 1) FL' FR' PC'∧FL=FL' ++ cU f.KA f.A∧FR=fF f.KB f.B ++ FR'∧PC=f.page :: (kPs f.A ++ kPs f.B ++ PC')
theorem FrameOk.congr {R R' : Int→Option Nod} {h:Nat} {f:aR} (hf:FrameOk R h f) (hr:∀ p∈kPs f.A ++ kPs f.B,R' p=R p):FrameOk R' h f :=
 { hf with
  ka:=fun q hq=>sM (hf.ka q hq) fun p hp=>hr p (List.mem_append_left _ (oQ.2 ⟨q,hq,hp⟩))
  kb:=fun q hq=>sM (hf.kb q hq) fun p hp=>hr p (List.mem_append_right _ (oQ.2 ⟨q,hq,hp⟩)) }
theorem sP {R R' : Int→Option Nod}:∀ (fs:List aR) {h:Nat} {FL FR:List Mk} {PC:List Int},Ctx R fs h FL FR PC→(∀ p∈PC,R' p=R p)→Ctx R' fs h FL FR PC:=by
 intro fs
 induction fs with
 | nil=>intro h FL FR PC hc _; exact hc
 | cons f fs ih =>
  intro h FL FR PC hc hr;obtain ⟨h1,FL', FR', PC', h2,h3,h4,h5⟩:=hc;exact ⟨h1.congr fun p hp=>hr p (by rw [h5]; exact List.mem_cons_of_mem _ (List.mem_append_left _ hp)),FL', FR', PC', ih h2 (fun p hp=>hr p (by rw [h5]; exact List.mem_cons_of_mem _ (List.mem_append_right _ hp))),h3,h4,h5⟩
theorem MT {R:Int→Option Nod} (hR:∀ p M,R p=some M→bN M=true∧cX M) {fs:List aR} {h:Nat} {FL FR F:List Mk} {PC PM:List Int} {p:Int} {M:Nod} (hc:Ctx R fs (h + 1) FL FR PC) (hp:R p=some M) (h0:M.K≠[]) (ht:fN R (h + 1) M F PM) (hs:bF F) (key:Int) :
  ∃ (f:aR) (q:Kid),f.page=p∧f.N=M∧aW M key=(f.KA.length,true)∧M.C[f.KA.length]?=some q.p∧IsT R h q.p q.F q.P ∧
   Ctx R (f :: fs) h (FL ++ cU f.KA f.A) (fF f.KB f.B ++ FR) (p :: (kPs f.A ++ kPs f.B ++ PC))∧F=cU f.KA f.A ++ q.F ++ fF f.KB f.B ∧
   (∀ m∈cU f.KA f.A,cY m < 2 * key + 1)∧(∀ m∈fF f.KB f.B,2 * key + 1 < cY m)∧PM=kPs f.A ++ q.P ++ kPs f.B:=by
 have hw:=gI ht;have hr:=fA ht hs;obtain ⟨h1,h2,Q,h3,h4,h5,h6,h7⟩:=eX.1 ht;obtain ⟨i,f1,f2,f3,f4⟩:=RM key M.K 0 hr;have hf:aW M key=(i,true):=by unfold aW; rw [if_pos hw,h1,f1]; simp
 have hiQ:i < Q.length:=by omega
 have eQ:Q=Q.take i ++ [Q[i]] ++ Q.drop (i + 1):=by
  rw [List.append_assoc,List.singleton_append,← List.drop_eq_getElem_cons hiQ,List.take_append_drop]
 have la:(Q.take i).length=(M.K.take i).length:=by simp; omega
 have lb:(Q.drop (i + 1)).length=(M.K.drop i).length:=by simp; omega
 have li:(M.K.take i).length=i:=by simp; omega
 have eF:F=cU (M.K.take i) (Q.take i) ++ Q[i].F ++ fF (M.K.drop i) (Q.drop (i + 1)):=by
  have:=qD (M.K.take i) [] (M.K.drop i) (Q.take i) [Q[i]] (Q.drop (i + 1)) la rfl lb;rw [List.append_nil,List.take_append_drop,← eQ] at this;rw [h6,this,qC]
 rw [eF,List.append_assoc] at hs;obtain ⟨s1,s2,s3⟩:=aF.1 hs;obtain ⟨s4,s5,s6⟩:=aF.1 s2;obtain ⟨hMr,hMo⟩:=hR p M hp;refine ⟨⟨p,M,M.K.take i,M.K.drop i,Q.take i,Q.drop (i + 1)⟩,Q[i],rfl,rfl,by rw [li]; exact hf,?_,h5 _ (List.getElem_mem hiQ),⟨⟨la,lb,h1,h2,(List.take_append_drop i M.K).symm,⟨Q[i].p,?_⟩,fun q hq=>h5 q (List.mem_of_mem_take hq),fun q hq=>h5 q (List.mem_of_mem_drop hq),h0,hMr,hMo⟩,FL,FR,PC,hc,rfl,rfl,rfl⟩,eF,?_,?_,?_⟩
 ·show M.C[(M.K.take i).length]?=_
  rw [li,h3]; unfold kP; rw [List.getElem?_map,List.getElem?_eq_getElem hiQ]; rfl
 ·show M.C=kP (Q.take i) ++ [Q[i].p] ++ kP (Q.drop (i + 1))
  rw [h3]
  conv=>lhs; rw [eQ]
  rw [kG,kG]; rfl
 ·intro m hm
  show cY m < 2 * key + 1
  rcases hk:(M.K.take i).getLast? with _ | k
  ·have:M.K.take i=[]:=List.getLast?_eq_none_iff.1 hk
   have e:cU (M.K.take i) (Q.take i)=[]:=by rw [this]; rfl
   have hm' : m∈cU (M.K.take i) (Q.take i):=hm;rw [e] at hm'; cases hm'
  ·have hkm:=List.mem_of_getLast? hk
   have hle:=f3 k hkm;obtain ⟨X,hX⟩:=List.getLast?_eq_some_iff.1 hk;have hXl:X.length + 1=i:=by have e:=congrArg List.length hX; rw [li,List.length_append] at e; simpa using e.symm
   obtain ⟨Y,q,hY⟩:∃ Y q,Q.take i=Y ++ [q]:=by
    cases hq:(Q.take i).reverse with
    | nil=>have e:=congrArg List.length hq; rw [List.length_reverse,la,li,List.length_nil] at e; omega
    | cons q Y=>exact ⟨Y.reverse,q,by simpa using congrArg List.reverse hq⟩
   have hYl:Y.length=X.length:=by have e:=congrArg List.length hY; rw [la,li,List.length_append,List.length_singleton] at e; omega
   have eL:cU (M.K.take i) (Q.take i)=cU X Y ++ (q.F ++ [(k,none)]):=by
    rw [hX,hY];unfold cU;rw [List.zipWith_append hYl.symm];simp
   have hm' : m∈cU (M.K.take i) (Q.take i):=hm;rw [eL] at hm' s1;rw [← List.append_assoc] at hm' s1;obtain ⟨_,_,t3⟩:=aF.1 s1
   rcases List.mem_append.1 hm' with hx | hx
   ·have:=t3 m hx (k,none) (by simp)
    rw [gC] at this; omega
   ·simp only [List.mem_singleton] at hx
    subst hx; rw [gC]; omega
 ·intro m hm
  show 2 * key + 1 < cY m
  have hm' : m∈fF (M.K.drop i) (Q.drop (i + 1)):=hm;clear hm
  cases hkk:M.K.drop i with
  | nil=>rw [hkk] at hm'; cases hm'
  | cons k Kr =>
   have hlt:=f4 k (by rw [hkk]; simp);rw [hkk] at hm' s5 lb
   cases hqq:Q.drop (i + 1) with
   | nil=>rw [hqq] at lb; simp at lb
   | cons q Qr =>
    rw [hqq,oF] at hm' s5
    rcases List.mem_cons.1 hm' with rfl | hx
    ·rw [gC]; omega
    ·have:=(dM.1 s5).1 m hx
     rw [gC] at this; omega
 ·show PM=kPs (Q.take i) ++ Q[i].P ++ kPs (Q.drop (i + 1))
  rw [h7]
  conv=>lhs; rw [eQ]
  rw [dI,dI,qA]; simp [kPs]
theorem ME {R:Int→Option Nod} {h:Nat} {f:aR} (hf:FrameOk R h f) (KM:List Int) (QM:List Kid) (hl:QM.length=KM.length + 1) (hq:∀ q∈QM,IsT R h q.p q.F q.P) (N:Nod) (h1:N.leaf=false) (h2:N.V=[]) (h3:N.K=f.KA ++ KM ++ f.KB) (h4:N.C=kP f.A ++ kP QM ++ kP f.B) :
  fN R (h + 1) N (cU f.KA f.A ++ aT KM QM ++ fF f.KB f.B) (kPs f.A ++ kPs QM ++ kPs f.B):=by
 refine eX.2 ⟨h1,h2,f.A ++ QM ++ f.B,?_,?_,?_,?_,?_⟩
 ·rw [h4,kG,kG]
 ·rw [h3]; simp only [List.length_append]; have:=hf.a; have:=hf.b; omega
 ·intro q hm
  rcases List.mem_append.1 hm with hm | hm
  ·rcases List.mem_append.1 hm with hm | hm
   ·exact hf.ka q hm
   ·exact hq q hm
  ·exact hf.kb q hm
 ·rw [h3,qD _ _ _ _ _ _ hf.a hl hf.b]
 ·rw [dI,dI]
end Go.Proofs.YtblbiihpfjjhhaaGreatDoor
