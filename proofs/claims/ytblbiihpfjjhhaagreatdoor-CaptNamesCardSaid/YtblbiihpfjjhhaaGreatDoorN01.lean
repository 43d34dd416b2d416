/-
 Math, Sup, Num, BitsNat, Mask, Own, Runes, Label, Right, Fold, FoldFacts, RecSlot, RecFld.
-/
import Derived.Test.YtblbiihpfjjhhaaGreatDoorRows
import Derived.Lib.SmallJoins
import Derived.WalkKit
import Derived.WalkSpells
import Derived.WalkLawsBesides
import Derived.OpenShut
import Derived.Lib.Hide
import Derived.Lib.Strings
import Derived.Deep.RegionWith
import Derived.Deep.QuietTactic
import Derived.BigQuiet
import Derived.Deep.RegionHeld3
import Derived.Lib.OthersKept
import Derived.Laws.Cover4
import Derived.Lib.MapLaws
import Derived.Deep.Light
import Derived.Outline
namespace Go.Proofs.YtblbiihpfjjhhaaGreatDoor
namespace M
set_option maxRecDepth 20000
set_option maxHeartbeats 12800000
set_option linter.unusedVariables false
set_option linter.unusedSimpArgs false
def be:Nat→Nat→List UInt8
 | 0,_=>[]
 | s + 1,n=>be s (n / 256) ++ [UInt8.ofNat (n % 256)]
theorem be_length (s n:Nat):(be s n).length=s:=by
 induction s generalizing n with
 | zero=>rfl
 | succ s ih=>simp [be,ih]
theorem be_get (s n i:Nat) (h:i < s):(be s n)[i]?=some (UInt8.ofNat (n / 256 ^ (s - 1 - i) % 256)):=by
 induction s generalizing n with
 | zero=>omega
 | succ s ih =>
  rw [be]
  by_cases hi:i < s
  ·rw [List.getElem?_append_left (by rw [be_length]; exact hi),ih (n / 256) hi,Nat.div_div_eq_div_mul]
   have e:s + 1 - 1 - i=(s - 1 - i) + 1:=by omega
   rw [e,Nat.pow_succ,Nat.mul_comm 256]
  ·have e:i=s:=by omega
   subst e;rw [List.getElem?_append_right (by rw [be_length]; exact Nat.le_refl _),be_length];simp
def val (l:List UInt8):Nat:=l.foldl (fun a b=>a * 256 + b.toNat) 0
theorem val_snoc (l:List UInt8) (b:UInt8):val (l ++ [b])=val l * 256 + b.toNat:=by simp [val,List.foldl_append]
theorem ED (l:List UInt8) (a:Nat):l.foldl (fun a b=>a * 256 + b.toNat) a=a * 256 ^ l.length + val l:=by
 induction l generalizing a with
 | nil=>simp [val]
 | cons b l ih =>
  simp only [List.foldl_cons,List.length_cons,val];rw [ih,ih (0 * 256 + b.toNat),Nat.pow_succ,Nat.add_mul,Nat.mul_assoc,Nat.mul_comm 256];simp; omega
theorem val_lt (l:List UInt8):val l < 256 ^ l.length:=by
 induction l with
 | nil=>simp [val]
 | cons b l ih =>
  have e:val (b :: l)=b.toNat * 256 ^ l.length + val l:=by
   have:=ED l b.toNat;simp only [val,List.foldl_cons,Nat.zero_mul,Nat.zero_add] at this ⊢;exact this
  have hb:b.toNat < 256:=b.toNat_lt;rw [e,List.length_cons,Nat.pow_succ];have h1:b.toNat * 256 ^ l.length≤255 * 256 ^ l.length:=Nat.mul_le_mul_right _ (by omega);omega
theorem val_be (s n:Nat):val (be s n)=n % 256 ^ s:=by
 induction s generalizing n with
 | zero=>simp [be,val,Nat.mod_one]
 | succ s ih =>
  rw [be,val_snoc,ih,Nat.pow_succ,UInt8.toNat_ofNat', Nat.mod_mod_of_dvd _ (by decide)];rw [Nat.mul_comm (256 ^ s),Nat.mod_mul];omega
theorem aBM (l:List UInt8):be l.length (val l)=l:=by
 suffices h:∀ s,∀ l:List UInt8,l.length=s→be s (val l)=l from h _ l rfl
 intro s
 induction s with
 | zero=>intro l h; rw [List.length_eq_zero_iff.1 h]; rfl
 | succ s ih =>
  intro l h;have hne:l≠[]:=by intro e; subst e; simp at h
  have hl:=List.dropLast_concat_getLast hne;have hd:l.dropLast.length=s:=by simp [h]
  rw [be,← hl,val_snoc];have hb:(l.getLast hne).toNat < 256:=(l.getLast hne).toNat_lt;rw [show (val l.dropLast * 256 + (l.getLast hne).toNat) / 256=val l.dropLast by omega,show (val l.dropLast * 256 + (l.getLast hne).toNat) % 256=(l.getLast hne).toNat by omega,ih _ hd];simp
theorem be_eq (s:Nat) (l:List UInt8) (h:l.length=s):be s (val l)=l:=by subst h; exact aBM l
end M
open Go.RowKit
set_option linter.unusedVariables false
set_option maxRecDepth 20000
set_option maxHeartbeats 12800000
set_option linter.unusedSimpArgs false
def IsStrs (w:World) (a:Option Addr) (len cap:Nat) (ss:List ByteArray):Prop :=
  (a=none∧len=0∧cap=0∧ss=[]) ∨
  ∃ x:Addr,a=some x∧len≤cap∧cap≤maxLen∧ss.length=cap∧(∀ i,i < ss.length→w.cell? (x.add i)=some (.string (ss.getD i ByteArray.empty)))∧∀ s∈ss,s.size≤maxLen
theorem aK {a b:Bool} (h:a=b):Ending.returned (.bool a)=Ending.returned (.bool b):=by rw [h]
theorem GZ {k:IntKind} {a b:Int} (h:a=b):Ending.returned (.int k a)=Ending.returned (.int k b):=by rw [h]
theorem toList_data (s:ByteArray):s.toList=s.data.toList:=Lib.toList_data s
theorem aF {a b:ByteArray} (h:a.data.toList=b.data.toList):a=b:=ByteArray.ext (Array.toList_inj.1 h)
theorem UD {a b:ByteArray}:a.data.toList=b.data.toList ↔ a=b:=⟨aF,fun h=>by rw [h]⟩
theorem zB {a b:ByteArray}:a.toList=b.toList ↔ a=b:=by rw [toList_data,toList_data,UD]
theorem rY (a b:ByteArray):(a.toList == b.toList)=decide (a=b):=by
  rw [Bool.eq_iff_iff,beq_iff_eq,decide_eq_true_eq,zB]
def Str (l:List UInt8):ByteArray:=⟨l.toArray⟩
theorem bV (l:List UInt8):(Str l).size=l.length:=by simp [Str,ByteArray.size]
theorem aM (l:List UInt8):(Str l).data.toList=l:=by simp [Str]
theorem aBQ (s:ByteArray):Str s.data.toList=s:=by simp [Str]
theorem nH (l:List UInt8) (s:ByteArray):Str l ++ s=Str (l ++ s.data.toList):=by
  apply ByteArray.ext
  simp [Str]
theorem bT (s:ByteArray):s.data.toList.length=s.size:=by simp
theorem aH (s:ByteArray) (i j:Nat):(s.extract i j).data.toList=(s.data.toList.drop i).take (j - i):=Lib.extract_data s i j
theorem aX (s t:ByteArray):(s ++ t).data.toList=s.data.toList ++ t.data.toList:=by simp
theorem iL (s:ByteArray) (h:0 < s.size):s.toList.isEmpty=false:=by
  rw [toList_data]
  have:=bT s
  cases h' : s.data.toList with
  | nil=>rw [h'] at this; simp at this; omega
  | cons a l=>rfl
theorem EO (s:ByteArray) (h:s.size=0):s.toList=[]:=by
  rw [toList_data]
  have:=bT s
  cases h' : s.data.toList with
  | nil=>rfl
  | cons a l=>rw [h'] at this; simp at this; omega
theorem chain {w a b:World} (h:Below w.heap.size w a) (k:Below a.heap.size a b):Below w.heap.size w b:=h.trans (k.mono h.size)
theorem bG {B:Nat} {a w:World} (h:Below B a w) (n:Nat):Below B a (w.drewN n):=⟨h.os,h.tape,h.output,h.size,h.block⟩
theorem fD (b off i:Nat):(⟨b,off,none⟩:Addr).add i=⟨b,off + i,none⟩:=by unfold Addr.add; split <;> simp_all
theorem cl {w:World} {b:Nat} {l:List Value} {T:TypeId} (h:w.heap[b]?=some (.cells l.toArray T)) (k:Nat) {v:Value} {r:List Value} (hk:l.drop k=v :: r):w.cell? ⟨b,k,none⟩=some v:=by
  rw [Go.Joins.cell_of_block h]
  have e:l[k]?=some v:=by
    have:=congrArg (·[0]?) hk
    simpa using this
  simpa using e
theorem SL:(∀ (l:List Value) (i:Nat) (a:Value),l.toArray.setIfInBounds i a=(l.set i a).toArray)∧(∀ (l:List Bool) (i:Nat) (a:Bool),l.toArray.setIfInBounds i a=(l.set i a).toArray)∧(∀ (x a:Value) (l:List Value),(x :: l).set 0 a=a :: l)∧(∀ (x a:Bool) (l:List Bool),(x :: l).set 0 a=a :: l)∧(∀ (x a:Value) (l:List Value) (n:Nat),(x :: l).set (n + 1) a=x :: l.set n a)∧∀ (x a:Bool) (l:List Bool) (n:Nat),(x :: l).set (n + 1) a=x :: l.set n a :=
  ⟨fun _ _ _=>by simp,fun _ _ _=>by simp,fun _ _ _=>rfl,fun _ _ _=>rfl,fun _ _ _ _=>rfl,fun _ _ _ _=>rfl⟩
theorem Hd {p:Prop} (h:p):RowKit.Hid p:=h
theorem zl {α:Type _} {xs:Array α} {i:Nat} {a:α} (h:xs[i]?=some a):i < xs.size:=(Array.getElem?_eq_some_iff.1 h).1
theorem hss (w:World) (g i:Nat) (cs:Array Value) (t:TypeId) (v:Value) (h:w.heap[g]?=some (.cells cs t)):(w.setCell ⟨g,i,none⟩ v).heap[g]?=some (.cells (cs.setIfInBounds i v) t):=heap_setCell_same w g i cs t v h
theorem han (w:World) (o:Obj):(w.alloc o).heap[w.heap.size]?=some o:=heap_alloc_new w o
theorem hao (w:World) (o:Obj) {r:Nat} (h:r < w.heap.size):(w.alloc o).heap[r]?=w.heap[r]?:=heap_alloc_old w o h
theorem cob {w:World} {g:Nat} {cs:Array Value} {t:TypeId} {fr:Nat × Nat} (h:w.heap[g]?=some (.cells cs t fr)) (i:Nat):w.cell? ⟨g,i,none⟩=cs[i]?:=Go.Joins.cell_of_block h i
theorem Br {n:Nat} {w:World}:Below n w w:=Below.refl _ _
theorem hC {n:Nat} {p:Addr} {v:Value} {w wx:World} (c:w.cell? p=some v) (hS:Below n w wx) (lt:p.block < n):wx.cell? p=some v:=(hS.cell lt).trans c
theorem ufb {w:World} {b:Nat} {r:Array Value} {t:TypeId} (h:w.heap[b]?=some (.cells r t)) (i:Nat):w.frozen? ⟨b,i,none⟩=false:=Go.Joins.unfrozen_of_block h i
theorem gN (a:Int) (w:World) (h1:1≤a) (h2:a≤8) :
  Calls Tryz.prog 163 #[.int .i64 a] w fun e w' => e=.returned (.bool true)∧w=w' := by
 go_enter Tryz.func163,Tryz.ntmps163
 go_wp2
 go_ret;simp
theorem nT (a:Int) (w:World) (h:¬ (1≤a∧a≤8)) :
  Calls Tryz.prog 163 #[.int .i64 a] w fun e w' => e=.returned (.bool false)∧w=w' := by
 have h' : a < 1∨8 < a:=by omega
 clear h
 rcases h' with h | h
 all_goals
  go_enter Tryz.func163,Tryz.ntmps163
  go_wp2
  go_ret;simp
 omega
theorem zR (n:Int) (size:Int) (b:Bool) (w:World) (h1:1≤size) (h8:size≤8) (hb:(n / 2 ^ (8 * size).toNat == 0)=b) :
  Calls Tryz.prog 164 #[.int .u64 n,.int .i64 size] w fun e w' => e=.returned (.bool b)∧w=w' := by
 have e1:min (8 * size).toNat 64=(8 * size).toNat:=by omega
 have H:=Hd hb;clear hb;go_enter Tryz.func164,Tryz.ntmps164
 go_wp2
 go_ret;exact ⟨by rw [← H.out]; rfl,rfl⟩
def iZ (n:Int) (size:Nat):Nat→Array Value
 | 0=>#[.int .u8 0,.int .u8 0,.int .u8 0,.int .u8 0,.int .u8 0,.int .u8 0,.int .u8 0,.int .u8 0]
 | k + 1=>(iZ n size k).setIfInBounds (size - 1 - k) (.int .u8 (n / 2 ^ (8 * k) % 256))
theorem pR (n:Int) (size k:Nat):(iZ n size k).size=8:=by
 induction k with
 | zero=>rfl
 | succ k ih=>simp [iZ,ih]
theorem LW (n:Int) (size k j:Nat) (hj:j < 8):∃ v,(iZ n size k)[j]?=some v :=
 ⟨(iZ n size k)[j]'(by rw [pR]; omega),Array.getElem?_eq_getElem _⟩
theorem CQ (n:Int) (size k j:Nat) (hs:size≤8) (hk:k≤size) (hj:j < size) (hjk:size - 1 - j < k) :
  (iZ n size k)[j]?=some (.int .u8 (n / 2 ^ (8 * (size - 1 - j)) % 256)):=by
 induction k with
 | zero=>omega
 | succ k ih =>
  rw [iZ]
  by_cases e:j=size - 1 - k
  ·have ek:size - 1 - j=k:=by omega
   rw [ek,← e,Array.getElem?_setIfInBounds_self_of_lt (by rw [pR]; omega)]
  ·rw [Array.getElem?_setIfInBounds_ne (by omega)]
   exact ih (by omega) (by omega)
theorem ZE (n:Nat) (k:Nat):((UInt8.ofNat (n / 256 ^ k % 256)).toNat:Int)=(n:Int) / 2 ^ (8 * k) % 256:=by
 have e:(256:Nat) ^ k=2 ^ (8 * k):=by rw [Nat.pow_mul]
 rw [UInt8.toNat_ofNat', Nat.mod_mod_of_dvd _ (by decide),e,Int.natCast_emod,Int.natCast_ediv,Int.natCast_pow]
 rfl
theorem LU (n:Nat) (size j:Nat) (hs:size≤8) (hj:j < (M.be size n).length) :
  (iZ (n:Int) size size)[j]?=some (.int .u8 (((M.be size n)[j]).toNat:Int)):=by
 have hj' : j < size:=by rwa [M.be_length] at hj
 rw [CQ _ _ _ _ hs (Nat.le_refl _) hj' (by omega)];have:=M.be_get size n j hj';rw [List.getElem?_eq_getElem hj] at this;rw [Option.some.inj this,ZE]
theorem aAL (a:Addr) (k:Nat) (hk:k≤8) (W:World):(Instr.sliceAt 216 (.pointer (some a)) none (some (.int .i64 (k:Int))) none).run Tryz.prog W=.ok (.slice (some a) k 8) W:=by
 have hl:Tryz.prog.arrayLen 216=8:=by kernel_rfl
 have he:Tryz.prog.elem 216=5:=by kernel_rfl
 have hs:∀ w,(sizeOf 5).run Tryz.prog w=.ok 1 w:=fun w=>by kernel_rfl
 have ht:Tryz.prog.underlying 216=some (.array (Tryz.prog.arrayLen 216) (Tryz.prog.elem 216)):=by rw [hl,he]; exact Tryz.underlying216
 rw [run_sliceAt_array_h W _ a ht .i64 k (by omega) (by rw [hl]; omega),he,hs,hl];simp [Result.andThen,slicedAt,Addr.add]
def cG (n size:Int):Bool:=decide (1≤size∧size≤8) && (n / 2 ^ (8 * size).toNat == 0)
def aJ (n size:Int):List UInt8:=if cG n size=true then M.be size.toNat n.toNat else []
def yI (n size:Int):Int:=if cG n size=true then 0 else 1
theorem aAR (m:Nat) (size:Nat) (w:World) (h1:1≤size) (h8:size≤8) (hf:((m:Int) / 2 ^ (8 * size) == 0)=true) :
  Calls Tryz.prog 136 #[.int .u64 (m:Int),.int .i64 size] w fun e w' => e=.returned (.tuple #[.string (Str (M.be size m)),.int .i64 0])∧Below w.heap.size w w' := by
 have H:=Hd hf;clear hf;have hcells:=fun j hj=>LU m size j h8 hj
 have hconv:=run_convert_bytes_back (P:=Tryz.prog) (w.alloc (.cells (iZ (m:Int) size size) 216)) 22 9 5 ⟨w.heap.size,0,none⟩ 8 (M.be size m) Tryz.underlying22 Tryz.underlying5 Tryz.underlying9 (fun j hj=>by
  have:=hcells j hj;rw [show (⟨w.heap.size,0,none⟩:Addr).add j=⟨w.heap.size,j,none⟩ by unfold Addr.add; split <;> simp_all];rw [← this]; simp)
 rw [M.be_length] at hconv;have HC:=Hd hconv;clear hconv hcells;generalize hn:(m:Int)=n at *;have Hn:=Hd hn;clear hn;go_enter Tryz.func136,Tryz.ntmps136
 go_wp2_with (first | (go_at_call 163; refine (gN _ _ (by omega) (by omega)).mono ?_; rintro e w' ⟨rfl,rfl⟩) | (go_at_call 164; refine (zR _ _ true _ (by omega) (by omega) H.out).mono ?_; rintro e w' ⟨rfl,rfl⟩))
 go_loopw [7,18] (fun _ i wr=>∃ k:Nat,k≤size∧i=.int .i64 k∧wr=w.alloc (.cells (iZ n size k) 216)) (fun _ i _=>size - (intOf i).toNat)
 case atStart=>exact ⟨0,Nat.zero_le _,rfl,rfl⟩
 case round =>
  obtain ⟨k,hk,rfl,rfl⟩:=hrel
  by_cases hlt:k < size
  ·obtain ⟨v,hv⟩:=LW n size k (size - 1 - k) (by omega)
   go_wp2
   go_roundw
   case rel=>exact ⟨k + 1,by omega,by go_num,rfl⟩
   case measure=>simp [intOf]; omega
  ·obtain rfl:k=size:=by omega
   have hconv:=HC.out;have hsl:=aAL ⟨w.heap.size,0,none⟩ k h8
   go_wp2
   go_ret2;exact ⟨rfl,Br.alloc (Nat.le_refl _) _⟩
theorem QW (n:Int) (size:Int) (w:World) (h:¬ (1≤size∧size≤8)) :
  Calls Tryz.prog 136 #[.int .u64 n,.int .i64 size] w fun e w' => e=.returned (.tuple #[.string ⟨#[]⟩,.int .i64 1])∧w=w' := by
 have H:=Hd h;clear h;go_enter Tryz.func136,Tryz.ntmps136
 go_wp2_with (first | (go_at_call 163; refine (nT _ _ H.out).mono ?_; rintro e w' ⟨rfl,rfl⟩))
 go_ret2;exact ⟨rfl,rfl⟩
theorem QV (n:Int) (size:Int) (w:World) (h1:1≤size) (h8:size≤8) (hf:(n / 2 ^ (8 * size).toNat == 0)=false) :
  Calls Tryz.prog 136 #[.int .u64 n,.int .i64 size] w fun e w' => e=.returned (.tuple #[.string ⟨#[]⟩,.int .i64 1])∧w=w' := by
 have H:=Hd hf;clear hf;go_enter Tryz.func136,Tryz.ntmps136
 go_wp2_with (first | (go_at_call 163; refine (gN _ _ (by omega) (by omega)).mono ?_; rintro e w' ⟨rfl,rfl⟩) | (go_at_call 164; refine (zR _ _ false _ (by omega) (by omega) H.out).mono ?_; rintro e w' ⟨rfl,rfl⟩))
 go_ret2;exact ⟨rfl,rfl⟩
theorem lX (n size:Int) (w:World) (h0:0≤n) :
  Calls Tryz.prog 136 #[.int .u64 n,.int .i64 size] w fun e w' => e=.returned (.tuple #[.string (Str (aJ n size)),.int .i64 (yI n size)])∧Below w.heap.size w w' := by
 by_cases h:1≤size∧size≤8
 ·cases hf:(n / 2 ^ (8 * size).toNat == 0)
  ·refine (QV n size w h.1 h.2 hf).mono ?_
   rintro e w' ⟨rfl,rfl⟩;exact ⟨by simp [aJ,yI,cG,hf,Str],Br⟩
  ·obtain ⟨m,rfl⟩:=Int.eq_ofNat_of_zero_le h0
   obtain ⟨s,rfl⟩:=Int.eq_ofNat_of_zero_le (show 0≤size by omega);rw [show (8 * (s:Int)).toNat=8 * s by omega] at hf;refine (aAR m s w (by omega) (by omega) hf).mono ?_;rintro e w' ⟨rfl,hb⟩;refine ⟨?_,hb⟩
   have hk:cG (m:Int) (s:Int)=true:=by
    simp only [cG,show (8 * (s:Int)).toNat=8 * s by omega,hf,Bool.and_true,decide_eq_true_eq]; exact h
   simp [aJ,yI,hk]
 ·refine (QW n size w h).mono ?_
  rintro e w' ⟨rfl,rfl⟩;exact ⟨by simp [aJ,yI,cG,h,Str],Br⟩
theorem WT (n size:Int) (w:World) (h0:0≤n) (hk:cG n size=true) :
  Calls Tryz.prog 136 #[.int .u64 n,.int .i64 size] w fun e w' => e=.returned (.tuple #[.string (Str (M.be size.toNat n.toNat)),.int .i64 0])∧Below w.heap.size w w' := by
 have:=lX n size w h0
 simpa [aJ,yI,hk] using this
def cV (b:ByteArray) (size:Int):Bool:=decide (1≤size∧size≤8) && decide (size≤b.size)
def aG (b:ByteArray) (size:Int):Int:=if cV b size=true then (M.val (b.data.toList.take size.toNat):Int) else 0
def aA (b:ByteArray) (size:Int):ByteArray:=if cV b size=true then b.extract size.toNat b.size else ⟨#[]⟩
def cY (b:ByteArray) (size:Int):Int:=if cV b size=true then 0 else if 1≤size∧size≤8 then 2 else 1
theorem wV (a:Nat) (h:a < 18446744073709551616):IntKind.u64.wrap (a:Int)=(a:Int):=by
 rw [IntKind.wrap_u64]; exact Int.emod_eq_of_lt (Int.natCast_nonneg _) (Int.ofNat_lt.2 h)
theorem XK (v:Nat) (c:UInt8) (h:v * 256 + 255 < 18446744073709551616) :
  bits BinOp.or IntKind.u64 (IntKind.u64.wrap ((v:Int) * 256)) (IntKind.u64.wrap (c.toNat:Int))=((v * 256 + c.toNat:Nat):Int):=by
 have hc:c.toNat < 256:=c.toNat_lt;have h1:v * 256 < 18446744073709551616:=Nat.lt_of_le_of_lt (Nat.le_add_right _ _) h;have h2:c.toNat < 18446744073709551616:=Nat.lt_of_lt_of_le hc (by decide);have h3:v * 256 % 2 ^ 8=0:=by simp
 have h4:c.toNat < 2 ^ 8:=by simp; omega
 have e1:IntKind.u64.wrap ((v:Int) * 256)=((v * 256:Nat):Int):=wV _ h1;have e2:IntKind.u64.wrap (c.toNat:Int)=(c.toNat:Int):=wV _ h2;rw [e1,e2,u64_or_nat (v * 256) c.toNat h1 h2,nat_join 8 (v * 256) c.toNat h3 h4]
theorem OT (b:ByteArray) (k:Nat) (h:k < b.size):M.val (b.data.toList.take (k + 1))=M.val (b.data.toList.take k) * 256 + b[k].toNat:=by
 rw [List.take_succ_eq_append_getElem (by simpa using h),M.val_snoc]; rfl
theorem OU (b:ByteArray) (k:Nat) (h:k≤7):M.val (b.data.toList.take k) * 256 + 255 < 18446744073709551616:=by
 have h1:=M.val_lt (b.data.toList.take k);have h2:256 ^ (b.data.toList.take k).length≤256 ^ 7:=Nat.pow_le_pow_right (by decide) (by simp; omega);have h3:(256:Nat) ^ 7=72057594037927936:=by simp
 rw [h3] at h2;generalize M.val (b.data.toList.take k)=v at *;generalize 256 ^ (b.data.toList.take k).length=u at *;omega
theorem VS (b:ByteArray) (size:Nat) (w:World) (h1:1≤size) (h8:size≤8) (hl:size≤b.size) :
  Calls Tryz.prog 146 #[.string b,.int .i64 size] w fun e w' => e=.returned (.tuple #[.int .u64 (M.val (b.data.toList.take size)),.string (b.extract size b.size),.int .i64 0])∧Below w.heap.size w w' := by
 have ht:decide (b.size < size)=false:=by simp; omega
 go_enter Tryz.func146,Tryz.ntmps146
 go_wp2_with (first | (go_at_call 163; refine (gN _ _ (by omega) (by omega)).mono ?_; rintro e w' ⟨rfl,rfl⟩))
 go_loop [4,7,16] (fun n _ i=>∃ k:Nat,k≤size∧i=.int .i64 k∧n=.int .u64 (M.val (b.data.toList.take k))) (fun _ _ i=>size - (intOf i).toNat)
 case atStart=>exact ⟨0,Nat.zero_le _,rfl,rfl⟩
 case round =>
  obtain ⟨k,hk,rfl,rfl⟩:=hrel
  by_cases hlt:k < size
  ·go_wp2
   go_round
   case rel=>exact ⟨k + 1,by omega,by go_num,by rw [OT b k (by omega),← XK _ _ (OU b k (by omega))]⟩
   case measure=>simp [intOf]; omega
  ·obtain rfl:k=size:=by omega
   go_wp2
   go_region
   all_goals go_wp2
   all_goals go_ret3
   all_goals exact ⟨rfl,Br.drew⟩
theorem KI (b:ByteArray) (size:Int) (w:World) (h:¬ (1≤size∧size≤8)) :
  Calls Tryz.prog 146 #[.string b,.int .i64 size] w fun e w' => e=.returned (.tuple #[.int .u64 0,.string ⟨#[]⟩,.int .i64 1])∧w=w' := by
 have H:=Hd h;clear h;go_enter Tryz.func146,Tryz.ntmps146
 go_wp2_with (first | (go_at_call 163; refine (nT _ _ H.out).mono ?_; rintro e w' ⟨rfl,rfl⟩))
 go_ret3;exact ⟨rfl,rfl⟩
theorem rD (b:ByteArray) (size:Int) (w:World) (h1:1≤size) (h8:size≤8) (hl:(b.size:Int) < size) :
  Calls Tryz.prog 146 #[.string b,.int .i64 size] w fun e w' => e=.returned (.tuple #[.int .u64 0,.string ⟨#[]⟩,.int .i64 2])∧w=w' := by
 go_enter Tryz.func146,Tryz.ntmps146
 go_wp2_with (first | (go_at_call 163; refine (gN _ _ (by omega) (by omega)).mono ?_; rintro e w' ⟨rfl,rfl⟩))
 go_ret3;exact ⟨rfl,rfl⟩
theorem nN (b:ByteArray) (size:Int) (w:World) :
  Calls Tryz.prog 146 #[.string b,.int .i64 size] w fun e w' => e=.returned (.tuple #[.int .u64 (aG b size),.string (aA b size),.int .i64 (cY b size)])∧Below w.heap.size w w' := by
 by_cases h:1≤size∧size≤8
 ·by_cases hl:size≤b.size
  ·have hk:cV b size=true:=by simp [cV,h,hl]
   obtain ⟨s,rfl⟩:=Int.eq_ofNat_of_zero_le (show 0≤size by omega);refine (VS b s w (by omega) (by omega) (by omega)).mono ?_;rintro e w' ⟨rfl,hb⟩;exact ⟨by simp [aG,aA,cY,hk],hb⟩
  ·refine (rD b size w h.1 h.2 (by omega)).mono ?_
   rintro e w' ⟨rfl,rfl⟩;exact ⟨by simp [aG,aA,cY,cV,h,hl],Br⟩
 ·refine (KI b size w h).mono ?_
  rintro e w' ⟨rfl,rfl⟩;exact ⟨by simp [aG,aA,cY,cV,h],Br⟩
theorem xI (b:ByteArray) (size:Int) (w:World) (hk:cV b size=true) :
  Calls Tryz.prog 146 #[.string b,.int .i64 size] w fun e w' => e=.returned (.tuple #[.int .u64 (M.val (b.data.toList.take size.toNat)),.string (b.extract size.toNat b.size),.int .i64 0])∧Below w.heap.size w w' := by
 have:=nN b size w
 simpa [aG,aA,cY,hk] using this
def cF (s:ByteArray):ByteArray:=if s.size≤255 then Str (UInt8.ofNat s.size :: s.data.toList) else ⟨#[]⟩
def qR (s:ByteArray):Int:=if s.size≤255 then 0 else 16
theorem put1 (n:Nat) (h:n≤255):cG (n:Int) 1=true:=by simp [cG]; omega
theorem be1 (n:Nat) (h:n≤255):M.be (1:Int).toNat (n:Int).toNat=[UInt8.ofNat n]:=by
 show [UInt8.ofNat (n % 256)]=_
 rw [Nat.mod_eq_of_lt (by omega)]
theorem BJ (s:ByteArray) (w:World) (h:s.size≤255) :
  Calls Tryz.prog 192 #[.string s] w fun e w' => e=.returned (.tuple #[.string (cF s),.int .i64 (qR s)])∧Below w.heap.size w w' := by
 have ht:decide (255 < s.size)=false:=by simp; omega
 have hp:=Hd (put1 s.size h);have hz:(Str (M.be (1:Int).toNat (s.size:Int).toNat)).size=1:=by rw [be1 _ h]; rfl
 have fin:Ending.returned (.tuple #[.string (Str (M.be (1:Int).toNat (s.size:Int).toNat) ++ s),.int .i64 0])=Ending.returned (.tuple #[.string (cF s),.int .i64 (qR s)]):=by
  rw [be1 _ h,nH]; simp [cF,qR,h]
 have F:=Hd fin;clear fin;generalize hg:Str (M.be (1:Int).toNat (s.size:Int).toNat)=p at *;have G:=Hd hg;have hz1:p.size≤1:=by omega
 clear hg hz;go_enter Tryz.func192,Tryz.ntmps192
 go_wp2_with (first | (go_at_call 136; refine (WT _ _ _ (by omega) hp.out).mono ?_; rw [G.out]; rintro e w1 ⟨rfl,hb⟩))
 go_ret2;exact ⟨F.out,by assumption⟩
theorem KF (s:ByteArray) (w:World) (h:255 < s.size) :
  Calls Tryz.prog 192 #[.string s] w fun e w' => e=.returned (.tuple #[.string (cF s),.int .i64 (qR s)])∧Below w.heap.size w w' := by
 have fin:Ending.returned (.tuple #[.string ⟨#[]⟩,.int .i64 16])=Ending.returned (.tuple #[.string (cF s),.int .i64 (qR s)]):=by
  simp [cF,qR,show ¬ s.size≤255 by omega]
 have F:=Hd fin;clear fin;go_enter Tryz.func192,Tryz.ntmps192
 go_wp2
 go_ret2;exact ⟨F.out,Br⟩
theorem xF (s:ByteArray) (w:World) :
  Calls Tryz.prog 192 #[.string s] w fun e w' => e=.returned (.tuple #[.string (cF s),.int .i64 (qR s)])∧Below w.heap.size w w' := by
 by_cases h:s.size≤255
 ·exact BJ s w h
 ·exact KF s w (by omega)
def ttN (s:ByteArray):Nat:=M.val (s.data.toList.take (1:Int).toNat)
def ttB (s:ByteArray):ByteArray:=s.extract (1:Int).toNat s.size
def nK (s:ByteArray):Bool:=decide (1≤s.size) && decide (ttN s≤(ttB s).size)
def ttS (s:ByteArray):ByteArray:=if nK s=true then (ttB s).extract 0 (ttN s) else ⟨#[]⟩
def ttR (s:ByteArray):ByteArray:=if nK s=true then (ttB s).extract (ttN s) (ttB s).size else ⟨#[]⟩
def ttE (s:ByteArray):Int:=if nK s=true then 0 else 2
theorem sU (s:ByteArray) (w:World) (h:s.size=0) :
  Calls Tryz.prog 162 #[.string s] w fun e w' => e=.returned (.tuple #[.string ⟨#[]⟩,.string ⟨#[]⟩,.int .i64 2])∧Below w.heap.size w w' := by
 have H:=Hd h;clear h;go_enter Tryz.func162,Tryz.ntmps162
 go_wp2_with (first | (go_at_call 146; refine (rD _ _ _ (by omega) (by omega) (by rw [H.out]; decide)).mono ?_; rintro e w1 ⟨rfl,rfl⟩))
 go_ret3;exact ⟨rfl,Br⟩
theorem rE (s r:ByteArray) (n:Nat) (w:World) (hn:M.val (s.data.toList.take (1:Int).toNat)=n) (hr:s.extract (1:Int).toNat s.size=r) (hk:cV s 1=true) (hx:r.size < n) (_hb:n < 256) :
  Calls Tryz.prog 162 #[.string s] w fun e w' => e=.returned (.tuple #[.string ⟨#[]⟩,.string ⟨#[]⟩,.int .i64 2])∧Below w.heap.size w w' := by
 have H:=Hd hn;have R:=Hd hr;have K:=Hd hk;have ht:decide (r.size < n)=true:=by simp; omega
 clear hn hr hk;go_enter Tryz.func162,Tryz.ntmps162
 go_wp2_with (first | (go_at_call 146; refine (xI _ _ _ K.out).mono ?_; rw [H.out,R.out]; rintro e w1 ⟨rfl,hb⟩))
 go_ret3;exact ⟨rfl,by assumption⟩
theorem xJ (s r:ByteArray) (n:Nat) (w:World) (hn:M.val (s.data.toList.take (1:Int).toNat)=n) (hr:s.extract (1:Int).toNat s.size=r) (hk:cV s 1=true) (hx:n≤r.size) (_hb:n < 256) (hm:r.size≤9223372036854775807) :
  Calls Tryz.prog 162 #[.string s] w fun e w' => e=.returned (.tuple #[.string (r.extract 0 n),.string (r.extract n r.size),.int .i64 0])∧Below w.heap.size w w' := by
 have H:=Hd hn;have R:=Hd hr;have K:=Hd hk;have ht:decide (r.size < n)=false:=by simp; omega
 clear hn hr hk;go_enter Tryz.func162,Tryz.ntmps162
 go_wp2_with (first | (go_at_call 146; refine (xI _ _ _ K.out).mono ?_; rw [H.out,R.out]; rintro e w1 ⟨rfl,hb⟩))
 go_region
 all_goals go_wp2
 all_goals go_ret3
 all_goals exact ⟨rfl,hb.drew⟩
theorem rF (s:ByteArray):ttN s < 256:=by
 have h1:=M.val_lt (s.data.toList.take (1:Int).toNat);have h2:256 ^ (s.data.toList.take (1:Int).toNat).length≤256 ^ 1:=Nat.pow_le_pow_right (by decide) (by simp; omega);unfold ttN;omega
theorem nO (s:ByteArray) (w:World) (hm:s.size≤9223372036854775807) :
  Calls Tryz.prog 162 #[.string s] w fun e w' => e=.returned (.tuple #[.string (ttS s),.string (ttR s),.int .i64 (ttE s)])∧Below w.heap.size w w' := by
 by_cases h:1≤s.size
 ·have hk:cV s 1=true:=by simp [cV]; omega
  have hb:=rF s
  by_cases hx:ttN s≤(ttB s).size
  ·have ho:nK s=true:=by simp [nK,h,hx]
   refine (xJ s (ttB s) (ttN s) w rfl rfl hk hx hb (by simp [ttB]; omega)).mono ?_;rintro e w' ⟨rfl,hb⟩;exact ⟨by simp [ttS,ttR,ttE,ho],hb⟩
  ·refine (rE s (ttB s) (ttN s) w rfl rfl hk (by omega) hb).mono ?_
   rintro e w' ⟨rfl,hb⟩;exact ⟨by simp [ttS,ttR,ttE,nK,h,hx],hb⟩
 ·refine (sU s w (by omega)).mono ?_
  rintro e w' ⟨rfl,hb⟩;exact ⟨by simp [ttS,ttR,ttE,nK,h],hb⟩
theorem lY (a:Nat) (ha:a < 9223372036854775808):(BitVec.ofInt 64 (a:Int)).toNat=a:=by
 rw [BitVec.ofInt_natCast,BitVec.toNat_ofNat]; exact Nat.mod_eq_of_lt (by omega)
theorem zO (a b:Nat) (ha:a < 9223372036854775808) (hb:b < 9223372036854775808):bits .and .i64 (a:Int) (b:Int)=((a &&& b:Nat):Int):=by
 have hx:a &&& b < 2 ^ 63:=Nat.and_lt_two_pow _ (by omega)
 show IntKind.i64.wrap ((BitVec.ofInt 64 (a:Int) &&& BitVec.ofInt 64 (b:Int)).toNat:Int)=_
 rw [BitVec.toNat_and,lY a ha,lY b hb,IntKind.wrap_i64];omega
def gE (n:Int):Bool:=decide (0≤n∧n≤65535)
def fR (a b:Int):Bool:=gE a && gE b && (a.toNat &&& b.toNat == a.toNat)
theorem AP (a b:Nat) (ha:a≤65535) (hb:b≤65535):(bits .andNot .i64 (a:Int) (b:Int) == 0)=(a &&& b == a):=by
 have hA:=lY a (by omega);have hB:=lY b (by omega)
 have hle:(BitVec.ofInt 64 (a:Int) &&& ~~~ BitVec.ofInt 64 (b:Int)).toNat≤a:=by
  rw [BitVec.toNat_and,hA]; exact Nat.and_le_left
 have e:bits .andNot .i64 (a:Int) (b:Int)=((BitVec.ofInt 64 (a:Int) &&& ~~~ BitVec.ofInt 64 (b:Int)).toNat:Int):=by
  show IntKind.i64.wrap ((BitVec.ofInt 64 (a:Int) &&& ~~~ BitVec.ofInt 64 (b:Int)).toNat:Int)=_
  rw [IntKind.wrap_i64]; omega
 rw [e,Bool.eq_iff_iff,beq_iff_eq,beq_iff_eq];generalize hx:BitVec.ofInt 64 (a:Int)=A at *;generalize hy:BitVec.ofInt 64 (b:Int)=B at *
 have h1:((A &&& ~~~ B).toNat:Int)=0 ↔ A &&& ~~~ B=0#64:=by
  rw [← BitVec.toNat_inj]; simp
 have h2:a &&& b=a ↔ A &&& B=A:=by
  rw [← BitVec.toNat_inj,BitVec.toNat_and,hA,hB]
 rw [h1,h2];constructor
 ·intro h
  apply BitVec.eq_of_getLsbD_eq;intro i hi;have:=congrArg (fun v:BitVec 64=>v.getLsbD i) h;simp [hi] at this ⊢;exact this
 ·intro h
  apply BitVec.eq_of_getLsbD_eq;intro i hi;have:=congrArg (fun v:BitVec 64=>v.getLsbD i) h;simp [hi] at this ⊢;exact this
theorem jO (n:Int) (v:Bool) (w:World) (hv:gE n=v) :
  Calls Tryz.prog 94 #[.int .i64 n] w fun e w' => e=.returned (.bool v)∧w=w' := by
 have H:Hid ((decide (0≤n) && decide (n≤65535))=v):=by rw [← hv,gE,Bool.decide_and]; exact rfl
 clear hv
 by_cases h:n < 0
 all_goals
  go_enter Tryz.func94,Tryz.ntmps94
  go_wp2
  go_ret;refine ⟨?_,rfl⟩;rw [← H.out];exact aK (by rw [Bool.eq_iff_iff]; simp; omega)
theorem VX (a b:Int) (h1:gE a=true) (h2:gE b=true):(bits .andNot .i64 a b == 0)=fR a b∧(bits .and .i64 a b == a)=fR a b:=by
 have h1' := h1;have h2' := h2;simp only [gE,decide_eq_true_eq] at h1' h2';have e1:=AP a.toNat b.toNat (by omega) (by omega);have e2:=zO a.toNat b.toNat (by omega) (by omega);rw [Int.toNat_of_nonneg h1'.1,Int.toNat_of_nonneg h2'.1] at e1 e2;refine ⟨by rw [e1,fR,h1,h2]; rfl,?_⟩;rw [e2,fR,h1,h2,Bool.eq_iff_iff];simp only [Bool.and_self,Bool.true_and,beq_iff_eq];omega
theorem PQ (a b:Int) (h:(gE a && gE b)=false):fR a b=false:=by unfold fR; rw [h]; rfl
theorem VW (a b:Int) (w:World) :
  Calls Tryz.prog 33 #[.int .i64 a,.int .i64 b] w fun e w' => e=.returned (.bool (fR a b))∧w=w' := by
 cases h1:gE a
 ·have H1:=Hd h1
  have G' := Hd (PQ a b (by rw [h1]; rfl));clear h1;go_enter Tryz.func33,Tryz.ntmps33;go_wp2_with fail;refine (jO _ false _ H1.out).mono ?_;rintro e w1 ⟨rfl,rfl⟩;go_wp2_with fail;go_ret;exact ⟨by rw [G'.out]; rfl,rfl⟩
 ·cases h2:gE b
  ·have H1:=Hd h1
   have H2:=Hd h2;have G' := Hd (PQ a b (by rw [h1,h2]; rfl));clear h1 h2;go_enter Tryz.func33,Tryz.ntmps33;go_wp2_with fail;refine (jO _ true _ H1.out).mono ?_;rintro e w1 ⟨rfl,rfl⟩;go_wp2_with fail;refine (jO _ false _ H2.out).mono ?_;rintro e w1 ⟨rfl,rfl⟩;go_wp2_with fail;go_ret;exact ⟨by rw [G'.out]; rfl,rfl⟩
  ·have H1:=Hd h1
   have H2:=Hd h2;have F' := Hd (VX a b h1 h2);clear h1 h2;go_enter Tryz.func33,Tryz.ntmps33;go_wp2_with fail;refine (jO _ true _ H1.out).mono ?_;rintro e w1 ⟨rfl,rfl⟩;go_wp2_with fail;refine (jO _ true _ H2.out).mono ?_;rintro e w1 ⟨rfl,rfl⟩;go_wp2_with fail;go_ret;exact ⟨by rw [← F'.out.1]; rfl,rfl⟩
theorem MJ {w:World} {base:Nat} {e:TypeId} {v:Value} {n:Nat} {xs:List Value} (h:w.ownsRow base e 1 v n xs) :
  (v=.slice none 0 0∧xs=[])∨∃ g cap,v=.slice (some ⟨g,0,none⟩) xs.length cap∧xs.length=n∧∀ j u,xs[j]?=some u→w.cell? ((⟨g,0,none⟩:Addr).add j)=some u:=by
 have hl:xs.length=n:=by have:=h.1; omega
 rcases h.2 with ⟨rfl,h0⟩ | ⟨g,cap,cur,hv,hb,hh,hn,hc,hs,ht⟩
 ·exact .inl ⟨rfl,List.eq_nil_of_length_eq_zero (by omega)⟩
 ·refine .inr ⟨g,cap,by rw [hl]; exact hv,hl,h.cells (by rw [hv]; rfl)⟩
theorem DB {w:World} {base:Nat} {e:TypeId} {v:Value} {n:Nat} {xs:List Value} (h:w.ownsRow base e 1 v n xs) {k:Nat} {s:ByteArray} {p:Nat} (hk:w.heap[k]?=some (.stringIter s p)) (q:Nat) :
  (w.iterAt k s q).ownsRow base e 1 v n xs:=by
 refine ⟨h.1,?_⟩
 rcases h.2 with h | ⟨g,cap,cur,hv,hb,hh,r⟩
 ·exact .inl h
 ·refine .inr ⟨g,cap,cur,hv,hb,?_,r⟩
  rw [Lib.iterAt_other _ _ _ _ _ ?_]
  ·exact hh
  ·rintro rfl
   rw [hk] at hh; cases hh
theorem uJ {w w' : World} {base:Nat} {e:TypeId} {v:Value} {n:Nat} {xs:List Value} (h:w.ownsRow base e 1 v n xs) (hg:w.grownBy w' v.ownBlock) {k:Nat} {s:ByteArray} {p:Nat} (hk:w.heap[k]?=some (.stringIter s p)) :
  w'.heap[k]?=some (.stringIter s p):=by
 have hlt:k < w.heap.size:=(zl hk);rw [hg.block k hlt ?_]
 ·exact hk
 ·intro he
  rcases h.2 with ⟨rfl,_⟩ | ⟨g,cap,cur,rfl,hb,hh,r⟩
  ·cases he
  ·simp only [Value.ownBlock,Option.some.injEq] at he
   subst he;rw [hk] at hh; cases hh
theorem LG (w:World) (c:Nat):(Conv.runesToString (.slice none 0 c)).run Tryz.prog w=.ok (.string ByteArray.empty) w:=by simp [Conv.runesToString]
theorem sP {w:World} {base:Nat} {v:Value} {n:Nat} (xs:List Int) (h:w.ownsRow base 21 1 v n (xs.map fun b=>.int .i32 b)) :
  (convert 171 9 v).run Tryz.prog w=.ok (.string (runesBytes xs)) w:=by
 rcases MJ h with ⟨rfl,hx⟩ | ⟨g,cap,hv,hl,hc⟩
 ·have:xs=[]:=by simpa using hx
  subst this;rw [run_convert_runes_string (P:=Tryz.prog) w 171 9 21 none 0 0 Tryz.underlying171 Tryz.underlying21 Tryz.underlying9];exact LG w 0
 ·rw [hv,run_convert_runes_string (P:=Tryz.prog) w 171 9 21 _ _ _ Tryz.underlying171 Tryz.underlying21 Tryz.underlying9]
  have:=run_loadCells_list (P:=Tryz.prog) w ⟨g,0,none⟩ _ hc;exact run_runesToString (P:=Tryz.prog) w _ _ _ _ this
theorem vS (n:Nat) (h:n < 128):Utf8.encode (n:Int)=Str [UInt8.ofNat n]:=by
 have hv:Utf8.valid (n:Int)=true:=by simp [Utf8.valid]; omega
 simp only [Utf8.encode,hv,if_true,Int.toNat_natCast,h]
 rfl
def dR (l:List UInt8):Nat:=(Lib.decodeL l).1
def dW (l:List UInt8):Nat:=(Lib.decodeL l).2
theorem vX (l:List UInt8):1≤dW l:=Lib.decodeL_width l
theorem aCH (l:List UInt8):dR l≤1114111:=Lib.decodeL_rune l
theorem aCG (l:List UInt8) (h:l≠[]):dW l≤l.length:=Lib.decodeL_le l h
def rsF:Nat→List UInt8→List Nat
 | 0,_=>[]
 | f + 1,l=>if l=[] then [] else dR l :: rsF f (l.drop (dW l))
theorem lT (f:Nat):rsF f []=[]:=by cases f <;> simp [rsF]
theorem xT:∀ (n m:Nat) (l:List UInt8),l.length≤n→l.length≤m→rsF n l=rsF m l
 | 0,m,l,hn,_=>by
  have:l=[]:=List.eq_nil_of_length_eq_zero (by omega);subst this;rw [lT,lT]
 | n + 1,0,l,_,hm=>by
  have:l=[]:=List.eq_nil_of_length_eq_zero (by omega);subst this;rw [lT,lT]
 | n + 1,m + 1,l,hn,hm=>by
  by_cases hne:l=[]
  ·subst hne
   rw [lT,lT]
  ·have hw:=vX l
   have hl:0 < l.length:=List.length_pos_iff.2 hne;simp only [rsF,if_neg hne];rw [xT n m _ (by rw [List.length_drop]; omega) (by rw [List.length_drop]; omega)]
def rs (l:List UInt8):List Nat:=rsF l.length l
theorem QL:rs []=[]:=rfl
theorem lS (l:List UInt8) (hne:l≠[]):rs l=dR l :: rs (l.drop (dW l)):=by
 have hw:=vX l;have hl:0 < l.length:=List.length_pos_iff.2 hne;unfold rs;obtain ⟨n,hn⟩:∃ n,l.length=n + 1:=⟨l.length - 1,by omega⟩
 rw [hn];simp only [rsF,if_neg hne];rw [xT n _ _ (by rw [List.length_drop]; omega) (Nat.le_refl _)]
theorem tS {P:List UInt8→Prop} (h0:P []) (h1:∀ l,l≠[]→P (l.drop (dW l))→P l):∀ l,P l:=by
 suffices h:∀ n l,l.length≤n→P l from fun l=>h l.length l (Nat.le_refl _)
 intro n
 induction n with
 | zero=>intro l hl; rw [List.eq_nil_of_length_eq_zero (Nat.le_zero.1 hl)]; exact h0
 | succ n ih =>
  intro l hl
  by_cases hne:l=[]
  ·rw [hne]; exact h0
  ·apply h1 l hne
   apply ih;have:=vX l;have:0 < l.length:=List.length_pos_iff.2 hne;rw [List.length_drop];omega
def RS (s:ByteArray) (pos:Nat):List Nat:=rs (s.data.toList.drop pos)
def sR (s:ByteArray) (pos:Nat):Nat:=dR (s.data.toList.drop pos)
def sW (s:ByteArray) (pos:Nat):Nat:=dW (s.data.toList.drop pos)
theorem LF (s:ByteArray) (pos:Nat):(Utf8.decode s pos).1=sR s pos:=by unfold sR dR; rw [Lib.decodeL_drop]
theorem LE (s:ByteArray) (pos:Nat):(Utf8.decode s pos).2=sW s pos:=by unfold sW dW; rw [Lib.decodeL_drop]
theorem IZ (s:ByteArray) (pos:Nat) (h:pos < s.size):s.data.toList.drop pos≠[]:=by
 intro h0;have:=congrArg List.length h0;rw [List.length_drop,bT] at this;simp at this;omega
theorem QI (s:ByteArray) (pos:Nat):1≤sW s pos:=vX _
theorem ZS (s:ByteArray) (pos:Nat) (h:pos < s.size):pos + sW s pos≤s.size:=by
 have:=aCG _ (IZ s pos h);rw [List.length_drop,bT] at this;unfold sW;omega
theorem ZT (s:ByteArray) (pos:Nat):sR s pos≤1114111:=aCH _
theorem JL (s:ByteArray) (pos:Nat) (h:pos < s.size):RS s pos=sR s pos :: RS s (pos + sW s pos):=by
 unfold RS;rw [lS _ (IZ s pos h),List.drop_drop]
 rfl
theorem VE (s:ByteArray) (pos:Nat) (h:s.size≤pos):RS s pos=[]:=by
 unfold RS;rw [List.drop_eq_nil_of_le (by rw [bT]; exact h),QL]
theorem uE (w:World) (b:Nat) (s:ByteArray) (pos:Nat) (ty:TypeId) (hk:w.heap[b]?=some (.stringIter s pos)) (h:pos < s.size) :
  (Instr.next (.pointer (some ⟨b,0,none⟩)) true ty).run Tryz.prog w=.ok (.tuple #[.bool true,.int .i64 pos,.int .i32 (sR s pos)]) (w.iterAt b s (pos + sW s pos)):=by
 rw [← LF,← LE];exact Lib.run_next_any_at (P:=Tryz.prog) w b s pos ty hk h
theorem BV (l:List UInt8) (hne:l≠[]):(dR l < 128∧dW l=1∧l.take 1=[UInt8.ofNat (dR l)]∧(l.getD 0 0).toNat=dR l)∨(128≤dR l∧∀ c∈l.take (dW l),128≤c.toNat):=by
 have hl:0 < l.length:=List.length_pos_iff.2 hne;have k0:=(l.getD 0 0).toNat_lt;have k1:=(l.getD 1 0).toNat_lt;have k2:=(l.getD 2 0).toNat_lt;have k3:=(l.getD 3 0).toNat_lt;unfold dR dW;rw [Lib.decodeL_N]
 rcases Lib.decodeN_shape l.length (l.getD 0 0).toNat (l.getD 1 0).toNat (l.getD 2 0).toNat (l.getD 3 0).toNat with ⟨c,e⟩ | ⟨c1,c2,c3,cv,e⟩ | ⟨c1,c2,c3,c4,cv,cs,e⟩ | ⟨c1,c2,c3,c4,c5,cv,cw,e⟩ | e
 ·left
  rw [e];refine ⟨c,rfl,?_,rfl⟩;rw [Lib.takeA l hl];simp
 ·right
  rw [e,Lib.takeB l c2];refine ⟨by omega,fun c hc=>?_⟩;simp only [List.mem_cons,List.not_mem_nil,or_false] at hc
  rcases hc with rfl | rfl <;> omega
 ·right
  rw [e,Lib.takeC l c2];refine ⟨by simp only; omega,fun c hc=>?_⟩;simp only [List.mem_cons,List.not_mem_nil,or_false] at hc
  rcases hc with rfl | rfl | rfl <;> omega
 ·right
  rw [e,Lib.takeD l c2];refine ⟨by simp only; omega,fun c hc=>?_⟩;simp only [List.mem_cons,List.not_mem_nil,or_false] at hc
  rcases hc with rfl | rfl | rfl | rfl <;> omega
 ·right
  rw [e];refine ⟨by simp,fun c hc=>?_⟩;rw [Lib.takeA l hl] at hc;simp only [List.mem_cons,List.not_mem_nil,or_false] at hc;subst hc
  by_cases h:(l.getD 0 0).toNat < 128
  ·have:=Lib.decodeN_ascii l.length (l.getD 0 0).toNat (l.getD 1 0).toNat (l.getD 2 0).toNat (l.getD 3 0).toNat h
   rw [this] at e;have:=congrArg Prod.fst e;simp only at this;omega
  ·omega
theorem YR (r:Nat) (h1:128≤r) (h2:r < 2048):(Utf8.encode (r:Int)).data.toList=[UInt8.ofNat (192 + r / 64),UInt8.ofNat (128 + r % 64)]:=by
 have v:Utf8.valid (r:Int)=true:=by simp [Utf8.valid]; omega
 have n1:¬ r < 128:=by omega
 simp [Utf8.encode,v,n1,h2]
theorem KD (l:List UInt8) (hne:l≠[]) (h1:128≤dR l) (h2:dR l < 2048):(Utf8.encode (dR l:Int)).data.toList=l.take (dW l):=by
 have hl:0 < l.length:=List.length_pos_iff.2 hne;have k0:=(l.getD 0 0).toNat_lt;have k1:=(l.getD 1 0).toNat_lt;have k2:=(l.getD 2 0).toNat_lt;have k3:=(l.getD 3 0).toNat_lt;unfold dR dW at *;rw [Lib.decodeL_N] at *
 rcases Lib.decodeN_shape l.length (l.getD 0 0).toNat (l.getD 1 0).toNat (l.getD 2 0).toNat (l.getD 3 0).toNat with ⟨c,e⟩ | ⟨c1,c2,c3,cv,e⟩ | ⟨c1,c2,c3,c4,cv,cs,e⟩ | ⟨c1,c2,c3,c4,c5,cv,cw,e⟩ | e
 ·rw [e] at h1; simp only at h1; omega
 ·rw [e] at h1 h2 ⊢
  simp only at h1 h2 ⊢;rw [Lib.takeB l c2,YR _ h1 h2];have e0:192 + ((l.getD 0 0).toNat % 32 * 64 + (l.getD 1 0).toNat % 64) / 64=(l.getD 0 0).toNat:=by omega
  have e1:128 + ((l.getD 0 0).toNat % 32 * 64 + (l.getD 1 0).toNat % 64) % 64=(l.getD 1 0).toNat:=by omega
  rw [e0,e1,UInt8.ofNat_toNat,UInt8.ofNat_toNat]
 ·rw [e] at h2; simp only at h2; omega
 ·rw [e] at h2; simp only at h2; omega
 ·rw [e] at h2; simp only at h2; omega
def upR (r:Nat):Bool:=decide (65≤r) && decide (r≤90)
def okR (r:Nat):Bool:=decide ((97≤r∧r≤122)∨(65≤r∧r≤90)∨(48≤r∧r≤57)∨r=45∨r=46∨(192≤r∧r≤383))
def kR (r:Nat):Bool:=decide (r≠45∧r≠46)
theorem dI (r:Nat) (v:Bool) (w:World) (hr:r≤1114111) (hv:upR r=v) :
    Calls Tryz.prog 132 #[.int .i32 (r:Int)] w fun e w' => e=.returned (.bool v)∧w=w' := by
  subst hv
  rcases (show r < 65∨(65≤r∧r≤90)∨90 < r by omega) with h | h | h
  · have e:upR r=false:=by simp [upR]; omega
    rw [e];have:(r:Int) < 65:=by omega
    go_enter Tryz.func132,Tryz.ntmps132;go_wp2_with fail
    all_goals go_ret
    all_goals exact ⟨aK (by simp; try omega),rfl⟩
  · have e:upR r=true:=by simp [upR]; omega
    rw [e];obtain ⟨h1,h2⟩:=h;have:65≤(r:Int):=by omega
    have:(r:Int)≤90:=by omega
    go_enter Tryz.func132,Tryz.ntmps132;go_wp2_with fail
    all_goals go_ret
    all_goals exact ⟨aK (by simp; try omega),rfl⟩
  · have e:upR r=false:=by simp [upR]; omega
    rw [e];have:90 < (r:Int):=by omega
    go_enter Tryz.func132,Tryz.ntmps132;go_wp2_with fail
    all_goals go_ret
    all_goals exact ⟨aK (by simp; try omega),rfl⟩
theorem vT (r:Nat) (v:Bool) (w:World) (hr:r≤1114111) (hv:kR r=v) :
    Calls Tryz.prog 161 #[.int .i32 (r:Int)] w fun e w' => e=.returned (.bool v)∧w=w' := by
  subst hv
  rcases (show r=45∨r=46∨(r≠45∧r≠46) by omega) with rfl | rfl | h
  · go_enter Tryz.func161,Tryz.ntmps161;go_wp2_with fail
    all_goals go_ret
    all_goals exact ⟨rfl,rfl⟩
  · go_enter Tryz.func161,Tryz.ntmps161;go_wp2_with fail
    all_goals go_ret
    all_goals exact ⟨rfl,rfl⟩
  · have e:kR r=true:=by simpa [kR] using h
    rw [e];have h1:((r:Int) != 45)=true:=by simp; omega
    have h2:((r:Int) != 46)=true:=by simp; omega
    clear h;go_enter Tryz.func161,Tryz.ntmps161;go_wp2_with fail
    all_goals go_ret
    all_goals exact ⟨aK (by simp),rfl⟩
theorem LH (r:Nat):r < 45∨r=45∨r=46∨r=47∨(48≤r∧r≤57)∨(58≤r∧r≤64)∨(65≤r∧r≤90)∨(91≤r∧r≤96)∨(97≤r∧r≤122)∨(123≤r∧r≤191)∨(192≤r∧r≤383)∨384≤r:=by omega
theorem gL (r:Nat) (v:Bool) (w:World) (hr:r≤1114111) (hv:okR r=v) :
    Calls Tryz.prog 160 #[.int .i32 (r:Int)] w fun e w' => e=.returned (.bool v)∧w=w' := by
  subst hv;have ok:∀ b,(b=decide ((97≤r∧r≤122)∨(65≤r∧r≤90)∨(48≤r∧r≤57)∨r=45∨r=46∨(192≤r∧r≤383)))→okR r=b:=fun b h=>h.symm
  rcases LH r with h | h | h | h | h | h | h | h | h | h | h | h
  all_goals
    first
    | (have e:okR r=true:=ok _ (by symm; rw [decide_eq_true_eq]; omega)
       rw [e])
    | (have e:okR r=false:=ok _ (by symm; rw [decide_eq_false_iff_not]; omega)
       rw [e])
    clear ok e
  · have h1:(r:Int) < 45:=by omega
    have h8:((r:Int) == 45)=false:=by simp; omega
    have h9:((r:Int) == 46)=false:=by simp; omega
    clear h;go_enter Tryz.func160,Tryz.ntmps160;go_wp2_with fail;refine (dI _ false _ (by omega) (by simp [upR]; omega)).mono ?_;rintro e w9 ⟨rfl,rfl⟩;go_wp2_with fail;go_ret;exact ⟨aK (by simp; try omega),rfl⟩
  · subst h;go_enter Tryz.func160,Tryz.ntmps160;go_wp2_with fail;refine (dI _ false _ (by omega) (by simp [upR])).mono ?_;rintro e w9 ⟨rfl,rfl⟩;go_wp2_with fail;go_ret;exact ⟨aK (by simp; try omega),rfl⟩
  · subst h;go_enter Tryz.func160,Tryz.ntmps160;go_wp2_with fail;refine (dI _ false _ (by omega) (by simp [upR])).mono ?_;rintro e w9 ⟨rfl,rfl⟩;go_wp2_with fail;go_ret;exact ⟨aK (by simp; try omega),rfl⟩
  · subst h;go_enter Tryz.func160,Tryz.ntmps160;go_wp2_with fail;refine (dI _ false _ (by omega) (by simp [upR])).mono ?_;rintro e w9 ⟨rfl,rfl⟩;go_wp2_with fail;go_ret;exact ⟨aK (by simp; try omega),rfl⟩
  · have h1:48≤(r:Int):=by omega
    have h2:(r:Int)≤57:=by omega
    have h8:((r:Int) == 45)=false:=by simp; omega
    have h9:((r:Int) == 46)=false:=by simp; omega
    clear h;go_enter Tryz.func160,Tryz.ntmps160;go_wp2_with fail;refine (dI _ false _ (by omega) (by simp [upR]; omega)).mono ?_;rintro e w9 ⟨rfl,rfl⟩;go_wp2_with fail;go_ret;exact ⟨aK (by simp; try omega),rfl⟩
  · have h1:57 < (r:Int):=by omega
    have h2:(r:Int) < 65:=by omega
    have h8:((r:Int) == 45)=false:=by simp; omega
    have h9:((r:Int) == 46)=false:=by simp; omega
    clear h;go_enter Tryz.func160,Tryz.ntmps160;go_wp2_with fail;refine (dI _ false _ (by omega) (by simp [upR]; omega)).mono ?_;rintro e w9 ⟨rfl,rfl⟩;go_wp2_with fail;go_ret;exact ⟨aK (by simp; try omega),rfl⟩
  · have h1:65≤(r:Int):=by omega
    have h2:(r:Int)≤90:=by omega
    have h8:((r:Int) == 45)=false:=by simp; omega
    have h9:((r:Int) == 46)=false:=by simp; omega
    clear h;go_enter Tryz.func160,Tryz.ntmps160;go_wp2_with fail;refine (dI _ true _ (by omega) (by simp [upR]; omega)).mono ?_;rintro e w9 ⟨rfl,rfl⟩;go_wp2_with fail;go_ret;exact ⟨aK (by simp; try omega),rfl⟩
  · have h1:90 < (r:Int):=by omega
    have h2:(r:Int) < 97:=by omega
    have h8:((r:Int) == 45)=false:=by simp; omega
    have h9:((r:Int) == 46)=false:=by simp; omega
    clear h;go_enter Tryz.func160,Tryz.ntmps160;go_wp2_with fail;refine (dI _ false _ (by omega) (by simp [upR]; omega)).mono ?_;rintro e w9 ⟨rfl,rfl⟩;go_wp2_with fail;go_ret;exact ⟨aK (by simp; try omega),rfl⟩
  · have h1:97≤(r:Int):=by omega
    have h2:(r:Int)≤122:=by omega
    have h8:((r:Int) == 45)=false:=by simp; omega
    have h9:((r:Int) == 46)=false:=by simp; omega
    clear h;go_enter Tryz.func160,Tryz.ntmps160;go_wp2_with fail;go_ret;exact ⟨aK (by simp; try omega),rfl⟩
  · have h1:122 < (r:Int):=by omega
    have h2:(r:Int) < 192:=by omega
    have h8:((r:Int) == 45)=false:=by simp; omega
    have h9:((r:Int) == 46)=false:=by simp; omega
    clear h;go_enter Tryz.func160,Tryz.ntmps160;go_wp2_with fail;refine (dI _ false _ (by omega) (by simp [upR]; omega)).mono ?_;rintro e w9 ⟨rfl,rfl⟩;go_wp2_with fail;go_ret;exact ⟨aK (by simp; try omega),rfl⟩
  · have h1:192≤(r:Int):=by omega
    have h2:(r:Int)≤383:=by omega
    have h8:((r:Int) == 45)=false:=by simp; omega
    have h9:((r:Int) == 46)=false:=by simp; omega
    clear h;go_enter Tryz.func160,Tryz.ntmps160;go_wp2_with fail;refine (dI _ false _ (by omega) (by simp [upR]; omega)).mono ?_;rintro e w9 ⟨rfl,rfl⟩;go_wp2_with fail;go_ret;exact ⟨aK (by simp; try omega),rfl⟩
  · have h1:383 < (r:Int):=by omega
    have h8:((r:Int) == 45)=false:=by simp; omega
    have h9:((r:Int) == 46)=false:=by simp; omega
    clear h;go_enter Tryz.func160,Tryz.ntmps160;go_wp2_with fail;refine (dI _ false _ (by omega) (by simp [upR]; omega)).mono ?_;rintro e w9 ⟨rfl,rfl⟩;go_wp2_with fail;go_ret;exact ⟨aK (by simp; try omega),rfl⟩
def rgo:List Nat→Nat→Nat→Option (Nat × Nat)
 | [],c,last=>some (c,last)
 | r :: l,c,last=>if okR r=false∨(c=0∧kR r=false)∨(r=46∧last=46) then none else rgo l (c + 1) r
def nV:Option (Nat × Nat)→Bool
 | none=>false
 | some (c,last)=>decide (c≤16) && kR last
def aY (s:ByteArray):Bool:=decide (1≤s.size∧s.size≤32) && nV (rgo (RS s 0) 0 0)
theorem tU (s:ByteArray) (h1:1≤s.size) (h2:s.size≤32):aY s=nV (rgo (RS s 0) 0 0):=by
 unfold aY; simp [h1,h2]
theorem CI (s:ByteArray) (w:World) (h:s.size=0) :
  Calls Tryz.prog 131 #[.string s] w fun e w' => e=.returned (.bool false)∧Below w.heap.size w w' := by
 have he:s.toList=[]:=EO s h;have h2:s.toList.isEmpty=true:=by rw [he]; rfl
 clear h;go_enter Tryz.func131,Tryz.ntmps131;go_wp2_with fail;go_ret;exact ⟨rfl,Br⟩
theorem CJ (s:ByteArray) (w:World) (h:32 < s.size) (hs:s.size≤140737488351232) :
  Calls Tryz.prog 131 #[.string s] w fun e w' => e=.returned (.bool false)∧Below w.heap.size w w' := by
 have he:s.toList.isEmpty=false:=iL s (by omega);have hl:(32:Int) < (s.size:Int):=by omega
 clear h;go_enter Tryz.func131,Tryz.ntmps131;go_wp2_with fail;go_ret;exact ⟨rfl,Br⟩
theorem CG (s:ByteArray) (v:Bool) (w:World) (h1:1≤s.size) (h2:s.size≤32) (hv:nV (rgo (RS s 0) 0 0)=v) :
  Calls Tryz.prog 131 #[.string s] w fun e w' => e=.returned (.bool v)∧Below w.heap.size w w' := by
 have he:s.toList.isEmpty=false:=iL s (by omega);have hl:¬ (32:Int) < (s.size:Int):=by omega
 have HV:=Hd hv;clear hv;go_enter Tryz.func131,Tryz.ntmps131;go_wp2_with fail
 go_loopw [3,4,16] (fun c t _ wr=>∃ (k n r:Nat),k≤s.size∧c=.int .i64 (n:Int)∧t=.int .i32 (r:Int)∧n≤k∧r≤1114111∧Hid (nV (rgo (RS s k) n r)=v)∧wr.heap[w.heap.size]?=some (.stringIter s k)∧Below w.heap.size w wr) (fun _ _ _ wr=>s.size - wr.iterPos w.heap.size)
 case atStart=>exact ⟨0,0,0,by omega,rfl,rfl,by omega,by omega,HV,World.iter_heap _ _ _,Br.alloc (Nat.le_refl _) _⟩
 case round =>
  obtain ⟨k,n,r,hk,rfl,rfl,hn,hr,hg,hit,hbw⟩:=hrel;have IT:=Hd hit
  by_cases hlt:k < s.size
  ·have hnext:=fun ty=>uE wr w.heap.size s k ty IT.out hlt
   have hit2:=Hd (Lib.iterAt_heap wr w.heap.size s k (k + sW s k) IT.out);have hbw2:Below w.heap.size w (wr.iterAt w.heap.size s (k + sW s k)):=Lib.below_iterAt hbw (Nat.le_refl _) s _;have hW:=ZS s k hlt;have hW1:=QI s k;have IP:=Hd (iterPos_of IT.out);have IQ:=Hd (iterPos_of hit2.out);have hst:=JL s k hlt;have hx:=ZT s k;generalize sR s k=x at *;have hg2:=hg.out;rw [hst,rgo] at hg2;clear hit hst hg
   by_cases hbad:okR x=false
   ·rw [if_pos (.inl hbad)] at hg2
    have HG:=Hd hg2;have HB:=Hd hbad;clear hg2 hbad;go_wp2_with fail;refine (gL _ false _ hx HB.out).mono ?_;rintro e w9 ⟨rfl,rfl⟩;go_wp2_with fail;go_ret;exact ⟨aK HG.out,hbw2⟩
   ·have hok:okR x=true:=by simpa using hbad
    have HO:=Hd hok;clear hbad
    by_cases h0:n=0
    ·subst h0
     by_cases hed:kR x=false
     ·rw [if_pos (.inr (.inl ⟨rfl,hed⟩))] at hg2
      have HG:=Hd hg2;have HE:=Hd hed;clear hg2 hed hok;go_wp2_with fail;refine (gL _ true _ hx HO.out).mono ?_;rintro e w9 ⟨rfl,rfl⟩;go_wp2_with fail;refine (vT _ false _ hx HE.out).mono ?_;rintro e w9 ⟨rfl,rfl⟩;go_wp2_with fail;go_ret;exact ⟨aK HG.out,hbw2⟩
     ·have hed2:kR x=true:=by simpa using hed
      have hx2:x≠46:=by intro e; subst e; simp [kR] at hed2
      rw [if_neg (by rintro (h | ⟨_,h⟩ | ⟨h,_⟩); rw [hok] at h; cases h; exact hed h; exact hx2 h)] at hg2;have HG:=Hd hg2;have HE:=Hd hed2;have hq:((x:Int) == 46)=false:=by simp; omega
      clear hg2 hed hed2 hok hx2;go_wp2_with fail;refine (gL _ true _ hx HO.out).mono ?_;rintro e w9 ⟨rfl,rfl⟩;go_wp2_with fail;refine (vT _ true _ hx HE.out).mono ?_;rintro e w9 ⟨rfl,rfl⟩;go_wp2_with fail;go_roundw
      case rel=>exact ⟨k + sW s k,1,x,hW,by go_num,rfl,by omega,hx,HG,hit2.out,hbw2⟩
      case measure=>rw [IP.out,IQ.out]; omega
    ·have hn0:((n:Int) == 0)=false:=by simp; omega
     have hnp:0 < (n:Int):=by omega
     by_cases hx2:x=46
     ·subst hx2
      by_cases hr2:r=46
      ·subst hr2
       rw [if_pos (.inr (.inr ⟨rfl,rfl⟩))] at hg2;have HG:=Hd hg2;clear hg2 hok;go_wp2_with fail;refine (gL 46 true _ (by omega) HO.out).mono ?_;rintro e w9 ⟨rfl,rfl⟩;go_wp2_with fail;go_ret;exact ⟨aK HG.out,hbw2⟩
      ·rw [if_neg (by rintro (h | ⟨h,_⟩ | ⟨_,h⟩); rw [hok] at h; cases h; exact h0 h; exact hr2 h)] at hg2
       have HG:=Hd hg2;have hq:((r:Int) == 46)=false:=by simp; omega
       clear hg2 hok hr2 h0;go_wp2_with fail;refine (gL 46 true _ (by omega) HO.out).mono ?_;rintro e w9 ⟨rfl,rfl⟩;go_wp2_with fail;go_roundw
       case rel=>exact ⟨k + sW s k,n + 1,46,hW,by go_num,rfl,by omega,by omega,HG,hit2.out,hbw2⟩
       case measure=>rw [IP.out,IQ.out]; omega
     ·rw [if_neg (by rintro (h | ⟨h,_⟩ | ⟨h,_⟩); rw [hok] at h; cases h; exact h0 h; exact hx2 h)] at hg2
      have HG:=Hd hg2;have hq:((x:Int) == 46)=false:=by simp; omega
      clear hg2 hok hx2 h0;go_wp2_with fail;refine (gL _ true _ hx HO.out).mono ?_;rintro e w9 ⟨rfl,rfl⟩;go_wp2_with fail;go_roundw
      case rel=>exact ⟨k + sW s k,n + 1,x,hW,by go_num,rfl,by omega,hx,HG,hit2.out,hbw2⟩
      case measure=>rw [IP.out,IQ.out]; omega
  ·have hend:=fun ty=>Lib.run_next_end_at (P:=Tryz.prog) wr w.heap.size s k ty IT.out (by omega)
   have hg2:=hg.out;rw [VE s k (by omega),rgo,nV] at hg2;clear hit hg
   by_cases hc:n≤16
   ·have hc' : (n:Int)≤16:=by omega
    have HG:Hid (kR r=v):=Hd (by simpa [hc] using hg2);clear hg2;go_wp2_with fail;refine (vT _ v _ hr HG.out).mono ?_;rintro e w9 ⟨rfl,rfl⟩;go_wp2_with fail;go_ret;exact ⟨rfl,hbw⟩
   ·have hc' : ¬ (n:Int)≤16:=by omega
    have HG:Hid (false=v):=Hd (by simpa [hc] using hg2);clear hg2;go_wp2_with fail;go_ret;exact ⟨aK HG.out,hbw⟩
theorem tT (s:ByteArray) (w:World) (hs:s.size≤140737488351232) :
  Calls Tryz.prog 131 #[.string s] w fun e w' => e=.returned (.bool (aY s))∧Below w.heap.size w w' := by
 by_cases h1:1≤s.size
 ·by_cases h2:s.size≤32
  ·exact CG s _ w h1 h2 (tU s h1 h2).symm
  ·have e:aY s=false:=by unfold aY; simp; omega
   rw [e]; exact CJ s w (by omega) hs
 ·have e:aY s=false:=by unfold aY; simp; omega
  rw [e]; exact CI s w (by omega)
def dH (r:Nat):Nat:=if 65≤r∧r≤90 then r + 32 else r
def jL (c:UInt8):UInt8:=UInt8.ofNat (dH c.toNat)
theorem XV (r:Nat) (h:upR r=true):dH r=r + 32:=by unfold upR at h; simp at h; unfold dH; rw [if_pos h]
theorem XX (r:Nat) (h:upR r=false):dH r=r:=by unfold upR at h; simp at h; unfold dH; rw [if_neg (by omega)]
theorem gI (c:UInt8):(jL c).toNat=dH c.toNat:=by
 unfold jL;rw [UInt8.toNat_ofNat', Nat.mod_eq_of_lt];have:=c.toNat_lt;unfold dH; split <;> omega
theorem mZ (c:UInt8) (h:128≤c.toNat):jL c=c:=by
 apply UInt8.toNat_inj.1;rw [gI]; unfold dH; rw [if_neg (by omega)]
theorem MQ (l:List UInt8):∀ (a:List UInt8),(∀ r∈rs l,okR r=true)→((rs l).map fun (r:Nat)=>((dH r:Nat):Int)).foldl (fun b n=>b ++ Utf8.encode n) (Str a)=Str (a ++ l.map jL):=by
 induction l using tS with
 | h0=>intro a _; simp [QL]
 | h1 l hne ih =>
  intro a hok;have hs:=lS l hne;rw [hs] at hok ⊢;have h0:=hok (dR l) (by simp);have hr:∀ r∈rs (l.drop (dW l)),okR r=true:=fun r hr=>hok r (by simp [hr])
  have hb:=BV l hne;have e:l.map jL=(l.take (dW l)).map jL ++ (l.drop (dW l)).map jL:=by rw [← List.map_append,List.take_append_drop]
  have key:(Utf8.encode ((dH (dR l):Nat):Int))=Str ((l.take (dW l)).map jL):=by
   rcases hb with ⟨h1,h2,h3,h4⟩ | ⟨h1,h2⟩
   ·have hlow:dH (dR l) < 128:=by unfold dH; split <;> omega
    rw [vS _ hlow,h2,h3]
    congr 1
    simp only [List.map_cons,List.map_nil];unfold jL;rw [UInt8.toNat_ofNat', Nat.mod_eq_of_lt (by omega)]
   ·have hx:dR l < 2048:=by unfold okR at h0; simp at h0; omega
    have hlow:dH (dR l)=dR l:=by unfold dH; rw [if_neg (by omega)]
    rw [hlow];apply aF;rw [KD l hne h1 hx,aM]
    symm
    calc (l.take (dW l)).map jL=(l.take (dW l)).map id:=List.map_congr_left (fun c hc=>mZ c (h2 c hc))
     _=l.take (dW l):=by simp
  rw [List.map_cons,List.foldl_cons,key,nH,aM,ih _ hr,e,List.append_assoc]
def cE (s:ByteArray):ByteArray:=if aY s=true then Str (s.data.toList.map jL) else ⟨#[]⟩
theorem QO (L:List Nat) (c t:Nat) (h:nV (rgo L c t)=true):∀ r∈L,okR r=true:=by
 induction L generalizing c t with
 | nil=>simp
 | cons x L ih =>
  rw [rgo] at h
  split at h
  ·simp [nV] at h
  ·rename_i hn
   intro r hr
   rcases List.mem_cons.1 hr with rfl | hr
   ·cases ho:okR r with
    | true=>rfl
    | false=>exact absurd (.inl ho) hn
   ·exact ih _ _ h r hr
theorem lU (s:ByteArray) (h:aY s=true):s.size≤32∧1≤s.size∧nV (rgo (RS s 0) 0 0)=true:=by
 unfold aY at h;rw [Bool.and_eq_true,decide_eq_true_eq] at h;exact ⟨h.1.2,h.1.1,h.2⟩
theorem EG (s:ByteArray) (h:aY s=true):runesBytes ((RS s 0).map fun (r:Nat)=>((dH r:Nat):Int))=Str (s.data.toList.map jL):=by
 have:=MQ s.data.toList [] (QO _ _ _ (lU s h).2.2);rw [List.nil_append] at this;exact this
theorem zM:(Tryz.prog.info? 21).map (fun i=>(i.zero,i.size,i.bytes))=some (some (.int .i32 0),1,4):=by kernel_rfl
theorem aAY (w:World):(Instr.makeSlice 171 (.int .i64 0) (.int .i64 16)).run Tryz.prog w=.ok (.slice (some ⟨w.heap.size,0,none⟩) 0 16) (w.alloc (.cells (madeCells (Value.int .i32 0).cells 16) 21)):=by
 obtain ⟨i0,hi,hz0,hz1,hz2⟩:=info_parts zM;have:=run_make (P:=Tryz.prog) w 171 21 i0 (.int .i32 0) Tryz.underlying171 hi hz0 .i64 .i64 0 16 (by omega) (by omega) (by rw [hz2]; omega) (by omega);rw [this,hz1]
 rfl
theorem YN (s:ByteArray) (w:World) (hs:s.size≤140737488351232) (h:aY s=false) :
  Calls Tryz.prog 64 #[.string s] w fun e w' => e=.returned (.tuple #[.string ⟨#[]⟩,.bool false])∧Below w.heap.size w w' := by
 have H:=Hd h;clear h;go_enter Tryz.func64,Tryz.ntmps64;go_wp2_with fail;refine (tT _ _ hs).mono ?_;rw [H.out];rintro e w1 ⟨rfl,bb⟩;go_wp2_with fail;go_ret2;exact ⟨rfl,bb⟩
theorem TR (s:ByteArray) (w:World) (h:aY s=true) :
  Calls Tryz.prog 64 #[.string s] w fun e w' => e=.returned (.tuple #[.string (Str (s.data.toList.map jL)),.bool true])∧Below w.heap.size w w' := by
 have hs:=(lU s h).1;have FB:=Hd (EG s h);generalize Str (s.data.toList.map jL)=out at *;have H:=Hd h;clear h;obtain ⟨i0,hi,hz0,hz1,hz2⟩:=info_parts zM;have hmk:=aAY;go_enter Tryz.func64,Tryz.ntmps64;go_wp2_with fail;refine (tT _ _ (by omega)).mono ?_;rw [H.out];rintro e w1 ⟨rfl,bb⟩;have hM:=Hd (World.ownsRow_made (base:=w1.heap.size) (size:=1) (e:=21) w1 (madeCells (Value.int .i32 0).cells 16) 16 (Nat.le_refl _) (by unfold maxLen; omega) (by rw [size_madeCells]));go_wp2_with fail
 go_loopw [4,6,13] (fun v _ _ wr=>∃ (k:Nat) (L:List Nat),k≤s.size∧L.length≤k∧Hid (L ++ (RS s k).map dH=(RS s 0).map dH)∧wr.ownsRow w1.heap.size 21 1 v L.length (L.map fun n=>.int .i32 ((n:Nat):Int))∧wr.heap[w1.heap.size + 1]?=some (.stringIter s k)∧Below w1.heap.size w1 wr) (fun _ _ _ wr=>s.size - wr.iterPos (w1.heap.size + 1))
 case atStart =>
  have h1:=World.iter_heap (w1.alloc (.cells (madeCells #[.int .i32 0] 16) 21)) s 0;rw [show (w1.alloc (.cells (madeCells #[.int .i32 0] 16) 21)).heap.size=w1.heap.size + 1 by simp] at h1;exact ⟨0,[],by omega,Nat.le_refl _,Hd rfl,hM.out.alloc _,h1,(Br.alloc (Nat.le_refl _) _).alloc (by simp) _⟩
 case round =>
  obtain ⟨k,L,hk,hL,hA,hown,hit,hbw⟩:=hrel;have IT:=Hd hit;have hsz:w1.heap.size + 1 < wr.heap.size:=(zl hit);clear hit
  by_cases hlt:k < s.size
  ·have hnext:=fun ty=>uE wr (w1.heap.size + 1) s k ty IT.out hlt
   have it2:=Hd (Lib.iterAt_heap wr (w1.heap.size + 1) s k (k + sW s k) IT.out);have hown2:=DB hown IT.out (k + sW s k);have hbw2:Below w1.heap.size w1 (wr.iterAt (w1.heap.size + 1) s (k + sW s k)):=Lib.below_iterAt hbw (by omega) s _;have hsz2:w1.heap.size + 1 < (wr.iterAt (w1.heap.size + 1) s (k + sW s k)).heap.size:=by rw [Lib.iterAt_size]; exact hsz
   have IP:=Hd (iterPos_of IT.out);have hW:=ZS s k hlt;have hW1:=QI s k;have hst:=JL s k hlt;have hx:=ZT s k;generalize sR s k=x at *;have NX:Hid (L ++ [dH x] ++ (RS s (k + sW s k)).map dH=(RS s 0).map dH):=Hd (by have:=hA.out; rw [hst,List.map_cons] at this; rw [← this]; simp);generalize sW s k=y at *;clear hown hbw hst;have OWN:=Hd hown2;clear hown2;generalize hg:wr.iterAt (w1.heap.size + 1) s (k + y)=wi at *;have G:=Hd hg;clear hg
   have fin:∀ (v' : Value) (w' : World),w'.ownsRow w1.heap.size 21 1 v' (L.length + 1) ((L.map fun n=>Value.int .i32 ((n:Nat):Int)) ++ [.int .i32 ((dH x:Nat):Int)])→Hid (w'.ownsRow w1.heap.size 21 1 v' (L ++ [dH x]).length ((L ++ [dH x]).map fun n=>.int .i32 ((n:Nat):Int))):=fun v' w' h=>Hd (by simpa using h)
   have FIN:=Hd fin;clear fin
   rcases Bool.eq_false_or_eq_true (upR x) with hu | hu
   ·have hlow:=XV x hu
    have hxle:x≤90:=by unfold upR at hu; simp at hu; omega
    rw [hlow] at NX FIN;have HU:=Hd hu;clear hu hlow;go_wp2_with fail;refine (dI _ true _ hx HU.out).mono ?_;rintro e w9 ⟨rfl,rfl⟩
    go_wp2_with (at_builtin; refine wpList_append_own _ rfl _ _ 171 rfl w1.heap.size 21 i0 (.int .i32 0) 1 4 Tryz.underlying171 hi hz0 hz1 hz2 rfl (by decide) _ _ _ rfl (OWN.out.alloc _) ⟨wi.heap.size,0,none⟩ 1 1 [.int .i32 ((x:Int) + 32)] rfl rfl ?c1 ?c2 ?c3 ?c4 ?c5 ?_)
    case c1 =>
     intro j u hj
     match j,hj with
     | 0,hj=>simp at hj; subst hj; simp [Addr.add]
    case c2=>intro u hu; simp at hu; subst hu; rfl
    case c3=>unfold maxLen; omega
    case c4=>omega
    case c5=>simp; omega
    ·intro v' w' hown' hgrow _
     have R:=FIN.out v' w' (by simpa using hown');have hb2:Below w1.heap.size w1 w' := (hbw2.alloc (by omega) _).grown hgrow (by simp; omega) (fun g hg=>(OWN.out.lt g hg).1)
     have it3:Hid (w'.heap[w1.heap.size + 1]?=some (.stringIter s (k + y))) :=
      uJ (OWN.out.alloc _) hgrow ((Below.heap_alloc wi _ _ hsz2).trans it2.out)
     clear hown' hgrow hbw2;go_wp2_with fail;go_roundw
     case rel=>exact ⟨k + y,L ++ [x + 32],hW,by simp; omega,NX,R.out,it3.out,hb2⟩
     case measure=>rw [IP.out,iterPos_of it3.out]; omega
   ·have hlow:=XX x hu
    rw [hlow] at NX FIN;have HU:=Hd hu;clear hu hlow;go_wp2_with fail;refine (dI _ false _ hx HU.out).mono ?_;rintro e w9 ⟨rfl,rfl⟩
    go_wp2_with (at_builtin; refine wpList_append_own _ rfl _ _ 171 rfl w1.heap.size 21 i0 (.int .i32 0) 1 4 Tryz.underlying171 hi hz0 hz1 hz2 rfl (by decide) _ _ _ rfl (OWN.out.alloc _) ⟨wi.heap.size,0,none⟩ 1 1 [.int .i32 (x:Int)] rfl rfl ?c1 ?c2 ?c3 ?c4 ?c5 ?_)
    case c1 =>
     intro j u hj
     match j,hj with
     | 0,hj=>simp at hj; subst hj; simp [Addr.add]
    case c2=>intro u hu; simp at hu; subst hu; rfl
    case c3=>unfold maxLen; omega
    case c4=>omega
    case c5=>simp; omega
    ·intro v' w' hown' hgrow _
     have R:=FIN.out v' w' (by simpa using hown');have hb2:Below w1.heap.size w1 w' := (hbw2.alloc (by omega) _).grown hgrow (by simp; omega) (fun g hg=>(OWN.out.lt g hg).1)
     have it3:Hid (w'.heap[w1.heap.size + 1]?=some (.stringIter s (k + y))) :=
      uJ (OWN.out.alloc _) hgrow ((Below.heap_alloc wi _ _ hsz2).trans it2.out)
     clear hown' hgrow hbw2;go_wp2_with fail;go_roundw
     case rel=>exact ⟨k + y,L ++ [x],hW,by simp; omega,NX,R.out,it3.out,hb2⟩
     case measure=>rw [IP.out,iterPos_of it3.out]; omega
  ·have hconv:=sP (L.map fun (n:Nat)=>(n:Int)) (w:=wr) (base:=w1.heap.size) (n:=L.length) (by
    rw [List.map_map]; exact hown)
   have e:L.map (fun (n:Nat)=>(n:Int))=(RS s 0).map fun (r:Nat)=>((dH r:Nat):Int):=by
    have:=hA.out;rw [VE s k (by omega)] at this;simp only [List.map_nil,List.append_nil] at this;rw [this,List.map_map]
    rfl
   rw [e,FB.out] at hconv;have hend:=fun ty=>Lib.run_next_end_at (P:=Tryz.prog) wr (w1.heap.size + 1) s k ty IT.out (by omega)
   have OW:=Hd hown;clear hown e;go_wp2_with fail;go_ret2;exact ⟨rfl,chain bb hbw⟩
theorem eJ (s:ByteArray) (w:World) (hs:s.size≤140737488351232) :
  Calls Tryz.prog 64 #[.string s] w fun e w' => e=.returned (.tuple #[.string (cE s),.bool (aY s)])∧Below w.heap.size w w' := by
 cases h:aY s
 ·have e:cE s=⟨#[]⟩:=by unfold cE; rw [h]; rfl
  rw [e]; exact YN s w hs h
 ·have e:cE s=Str (s.data.toList.map jL):=by unfold cE; rw [h]; rfl
  rw [e]; exact TR s w h
theorem AC (n b0 b1 b2 b3:Nat) (h0:b0 / 32=6) (hn:1 < n) (h1:b1 / 64=2) (hv:128≤b0 % 32 * 64 + b1 % 64):Lib.decodeN n b0 b1 b2 b3=(b0 % 32 * 64 + b1 % 64,2):=by
 unfold Lib.decodeN;rw [if_neg (by omega),if_pos ⟨h0,hn,h1⟩,if_pos hv]
def OV (a b:UInt8):Nat:=a.toNat % 32 * 64 + b.toNat % 64
theorem QK (c:UInt8) (t:List UInt8) (h:c.toNat < 128):rs (c :: t)=c.toNat :: rs t:=by
 have hd:Lib.decodeL (c :: t)=(c.toNat,1):=by
  rw [Lib.decodeL_N];exact Lib.decodeN_ascii _ _ _ _ _ h
 rw [lS _ (by simp)];unfold dR dW;rw [hd]
 rfl
theorem QJ (a b:UInt8) (t:List UInt8) (h0:a.toNat / 32=6) (h1:b.toNat / 64=2) (hv:128≤OV a b):rs (a :: b :: t)=OV a b :: rs t:=by
 have hd:Lib.decodeL (a :: b :: t)=(OV a b,2):=by
  rw [Lib.decodeL_N];exact AC _ _ _ _ _ h0 (by simp) h1 hv
 rw [lS _ (by simp)];unfold dR dW;rw [hd]
 rfl
theorem DZ (l:List UInt8) (hne:l≠[]) (h:dR l < 2048):(∃ c t,l=c :: t∧c.toNat < 128∧dR l=c.toNat∧dW l=1)∨(∃ a b t,l=a :: b :: t∧a.toNat / 32=6∧b.toNat / 64=2∧128≤OV a b∧dR l=OV a b∧dW l=2):=by
 have hl:0 < l.length:=List.length_pos_iff.2 hne;unfold dR dW at *;rw [Lib.decodeL_N] at *
 rcases Lib.decodeN_shape l.length (l.getD 0 0).toNat (l.getD 1 0).toNat (l.getD 2 0).toNat (l.getD 3 0).toNat with ⟨c,e⟩ | ⟨c1,c2,c3,cv,e⟩ | ⟨c1,c2,c3,c4,cv,cs,e⟩ | ⟨c1,c2,c3,c4,c5,cv,cw,e⟩ | e
 ·left
  match l,hl with
  | x :: t,_=>exact ⟨x,t,rfl,c,by rw [e]; rfl,by rw [e]⟩
 ·right
  match l,c2 with
  | x :: y :: t,_=>exact ⟨x,y,t,rfl,c1,c3,cv,by rw [e]; rfl,by rw [e]⟩
 ·rw [e] at h; simp only at h; omega
 ·rw [e] at h; simp only at h; omega
 ·rw [e] at h; simp only at h; omega
theorem SJ (r:Nat) (h:okR r=true):r < 2048:=by unfold okR at h; simp at h; omega
theorem aAO (l:List UInt8):(∀ r∈rs l,okR r=true)→rs (l.map jL)=(rs l).map dH:=by
 induction l using tS with
 | h0=>intro _; rfl
 | h1 l hne ih =>
  intro hok;have hs:=lS l hne;rw [hs] at hok;have h0:=SJ _ (hok (dR l) (by simp));have hr:∀ r∈rs (l.drop (dW l)),okR r=true:=fun r hr=>hok r (by simp [hr])
  have ih2:=ih hr
  rcases DZ l hne h0 with ⟨c,t,rfl,hc,e1,e2⟩ | ⟨a,b,t,rfl,ha,hb,hv,e1,e2⟩
  ·rw [e2] at ih2
   simp only [List.drop_succ_cons,List.drop_zero] at ih2;rw [List.map_cons,QK _ _ (by rw [gI]; unfold dH; split <;> omega),QK _ _ hc,ih2,gI]
   rfl
  ·rw [e2] at ih2
   simp only [List.drop_succ_cons,List.drop_zero] at ih2;have la:jL a=a:=mZ a (by omega);have lb:jL b=b:=mZ b (by omega);rw [List.map_cons,List.map_cons,la,lb,QJ _ _ _ ha hb hv,QJ _ _ _ ha hb hv,ih2,List.map_cons]
   congr 1
   unfold dH; rw [if_neg (by omega)]
theorem aAU (r:Nat):okR (dH r)=okR r:=by
 unfold okR dH;rw [decide_eq_decide]
 split <;> omega
theorem zY (r:Nat):kR (dH r)=kR r:=by
 unfold kR dH;rw [decide_eq_decide]
 split <;> omega
theorem LX (r:Nat):dH r=46 ↔ r=46:=by unfold dH; split <;> omega
theorem XU (r:Nat):dH (dH r)=dH r:=by
 unfold dH
 split
 ·rw [if_neg (by omega)]
 ·rfl
theorem WK (L:List Nat) (c t:Nat):nV (rgo (L.map dH) c (dH t))=nV (rgo L c t):=by
 induction L generalizing c t with
 | nil=>simp only [List.map_nil,rgo,nV,zY]
 | cons r L ih =>
  simp only [List.map_cons,rgo,aAU,zY,LX]
  split
  ·rfl
  ·exact ih (c + 1) r
theorem WL (L:List Nat) (c t:Nat) (h:nV (rgo L c t)=true):c + L.length≤16:=by
 induction L generalizing c t with
 | nil=>simp [rgo,nV] at h; simp; omega
 | cons r L ih =>
  rw [rgo] at h
  split at h
  ·simp [nV] at h
  ·have:=ih _ _ h
   simp; omega
theorem aBR (l:List UInt8):RS (Str l) 0=rs l:=by unfold RS; rw [aM,List.drop_zero]
theorem JK (s:ByteArray):RS s 0=rs s.data.toList:=by unfold RS; rw [List.drop_zero]
theorem NM (s:ByteArray) (h:aY s=true):cE s=Str (s.data.toList.map jL):=by unfold cE; rw [h]; rfl
theorem ZK (l:List UInt8) (j:Nat) (h:j < (Str l).size):(Str l)[j]'h=l[j]'(by rwa [bV] at h):=by simp [Str,ByteArray.getElem_eq_getElem_data]
structure aBU (s f:ByteArray):Prop where
 right:aY f=true
 again:cE f=f
 size:f.size=s.size
 runes:(RS f 0).length=(RS s 0).length
 most:(RS f 0).length≤16
 least:1≤(RS f 0).length
 small:∀ j (h:j < f.size),(f[j]'h).toNat < 65∨90 < (f[j]'h).toNat
theorem EF (s:ByteArray) (h:aY s=true):aBU s (cE s):=by
 have ⟨h1,h2,h3⟩:=lU s h;have hok:=QO _ _ _ h3;rw [JK] at hok h3;have e:cE s=Str (s.data.toList.map jL):=by unfold cE; rw [h]; rfl
 have er:RS (cE s) 0=(rs s.data.toList).map dH:=by rw [e,aBR,aAO _ hok]
 have es:(cE s).size=s.size:=by rw [e,bV,List.length_map,bT]
 have hr:aY (cE s)=true:=by
  rw [tU _ (by omega) (by omega),er];have:=WK (rs s.data.toList) 0 0;rw [show dH 0=0 from rfl] at this;rw [this]; exact h3
 refine ⟨hr,?_,es,by rw [er,List.length_map,JK],?_,?_,?_⟩
 ·rw [NM _ hr,e,aM,List.map_map]
  congr 1
  apply List.map_congr_left;intro c _;apply UInt8.toNat_inj.1;simp only [Function.comp];rw [gI,gI,XU]
 ·rw [er,List.length_map]
  have:=WL _ _ _ h3;omega
 ·rw [er,List.length_map]
  have:s.data.toList≠[]:=by
   intro h0;have:=bT s;rw [h0] at this;simp at this; omega
  rw [lS _ this];simp
 ·rw [e]
  intro j hj;have hj' : j < s.data.toList.length:=by rw [bV,List.length_map] at hj; exact hj
  rw [ZK,List.getElem_map,gI];unfold dH
  split <;> omega
def inB (lo hi n:Int):Bool:=decide (lo≤n) && decide (n≤hi)
theorem dY {lo hi n:Int}:inB lo hi n=true ↔ lo≤n∧n≤hi:=by simp [inB]
theorem cB (n lo hi:Int) (v:Bool) (w:World) (hv:inB lo hi n=v) :
  Calls Tryz.prog 284 #[.int .i64 n,.int .i64 lo,.int .i64 hi] w fun e w' => e=.returned (.bool v)∧w=w' := by
 have H:=Hd hv;clear hv
 by_cases h:lo≤n
 all_goals
  go_enter Tryz.func284,Tryz.ntmps284
  go_wp2
  go_ret;refine ⟨?_,rfl⟩;rw [← H.out];exact aK (by rw [Bool.eq_iff_iff]; simp [inB]; omega)
theorem cT (n:Int) (v:Bool) (w:World) (hv:inB 1 16777215 n=v) :
  Calls Tryz.prog 286 #[.int .i64 n] w fun e w' => e=.returned (.bool v)∧w=w' := by
 have H:=Hd hv;clear hv;go_enter Tryz.func286,Tryz.ntmps286;go_wp2_with fail;refine (cB _ _ _ v _ H.out).mono ?_;rintro e w1 ⟨rfl,rfl⟩;go_wp2_with fail;go_ret;exact ⟨rfl,rfl⟩
theorem rS (n size:Int) (w:World) (h0:0≤n) (h1:n≤9223372036854775807) :
  Calls Tryz.prog 190 #[.int .i64 n,.int .i64 size] w fun e w' => e=.returned (.string (Str (aJ n size)))∧Below w.heap.size w w' := by
 go_enter Tryz.func190,Tryz.ntmps190;go_wp2_with fail;refine (lX _ _ _ (by omega)).mono ?_;rintro e w1 ⟨rfl,b1⟩;go_wp2_with fail;go_ret;exact ⟨rfl,b1⟩
def capZ:Value:=.agg #[.int .i64 0,.int .i64 0,.int .i64 0,.int .i64 0,.int .i64 0,.int .i64 0,.int .i64 0,.int .i64 0,.int .i64 0,.bool false]
theorem IL {S:World→Prop} {w1 a b:World} (C:∀ w', Below w1.heap.size w1 w'→S w') (h:Below w1.heap.size w1 a∧S a) (k:Below a.heap.size a b):Below w1.heap.size w1 b∧S b :=
 ⟨chain h.1 k,C _ (chain h.1 k)⟩
theorem uA (n size:Int) (h:size≤8):(Str (aJ n size)).size≤8:=by
 rw [bV]; unfold aJ; split
 ·rw [M.be_length]; omega
 ·simp
def okE (b:Bool) (n:Int):Int:=if b=true then 0 else n
def FB (w:World) (g:Nat) (s:ByteArray):Prop:=w.heap[g]?=some (.cells #[.string s] 166)
theorem FB.lt {w:World} {g:Nat} {s:ByteArray} (h:FB w g s):g < w.heap.size:=(zl h)
theorem FB.below {w w' : World} {g:Nat} {s:ByteArray} (h:FB w g s) (b:Below w.heap.size w w'):FB w' g s:=by
 have:=h.lt;unfold FB at h ⊢;rw [b.block g this]; exact h
theorem FB.set {w:World} {g:Nat} {s:ByteArray} (h:FB w g s) (t:ByteArray):FB (w.setCell ⟨g,0,none⟩ (.string t)) g t:=by
 have:=Go.Joins.block_setCell (i:=0) h (.string t)
 simpa [FB] using this
theorem ON (g:Nat) (s:ByteArray) (size:Int) (w:World) (h:FB w g s) :
  Calls Tryz.prog 128 #[.pointer (some ⟨g,0,none⟩),.int .i64 size] w fun e w' => e=.returned (.int .u64 (aG s size))∧FB w' g (aA s size)∧Below g w w' := by
 have c0:=cl h 0 rfl;have H:=Hd h;clear h;go_enter Tryz.func128,Tryz.ntmps128;go_wp2_with fail;refine (nN _ _ _).mono ?_;rintro e w1 ⟨rfl,b1⟩;have H1:=Hd (H.out.below b1);have c1:=cl H1.out 0 rfl;have f1:w1.frozen? ⟨g,0,none⟩=false:=ufb H1.out 0;have hb:=b1.mono (Nat.le_of_lt H.out.lt);clear b1;go_wp2_with fail;go_ret;exact ⟨rfl,H1.out.set _,hb.setCell (Nat.le_refl _) _⟩
theorem xK (s:ByteArray) (size:Int) (h:size≤4):0≤aG s size∧aG s size≤4294967295:=by
 unfold aG
 split
 ·rename_i hk
  have hl:=M.val_lt (s.data.toList.take size.toNat);have:(s.data.toList.take size.toNat).length≤4:=by rw [List.length_take]; omega
  have hp:256 ^ (s.data.toList.take size.toNat).length≤256 ^ 4:=Nat.pow_le_pow_right (by decide) this;have:M.val (s.data.toList.take size.toNat) < 256 ^ 4:=Nat.lt_of_lt_of_le hl hp;omega
 ·omega
theorem bZ (g:Nat) (s:ByteArray) (size:Int) (w:World) (h:FB w g s) (hz:size≤4) :
  Calls Tryz.prog 127 #[.pointer (some ⟨g,0,none⟩),.int .i64 size] w fun e w' => e=.returned (.int .i64 (aG s size))∧FB w' g (aA s size)∧Below g w w' := by
 have hr:=xK s size hz;have H:=Hd (ON g s size w h);clear h;generalize aG s size=n at *;go_enter Tryz.func127,Tryz.ntmps127;go_wp2_with fail;refine H.out.mono ?_;rintro e w1 ⟨rfl,f1,b1⟩;go_wp2_with fail;go_ret;exact ⟨rfl,f1,b1⟩
theorem aP {P:Program} {fn:Func} {p u:Tmp} {ty:TypeId} (h:fn.results=#[.cell p ty,.tmp u]) (tmps:Array Value) (w:World) (g:Nat) (t:TypeId) (cs:Array Value) (fr:Nat × Nat) (d:TypeDesc) (v:Value)
  (hp:tmps.getD p undef=.pointer (some ⟨g,0,none⟩)) (hv:tmps.getD u undef=v) (hg:w.heap[g]?=some (.cells cs t fr))
  (hu:P.underlying ty=some d) (hd:(match d with | .struct _ | .array _ _=>true | _=>false)=true) (hi:(P.info? ty).map (·.size)=some cs.size) :
  (results fn tmps).run P w=.ok (.tuple #[.agg cs,v]) w:=by
 rw [results_cell_tmp h,hp,hv];simp [asAddr,run_loadVar_row w g t ty cs fr d hg hu hd hi,Result.andThen]
def VY (w:World) (g:Nat) (i:Nat):List Value→World
 | []=>w
 | v :: vs=>VY (w.setCell ⟨g,i,none⟩ v) g (i + 1) vs
theorem jH (g:Nat) (t:TypeId) (fr:Nat × Nat):∀ (vs:List Value) (w:World) (i:Nat) (cs:Array Value),w.heap[g]?=some (.cells cs t fr)→i + vs.length=cs.size →
  (VY w g i vs).heap[g]?=some (.cells (cs.toList.take i ++ vs).toArray t fr)
 | [],w,i,cs,h,hl=>by
  have:cs.toList.take i=cs.toList:=List.take_of_length_le (by simp at hl ⊢; omega);rw [this,List.append_nil]; exact h
 | v :: vs,w,i,cs,h,hl=>by
  have hi:i < cs.size:=by rw [List.length_cons] at hl; omega
  have:=jH g t fr vs (w.setCell ⟨g,i,none⟩ v) (i + 1) (cs.setIfInBounds i v) (Go.Joins.block_setCell h v) (by rw [Array.size_setIfInBounds]; rw [List.length_cons] at hl; omega);rw [VY,this]
  have e:(cs.setIfInBounds i v).toList.take (i + 1)=cs.toList.take i ++ [v]:=by
   rw [Array.toList_setIfInBounds,List.take_add_one,List.getElem?_set_self (by simpa using hi),List.take_set_of_le (Nat.le_refl _)]
   rfl
  rw [e,List.append_assoc]; rfl
theorem iK {B:Nat} {w0:World} (g:Nat) (h:B≤g):∀ (vs:List Value) (w:World) (i:Nat),Below B w0 w→Below B w0 (VY w g i vs)
 | [],w,i,b=>b
 | v :: vs,w,i,b=>iK g h vs _ _ (b.setCell h v)
end Go.Proofs.YtblbiihpfjjhhaaGreatDoor
