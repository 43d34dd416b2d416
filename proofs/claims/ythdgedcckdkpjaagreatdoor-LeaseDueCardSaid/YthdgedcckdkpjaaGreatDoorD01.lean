import Derived.Test.YthdgedcckdkpjaaGreatDoorRows
import Derived.Lib.SmallJoins
import Derived.WalkKit
import Derived.WalkSpells
import Derived.WalkLawsBesides
import Derived.OpenShut
import Derived.Lib.Hide
import Derived.Lib.Strings
import Derived.Deep.RegionWith
import Derived.Deep.QuietTactic
import Derived.BigQuiet
import Derived.Deep.RegionHeld3
import Derived.Lib.OthersKept
import Derived.Laws.Cover4
import Derived.Lib.MapLaws
import Derived.Deep.Light
import Derived.Outline
namespace Go.Proofs.YthdgedcckdkpjaaGreatDoor
namespace M
set_option maxRecDepth 20000
set_option maxHeartbeats 12800000
set_option linter.unusedVariables false
set_option linter.unusedSimpArgs false
instance:Coe Int Value:=⟨.int .i64⟩
instance:Coe Bool Value:=⟨.bool⟩
instance:Coe ByteArray Value:=⟨.string⟩
instance:Coe Nat Value:=⟨fun n=>.pointer (some ⟨n,0,none⟩)⟩
instance:CoeFun (Option Addr) (fun _=>Nat->Nat->Value):=⟨.slice⟩
instance:CoeFun Unit (fun _=>Nat->Array Value->World->(Ending->World->Prop)->Prop):=⟨fun _=>Calls Tryz.prog⟩
theorem _root_.Go.RowKit.Hid.o{p:Prop}(h:Go.RowKit.Hid p):p:=h
def be:Nat->Nat->List UInt8
 | 0,_=>[]
 | s+1,n=>be s (n / 256)++[UInt8.ofNat (n % 256)]
theorem be_length (s n:Nat):(be s n).length=s:=by
 induction s generalizing n with
 | zero=>rfl
 | succ s ih=>simp[be,ih]
theorem be_get (s n i:Nat)(h:i<s):(be s n)[i]?=some (UInt8.ofNat (n / 256 ^ (s-1-i) % 256)):=by
 induction s generalizing n with
 | zero=>omega
 | succ s ih=>
  rw[be]
  by_cases hi:i<s
  ·rw[List.getElem?_append_left (by rw[be_length];exact hi),ih (n / 256) hi,Nat.div_div_eq_div_mul]
   have e:s+1-1-i=(s-1-i)+1:=by omega
   rw[e,Nat.pow_succ,Nat.mul_comm 256]
  ·have e:i=s:=by omega
   subst e;rw[List.getElem?_append_right (by rw[be_length];exact Nat.le_refl _),be_length];simp
def val (l:List UInt8):Nat:=l.foldl (fun a b=>a*256+b.toNat) 0
theorem val_snoc (l:List UInt8)(b:UInt8):val (l++[b])=val l*256+b.toNat:=by simp[val,List.foldl_append]
theorem JM (l:List UInt8)(a:Nat):l.foldl (fun a b=>a*256+b.toNat) a=a*256 ^ l.length+val l:=by
 induction l generalizing a with
 | nil=>simp[val]
 | cons b l ih=>
  simp only[List.foldl_cons,List.length_cons,val];rw[ih,ih (0*256+b.toNat),Nat.pow_succ,Nat.add_mul,Nat.mul_assoc,Nat.mul_comm 256];simp;omega
theorem val_lt (l:List UInt8):val l<256 ^ l.length:=by
 induction l with
 | nil=>simp[val]
 | cons b l ih=>
  have e:val (b::l)=b.toNat*256 ^ l.length+val l:=by
   have:=JM l b.toNat;simp only[val,List.foldl_cons,Nat.zero_mul,Nat.zero_add] at this |-;exact this
  have hb:b.toNat<256:=b.toNat_lt;rw[e,List.length_cons,Nat.pow_succ];have h1:b.toNat*256 ^ l.length<=255*256 ^ l.length:=Nat.mul_le_mul_right _ (by omega);omega
theorem val_be (s n:Nat):val (be s n)=n % 256 ^ s:=by
 induction s generalizing n with
 | zero=>simp[be,val,Nat.mod_one]
 | succ s ih=>
  rw[be,val_snoc,ih,Nat.pow_succ,UInt8.toNat_ofNat',Nat.mod_mod_of_dvd _ (by decide)];rw[Nat.mul_comm (256 ^ s),Nat.mod_mul];omega
theorem aE1 (l:List UInt8):be l.length (val l)=l:=by
 suffices h:∀ s,∀ l:List UInt8,l.length=s->be s (val l)=l from h _ l rfl
 intro s
 induction s with
 | zero=>intro l h;rw[List.length_eq_zero_iff.1 h];rfl
 | succ s ih=>
  intro l h;have hne:l≠[]:=by intro e;subst e;simp at h
  have hl:=List.dropLast_concat_getLast hne;have hd:l.dropLast.length=s:=by simp[h]
  rw[be,<-hl,val_snoc];have hb:(l.getLast hne).toNat<256:=(l.getLast hne).toNat_lt;rw[show(val l.dropLast*256+(l.getLast hne).toNat) / 256=val l.dropLast by omega,show(val l.dropLast*256+(l.getLast hne).toNat) % 256=(l.getLast hne).toNat by omega,ih _ hd];simp
theorem be_eq (s:Nat)(l:List UInt8)(h:l.length=s):be s (val l)=l:=by subst h;exact aE1 l
end M
open Go.RowKit
set_option linter.unusedVariables false
set_option maxRecDepth 20000
set_option maxHeartbeats 12800000
set_option linter.unusedSimpArgs false
def IsInts (k:IntKind)(w:World)(a:Option Addr)(len cap:Nat)(zs:List Int):Prop:=
  (a=none/\len=0/\cap=0/\zs=[]) \/
  ∃ x:Addr,a=some x/\len<=cap/\cap<=maxLen/\zs.length=cap/\(∀ i,i<zs.length->w.cell? (x.add i)=some (.int k (zs.getD i 0)))/\∀ n∈zs,(Lit.int k n).wf=true
theorem aS {a b:Bool}(h:a=b):Ending.returned (.bool a)=Ending.returned (.bool b):=by rw[h]
theorem LP {k:IntKind}{a b:Int}(h:a=b):Ending.returned (.int k a)=Ending.returned (.int k b):=by rw[h]
theorem toList_data (s:ByteArray):s.toList=s.data.toList:=Lib.toList_data s
theorem aJ {a b:ByteArray}(h:a.data.toList=b.data.toList):a=b:=ByteArray.ext (Array.toList_inj.1 h)
theorem ZL {a b:ByteArray}:a.data.toList=b.data.toList ↔ a=b:=⟨aJ,fun h=>by rw[h]⟩
theorem CD {a b:ByteArray}:a.toList=b.toList ↔ a=b:=by rw[toList_data,toList_data,ZL]
theorem tX (a b:ByteArray):(a.toList==b.toList)=decide (a=b):=by
  rw[Bool.eq_iff_iff,beq_iff_eq,decide_eq_true_eq,CD]
def Str (l:List UInt8):ByteArray:=⟨l.toArray⟩
theorem cK (l:List UInt8):(Str l).size=l.length:=by simp[Str,ByteArray.size]
theorem aX (l:List UInt8):(Str l).data.toList=l:=by simp[Str]
theorem aE6 (s:ByteArray):Str s.data.toList=s:=by simp[Str]
theorem pA (l:List UInt8)(s:ByteArray):Str l++s=Str (l++s.data.toList):=by
  apply ByteArray.ext
  simp[Str]
theorem bZ (s:ByteArray):s.data.toList.length=s.size:=by simp
theorem aR (s:ByteArray)(i j:Nat):(s.extract i j).data.toList=(s.data.toList.drop i).take (j-i):=Lib.extract_data s i j
theorem bJ (s t:ByteArray):(s++t).data.toList=s.data.toList++t.data.toList:=by simp
theorem jG (s:ByteArray)(h:0<s.size):s.toList.isEmpty=false:=by
  rw[toList_data]
  have:=bZ s
  cases h':s.data.toList with
  | nil=>rw[h'] at this;simp at this;omega
  | cons a l=>rfl
theorem JT (s:ByteArray)(h:s.size=0):s.toList=[]:=by
  rw[toList_data]
  have:=bZ s
  cases h':s.data.toList with
  | nil=>rfl
  | cons a l=>rw[h'] at this;simp at this;omega
theorem chain {w a b:World}(h:Below w.heap.size w a)(k:Below a.heap.size a b):Below w.heap.size w b:=h.trans (k.mono h.size)
theorem bO {B:Nat}{a w:World}(h:Below B a w)(n:Nat):Below B a (w.drewN n):=⟨h.os,h.tape,h.output,h.size,h.block⟩
theorem fU (b off i:Nat):(⟨b,off,none⟩:Addr).add i=⟨b,off+i,none⟩:=by unfold Addr.add;split <;> simp_all
theorem cl {w:World}{b:Nat}{l:List Value}{T:TypeId}(h:w.heap[b]?=some (.cells l.toArray T))(k:Nat){v:Value}{r:List Value}(hk:l.drop k=v::r):w.cell? ⟨b,k,none⟩=some v:=by
  rw[Go.Joins.cell_of_block h]
  have e:l[k]?=some v:=by
    have:=congrArg (·[0]?) hk
    simpa using this
  simpa using e
theorem SL:(∀ (l:List Value) (i:Nat) (a:Value),l.toArray.setIfInBounds i a=(l.set i a).toArray)/\(∀ (l:List Bool) (i:Nat) (a:Bool),l.toArray.setIfInBounds i a=(l.set i a).toArray)/\(∀ (x a:Value) (l:List Value),(x::l).set 0 a=a::l)/\(∀ (x a:Bool) (l:List Bool),(x::l).set 0 a=a::l)/\(∀ (x a:Value) (l:List Value) (n:Nat),(x::l).set (n+1) a=x::l.set n a)/\∀ (x a:Bool) (l:List Bool) (n:Nat),(x::l).set (n+1) a=x::l.set n a:=
  ⟨fun _ _ _=>by simp,fun _ _ _=>by simp,fun _ _ _=>rfl,fun _ _ _=>rfl,fun _ _ _ _=>rfl,fun _ _ _ _=>rfl⟩
theorem Hd {p:Prop}(h:p):RowKit.Hid p:=h
theorem zl {α:Type _}{xs:Array α}{i:Nat}{a:α}(h:xs[i]?=some a):i<xs.size:=(Array.getElem?_eq_some_iff.1 h).1
theorem hss (w:World)(g i:Nat)(cs:Array Value)(t:TypeId)(v:Value)(h:w.heap[g]?=some (.cells cs t)):(w.setCell ⟨g,i,none⟩ v).heap[g]?=some (.cells (cs.setIfInBounds i v) t):=heap_setCell_same w g i cs t v h
theorem han (w:World)(o:Obj):(w.alloc o).heap[w.heap.size]?=some o:=heap_alloc_new w o
theorem hao (w:World)(o:Obj){r:Nat}(h:r<w.heap.size):(w.alloc o).heap[r]?=w.heap[r]?:=heap_alloc_old w o h
theorem cob {w:World}{g:Nat}{cs:Array Value}{t:TypeId}{fr:Nat × Nat}(h:w.heap[g]?=some (.cells cs t fr))(i:Nat):w.cell? ⟨g,i,none⟩=cs[i]?:=Go.Joins.cell_of_block h i
theorem Br {n:Nat}{w:World}:Below n w w:=Below.refl _ _
theorem hC {n:Nat}{p:Addr}{v:Value}{w wx:World}(c:w.cell? p=some v)(hS:Below n w wx)(lt:p.block<n):wx.cell? p=some v:=(hS.cell lt).trans c
theorem ufb {w:World}{b:Nat}{r:Array Value}{t:TypeId}(h:w.heap[b]?=some (.cells r t))(i:Nat):w.frozen? ⟨b,i,none⟩=false:=Go.Joins.unfrozen_of_block h i
theorem iI (a:Int)(w:World)(h1:1<=a)(h2:a<=8) :
  () 96 #[a] w fun e w'=>e=.returned (.bool true)/\w=w':=by
 go_enter Tryz.func96,Tryz.ntmps96
 go_wp2
 go_ret;simp
theorem pM (a:Int)(w:World)(h:¬ (1<=a/\a<=8)) :
  () 96 #[a] w fun e w'=>e=.returned (.bool false)/\w=w':=by
 have h':a<1\/8<a:=by omega
 clear h
 rcases h' with h|h
 all_goals
  go_enter Tryz.func96,Tryz.ntmps96
  go_wp2
  go_ret;simp
 omega
theorem DC (n:Int)(size:Int)(b:Bool)(w:World)(h1:1<=size)(h8:size<=8)(hb:(n / 2 ^ (8*size).toNat==0)=b) :
  () 97 #[.int .u64 n,size] w fun e w'=>e=.returned (.bool b)/\w=w':=by
 have e1:min (8*size).toNat 64=(8*size).toNat:=by omega
 have H:=Hd hb;clear hb;go_enter Tryz.func97,Tryz.ntmps97
 go_wp2
 go_ret;exact⟨by rw[<-H.o];rfl,rfl⟩
def kE (n:Int)(size:Nat):Nat->Array Value
 | 0=>#[.int .u8 0,.int .u8 0,.int .u8 0,.int .u8 0,.int .u8 0,.int .u8 0,.int .u8 0,.int .u8 0]
 | k+1=>(kE n size k).setIfInBounds (size-1-k) (.int .u8 (n / 2 ^ (8*k) % 256))
theorem rQ (n:Int)(size k:Nat):(kE n size k).size=8:=by
 induction k with
 | zero=>rfl
 | succ k ih=>simp[kE,ih]
theorem QH (n:Int)(size k j:Nat)(hj:j<8):∃ v,(kE n size k)[j]?=some v:=
 ⟨(kE n size k)[j]'(by rw[rQ];omega),Array.getElem?_eq_getElem _⟩
theorem IC (n:Int)(size k j:Nat)(hs:size<=8)(hk:k<=size)(hj:j<size)(hjk:size-1-j<k) :
  (kE n size k)[j]?=some (.int .u8 (n / 2 ^ (8*(size-1-j)) % 256)):=by
 induction k with
 | zero=>omega
 | succ k ih=>
  rw[kE]
  by_cases e:j=size-1-k
  ·have ek:size-1-j=k:=by omega
   rw[ek,<-e,Array.getElem?_setIfInBounds_self_of_lt (by rw[rQ];omega)]
  ·rw[Array.getElem?_setIfInBounds_ne (by omega)]
   exact ih (by omega) (by omega)
theorem aC6 (n:Nat)(k:Nat):((UInt8.ofNat (n / 256 ^ k % 256)).toNat:Int)=(n:Int) / 2 ^ (8*k) % 256:=by
 have e:(256:Nat) ^ k=2 ^ (8*k):=by rw[Nat.pow_mul]
 rw[UInt8.toNat_ofNat',Nat.mod_mod_of_dvd _ (by decide),e,Int.natCast_emod,Int.natCast_ediv,Int.natCast_pow]
 rfl
theorem QG (n:Nat)(size j:Nat)(hs:size<=8)(hj:j<(M.be size n).length) :
  (kE (n:Int) size size)[j]?=some (.int .u8 (((M.be size n)[j]).toNat:Int)):=by
 have hj':j<size:=by rwa [M.be_length] at hj
 rw[IC _ _ _ _ hs (Nat.le_refl _) hj' (by omega)];have:=M.be_get size n j hj';rw[List.getElem?_eq_getElem hj] at this;rw[Option.some.inj this,aC6]
theorem aDY (a:Addr)(k:Nat)(hk:k<=8)(W:World):(Instr.sliceAt 137 (.pointer (some a)) none (some (.int .i64 (k:Int))) none).run Tryz.prog W=.ok (.slice (some a) k 8) W:=by
 have hl:Tryz.prog.arrayLen 137=8:=by kernel_rfl
 have he:Tryz.prog.elem 137=5:=by kernel_rfl
 have hs:∀ w,(sizeOf 5).run Tryz.prog w=.ok 1 w:=fun w=>by kernel_rfl
 have ht:Tryz.prog.underlying 137=some (.array (Tryz.prog.arrayLen 137) (Tryz.prog.elem 137)):=by rw[hl,he];exact Tryz.underlying137
 rw[run_sliceAt_array_h W _ a ht .i64 k (by omega) (by rw[hl];omega),he,hs,hl];simp[Result.andThen,slicedAt,Addr.add]
def cU (n size:Int):Bool:=decide (1<=size/\size<=8)&&(n / 2 ^ (8*size).toNat==0)
def aK (n size:Int):List UInt8:=if cU n size=true then M.be size.toNat n.toNat else[]
def BI (n size:Int):Int:=if cU n size=true then 0 else 1
theorem aD3 (m:Nat)(size:Nat)(w:World)(h1:1<=size)(h8:size<=8)(hf:((m:Int) / 2 ^ (8*size)==0)=true) :
  () 61 #[.int .u64 (m:Int),.int .i64 size] w fun e w'=>e=.returned (.tuple #[.string (Str (M.be size m)),(0:Int)])/\Below w.heap.size w w':=by
 have H:=Hd hf;clear hf;have hcells:=fun j hj=>QG m size j h8 hj
 have hconv:=run_convert_bytes_back (P:=Tryz.prog) (w.alloc (.cells (kE (m:Int) size size) 137)) 138 9 5 ⟨w.heap.size,0,none⟩ 8 (M.be size m) Tryz.underlying138 Tryz.underlying5 Tryz.underlying9 (fun j hj=>by
  have:=hcells j hj;rw[show(⟨w.heap.size,0,none⟩:Addr).add j=⟨w.heap.size,j,none⟩ by unfold Addr.add;split <;> simp_all];rw[<-this];simp)
 rw[M.be_length] at hconv;have HC:=Hd hconv;clear hconv hcells;generalize hn:(m:Int)=n at *;have Hn:=Hd hn;clear hn;go_enter Tryz.func61,Tryz.ntmps61
 go_wp2_with (first|(go_at_call 96;refine(iI _ _ (by omega) (by omega)).mono ?_;rintro e w' ⟨rfl,rfl⟩)|(go_at_call 97;refine(DC _ _ true _ (by omega) (by omega) H.o).mono ?_;rintro e w' ⟨rfl,rfl⟩))
 go_loopw [7,18] (fun _ i wr=>∃ k:Nat,k<=size/\i=.int .i64 k/\wr=w.alloc (.cells (kE n size k) 137)) (fun _ i _=>size-(intOf i).toNat)
 case atStart=>exact⟨0,Nat.zero_le _,rfl,rfl⟩
 case round=>
  obtain⟨k,hk,rfl,rfl⟩:=hrel
  by_cases hlt:k<size
  ·obtain⟨v,hv⟩:=QH n size k (size-1-k) (by omega)
   go_wp2
   go_roundw
   case rel=>exact⟨k+1,by omega,by go_num,rfl⟩
   case measure=>simp[intOf];omega
  ·obtain rfl:k=size:=by omega
   have hconv:=HC.o;have hsl:=aDY ⟨w.heap.size,0,none⟩ k h8
   go_wp2
   go_ret2;exact⟨rfl,Br.alloc (Nat.le_refl _) _⟩
theorem WO (n:Int)(size:Int)(w:World)(h:¬ (1<=size/\size<=8)) :
  () 61 #[.int .u64 n,size] w fun e w'=>e=.returned (.tuple #[.string ⟨#[]⟩,(1:Int)])/\w=w':=by
 have H:=Hd h;clear h;go_enter Tryz.func61,Tryz.ntmps61
 go_wp2_with (first|(go_at_call 96;refine(pM _ _ H.o).mono ?_;rintro e w' ⟨rfl,rfl⟩))
 go_ret2;exact⟨rfl,rfl⟩
theorem WN (n:Int)(size:Int)(w:World)(h1:1<=size)(h8:size<=8)(hf:(n / 2 ^ (8*size).toNat==0)=false) :
  () 61 #[.int .u64 n,size] w fun e w'=>e=.returned (.tuple #[.string ⟨#[]⟩,(1:Int)])/\w=w':=by
 have H:=Hd hf;clear hf;go_enter Tryz.func61,Tryz.ntmps61
 go_wp2_with (first|(go_at_call 96;refine(iI _ _ (by omega) (by omega)).mono ?_;rintro e w' ⟨rfl,rfl⟩)|(go_at_call 97;refine(DC _ _ false _ (by omega) (by omega) H.o).mono ?_;rintro e w' ⟨rfl,rfl⟩))
 go_ret2;exact⟨rfl,rfl⟩
theorem lL (n size:Int)(w:World)(h0:0<=n) :
  () 61 #[.int .u64 n,size] w fun e w'=>e=.returned (.tuple #[.string (Str (aK n size)),.int .i64 (BI n size)])/\Below w.heap.size w w':=by
 by_cases h:1<=size/\size<=8
 ·cases hf:(n / 2 ^ (8*size).toNat==0)
  ·refine(WN n size w h.1 h.2 hf).mono ?_
   rintro e w' ⟨rfl,rfl⟩;exact⟨by simp[aK,BI,cU,hf,Str],Br⟩
  ·obtain⟨m,rfl⟩:=Int.eq_ofNat_of_zero_le h0
   obtain⟨s,rfl⟩:=Int.eq_ofNat_of_zero_le (show 0<=size by omega);rw[show(8*(s:Int)).toNat=8*s by omega] at hf;refine(aD3 m s w (by omega) (by omega) hf).mono ?_;rintro e w' ⟨rfl,hb⟩;refine⟨?_,hb⟩
   have hk:cU (m:Int) (s:Int)=true:=by
    simp only[cU,show(8*(s:Int)).toNat=8*s by omega,hf,Bool.and_true,decide_eq_true_eq];exact h
   simp[aK,BI,hk]
 ·refine(WO n size w h).mono ?_
  rintro e w' ⟨rfl,rfl⟩;exact⟨by simp[aK,BI,cU,h,Str],Br⟩
theorem aBH (n size:Int)(w:World)(h0:0<=n)(hk:cU n size=true) :
  () 61 #[.int .u64 n,size] w fun e w'=>e=.returned (.tuple #[.string (Str (M.be size.toNat n.toNat)),(0:Int)])/\Below w.heap.size w w':=by
 have:=lL n size w h0
 simpa[aK,BI,hk] using this
def dA (b:ByteArray)(size:Int):Bool:=decide (1<=size/\size<=8)&&decide (size<=b.size)
def aT (b:ByteArray)(size:Int):Int:=if dA b size=true then(M.val (b.data.toList.take size.toNat):Int) else 0
def aA (b:ByteArray)(size:Int):ByteArray:=if dA b size=true then b.extract size.toNat b.size else⟨#[]⟩
def dE (b:ByteArray)(size:Int):Int:=if dA b size=true then 0 else if 1<=size/\size<=8 then 2 else 1
theorem zP (a:Nat)(h:a<18446744073709551616):IntKind.u64.wrap (a:Int)=(a:Int):=by
 rw[IntKind.wrap_u64];exact Int.emod_eq_of_lt (Int.natCast_nonneg _) (Int.ofNat_lt.2 h)
theorem aBT (v:Nat)(c:UInt8)(h:v*256+255<18446744073709551616) :
  bits BinOp.or IntKind.u64 (IntKind.u64.wrap ((v:Int)*256)) (IntKind.u64.wrap (c.toNat:Int))=((v*256+c.toNat:Nat):Int):=by
 have hc:c.toNat<256:=c.toNat_lt;have h1:v*256<18446744073709551616:=Nat.lt_of_le_of_lt (Nat.le_add_right _ _) h;have h2:c.toNat<18446744073709551616:=Nat.lt_of_lt_of_le hc (by decide);have h3:v*256 % 2 ^ 8=0:=by simp
 have h4:c.toNat<2 ^ 8:=by simp;omega
 have e1:IntKind.u64.wrap ((v:Int)*256)=((v*256:Nat):Int):=zP _ h1;have e2:IntKind.u64.wrap (c.toNat:Int)=(c.toNat:Int):=zP _ h2;rw[e1,e2,u64_or_nat (v*256) c.toNat h1 h2,nat_join 8 (v*256) c.toNat h3 h4]
theorem UK (b:ByteArray)(k:Nat)(h:k<b.size):M.val (b.data.toList.take (k+1))=M.val (b.data.toList.take k)*256+b[k].toNat:=by
 rw[List.take_succ_eq_append_getElem (by simpa using h),M.val_snoc];rfl
theorem UL (b:ByteArray)(k:Nat)(h:k<=7):M.val (b.data.toList.take k)*256+255<18446744073709551616:=by
 have h1:=M.val_lt (b.data.toList.take k);have h2:256 ^ (b.data.toList.take k).length<=256 ^ 7:=Nat.pow_le_pow_right (by decide) (by simp;omega);have h3:(256:Nat) ^ 7=72057594037927936:=by simp
 rw[h3] at h2;generalize M.val (b.data.toList.take k)=v at *;generalize 256 ^ (b.data.toList.take k).length=u at *;omega
theorem aAW (b:ByteArray)(size:Nat)(w:World)(h1:1<=size)(h8:size<=8)(hl:size<=b.size) :
  () 59 #[b,.int .i64 size] w fun e w'=>e=.returned (.tuple #[.int .u64 (M.val (b.data.toList.take size)),.string (b.extract size b.size),(0:Int)])/\Below w.heap.size w w':=by
 have ht:decide (b.size<size)=false:=by simp;omega
 go_enter Tryz.func59,Tryz.ntmps59
 go_wp2_with (first|(go_at_call 96;refine(iI _ _ (by omega) (by omega)).mono ?_;rintro e w' ⟨rfl,rfl⟩))
 go_loop [4,7,16] (fun n _ i=>∃ k:Nat,k<=size/\i=.int .i64 k/\n=.int .u64 (M.val (b.data.toList.take k))) (fun _ _ i=>size-(intOf i).toNat)
 case atStart=>exact⟨0,Nat.zero_le _,rfl,rfl⟩
 case round=>
  obtain⟨k,hk,rfl,rfl⟩:=hrel
  by_cases hlt:k<size
  ·go_wp2
   go_round
   case rel=>exact⟨k+1,by omega,by go_num,by rw[UK b k (by omega),<-aBT _ _ (UL b k (by omega))]⟩
   case measure=>simp[intOf];omega
  ·obtain rfl:k=size:=by omega
   go_wp2
   go_region
   all_goals go_wp2
   all_goals go_ret3
   all_goals exact⟨rfl,Br.drew⟩
theorem OK (b:ByteArray)(size:Int)(w:World)(h:¬ (1<=size/\size<=8)) :
  () 59 #[b,size] w fun e w'=>e=.returned (.tuple #[.int .u64 0,.string ⟨#[]⟩,(1:Int)])/\w=w':=by
 have H:=Hd h;clear h;go_enter Tryz.func59,Tryz.ntmps59
 go_wp2_with (first|(go_at_call 96;refine(pM _ _ H.o).mono ?_;rintro e w' ⟨rfl,rfl⟩))
 go_ret3;exact⟨rfl,rfl⟩
theorem sZ (b:ByteArray)(size:Int)(w:World)(h1:1<=size)(h8:size<=8)(hl:(b.size:Int)<size) :
  () 59 #[b,size] w fun e w'=>e=.returned (.tuple #[.int .u64 0,.string ⟨#[]⟩,(2:Int)])/\w=w':=by
 go_enter Tryz.func59,Tryz.ntmps59
 go_wp2_with (first|(go_at_call 96;refine(iI _ _ (by omega) (by omega)).mono ?_;rintro e w' ⟨rfl,rfl⟩))
 go_ret3;exact⟨rfl,rfl⟩
theorem mI (b:ByteArray)(size:Int)(w:World) :
  () 59 #[b,size] w fun e w'=>e=.returned (.tuple #[.int .u64 (aT b size),.string (aA b size),.int .i64 (dE b size)])/\Below w.heap.size w w':=by
 by_cases h:1<=size/\size<=8
 ·by_cases hl:size<=b.size
  ·have hk:dA b size=true:=by simp[dA,h,hl]
   obtain⟨s,rfl⟩:=Int.eq_ofNat_of_zero_le (show 0<=size by omega);refine(aAW b s w (by omega) (by omega) (by omega)).mono ?_;rintro e w' ⟨rfl,hb⟩;exact⟨by simp[aT,aA,dE,hk],hb⟩
  ·refine(sZ b size w h.1 h.2 (by omega)).mono ?_
   rintro e w' ⟨rfl,rfl⟩;exact⟨by simp[aT,aA,dE,dA,h,hl],Br⟩
 ·refine(OK b size w h).mono ?_
  rintro e w' ⟨rfl,rfl⟩;exact⟨by simp[aT,aA,dE,dA,h],Br⟩
theorem AC (b:ByteArray)(size:Int)(w:World)(hk:dA b size=true) :
  () 59 #[b,size] w fun e w'=>e=.returned (.tuple #[.int .u64 (M.val (b.data.toList.take size.toNat)),.string (b.extract size.toNat b.size),(0:Int)])/\Below w.heap.size w w':=by
 have:=mI b size w
 simpa[aT,aA,dE,hk] using this
def cS (s:ByteArray):ByteArray:=if s.size<=255 then Str (UInt8.ofNat s.size::s.data.toList) else⟨#[]⟩
def sX (s:ByteArray):Int:=if s.size<=255 then 0 else 16
theorem put1 (n:Nat)(h:n<=255):cU (n:Int) 1=true:=by simp[cU];omega
theorem be1 (n:Nat)(h:n<=255):M.be (1:Int).toNat (n:Int).toNat=[UInt8.ofNat n]:=by
 show[UInt8.ofNat (n % 256)]=_
 rw[Nat.mod_eq_of_lt (by omega)]
theorem GB (s:ByteArray)(w:World)(h:s.size<=255) :
  () 133 #[s] w fun e w'=>e=.returned (.tuple #[.string (cS s),.int .i64 (sX s)])/\Below w.heap.size w w':=by
 have ht:decide (255<s.size)=false:=by simp;omega
 have hp:=Hd (put1 s.size h);have hz:(Str (M.be (1:Int).toNat (s.size:Int).toNat)).size=1:=by rw[be1 _ h];rfl
 have fin:Ending.returned (.tuple #[.string (Str (M.be (1:Int).toNat (s.size:Int).toNat)++s),(0:Int)])=Ending.returned (.tuple #[.string (cS s),.int .i64 (sX s)]):=by
  rw[be1 _ h,pA];simp[cS,sX,h]
 have F:=Hd fin;clear fin;generalize hg:Str (M.be (1:Int).toNat (s.size:Int).toNat)=p at *;have G:=Hd hg;have hz1:p.size<=1:=by omega
 clear hg hz;go_enter Tryz.func133,Tryz.ntmps133
 go_wp2_with (first|(go_at_call 61;refine(aBH _ _ _ (by omega) hp.o).mono ?_;rw[G.o];rintro e w1 ⟨rfl,hb⟩))
 go_ret2;exact⟨F.o,by assumption⟩
theorem OG (s:ByteArray)(w:World)(h:255<s.size) :
  () 133 #[s] w fun e w'=>e=.returned (.tuple #[.string (cS s),.int .i64 (sX s)])/\Below w.heap.size w w':=by
 have fin:Ending.returned (.tuple #[.string ⟨#[]⟩,(16:Int)])=Ending.returned (.tuple #[.string (cS s),.int .i64 (sX s)]):=by
  simp[cS,sX,show ¬ s.size<=255 by omega]
 have F:=Hd fin;clear fin;go_enter Tryz.func133,Tryz.ntmps133
 go_wp2
 go_ret2;exact⟨F.o,Br⟩
theorem zZ (s:ByteArray)(w:World) :
  () 133 #[s] w fun e w'=>e=.returned (.tuple #[.string (cS s),.int .i64 (sX s)])/\Below w.heap.size w w':=by
 by_cases h:s.size<=255
 ·exact GB s w h
 ·exact OG s w (by omega)
def ttN (s:ByteArray):Nat:=M.val (s.data.toList.take (1:Int).toNat)
def ttB (s:ByteArray):ByteArray:=s.extract (1:Int).toNat s.size
def pF (s:ByteArray):Bool:=decide (1<=s.size)&&decide (ttN s<=(ttB s).size)
def ttS (s:ByteArray):ByteArray:=if pF s=true then(ttB s).extract 0 (ttN s) else⟨#[]⟩
def ttR (s:ByteArray):ByteArray:=if pF s=true then(ttB s).extract (ttN s) (ttB s).size else⟨#[]⟩
def ttE (s:ByteArray):Int:=if pF s=true then 0 else 2
theorem uX (s:ByteArray)(w:World)(h:s.size=0) :
  () 126 #[s] w fun e w'=>e=.returned (.tuple #[.string ⟨#[]⟩,.string ⟨#[]⟩,(2:Int)])/\Below w.heap.size w w':=by
 have H:=Hd h;clear h;go_enter Tryz.func126,Tryz.ntmps126
 go_wp2_with (first|(go_at_call 59;refine(sZ _ _ _ (by omega) (by omega) (by rw[H.o];decide)).mono ?_;rintro e w1 ⟨rfl,rfl⟩))
 go_ret3;exact⟨rfl,Br⟩
theorem tA (s r:ByteArray)(n:Nat)(w:World)(hn:M.val (s.data.toList.take (1:Int).toNat)=n)(hr:s.extract (1:Int).toNat s.size=r)(hk:dA s 1=true)(hx:r.size<n)(_hb:n<256) :
  () 126 #[s] w fun e w'=>e=.returned (.tuple #[.string ⟨#[]⟩,.string ⟨#[]⟩,(2:Int)])/\Below w.heap.size w w':=by
 have H:=Hd hn;have R:=Hd hr;have K:=Hd hk;have ht:decide (r.size<n)=true:=by simp;omega
 clear hn hr hk;go_enter Tryz.func126,Tryz.ntmps126
 go_wp2_with (first|(go_at_call 59;refine(AC _ _ _ K.o).mono ?_;rw[H.o,R.o];rintro e w1 ⟨rfl,hb⟩))
 go_ret3;exact⟨rfl,by assumption⟩
theorem AE (s r:ByteArray)(n:Nat)(w:World)(hn:M.val (s.data.toList.take (1:Int).toNat)=n)(hr:s.extract (1:Int).toNat s.size=r)(hk:dA s 1=true)(hx:n<=r.size)(_hb:n<256)(hm:r.size<=9223372036854775807) :
  () 126 #[s] w fun e w'=>e=.returned (.tuple #[.string (r.extract 0 n),.string (r.extract n r.size),(0:Int)])/\Below w.heap.size w w':=by
 have H:=Hd hn;have R:=Hd hr;have K:=Hd hk;have ht:decide (r.size<n)=false:=by simp;omega
 clear hn hr hk;go_enter Tryz.func126,Tryz.ntmps126
 go_wp2_with (first|(go_at_call 59;refine(AC _ _ _ K.o).mono ?_;rw[H.o,R.o];rintro e w1 ⟨rfl,hb⟩))
 go_region
 all_goals go_wp2
 all_goals go_ret3
 all_goals exact⟨rfl,hb.drew⟩
theorem tC (s:ByteArray):ttN s<256:=by
 have h1:=M.val_lt (s.data.toList.take (1:Int).toNat);have h2:256 ^ (s.data.toList.take (1:Int).toNat).length<=256 ^ 1:=Nat.pow_le_pow_right (by decide) (by simp;omega);unfold ttN;omega
theorem pI (s:ByteArray)(w:World)(hm:s.size<=9223372036854775807) :
  () 126 #[s] w fun e w'=>e=.returned (.tuple #[.string (ttS s),.string (ttR s),.int .i64 (ttE s)])/\Below w.heap.size w w':=by
 by_cases h:1<=s.size
 ·have hk:dA s 1=true:=by simp[dA];omega
  have hb:=tC s
  by_cases hx:ttN s<=(ttB s).size
  ·have ho:pF s=true:=by simp[pF,h,hx]
   refine(AE s (ttB s) (ttN s) w rfl rfl hk hx hb (by simp[ttB];omega)).mono ?_;rintro e w' ⟨rfl,hb⟩;exact⟨by simp[ttS,ttR,ttE,ho],hb⟩
  ·refine(tA s (ttB s) (ttN s) w rfl rfl hk (by omega) hb).mono ?_
   rintro e w' ⟨rfl,hb⟩;exact⟨by simp[ttS,ttR,ttE,pF,h,hx],hb⟩
 ·refine(uX s w (by omega)).mono ?_
  rintro e w' ⟨rfl,hb⟩;exact⟨by simp[ttS,ttR,ttE,pF,h],hb⟩
theorem nT (a:Nat)(ha:a<9223372036854775808):(BitVec.ofInt 64 (a:Int)).toNat=a:=by
 rw[BitVec.ofInt_natCast,BitVec.toNat_ofNat];exact Nat.mod_eq_of_lt (by omega)
theorem CW (a b:Nat)(ha:a<9223372036854775808)(hb:b<9223372036854775808):bits .and .i64 (a:Int) (b:Int)=((a &&& b:Nat):Int):=by
 have hx:a &&& b<2 ^ 63:=Nat.and_lt_two_pow _ (by omega)
 show IntKind.i64.wrap ((BitVec.ofInt 64 (a:Int) &&& BitVec.ofInt 64 (b:Int)).toNat:Int)=_
 rw[BitVec.toNat_and,nT a ha,nT b hb,IntKind.wrap_i64];omega
def iC (n:Int):Bool:=decide (0<=n/\n<=65535)
def oG (a b:Int):Bool:=iC a&&iC b&&(a.toNat &&& b.toNat==a.toNat)
theorem EK (a b:Nat)(ha:a<=65535)(hb:b<=65535):(bits .andNot .i64 (a:Int) (b:Int)==0)=(a &&& b==a):=by
 have hA:=nT a (by omega);have hB:=nT b (by omega)
 have hle:(BitVec.ofInt 64 (a:Int) &&& ~~~ BitVec.ofInt 64 (b:Int)).toNat<=a:=by
  rw[BitVec.toNat_and,hA];exact Nat.and_le_left
 have e:bits .andNot .i64 (a:Int) (b:Int)=((BitVec.ofInt 64 (a:Int) &&& ~~~ BitVec.ofInt 64 (b:Int)).toNat:Int):=by
  show IntKind.i64.wrap ((BitVec.ofInt 64 (a:Int) &&& ~~~ BitVec.ofInt 64 (b:Int)).toNat:Int)=_
  rw[IntKind.wrap_i64];omega
 rw[e,Bool.eq_iff_iff,beq_iff_eq,beq_iff_eq];generalize hx:BitVec.ofInt 64 (a:Int)=A at *;generalize hy:BitVec.ofInt 64 (b:Int)=B at *
 have h1:((A &&& ~~~ B).toNat:Int)=0 ↔ A &&& ~~~ B=0#64:=by
  rw[<-BitVec.toNat_inj];simp
 have h2:a &&& b=a ↔ A &&& B=A:=by
  rw[<-BitVec.toNat_inj,BitVec.toNat_and,hA,hB]
 rw[h1,h2];constructor
 ·intro h
  apply BitVec.eq_of_getLsbD_eq;intro i hi;have:=congrArg (fun v:BitVec 64=>v.getLsbD i) h;simp[hi] at this |-;exact this
 ·intro h
  apply BitVec.eq_of_getLsbD_eq;intro i hi;have:=congrArg (fun v:BitVec 64=>v.getLsbD i) h;simp[hi] at this |-;exact this
theorem kW (n:Int)(v:Bool)(w:World)(hv:iC n=v) :
  () 111 #[n] w fun e w'=>e=.returned (.bool v)/\w=w':=by
 have H:Hid ((decide (0<=n)&&decide (n<=65535))=v):=by rw[<-hv,iC,Bool.decide_and];exact rfl
 clear hv
 by_cases h:n<0
 all_goals
  go_enter Tryz.func111,Tryz.ntmps111
  go_wp2
  go_ret;refine⟨?_,rfl⟩;rw[<-H.o];exact aS (by rw[Bool.eq_iff_iff];simp;omega)
theorem aAZ (a b:Int)(h1:iC a=true)(h2:iC b=true):(bits .andNot .i64 a b==0)=oG a b/\(bits .and .i64 a b==a)=oG a b:=by
 have h1':=h1;have h2':=h2;simp only[iC,decide_eq_true_eq] at h1' h2';have e1:=EK a.toNat b.toNat (by omega) (by omega);have e2:=CW a.toNat b.toNat (by omega) (by omega);rw[Int.toNat_of_nonneg h1'.1,Int.toNat_of_nonneg h2'.1] at e1 e2;refine⟨by rw[e1,oG,h1,h2];rfl,?_⟩;rw[e2,oG,h1,h2,Bool.eq_iff_iff];simp only[Bool.and_self,Bool.true_and,beq_iff_eq];omega
theorem VF (a b:Int)(h:(iC a&&iC b)=false):oG a b=false:=by unfold oG;rw[h];rfl
theorem aAY (a b:Int)(w:World) :
  () 77 #[a,b] w fun e w'=>e=.returned (.bool (oG a b))/\w=w':=by
 cases h1:iC a
 ·have H1:=Hd h1
  have G':=Hd (VF a b (by rw[h1];rfl));clear h1;go_enter Tryz.func77,Tryz.ntmps77;go_wp2_with fail;refine(kW _ false _ H1.o).mono ?_;rintro e w1 ⟨rfl,rfl⟩;go_wp2_with fail;go_ret;exact⟨by rw[G'.o];rfl,rfl⟩
 ·cases h2:iC b
  ·have H1:=Hd h1
   have H2:=Hd h2;have G':=Hd (VF a b (by rw[h1,h2];rfl));clear h1 h2;go_enter Tryz.func77,Tryz.ntmps77;go_wp2_with fail;refine(kW _ true _ H1.o).mono ?_;rintro e w1 ⟨rfl,rfl⟩;go_wp2_with fail;refine(kW _ false _ H2.o).mono ?_;rintro e w1 ⟨rfl,rfl⟩;go_wp2_with fail;go_ret;exact⟨by rw[G'.o];rfl,rfl⟩
  ·have H1:=Hd h1
   have H2:=Hd h2;have F':=Hd (aAZ a b h1 h2);clear h1 h2;go_enter Tryz.func77,Tryz.ntmps77;go_wp2_with fail;refine(kW _ true _ H1.o).mono ?_;rintro e w1 ⟨rfl,rfl⟩;go_wp2_with fail;refine(kW _ true _ H2.o).mono ?_;rintro e w1 ⟨rfl,rfl⟩;go_wp2_with fail;go_ret;exact⟨by rw[<-F'.1];rfl,rfl⟩
theorem QR {w:World}{base:Nat}{e:TypeId}{v:Value}{n:Nat}{xs:List Value}(h:w.ownsRow base e 1 v n xs) :
  (v=.slice none 0 0/\xs=[])\/∃ g cap,v=.slice (some ⟨g,0,none⟩) xs.length cap/\xs.length=n/\∀ j u,xs[j]?=some u->w.cell? ((⟨g,0,none⟩:Addr).add j)=some u:=by
 have hl:xs.length=n:=by have:=h.1;omega
 rcases h.2 with⟨rfl,h0⟩|⟨g,cap,cur,hv,hb,hh,hn,hc,hs,ht⟩
 ·exact .inl ⟨rfl,List.eq_nil_of_length_eq_zero (by omega)⟩
 ·refine .inr ⟨g,cap,by rw[hl];exact hv,hl,h.cells (by rw[hv];rfl)⟩
theorem IH {w:World}{base:Nat}{e:TypeId}{v:Value}{n:Nat}{xs:List Value}(h:w.ownsRow base e 1 v n xs){k:Nat}{s:ByteArray}{p:Nat}(hk:w.heap[k]?=some (.stringIter s p))(q:Nat) :
  (w.iterAt k s q).ownsRow base e 1 v n xs:=by
 refine⟨h.1,?_⟩
 rcases h.2 with h|⟨g,cap,cur,hv,hb,hh,r⟩
 ·exact .inl h
 ·refine .inr ⟨g,cap,cur,hv,hb,?_,r⟩
  rw[Lib.iterAt_other _ _ _ _ _ ?_]
  ·exact hh
  ·rintro rfl
   rw[hk] at hh;cases hh
theorem wU {w w':World}{base:Nat}{e:TypeId}{v:Value}{n:Nat}{xs:List Value}(h:w.ownsRow base e 1 v n xs)(hg:w.grownBy w' v.ownBlock){k:Nat}{s:ByteArray}{p:Nat}(hk:w.heap[k]?=some (.stringIter s p)) :
  w'.heap[k]?=some (.stringIter s p):=by
 have hlt:k<w.heap.size:=(zl hk);rw[hg.block k hlt ?_]
 ·exact hk
 ·intro he
  rcases h.2 with⟨rfl,_⟩|⟨g,cap,cur,rfl,hb,hh,r⟩
  ·cases he
  ·simp only[Value.ownBlock,Option.some.injEq] at he
   subst he;rw[hk] at hh;cases hh
theorem PJ (w:World)(c:Nat):(Conv.runesToString (.slice none 0 c)).run Tryz.prog w=.ok (.string ByteArray.empty) w:=by simp[Conv.runesToString]
theorem uO {w:World}{base:Nat}{v:Value}{n:Nat}(xs:List Int)(h:w.ownsRow base 21 1 v n (xs.map fun b=>.int .i32 b)) :
  (convert 109 9 v).run Tryz.prog w=.ok (.string (runesBytes xs)) w:=by
 rcases QR h with⟨rfl,hx⟩|⟨g,cap,hv,hl,hc⟩
 ·have:xs=[]:=by simpa using hx
  subst this;rw[run_convert_runes_string (P:=Tryz.prog) w 109 9 21 none 0 0 Tryz.underlying109 Tryz.underlying21 Tryz.underlying9];exact PJ w 0
 ·rw[hv,run_convert_runes_string (P:=Tryz.prog) w 109 9 21 _ _ _ Tryz.underlying109 Tryz.underlying21 Tryz.underlying9]
  have:=run_loadCells_list (P:=Tryz.prog) w ⟨g,0,none⟩ _ hc;exact run_runesToString (P:=Tryz.prog) w _ _ _ _ this
theorem yR (n:Nat)(h:n<128):Utf8.encode (n:Int)=Str [UInt8.ofNat n]:=by
 have hv:Utf8.valid (n:Int)=true:=by simp[Utf8.valid];omega
 simp only[Utf8.encode,hv,if_true,Int.toNat_natCast,h]
 rfl
def dR (l:List UInt8):Nat:=(Lib.decodeL l).1
def dW (l:List UInt8):Nat:=(Lib.decodeL l).2
theorem yZ (l:List UInt8):1<=dW l:=Lib.decodeL_width l
theorem aF1 (l:List UInt8):dR l<=1114111:=Lib.decodeL_rune l
theorem aF0 (l:List UInt8)(h:l≠[]):dW l<=l.length:=Lib.decodeL_le l h
def rsF:Nat->List UInt8->List Nat
 | 0,_=>[]
 | f+1,l=>if l=[] then[] else dR l::rsF f (l.drop (dW l))
theorem nR (f:Nat):rsF f []=[]:=by cases f <;> simp[rsF]
theorem AO:∀ (n m:Nat) (l:List UInt8),l.length<=n->l.length<=m->rsF n l=rsF m l
 | 0,m,l,hn,_=>by
  have:l=[]:=List.eq_nil_of_length_eq_zero (by omega);subst this;rw[nR,nR]
 | n+1,0,l,_,hm=>by
  have:l=[]:=List.eq_nil_of_length_eq_zero (by omega);subst this;rw[nR,nR]
 | n+1,m+1,l,hn,hm=>by
  by_cases hne:l=[]
  ·subst hne
   rw[nR,nR]
  ·have hw:=yZ l
   have hl:0<l.length:=List.length_pos_iff.2 hne;simp only[rsF,if_neg hne];rw[AO n m _ (by rw[List.length_drop];omega) (by rw[List.length_drop];omega)]
def rs (l:List UInt8):List Nat:=rsF l.length l
theorem WA:rs []=[]:=rfl
theorem nQ (l:List UInt8)(hne:l≠[]):rs l=dR l::rs (l.drop (dW l)):=by
 have hw:=yZ l;have hl:0<l.length:=List.length_pos_iff.2 hne;unfold rs;obtain⟨n,hn⟩:∃ n,l.length=n+1:=⟨l.length-1,by omega⟩
 rw[hn];simp only[rsF,if_neg hne];rw[AO n _ _ (by rw[List.length_drop];omega) (Nat.le_refl _)]
theorem wB {P:List UInt8->Prop}(h0:P [])(h1:∀ l,l≠[]->P (l.drop (dW l))->P l):∀ l,P l:=by
 suffices h:∀ n l,l.length<=n->P l from fun l=>h l.length l (Nat.le_refl _)
 intro n
 induction n with
 | zero=>intro l hl;rw[List.eq_nil_of_length_eq_zero (Nat.le_zero.1 hl)];exact h0
 | succ n ih=>
  intro l hl
  by_cases hne:l=[]
  ·rw[hne];exact h0
  ·apply h1 l hne
   apply ih;have:=yZ l;have:0<l.length:=List.length_pos_iff.2 hne;rw[List.length_drop];omega
def RS (s:ByteArray)(pos:Nat):List Nat:=rs (s.data.toList.drop pos)
def sR (s:ByteArray)(pos:Nat):Nat:=dR (s.data.toList.drop pos)
def sW (s:ByteArray)(pos:Nat):Nat:=dW (s.data.toList.drop pos)
theorem PE (s:ByteArray)(pos:Nat):(Utf8.decode s pos).1=sR s pos:=by unfold sR dR;rw[Lib.decodeL_drop]
theorem OZ (s:ByteArray)(pos:Nat):(Utf8.decode s pos).2=sW s pos:=by unfold sW dW;rw[Lib.decodeL_drop]
theorem ML (s:ByteArray)(pos:Nat)(h:pos<s.size):s.data.toList.drop pos≠[]:=by
 intro h0;have:=congrArg List.length h0;rw[List.length_drop,bZ] at this;simp at this;omega
theorem VW (s:ByteArray)(pos:Nat):1<=sW s pos:=yZ _
theorem aDM (s:ByteArray)(pos:Nat)(h:pos<s.size):pos+sW s pos<=s.size:=by
 have:=aF0 _ (ML s pos h);rw[List.length_drop,bZ] at this;unfold sW;omega
theorem aDN (s:ByteArray)(pos:Nat):sR s pos<=1114111:=aF1 _
theorem MV (s:ByteArray)(pos:Nat)(h:pos<s.size):RS s pos=sR s pos::RS s (pos+sW s pos):=by
 unfold RS;rw[nQ _ (ML s pos h),List.drop_drop]
 rfl
theorem aAH (s:ByteArray)(pos:Nat)(h:s.size<=pos):RS s pos=[]:=by
 unfold RS;rw[List.drop_eq_nil_of_le (by rw[bZ];exact h),WA]
theorem wN (w:World)(b:Nat)(s:ByteArray)(pos:Nat)(ty:TypeId)(hk:w.heap[b]?=some (.stringIter s pos))(h:pos<s.size) :
  (Instr.next (.pointer (some ⟨b,0,none⟩)) true ty).run Tryz.prog w=.ok (.tuple #[true,.int .i64 pos,.int .i32 (sR s pos)]) (w.iterAt b s (pos+sW s pos)):=by
 rw[<-PE,<-OZ];exact Lib.run_next_any_at (P:=Tryz.prog) w b s pos ty hk h
theorem GJ (l:List UInt8)(hne:l≠[]):(dR l<128/\dW l=1/\l.take 1=[UInt8.ofNat (dR l)]/\(l.getD 0 0).toNat=dR l)\/(128<=dR l/\∀ c∈l.take (dW l),128<=c.toNat):=by
 have hl:0<l.length:=List.length_pos_iff.2 hne;have k0:=(l.getD 0 0).toNat_lt;have k1:=(l.getD 1 0).toNat_lt;have k2:=(l.getD 2 0).toNat_lt;have k3:=(l.getD 3 0).toNat_lt;unfold dR dW;rw[Lib.decodeL_N]
 rcases Lib.decodeN_shape l.length (l.getD 0 0).toNat (l.getD 1 0).toNat (l.getD 2 0).toNat (l.getD 3 0).toNat with⟨c,e⟩|⟨c1,c2,c3,cv,e⟩|⟨c1,c2,c3,c4,cv,cs,e⟩|⟨c1,c2,c3,c4,c5,cv,cw,e⟩|e
 ·left
  rw[e];refine⟨c,rfl,?_,rfl⟩;rw[Lib.takeA l hl];simp
 ·right
  rw[e,Lib.takeB l c2];refine⟨by omega,fun c hc=>?_⟩;simp only[List.mem_cons,List.not_mem_nil,or_false] at hc
  rcases hc with rfl|rfl <;> omega
 ·right
  rw[e,Lib.takeC l c2];refine⟨by simp only;omega,fun c hc=>?_⟩;simp only[List.mem_cons,List.not_mem_nil,or_false] at hc
  rcases hc with rfl|rfl|rfl <;> omega
 ·right
  rw[e,Lib.takeD l c2];refine⟨by simp only;omega,fun c hc=>?_⟩;simp only[List.mem_cons,List.not_mem_nil,or_false] at hc
  rcases hc with rfl|rfl|rfl|rfl <;> omega
 ·right
  rw[e];refine⟨by simp,fun c hc=>?_⟩;rw[Lib.takeA l hl] at hc;simp only[List.mem_cons,List.not_mem_nil,or_false] at hc;subst hc
  by_cases h:(l.getD 0 0).toNat<128
  ·have:=Lib.decodeN_ascii l.length (l.getD 0 0).toNat (l.getD 1 0).toNat (l.getD 2 0).toNat (l.getD 3 0).toNat h
   rw[this] at e;have:=congrArg Prod.fst e;simp only at this;omega
  ·omega
theorem aCN (r:Nat)(h1:128<=r)(h2:r<2048):(Utf8.encode (r:Int)).data.toList=[UInt8.ofNat (192+r / 64),UInt8.ofNat (128+r % 64)]:=by
 have v:Utf8.valid (r:Int)=true:=by simp[Utf8.valid];omega
 have n1:¬ r<128:=by omega
 simp[Utf8.encode,v,n1,h2]
theorem OA (l:List UInt8)(hne:l≠[])(h1:128<=dR l)(h2:dR l<2048):(Utf8.encode (dR l:Int)).data.toList=l.take (dW l):=by
 have hl:0<l.length:=List.length_pos_iff.2 hne;have k0:=(l.getD 0 0).toNat_lt;have k1:=(l.getD 1 0).toNat_lt;have k2:=(l.getD 2 0).toNat_lt;have k3:=(l.getD 3 0).toNat_lt;unfold dR dW at *;rw[Lib.decodeL_N] at *
 rcases Lib.decodeN_shape l.length (l.getD 0 0).toNat (l.getD 1 0).toNat (l.getD 2 0).toNat (l.getD 3 0).toNat with⟨c,e⟩|⟨c1,c2,c3,cv,e⟩|⟨c1,c2,c3,c4,cv,cs,e⟩|⟨c1,c2,c3,c4,c5,cv,cw,e⟩|e
 ·rw[e] at h1;simp only at h1;omega
 ·rw[e] at h1 h2 |-
  simp only at h1 h2 |-;rw[Lib.takeB l c2,aCN _ h1 h2];have e0:192+((l.getD 0 0).toNat % 32*64+(l.getD 1 0).toNat % 64) / 64=(l.getD 0 0).toNat:=by omega
  have e1:128+((l.getD 0 0).toNat % 32*64+(l.getD 1 0).toNat % 64) % 64=(l.getD 1 0).toNat:=by omega
  rw[e0,e1,UInt8.ofNat_toNat,UInt8.ofNat_toNat]
 ·rw[e] at h2;simp only at h2;omega
 ·rw[e] at h2;simp only at h2;omega
 ·rw[e] at h2;simp only at h2;omega
def upR (r:Nat):Bool:=decide (65<=r)&&decide (r<=90)
def okR (r:Nat):Bool:=decide ((97<=r/\r<=122)\/(65<=r/\r<=90)\/(48<=r/\r<=57)\/r=45\/r=46\/(192<=r/\r<=383))
def mD (r:Nat):Bool:=decide (r≠45/\r≠46)
theorem dX (r:Nat)(v:Bool)(w:World)(hr:r<=1114111)(hv:upR r=v) :
    () 69 #[.int .i32 (r:Int)] w fun e w'=>e=.returned (.bool v)/\w=w':=by
  subst hv
  rcases(show r<65\/(65<=r/\r<=90)\/90<r by omega) with h|h|h
  · have e:upR r=false:=by simp[upR];omega
    rw[e];have:(r:Int)<65:=by omega
    go_enter Tryz.func69,Tryz.ntmps69;go_wp2_with fail
    all_goals go_ret
    all_goals exact⟨aS (by simp;try omega),rfl⟩
  · have e:upR r=true:=by simp[upR];omega
    rw[e];obtain⟨h1,h2⟩:=h;have:65<=(r:Int):=by omega
    have:(r:Int)<=90:=by omega
    go_enter Tryz.func69,Tryz.ntmps69;go_wp2_with fail
    all_goals go_ret
    all_goals exact⟨aS (by simp;try omega),rfl⟩
  · have e:upR r=false:=by simp[upR];omega
    rw[e];have:90<(r:Int):=by omega
    go_enter Tryz.func69,Tryz.ntmps69;go_wp2_with fail
    all_goals go_ret
    all_goals exact⟨aS (by simp;try omega),rfl⟩
theorem yS (r:Nat)(v:Bool)(w:World)(hr:r<=1114111)(hv:mD r=v) :
    () 103 #[.int .i32 (r:Int)] w fun e w'=>e=.returned (.bool v)/\w=w':=by
  subst hv
  rcases(show r=45\/r=46\/(r≠45/\r≠46) by omega) with rfl|rfl|h
  · go_enter Tryz.func103,Tryz.ntmps103;go_wp2_with fail
    all_goals go_ret
    all_goals exact⟨rfl,rfl⟩
  · go_enter Tryz.func103,Tryz.ntmps103;go_wp2_with fail
    all_goals go_ret
    all_goals exact⟨rfl,rfl⟩
  · have e:mD r=true:=by simpa[mD] using h
    rw[e];have h1:((r:Int) != 45)=true:=by simp;omega
    have h2:((r:Int) != 46)=true:=by simp;omega
    clear h;go_enter Tryz.func103,Tryz.ntmps103;go_wp2_with fail
    all_goals go_ret
    all_goals exact⟨aS (by simp),rfl⟩
theorem PP (r:Nat):r<45\/r=45\/r=46\/r=47\/(48<=r/\r<=57)\/(58<=r/\r<=64)\/(65<=r/\r<=90)\/(91<=r/\r<=96)\/(97<=r/\r<=122)\/(123<=r/\r<=191)\/(192<=r/\r<=383)\/384<=r:=by omega
theorem iH (r:Nat)(v:Bool)(w:World)(hr:r<=1114111)(hv:okR r=v) :
    () 102 #[.int .i32 (r:Int)] w fun e w'=>e=.returned (.bool v)/\w=w':=by
  subst hv;have ok:∀ b,(b=decide ((97<=r/\r<=122)\/(65<=r/\r<=90)\/(48<=r/\r<=57)\/r=45\/r=46\/(192<=r/\r<=383)))->okR r=b:=fun b h=>h.symm
  rcases PP r with h|h|h|h|h|h|h|h|h|h|h|h
  all_goals
    first
    | (have e:okR r=true:=ok _ (by symm;rw[decide_eq_true_eq];omega)
       rw[e])
    | (have e:okR r=false:=ok _ (by symm;rw[decide_eq_false_iff_not];omega)
       rw[e])
    clear ok e
  · have h1:(r:Int)<45:=by omega
    have h8:((r:Int)==45)=false:=by simp;omega
    have h9:((r:Int)==46)=false:=by simp;omega
    clear h;go_enter Tryz.func102,Tryz.ntmps102;go_wp2_with fail;refine(dX _ false _ (by omega) (by simp[upR];omega)).mono ?_;rintro e w9 ⟨rfl,rfl⟩;go_wp2_with fail;go_ret;exact⟨aS (by simp;try omega),rfl⟩
  · subst h;go_enter Tryz.func102,Tryz.ntmps102;go_wp2_with fail;refine(dX _ false _ (by omega) (by simp[upR])).mono ?_;rintro e w9 ⟨rfl,rfl⟩;go_wp2_with fail;go_ret;exact⟨aS (by simp;try omega),rfl⟩
  · subst h;go_enter Tryz.func102,Tryz.ntmps102;go_wp2_with fail;refine(dX _ false _ (by omega) (by simp[upR])).mono ?_;rintro e w9 ⟨rfl,rfl⟩;go_wp2_with fail;go_ret;exact⟨aS (by simp;try omega),rfl⟩
  · subst h;go_enter Tryz.func102,Tryz.ntmps102;go_wp2_with fail;refine(dX _ false _ (by omega) (by simp[upR])).mono ?_;rintro e w9 ⟨rfl,rfl⟩;go_wp2_with fail;go_ret;exact⟨aS (by simp;try omega),rfl⟩
  · have h1:48<=(r:Int):=by omega
    have h2:(r:Int)<=57:=by omega
    have h8:((r:Int)==45)=false:=by simp;omega
    have h9:((r:Int)==46)=false:=by simp;omega
    clear h;go_enter Tryz.func102,Tryz.ntmps102;go_wp2_with fail;refine(dX _ false _ (by omega) (by simp[upR];omega)).mono ?_;rintro e w9 ⟨rfl,rfl⟩;go_wp2_with fail;go_ret;exact⟨aS (by simp;try omega),rfl⟩
  · have h1:57<(r:Int):=by omega
    have h2:(r:Int)<65:=by omega
    have h8:((r:Int)==45)=false:=by simp;omega
    have h9:((r:Int)==46)=false:=by simp;omega
    clear h;go_enter Tryz.func102,Tryz.ntmps102;go_wp2_with fail;refine(dX _ false _ (by omega) (by simp[upR];omega)).mono ?_;rintro e w9 ⟨rfl,rfl⟩;go_wp2_with fail;go_ret;exact⟨aS (by simp;try omega),rfl⟩
  · have h1:65<=(r:Int):=by omega
    have h2:(r:Int)<=90:=by omega
    have h8:((r:Int)==45)=false:=by simp;omega
    have h9:((r:Int)==46)=false:=by simp;omega
    clear h;go_enter Tryz.func102,Tryz.ntmps102;go_wp2_with fail;refine(dX _ true _ (by omega) (by simp[upR];omega)).mono ?_;rintro e w9 ⟨rfl,rfl⟩;go_wp2_with fail;go_ret;exact⟨aS (by simp;try omega),rfl⟩
  · have h1:90<(r:Int):=by omega
    have h2:(r:Int)<97:=by omega
    have h8:((r:Int)==45)=false:=by simp;omega
    have h9:((r:Int)==46)=false:=by simp;omega
    clear h;go_enter Tryz.func102,Tryz.ntmps102;go_wp2_with fail;refine(dX _ false _ (by omega) (by simp[upR];omega)).mono ?_;rintro e w9 ⟨rfl,rfl⟩;go_wp2_with fail;go_ret;exact⟨aS (by simp;try omega),rfl⟩
  · have h1:97<=(r:Int):=by omega
    have h2:(r:Int)<=122:=by omega
    have h8:((r:Int)==45)=false:=by simp;omega
    have h9:((r:Int)==46)=false:=by simp;omega
    clear h;go_enter Tryz.func102,Tryz.ntmps102;go_wp2_with fail;go_ret;exact⟨aS (by simp;try omega),rfl⟩
  · have h1:122<(r:Int):=by omega
    have h2:(r:Int)<192:=by omega
    have h8:((r:Int)==45)=false:=by simp;omega
    have h9:((r:Int)==46)=false:=by simp;omega
    clear h;go_enter Tryz.func102,Tryz.ntmps102;go_wp2_with fail;refine(dX _ false _ (by omega) (by simp[upR];omega)).mono ?_;rintro e w9 ⟨rfl,rfl⟩;go_wp2_with fail;go_ret;exact⟨aS (by simp;try omega),rfl⟩
  · have h1:192<=(r:Int):=by omega
    have h2:(r:Int)<=383:=by omega
    have h8:((r:Int)==45)=false:=by simp;omega
    have h9:((r:Int)==46)=false:=by simp;omega
    clear h;go_enter Tryz.func102,Tryz.ntmps102;go_wp2_with fail;refine(dX _ false _ (by omega) (by simp[upR];omega)).mono ?_;rintro e w9 ⟨rfl,rfl⟩;go_wp2_with fail;go_ret;exact⟨aS (by simp;try omega),rfl⟩
  · have h1:383<(r:Int):=by omega
    have h8:((r:Int)==45)=false:=by simp;omega
    have h9:((r:Int)==46)=false:=by simp;omega
    clear h;go_enter Tryz.func102,Tryz.ntmps102;go_wp2_with fail;refine(dX _ false _ (by omega) (by simp[upR];omega)).mono ?_;rintro e w9 ⟨rfl,rfl⟩;go_wp2_with fail;go_ret;exact⟨aS (by simp;try omega),rfl⟩
def rgo:List Nat->Nat->Nat->Option (Nat × Nat)
 | [],c,last=>some (c,last)
 | r::l,c,last=>if okR r=false\/(c=0/\mD r=false)\/(r=46/\last=46) then none else rgo l (c+1) r
def pO:Option (Nat × Nat)->Bool
 | none=>false
 | some (c,last)=>decide (c<=16)&&mD last
def cT (s:ByteArray):Bool:=decide (1<=s.size/\s.size<=32)&&pO (rgo (RS s 0) 0 0)
theorem wD (s:ByteArray)(h1:1<=s.size)(h2:s.size<=32):cT s=pO (rgo (RS s 0) 0 0):=by
 unfold cT;simp[h1,h2]
theorem GT (s:ByteArray)(w:World)(h:s.size=0) :
  () 68 #[s] w fun e w'=>e=.returned (.bool false)/\Below w.heap.size w w':=by
 have he:s.toList=[]:=JT s h;have h2:s.toList.isEmpty=true:=by rw[he];rfl
 clear h;go_enter Tryz.func68,Tryz.ntmps68;go_wp2_with fail;go_ret;exact⟨rfl,Br⟩
theorem GU (s:ByteArray)(w:World)(h:32<s.size)(hs:s.size<=140737488351232) :
  () 68 #[s] w fun e w'=>e=.returned (.bool false)/\Below w.heap.size w w':=by
 have he:s.toList.isEmpty=false:=jG s (by omega);have hl:(32:Int)<(s.size:Int):=by omega
 clear h;go_enter Tryz.func68,Tryz.ntmps68;go_wp2_with fail;go_ret;exact⟨rfl,Br⟩
theorem GS (s:ByteArray)(v:Bool)(w:World)(h1:1<=s.size)(h2:s.size<=32)(hv:pO (rgo (RS s 0) 0 0)=v) :
  () 68 #[s] w fun e w'=>e=.returned (.bool v)/\Below w.heap.size w w':=by
 have he:s.toList.isEmpty=false:=jG s (by omega);have hl:¬ (32:Int)<(s.size:Int):=by omega
 have HV:=Hd hv;clear hv;go_enter Tryz.func68,Tryz.ntmps68;go_wp2_with fail
 go_loopw [3,4,16] (fun c t _ wr=>∃ (k n r:Nat),k<=s.size/\c=.int .i64 (n:Int)/\t=.int .i32 (r:Int)/\n<=k/\r<=1114111/\Hid (pO (rgo (RS s k) n r)=v)/\wr.heap[w.heap.size]?=some (.stringIter s k)/\Below w.heap.size w wr) (fun _ _ _ wr=>s.size-wr.iterPos w.heap.size)
 case atStart=>exact⟨0,0,0,by omega,rfl,rfl,by omega,by omega,HV,World.iter_heap _ _ _,Br.alloc (Nat.le_refl _) _⟩
 case round=>
  obtain⟨k,n,r,hk,rfl,rfl,hn,hr,hg,hit,hbw⟩:=hrel;have IT:=Hd hit
  by_cases hlt:k<s.size
  ·have hnext:=fun ty=>wN wr w.heap.size s k ty IT hlt
   have hit2:=Hd (Lib.iterAt_heap wr w.heap.size s k (k+sW s k) IT.o);have hbw2:Below w.heap.size w (wr.iterAt w.heap.size s (k+sW s k)):=Lib.below_iterAt hbw (Nat.le_refl _) s _;have hW:=aDM s k hlt;have hW1:=VW s k;have IP:=Hd (iterPos_of IT.o);have IQ:=Hd (iterPos_of hit2.o);have hst:=MV s k hlt;have hx:=aDN s k;generalize sR s k=x at *;have hg2:=hg.o;rw[hst,rgo] at hg2;clear hit hst hg
   by_cases hbad:okR x=false
   ·rw[if_pos (.inl hbad)] at hg2
    have HG:=Hd hg2;have HB:=Hd hbad;clear hg2 hbad;go_wp2_with fail;refine(iH _ false _ hx HB.o).mono ?_;rintro e w9 ⟨rfl,rfl⟩;go_wp2_with fail;go_ret;exact⟨aS HG.o,hbw2⟩
   ·have hok:okR x=true:=by simpa using hbad
    have HO:=Hd hok;clear hbad
    by_cases h0:n=0
    ·subst h0
     by_cases hed:mD x=false
     ·rw[if_pos (.inr (.inl ⟨rfl,hed⟩))] at hg2
      have HG:=Hd hg2;have HE:=Hd hed;clear hg2 hed hok;go_wp2_with fail;refine(iH _ true _ hx HO.o).mono ?_;rintro e w9 ⟨rfl,rfl⟩;go_wp2_with fail;refine(yS _ false _ hx HE.o).mono ?_;rintro e w9 ⟨rfl,rfl⟩;go_wp2_with fail;go_ret;exact⟨aS HG.o,hbw2⟩
     ·have hed2:mD x=true:=by simpa using hed
      have hx2:x≠46:=by intro e;subst e;simp[mD] at hed2
      rw[if_neg (by rintro(h|⟨_,h⟩|⟨h,_⟩);rw[hok] at h;cases h;exact hed h;exact hx2 h)] at hg2;have HG:=Hd hg2;have HE:=Hd hed2;have hq:((x:Int)==46)=false:=by simp;omega
      clear hg2 hed hed2 hok hx2;go_wp2_with fail;refine(iH _ true _ hx HO.o).mono ?_;rintro e w9 ⟨rfl,rfl⟩;go_wp2_with fail;refine(yS _ true _ hx HE.o).mono ?_;rintro e w9 ⟨rfl,rfl⟩;go_wp2_with fail;go_roundw
      case rel=>exact⟨k+sW s k,1,x,hW,by go_num,rfl,by omega,hx,HG,hit2.o,hbw2⟩
      case measure=>rw[IP.o,IQ.o];omega
    ·have hn0:((n:Int)==0)=false:=by simp;omega
     have hnp:0<(n:Int):=by omega
     by_cases hx2:x=46
     ·subst hx2
      by_cases hr2:r=46
      ·subst hr2
       rw[if_pos (.inr (.inr ⟨rfl,rfl⟩))] at hg2;have HG:=Hd hg2;clear hg2 hok;go_wp2_with fail;refine(iH 46 true _ (by omega) HO.o).mono ?_;rintro e w9 ⟨rfl,rfl⟩;go_wp2_with fail;go_ret;exact⟨aS HG.o,hbw2⟩
      ·rw[if_neg (by rintro(h|⟨h,_⟩|⟨_,h⟩);rw[hok] at h;cases h;exact h0 h;exact hr2 h)] at hg2
       have HG:=Hd hg2;have hq:((r:Int)==46)=false:=by simp;omega
       clear hg2 hok hr2 h0;go_wp2_with fail;refine(iH 46 true _ (by omega) HO.o).mono ?_;rintro e w9 ⟨rfl,rfl⟩;go_wp2_with fail;go_roundw
       case rel=>exact⟨k+sW s k,n+1,46,hW,by go_num,rfl,by omega,by omega,HG,hit2.o,hbw2⟩
       case measure=>rw[IP.o,IQ.o];omega
     ·rw[if_neg (by rintro(h|⟨h,_⟩|⟨h,_⟩);rw[hok] at h;cases h;exact h0 h;exact hx2 h)] at hg2
      have HG:=Hd hg2;have hq:((x:Int)==46)=false:=by simp;omega
      clear hg2 hok hx2 h0;go_wp2_with fail;refine(iH _ true _ hx HO.o).mono ?_;rintro e w9 ⟨rfl,rfl⟩;go_wp2_with fail;go_roundw
      case rel=>exact⟨k+sW s k,n+1,x,hW,by go_num,rfl,by omega,hx,HG,hit2.o,hbw2⟩
      case measure=>rw[IP.o,IQ.o];omega
  ·have hend:=fun ty=>Lib.run_next_end_at (P:=Tryz.prog) wr w.heap.size s k ty IT (by omega)
   have hg2:=hg.o;rw[aAH s k (by omega),rgo,pO] at hg2;clear hit hg
   by_cases hc:n<=16
   ·have hc':(n:Int)<=16:=by omega
    have HG:Hid (mD r=v):=Hd (by simpa[hc] using hg2);clear hg2;go_wp2_with fail;refine(yS _ v _ hr HG.o).mono ?_;rintro e w9 ⟨rfl,rfl⟩;go_wp2_with fail;go_ret;exact⟨rfl,hbw⟩
   ·have hc':¬ (n:Int)<=16:=by omega
    have HG:Hid (false=v):=Hd (by simpa[hc] using hg2);clear hg2;go_wp2_with fail;go_ret;exact⟨aS HG.o,hbw⟩
theorem wC (s:ByteArray)(w:World)(hs:s.size<=140737488351232) :
  () 68 #[s] w fun e w'=>e=.returned (.bool (cT s))/\Below w.heap.size w w':=by
 by_cases h1:1<=s.size
 ·by_cases h2:s.size<=32
  ·exact GS s _ w h1 h2 (wD s h1 h2).symm
  ·have e:cT s=false:=by unfold cT;simp;omega
   rw[e];exact GU s w (by omega) hs
 ·have e:cT s=false:=by unfold cT;simp;omega
  rw[e];exact GT s w (by omega)
def dV (r:Nat):Nat:=if 65<=r/\r<=90 then r+32 else r
def kT (c:UInt8):UInt8:=UInt8.ofNat (dV c.toNat)
theorem aB2 (r:Nat)(h:upR r=true):dV r=r+32:=by unfold upR at h;simp at h;unfold dV;rw[if_pos h]
theorem aB3 (r:Nat)(h:upR r=false):dV r=r:=by unfold upR at h;simp at h;unfold dV;rw[if_neg (by omega)]
theorem iD (c:UInt8):(kT c).toNat=dV c.toNat:=by
 unfold kT;rw[UInt8.toNat_ofNat',Nat.mod_eq_of_lt];have:=c.toNat_lt;unfold dV;split <;> omega
theorem oS (c:UInt8)(h:128<=c.toNat):kT c=c:=by
 apply UInt8.toNat_inj.1;rw[iD];unfold dV;rw[if_neg (by omega)]
theorem RH (l:List UInt8):∀ (a:List UInt8),(∀ r∈rs l,okR r=true)->((rs l).map fun(r:Nat)=>((dV r:Nat):Int)).foldl (fun b n=>b++Utf8.encode n) (Str a)=Str (a++l.map kT):=by
 induction l using wB with
 | h0=>intro a _;simp[WA]
 | h1 l hne ih=>
  intro a hok;have hs:=nQ l hne;rw[hs] at hok |-;have h0:=hok (dR l) (by simp);have hr:∀ r∈rs (l.drop (dW l)),okR r=true:=fun r hr=>hok r (by simp[hr])
  have hb:=GJ l hne;have e:l.map kT=(l.take (dW l)).map kT++(l.drop (dW l)).map kT:=by rw[<-List.map_append,List.take_append_drop]
  have key:(Utf8.encode ((dV (dR l):Nat):Int))=Str ((l.take (dW l)).map kT):=by
   rcases hb with⟨h1,h2,h3,h4⟩|⟨h1,h2⟩
   ·have hlow:dV (dR l)<128:=by unfold dV;split <;> omega
    rw[yR _ hlow,h2,h3]
    congr 1
    simp only[List.map_cons,List.map_nil];unfold kT;rw[UInt8.toNat_ofNat',Nat.mod_eq_of_lt (by omega)]
   ·have hx:dR l<2048:=by unfold okR at h0;simp at h0;omega
    have hlow:dV (dR l)=dR l:=by unfold dV;rw[if_neg (by omega)]
    rw[hlow];apply aJ;rw[OA l hne h1 hx,aX]
    symm
    calc (l.take (dW l)).map kT=(l.take (dW l)).map id:=List.map_congr_left (fun c hc=>oS c (h2 c hc))
     _=l.take (dW l):=by simp
  rw[List.map_cons,List.foldl_cons,key,pA,aX,ih _ hr,e,List.append_assoc]
def gM (s:ByteArray):ByteArray:=if cT s=true then Str (s.data.toList.map kT) else⟨#[]⟩
theorem WE (L:List Nat)(c t:Nat)(h:pO (rgo L c t)=true):∀ r∈L,okR r=true:=by
 induction L generalizing c t with
 | nil=>simp
 | cons x L ih=>
  rw[rgo] at h
  split at h
  ·simp[pO] at h
  ·rename_i hn
   intro r hr
   rcases List.mem_cons.1 hr with rfl|hr
   ·cases ho:okR r with
    | true=>rfl
    | false=>exact absurd (.inl ho) hn
   ·exact ih _ _ h r hr
theorem nS (s:ByteArray)(h:cT s=true):s.size<=32/\1<=s.size/\pO (rgo (RS s 0) 0 0)=true:=by
 unfold cT at h;rw[Bool.and_eq_true,decide_eq_true_eq] at h;exact⟨h.1.2,h.1.1,h.2⟩
theorem JN (s:ByteArray)(h:cT s=true):runesBytes ((RS s 0).map fun(r:Nat)=>((dV r:Nat):Int))=Str (s.data.toList.map kT):=by
 have:=RH s.data.toList [] (WE _ _ _ (nS s h).2.2);rw[List.nil_append] at this;exact this
theorem CR:(Tryz.prog.info? 21).map (fun i=>(i.zero,i.size,i.bytes))=some (some (.int .i32 0),1,4):=by kernel_rfl
theorem aD8 (w:World):(Instr.makeSlice 109 (.int .i64 0) (.int .i64 16)).run Tryz.prog w=.ok (.slice (some ⟨w.heap.size,0,none⟩) 0 16) (w.alloc (.cells (madeCells (Value.int .i32 0).cells 16) 21)):=by
 obtain⟨i0,hi,hz0,hz1,hz2⟩:=info_parts CR;have:=run_make (P:=Tryz.prog) w 109 21 i0 (.int .i32 0) Tryz.underlying109 hi hz0 .i64 .i64 0 16 (by omega) (by omega) (by rw[hz2];omega) (by omega);rw[this,hz1]
 rfl
theorem aCK (s:ByteArray)(w:World)(hs:s.size<=140737488351232)(h:cT s=false) :
  () 25 #[s] w fun e w'=>e=.returned (.tuple #[.string ⟨#[]⟩,false])/\Below w.heap.size w w':=by
 have H:=Hd h;clear h;go_enter Tryz.func25,Tryz.ntmps25;go_wp2_with fail;refine(wC _ _ hs).mono ?_;rw[H.o];rintro e w1 ⟨rfl,bb⟩;go_wp2_with fail;go_ret2;exact⟨rfl,bb⟩
theorem YX (s:ByteArray)(w:World)(h:cT s=true) :
  () 25 #[s] w fun e w'=>e=.returned (.tuple #[.string (Str (s.data.toList.map kT)),true])/\Below w.heap.size w w':=by
 have hs:=(nS s h).1;have FB:=Hd (JN s h);generalize Str (s.data.toList.map kT)=out at *;have H:=Hd h;clear h;obtain⟨i0,hi,hz0,hz1,hz2⟩:=info_parts CR;have hmk:=aD8;go_enter Tryz.func25,Tryz.ntmps25;go_wp2_with fail;refine(wC _ _ (by omega)).mono ?_;rw[H.o];rintro e w1 ⟨rfl,bb⟩;have hM:=Hd (World.ownsRow_made (base:=w1.heap.size) (size:=1) (e:=21) w1 (madeCells (Value.int .i32 0).cells 16) 16 (Nat.le_refl _) (by unfold maxLen;omega) (by rw[size_madeCells]));go_wp2_with fail
 go_loopw [4,6,13] (fun v _ _ wr=>∃ (k:Nat) (L:List Nat),k<=s.size/\L.length<=k/\Hid (L++(RS s k).map dV=(RS s 0).map dV)/\wr.ownsRow w1.heap.size 21 1 v L.length (L.map fun n=>.int .i32 ((n:Nat):Int))/\wr.heap[w1.heap.size+1]?=some (.stringIter s k)/\Below w1.heap.size w1 wr) (fun _ _ _ wr=>s.size-wr.iterPos (w1.heap.size+1))
 case atStart=>
  have h1:=World.iter_heap (w1.alloc (.cells (madeCells #[.int .i32 0] 16) 21)) s 0;rw[show(w1.alloc (.cells (madeCells #[.int .i32 0] 16) 21)).heap.size=w1.heap.size+1 by simp] at h1;exact⟨0,[],by omega,Nat.le_refl _,Hd rfl,hM.alloc _,h1,(Br.alloc (Nat.le_refl _) _).alloc (by simp) _⟩
 case round=>
  obtain⟨k,L,hk,hL,hA,hown,hit,hbw⟩:=hrel;have IT:=Hd hit;have hsz:w1.heap.size+1<wr.heap.size:=(zl hit);clear hit
  by_cases hlt:k<s.size
  ·have hnext:=fun ty=>wN wr (w1.heap.size+1) s k ty IT hlt
   have it2:=Hd (Lib.iterAt_heap wr (w1.heap.size+1) s k (k+sW s k) IT.o);have hown2:=IH hown IT (k+sW s k);have hbw2:Below w1.heap.size w1 (wr.iterAt (w1.heap.size+1) s (k+sW s k)):=Lib.below_iterAt hbw (by omega) s _;have hsz2:w1.heap.size+1<(wr.iterAt (w1.heap.size+1) s (k+sW s k)).heap.size:=by rw[Lib.iterAt_size];exact hsz
   have IP:=Hd (iterPos_of IT.o);have hW:=aDM s k hlt;have hW1:=VW s k;have hst:=MV s k hlt;have hx:=aDN s k;generalize sR s k=x at *;have NX:Hid (L++[dV x]++(RS s (k+sW s k)).map dV=(RS s 0).map dV):=Hd (by have:=hA.o;rw[hst,List.map_cons] at this;rw[<-this];simp);generalize sW s k=y at *;clear hown hbw hst;have OWN:=Hd hown2;clear hown2;generalize hg:wr.iterAt (w1.heap.size+1) s (k+y)=wi at *;have G:=Hd hg;clear hg
   have fin:∀ (v':Value) (w':World),w'.ownsRow w1.heap.size 21 1 v' (L.length+1) ((L.map fun n=>Value.int .i32 ((n:Nat):Int))++[.int .i32 ((dV x:Nat):Int)])->Hid (w'.ownsRow w1.heap.size 21 1 v' (L++[dV x]).length ((L++[dV x]).map fun n=>.int .i32 ((n:Nat):Int))):=fun v' w' h=>Hd (by simpa using h)
   have FIN:=Hd fin;clear fin
   rcases Bool.eq_false_or_eq_true (upR x) with hu|hu
   ·have hlow:=aB2 x hu
    have hxle:x<=90:=by unfold upR at hu;simp at hu;omega
    rw[hlow] at NX FIN;have HU:=Hd hu;clear hu hlow;go_wp2_with fail;refine(dX _ true _ hx HU.o).mono ?_;rintro e w9 ⟨rfl,rfl⟩
    go_wp2_with (at_builtin;refine wpList_append_own _ rfl _ _ 109 rfl w1.heap.size 21 i0 (.int .i32 0) 1 4 Tryz.underlying109 hi hz0 hz1 hz2 rfl (by decide) _ _ _ rfl (OWN.alloc _) ⟨wi.heap.size,0,none⟩ 1 1 [.int .i32 ((x:Int)+32)] rfl rfl ?c1 ?c2 ?c3 ?c4 ?c5 ?_)
    case c1=>
     intro j u hj
     match j,hj with
     | 0,hj=>simp at hj;subst hj;simp[Addr.add]
    case c2=>intro u hu;simp at hu;subst hu;rfl
    case c3=>unfold maxLen;omega
    case c4=>omega
    case c5=>simp;omega
    ·intro v' w' hown' hgrow _
     have R:=FIN v' w' (by simpa using hown');have hb2:Below w1.heap.size w1 w':=(hbw2.alloc (by omega) _).grown hgrow (by simp;omega) (fun g hg=>(OWN.lt g hg).1)
     have it3:Hid (w'.heap[w1.heap.size+1]?=some (.stringIter s (k+y))):=
      wU (OWN.alloc _) hgrow ((Below.heap_alloc wi _ _ hsz2).trans it2.o)
     clear hown' hgrow hbw2;go_wp2_with fail;go_roundw
     case rel=>exact⟨k+y,L++[x+32],hW,by simp;omega,NX,R.o,it3.o,hb2⟩
     case measure=>rw[IP.o,iterPos_of it3.o];omega
   ·have hlow:=aB3 x hu
    rw[hlow] at NX FIN;have HU:=Hd hu;clear hu hlow;go_wp2_with fail;refine(dX _ false _ hx HU.o).mono ?_;rintro e w9 ⟨rfl,rfl⟩
    go_wp2_with (at_builtin;refine wpList_append_own _ rfl _ _ 109 rfl w1.heap.size 21 i0 (.int .i32 0) 1 4 Tryz.underlying109 hi hz0 hz1 hz2 rfl (by decide) _ _ _ rfl (OWN.alloc _) ⟨wi.heap.size,0,none⟩ 1 1 [.int .i32 (x:Int)] rfl rfl ?c1 ?c2 ?c3 ?c4 ?c5 ?_)
    case c1=>
     intro j u hj
     match j,hj with
     | 0,hj=>simp at hj;subst hj;simp[Addr.add]
    case c2=>intro u hu;simp at hu;subst hu;rfl
    case c3=>unfold maxLen;omega
    case c4=>omega
    case c5=>simp;omega
    ·intro v' w' hown' hgrow _
     have R:=FIN v' w' (by simpa using hown');have hb2:Below w1.heap.size w1 w':=(hbw2.alloc (by omega) _).grown hgrow (by simp;omega) (fun g hg=>(OWN.lt g hg).1)
     have it3:Hid (w'.heap[w1.heap.size+1]?=some (.stringIter s (k+y))):=
      wU (OWN.alloc _) hgrow ((Below.heap_alloc wi _ _ hsz2).trans it2.o)
     clear hown' hgrow hbw2;go_wp2_with fail;go_roundw
     case rel=>exact⟨k+y,L++[x],hW,by simp;omega,NX,R.o,it3.o,hb2⟩
     case measure=>rw[IP.o,iterPos_of it3.o];omega
  ·have hconv:=uO (L.map fun(n:Nat)=>(n:Int)) (w:=wr) (base:=w1.heap.size) (n:=L.length) (by
    rw[List.map_map];exact hown)
   have e:L.map (fun(n:Nat)=>(n:Int))=(RS s 0).map fun(r:Nat)=>((dV r:Nat):Int):=by
    have:=hA.o;rw[aAH s k (by omega)] at this;simp only[List.map_nil,List.append_nil] at this;rw[this,List.map_map]
    rfl
   rw[e,FB.o] at hconv;have hend:=fun ty=>Lib.run_next_end_at (P:=Tryz.prog) wr (w1.heap.size+1) s k ty IT (by omega)
   have OW:=Hd hown;clear hown e;go_wp2_with fail;go_ret2;exact⟨rfl,chain bb hbw⟩
theorem uF (s:ByteArray)(w:World)(hs:s.size<=140737488351232) :
  () 25 #[s] w fun e w'=>e=.returned (.tuple #[.string (gM s),.bool (cT s)])/\Below w.heap.size w w':=by
 cases h:cT s
 ·have e:gM s=⟨#[]⟩:=by unfold gM;rw[h];rfl
  rw[e];exact aCK s w hs h
 ·have e:gM s=Str (s.data.toList.map kT):=by unfold gM;rw[h];rfl
  rw[e];exact YX s w h
theorem DQ (n b0 b1 b2 b3:Nat)(h0:b0 / 32=6)(hn:1<n)(h1:b1 / 64=2)(hv:128<=b0 % 32*64+b1 % 64):Lib.decodeN n b0 b1 b2 b3=(b0 % 32*64+b1 % 64,2):=by
 unfold Lib.decodeN;rw[if_neg (by omega),if_pos ⟨h0,hn,h1⟩,if_pos hv]
def UM (a b:UInt8):Nat:=a.toNat % 32*64+b.toNat % 64
theorem VZ (c:UInt8)(t:List UInt8)(h:c.toNat<128):rs (c::t)=c.toNat::rs t:=by
 have hd:Lib.decodeL (c::t)=(c.toNat,1):=by
  rw[Lib.decodeL_N];exact Lib.decodeN_ascii _ _ _ _ _ h
 rw[nQ _ (by simp)];unfold dR dW;rw[hd]
 rfl
theorem VY (a b:UInt8)(t:List UInt8)(h0:a.toNat / 32=6)(h1:b.toNat / 64=2)(hv:128<=UM a b):rs (a::b::t)=UM a b::rs t:=by
 have hd:Lib.decodeL (a::b::t)=(UM a b,2):=by
  rw[Lib.decodeL_N];exact DQ _ _ _ _ _ h0 (by simp) h1 hv
 rw[nQ _ (by simp)];unfold dR dW;rw[hd]
 rfl
theorem JG (l:List UInt8)(hne:l≠[])(h:dR l<2048):(∃ c t,l=c::t/\c.toNat<128/\dR l=c.toNat/\dW l=1)\/(∃ a b t,l=a::b::t/\a.toNat / 32=6/\b.toNat / 64=2/\128<=UM a b/\dR l=UM a b/\dW l=2):=by
 have hl:0<l.length:=List.length_pos_iff.2 hne;unfold dR dW at *;rw[Lib.decodeL_N] at *
 rcases Lib.decodeN_shape l.length (l.getD 0 0).toNat (l.getD 1 0).toNat (l.getD 2 0).toNat (l.getD 3 0).toNat with⟨c,e⟩|⟨c1,c2,c3,cv,e⟩|⟨c1,c2,c3,c4,cv,cs,e⟩|⟨c1,c2,c3,c4,c5,cv,cw,e⟩|e
 ·left
  match l,hl with
  | x::t,_=>exact⟨x,t,rfl,c,by rw[e];rfl,by rw[e]⟩
 ·right
  match l,c2 with
  | x::y::t,_=>exact⟨x,y,t,rfl,c1,c3,cv,by rw[e];rfl,by rw[e]⟩
 ·rw[e] at h;simp only at h;omega
 ·rw[e] at h;simp only at h;omega
 ·rw[e] at h;simp only at h;omega
theorem XT (r:Nat)(h:okR r=true):r<2048:=by unfold okR at h;simp at h;omega
theorem aD1 (l:List UInt8):(∀ r∈rs l,okR r=true)->rs (l.map kT)=(rs l).map dV:=by
 induction l using wB with
 | h0=>intro _;rfl
 | h1 l hne ih=>
  intro hok;have hs:=nQ l hne;rw[hs] at hok;have h0:=XT _ (hok (dR l) (by simp));have hr:∀ r∈rs (l.drop (dW l)),okR r=true:=fun r hr=>hok r (by simp[hr])
  have ih2:=ih hr
  rcases JG l hne h0 with⟨c,t,rfl,hc,e1,e2⟩|⟨a,b,t,rfl,ha,hb,hv,e1,e2⟩
  ·rw[e2] at ih2
   simp only[List.drop_succ_cons,List.drop_zero] at ih2;rw[List.map_cons,VZ _ _ (by rw[iD];unfold dV;split <;> omega),VZ _ _ hc,ih2,iD]
   rfl
  ·rw[e2] at ih2
   simp only[List.drop_succ_cons,List.drop_zero] at ih2;have la:kT a=a:=oS a (by omega);have lb:kT b=b:=oS b (by omega);rw[List.map_cons,List.map_cons,la,lb,VY _ _ _ ha hb hv,VY _ _ _ ha hb hv,ih2,List.map_cons]
   congr 1
   unfold dV;rw[if_neg (by omega)]
theorem aD7 (r:Nat):okR (dV r)=okR r:=by
 unfold okR dV;rw[decide_eq_decide]
 split <;> omega
theorem DK (r:Nat):mD (dV r)=mD r:=by
 unfold mD dV;rw[decide_eq_decide]
 split <;> omega
theorem QI (r:Nat):dV r=46 ↔ r=46:=by unfold dV;split <;> omega
theorem aB1 (r:Nat):dV (dV r)=dV r:=by
 unfold dV
 split
 ·rw[if_neg (by omega)]
 ·rfl
theorem aBB (L:List Nat)(c t:Nat):pO (rgo (L.map dV) c (dV t))=pO (rgo L c t):=by
 induction L generalizing c t with
 | nil=>simp only[List.map_nil,rgo,pO,DK]
 | cons r L ih=>
  simp only[List.map_cons,rgo,aD7,DK,QI]
  split
  ·rfl
  ·exact ih (c+1) r
theorem aBC (L:List Nat)(c t:Nat)(h:pO (rgo L c t)=true):c+L.length<=16:=by
 induction L generalizing c t with
 | nil=>simp[rgo,pO] at h;simp;omega
 | cons r L ih=>
  rw[rgo] at h
  split at h
  ·simp[pO] at h
  ·have:=ih _ _ h
   simp;omega
theorem aE7 (l:List UInt8):RS (Str l) 0=rs l:=by unfold RS;rw[aX,List.drop_zero]
theorem MU (s:ByteArray):RS s 0=rs s.data.toList:=by unfold RS;rw[List.drop_zero]
theorem SJ (s:ByteArray)(h:cT s=true):gM s=Str (s.data.toList.map kT):=by unfold gM;rw[h];rfl
theorem aDE (l:List UInt8)(j:Nat)(h:j<(Str l).size):(Str l)[j]'h=l[j]'(by rwa [cK] at h):=by simp[Str,ByteArray.getElem_eq_getElem_data]
structure aFC (s f:ByteArray):Prop where
 right:cT f=true
 again:gM f=f
 size:f.size=s.size
 runes:(RS f 0).length=(RS s 0).length
 most:(RS f 0).length<=16
 least:1<=(RS f 0).length
 small:∀ j (h:j<f.size),(f[j]'h).toNat<65\/90<(f[j]'h).toNat
theorem YW (s:ByteArray)(h:cT s=true):aFC s (gM s):=by
 have⟨h1,h2,h3⟩:=nS s h;have hok:=WE _ _ _ h3;rw[MU] at hok h3;have e:gM s=Str (s.data.toList.map kT):=by unfold gM;rw[h];rfl
 have er:RS (gM s) 0=(rs s.data.toList).map dV:=by rw[e,aE7,aD1 _ hok]
 have es:(gM s).size=s.size:=by rw[e,cK,List.length_map,bZ]
 have hr:cT (gM s)=true:=by
  rw[wD _ (by omega) (by omega),er];have:=aBB (rs s.data.toList) 0 0;rw[show dV 0=0 from rfl] at this;rw[this];exact h3
 refine⟨hr,?_,es,by rw[er,List.length_map,MU],?_,?_,?_⟩
 ·rw[SJ _ hr,e,aX,List.map_map]
  congr 1
  apply List.map_congr_left;intro c _;apply UInt8.toNat_inj.1;simp only[Function.comp];rw[iD,iD,aB1]
 ·rw[er,List.length_map]
  have:=aBC _ _ _ h3;omega
 ·rw[er,List.length_map]
  have:s.data.toList≠[]:=by
   intro h0;have:=bZ s;rw[h0] at this;simp at this;omega
  rw[nQ _ this];simp
 ·rw[e]
  intro j hj;have hj':j<s.data.toList.length:=by rw[cK,List.length_map] at hj;exact hj
  rw[aDE,List.getElem_map,iD];unfold dV
  split <;> omega
def inB (lo hi n:Int):Bool:=decide (lo<=n)&&decide (n<=hi)
theorem iL {lo hi n:Int}:inB lo hi n=true ↔ lo<=n/\n<=hi:=by simp[inB]
theorem qR (n lo hi:Int)(v:Bool)(w:World)(hv:inB lo hi n=v) :
  () 240 #[n,lo,hi] w fun e w'=>e=.returned (.bool v)/\w=w':=by
 have H:=Hd hv;clear hv
 by_cases h:lo<=n
 all_goals
  go_enter Tryz.func240,Tryz.ntmps240
  go_wp2
  go_ret;refine⟨?_,rfl⟩;rw[<-H.o];exact aS (by rw[Bool.eq_iff_iff];simp[inB];omega)
theorem ME (n:Int)(v:Bool)(w:World)(hv:inB 1 16777215 n=v) :
  () 239 #[n] w fun e w'=>e=.returned (.bool v)/\w=w':=by
 have H:=Hd hv;clear hv;go_enter Tryz.func239,Tryz.ntmps239;go_wp2_with fail;refine(qR _ _ _ v _ H.o).mono ?_;rintro e w1 ⟨rfl,rfl⟩;go_wp2_with fail;go_ret;exact⟨rfl,rfl⟩
theorem tT (n size:Int)(w:World)(h0:0<=n)(h1:n<=9223372036854775807) :
  () 131 #[n,size] w fun e w'=>e=.returned (.string (Str (aK n size)))/\Below w.heap.size w w':=by
 go_enter Tryz.func131,Tryz.ntmps131;go_wp2_with fail;refine(lL _ _ _ (by omega)).mono ?_;rintro e w1 ⟨rfl,b1⟩;go_wp2_with fail;go_ret;exact⟨rfl,b1⟩
def capZ:Value:=.agg #[(0:Int),(0:Int),(0:Int),(0:Int),(0:Int),(0:Int),(0:Int),(0:Int),(0:Int),false]
theorem MB {S:World->Prop}{w1 a b:World}(C:∀ w',Below w1.heap.size w1 w'->S w')(h:Below w1.heap.size w1 a/\S a)(k:Below a.heap.size a b):Below w1.heap.size w1 b/\S b:=
 ⟨chain h.1 k,C _ (chain h.1 k)⟩
theorem wI (n size:Int)(h:size<=8):(Str (aK n size)).size<=8:=by
 rw[cK];unfold aK;split
 ·rw[M.be_length];omega
 ·simp
def FB (w:World)(g:Nat)(s:ByteArray):Prop:=w.heap[g]?=some (.cells #[s] 149)
theorem FB.lt {w:World}{g:Nat}{s:ByteArray}(h:FB w g s):g<w.heap.size:=(zl h)
theorem FB.below {w w':World}{g:Nat}{s:ByteArray}(h:FB w g s)(b:Below w.heap.size w w'):FB w' g s:=by
 have:=h.lt;unfold FB at h |-;rw[b.block g this];exact h
theorem FB.set {w:World}{g:Nat}{s:ByteArray}(h:FB w g s)(t:ByteArray):FB (w.setCell ⟨g,0,none⟩ (.string t)) g t:=by
 have:=Go.Joins.block_setCell (i:=0) h (.string t)
 simpa[FB] using this
theorem UE (g:Nat)(s:ByteArray)(size:Int)(w:World)(h:FB w g s) :
  () 125 #[g,size] w fun e w'=>e=.returned (.int .u64 (aT s size))/\FB w' g (aA s size)/\Below g w w':=by
 have c0:=cl h 0 rfl;have H:=Hd h;clear h;go_enter Tryz.func125,Tryz.ntmps125;go_wp2_with fail;refine(mI _ _ _).mono ?_;rintro e w1 ⟨rfl,b1⟩;have H1:=Hd (H.below b1);have c1:=cl H1 0 rfl;have f1:w1.frozen? ⟨g,0,none⟩=false:=ufb H1 0;have hb:=b1.mono (Nat.le_of_lt H.lt);clear b1;go_wp2_with fail;go_ret;exact⟨rfl,H1.set _,hb.setCell (Nat.le_refl _) _⟩
theorem AF (s:ByteArray)(size:Int)(h:size<=4):0<=aT s size/\aT s size<=4294967295:=by
 unfold aT
 split
 ·rename_i hk
  have hl:=M.val_lt (s.data.toList.take size.toNat);have:(s.data.toList.take size.toNat).length<=4:=by rw[List.length_take];omega
  have hp:256 ^ (s.data.toList.take size.toNat).length<=256 ^ 4:=Nat.pow_le_pow_right (by decide) this;have:M.val (s.data.toList.take size.toNat)<256 ^ 4:=Nat.lt_of_lt_of_le hl hp;omega
 ·omega
theorem gV (g:Nat)(s:ByteArray)(size:Int)(w:World)(h:FB w g s)(hz:size<=4) :
  () 107 #[g,size] w fun e w'=>e=.returned (.int .i64 (aT s size))/\FB w' g (aA s size)/\Below g w w':=by
 have hr:=AF s size hz;have H:=Hd (UE g s size w h);clear h;generalize aT s size=n at *;go_enter Tryz.func107,Tryz.ntmps107;go_wp2_with fail;refine H.mono ?_;rintro e w1 ⟨rfl,f1,b1⟩;go_wp2_with fail;go_ret;exact⟨rfl,f1,b1⟩
theorem bQ {P:Program}{fn:Func}{p u:Tmp}{ty:TypeId}(h:fn.results=#[.cell p ty,.tmp u])(tmps:Array Value)(w:World)(g:Nat)(t:TypeId)(cs:Array Value)(fr:Nat × Nat)(d:TypeDesc)(v:Value)
  (hp:tmps.getD p undef=.pointer (some ⟨g,0,none⟩))(hv:tmps.getD u undef=v)(hg:w.heap[g]?=some (.cells cs t fr))
  (hu:P.underlying ty=some d)(hd:(match d with|.struct _|.array _ _=>true|_=>false)=true)(hi:(P.info? ty).map (·.size)=some cs.size) :
  (results fn tmps).run P w=.ok (.tuple #[.agg cs,v]) w:=by
 rw[results_cell_tmp h,hp,hv];simp[asAddr,run_loadVar_row w g t ty cs fr d hg hu hd hi,Result.andThen]
def aA2 (w:World)(g:Nat)(i:Nat):List Value->World
 | []=>w
 | v::vs=>aA2 (w.setCell ⟨g,i,none⟩ v) g (i+1) vs
theorem qT (g:Nat)(t:TypeId)(fr:Nat × Nat):∀ (vs:List Value) (w:World) (i:Nat) (cs:Array Value),w.heap[g]?=some (.cells cs t fr)->i+vs.length=cs.size ->
  (aA2 w g i vs).heap[g]?=some (.cells (cs.toList.take i++vs).toArray t fr)
 | [],w,i,cs,h,hl=>by
  have:cs.toList.take i=cs.toList:=List.take_of_length_le (by simp at hl |-;omega);rw[this,List.append_nil];exact h
 | v::vs,w,i,cs,h,hl=>by
  have hi:i<cs.size:=by rw[List.length_cons] at hl;omega
  have:=qT g t fr vs (w.setCell ⟨g,i,none⟩ v) (i+1) (cs.setIfInBounds i v) (Go.Joins.block_setCell h v) (by rw[Array.size_setIfInBounds];rw[List.length_cons] at hl;omega);rw[aA2,this]
  have e:(cs.setIfInBounds i v).toList.take (i+1)=cs.toList.take i++[v]:=by
   rw[Array.toList_setIfInBounds,List.take_add_one,List.getElem?_set_self (by simpa using hi),List.take_set_of_le (Nat.le_refl _)]
   rfl
  rw[e,List.append_assoc];rfl
theorem oM {B:Nat}{w0:World}(g:Nat)(h:B<=g):∀ (vs:List Value) (w:World) (i:Nat),Below B w0 w->Below B w0 (aA2 w g i vs)
 | [],w,i,b=>b
 | v::vs,w,i,b=>oM g h vs _ _ (b.setCell h v)
def qQ (b:Bool):Int:=if b=true then 1 else 0
theorem sD (b:Bool):0<=qQ b/\qQ b<=9223372036854775807:=by cases b <;> decide
theorem nU {n:Int}:oG n n=true ↔ 0<=n/\n<=65535:=by
 have:oG n n=iC n:=by unfold oG;simp
 rw[this,iC,decide_eq_true_eq]
theorem aAL (b:Bool)(w:World) :
  () 132 #[b] w fun e w'=>e=.returned (.int .i64 (qQ b))/\w=w':=by
 cases b
 all_goals
  go_enter Tryz.func132,Tryz.ntmps132
  go_wp2
  go_ret;exact⟨rfl,rfl⟩
theorem VG (a b:Int)(v:Bool)(w:World)(hv:oG a b=v) :
  () 77 #[a,b] w fun e w'=>e=.returned (.bool v)/\w=w':=by
 subst hv;exact aAY a b w
def capOk (id:Int)(pa:Int)(ob:Int)(ow:Int)(ri:Int)(ba:Int)(de:Int)(ex:Int)(cu:Int):Bool:=inB 1 16777215 id&&inB 0 16777215 pa&&(pa != id)&&inB 1 16777215 ob&&inB 1 16777215 ow&&oG ri ri&&inB 0 4294967295 ba&&inB 1 8 de&&((pa==0)==(de==1))&&inB 0 268435455 ex&&inB 0 16777215 cu
theorem IM (id:Int)(pa:Int)(ob:Int)(ow:Int)(ri:Int)(ba:Int)(de:Int)(ex:Int)(cu:Int)(rv:Bool)(w:World):(method 217 123 (.agg #[id,pa,ob,ow,ri,ba,de,ex,cu,rv]) "bailiwick/rec.right").run Tryz.prog w=.ok (238,.agg #[id,pa,ob,ow,ri,ba,de,ex,cu,rv]) w:=by kernel_rfl
theorem EB (v:Value)(w:World):(Instr.typeAssert (.iface 123 v) 155 123 true).run Tryz.prog w=.ok (.tuple #[v,true]) w:=by kernel_rfl
theorem MZ (N:Int->Int->ByteArray)(x:ByteArray)(id:Int)(pa:Int)(ob:Int)(ow:Int)(ri:Int)(ba:Int)(de:Int)(ex:Int)(cu:Int)(rv:Bool)(w:World)(g0:0<=pa)(l0:pa<=9223372036854775807)(g1:0<=ob)(l1:ob<=9223372036854775807)(g2:0<=ow)(l2:ow<=9223372036854775807)(g3:0<=ri)(l3:ri<=9223372036854775807)(g4:0<=ba)(l4:ba<=9223372036854775807)(g5:0<=de)(l5:de<=9223372036854775807)(g6:0<=ex)(l6:ex<=9223372036854775807)(g7:0<=cu)(l7:cu<=9223372036854775807)
  (HN:Hid (∀ (n size:Int) (w:World),0<=n->n<=9223372036854775807->() 131 #[n,size] w fun e w'=>e=.returned (.string (N n size))/\Below w.heap.size w w'))(NS:Hid (∀ n size:Int,size<=8->(N n size).size<=8)) :
  () 115 #[.iface 123 (.agg #[id,pa,ob,ow,ri,ba,de,ex,cu,rv])] w fun e w'=>e=.returned (.string (N pa 3++N ob 3++N ow 3++N ri 2++N ba 4++N de 1++N ex 4++N cu 3++N (qQ rv) 1))/\Below w.heap.size w w':=by
 have q1:=EB (.agg #[id,pa,ob,ow,ri,ba,de,ex,cu,rv]);have z0:=NS pa 3 (by omega);have z1:=NS ob 3 (by omega);have z2:=NS ow 3 (by omega);have z3:=NS ri 2 (by omega);have z4:=NS ba 4 (by omega);have z5:=NS de 1 (by omega);have z6:=NS ex 4 (by omega);have z7:=NS cu 3 (by omega);have z8:=NS (qQ rv) 1 (by omega);have s1:(9223372036854775807<(N pa 3).size+(N ob 3).size)=False:=by rw[eq_iff_iff,iff_false];omega
 have s2:(9223372036854775807<(N pa 3).size+(N ob 3).size+(N ow 3).size)=False:=by rw[eq_iff_iff,iff_false];omega
 have s3:(9223372036854775807<(N pa 3).size+(N ob 3).size+(N ow 3).size+(N ri 2).size)=False:=by rw[eq_iff_iff,iff_false];omega
 have s4:(9223372036854775807<(N pa 3).size+(N ob 3).size+(N ow 3).size+(N ri 2).size+(N ba 4).size)=False:=by rw[eq_iff_iff,iff_false];omega
 have s5:(9223372036854775807<(N pa 3).size+(N ob 3).size+(N ow 3).size+(N ri 2).size+(N ba 4).size+(N de 1).size)=False:=by rw[eq_iff_iff,iff_false];omega
 have s6:(9223372036854775807<(N pa 3).size+(N ob 3).size+(N ow 3).size+(N ri 2).size+(N ba 4).size+(N de 1).size+(N ex 4).size)=False:=by rw[eq_iff_iff,iff_false];omega
 have s7:(9223372036854775807<(N pa 3).size+(N ob 3).size+(N ow 3).size+(N ri 2).size+(N ba 4).size+(N de 1).size+(N ex 4).size+(N cu 3).size)=False:=by rw[eq_iff_iff,iff_false];omega
 have s8:(9223372036854775807<(N pa 3).size+(N ob 3).size+(N ow 3).size+(N ri 2).size+(N ba 4).size+(N de 1).size+(N ex 4).size+(N cu 3).size+(N (qQ rv) 1).size)=False:=by rw[eq_iff_iff,iff_false];omega
 clear z0 z1 z2 z3 z4 z5 z6 z7 z8;go_enter Tryz.func115,Tryz.ntmps115;go_wp2_with fail;obtain⟨w1,hw1⟩:∃ w1,w.alloc (.cells #[id,pa,ob,ow,ri,ba,de,ex,cu,rv] 123)=w1:=⟨_,rfl⟩
 have hlt:w.heap.size<w1.heap.size:=by rw[<-hw1];simp
 have CC:Hid (∀ w',Below w1.heap.size w1 w'->w'.cell? ⟨w.heap.size,1,none⟩=some (.int .i64 pa)/\w'.cell? ⟨w.heap.size,2,none⟩=some (.int .i64 ob)/\w'.cell? ⟨w.heap.size,3,none⟩=some (.int .i64 ow)/\w'.cell? ⟨w.heap.size,4,none⟩=some (.int .i64 ri)/\w'.cell? ⟨w.heap.size,5,none⟩=some (.int .i64 ba)/\w'.cell? ⟨w.heap.size,6,none⟩=some (.int .i64 de)/\w'.cell? ⟨w.heap.size,7,none⟩=some (.int .i64 ex)/\w'.cell? ⟨w.heap.size,8,none⟩=some (.int .i64 cu)/\w'.cell? ⟨w.heap.size,9,none⟩=some (.bool rv)):=Hd fun w' h=>by
  refine⟨?_,?_,?_,?_,?_,?_,?_,?_,?_⟩
  all_goals
   rw[h.cell hlt,<-hw1];simp
 have bb:Below w.heap.size w w1:=by rw[<-hw1];exact Br.alloc (Nat.le_refl _) _
 rw[hw1];clear hw1 hlt q1;have B0:Below w1.heap.size w1 w1:=Br;have C0:=CC w1 B0
 go_region_held3 (fun w'=>Below w1.heap.size w1 w'/\w'.cell? ⟨w.heap.size,1,none⟩=some (.int .i64 pa)/\w'.cell? ⟨w.heap.size,2,none⟩=some (.int .i64 ob)/\w'.cell? ⟨w.heap.size,3,none⟩=some (.int .i64 ow)/\w'.cell? ⟨w.heap.size,4,none⟩=some (.int .i64 ri)/\w'.cell? ⟨w.heap.size,5,none⟩=some (.int .i64 ba)/\w'.cell? ⟨w.heap.size,6,none⟩=some (.int .i64 de)/\w'.cell? ⟨w.heap.size,7,none⟩=some (.int .i64 ex)/\w'.cell? ⟨w.heap.size,8,none⟩=some (.int .i64 cu)/\w'.cell? ⟨w.heap.size,9,none⟩=some (.bool rv)) (first|assumption|exact⟨B0.drew,CC _ B0.drew⟩|exact MB CC ⟨B0.drew,CC _ B0.drew⟩ b9|exact MB CC (by assumption) b9) ((first|(go_at_call 131;refine(HN _ _ _ (by first|omega|exact(sD _).1) (by first|omega|exact(sD _).2)).mono ?_;rintro e w9 ⟨rfl,b9⟩)|(go_at_call 132;refine(aAL _ _).mono ?_;rintro e w9 ⟨rfl,rfl⟩)))
 rename_i hH;go_wp2_with fail;go_ret;exact⟨rfl,chain bb hH.1⟩
def qL (pa:Int)(ob:Int)(ow:Int)(ri:Int)(ba:Int)(de:Int)(ex:Int)(cu:Int)(rv:Bool):ByteArray:=Str (aK pa 3)++Str (aK ob 3)++Str (aK ow 3)++Str (aK ri 2)++Str (aK ba 4)++Str (aK de 1)++Str (aK ex 4)++Str (aK cu 3)++Str (aK (qQ rv) 1)
theorem ZY {id:Int}{pa:Int}{ob:Int}{ow:Int}{ri:Int}{ba:Int}{de:Int}{ex:Int}{cu:Int}(h:capOk id pa ob ow ri ba de ex cu=true):(0<=pa/\pa<=9223372036854775807)/\(0<=ob/\ob<=9223372036854775807)/\(0<=ow/\ow<=9223372036854775807)/\(0<=ri/\ri<=9223372036854775807)/\(0<=ba/\ba<=9223372036854775807)/\(0<=de/\de<=9223372036854775807)/\(0<=ex/\ex<=9223372036854775807)/\(0<=cu/\cu<=9223372036854775807):=by
 unfold capOk at h;simp only[Bool.and_eq_true,iL,nU] at h;omega
theorem aDU (id:Int)(pa:Int)(ob:Int)(ow:Int)(ri:Int)(ba:Int)(de:Int)(ex:Int)(cu:Int)(rv:Bool)(w:World)(h:capOk id pa ob ow ri ba de ex cu=true) :
  () 115 #[.iface 123 (.agg #[id,pa,ob,ow,ri,ba,de,ex,cu,rv])] w fun e w'=>e=.returned (.string (qL pa ob ow ri ba de ex cu rv))/\Below w.heap.size w w':=by
 have hi:=ZY h;obtain⟨k0,k1,k2,k3,k4,k5,k6,k7⟩:=hi;exact MZ (fun n size=>Str (aK n size)) ⟨#[]⟩ id pa ob ow ri ba de ex cu rv w k0.1 k0.2 k1.1 k1.2 k2.1 k2.2 k3.1 k3.2 k4.1 k4.2 k5.1 k5.2 k6.1 k6.2 k7.1 k7.2 (Hd fun n size w h0 h1=>tT n size w h0 h1) (Hd fun n size h=>wI n size h)
def TW (id:Int)(pa:Int)(ob:Int)(ow:Int)(ri:Int)(ba:Int)(de:Int)(ex:Int)(cu:Int)(rv:Bool)(s:ByteArray):Bool:=capOk id pa ob ow ri ba de ex cu&&decide (qL pa ob ow ri ba de ex cu rv=s)
def vX (s:ByteArray):Int:=aT s 3
def vW (s:ByteArray):Int:=aT (aA s 3) 3
def vV (s:ByteArray):Int:=aT (aA (aA s 3) 3) 3
def vU (s:ByteArray):Int:=aT (aA (aA (aA s 3) 3) 3) 2
def vT (s:ByteArray):Int:=aT (aA (aA (aA (aA s 3) 3) 3) 2) 4
def vS (s:ByteArray):Int:=aT (aA (aA (aA (aA (aA s 3) 3) 3) 2) 4) 1
def vR (s:ByteArray):Int:=aT (aA (aA (aA (aA (aA (aA s 3) 3) 3) 2) 4) 1) 4
def vQ (s:ByteArray):Int:=aT (aA (aA (aA (aA (aA (aA (aA s 3) 3) 3) 2) 4) 1) 4) 3
def vP (s:ByteArray):Int:=aT (aA (aA (aA (aA (aA (aA (aA (aA s 3) 3) 3) 2) 4) 1) 4) 3) 1
def sY (id:Int)(s:ByteArray):Bool:=TW id (vX s) (vW s) (vV s) (vU s) (vT s) (vS s) (vR s) (vQ s) (vP s==1) s
theorem mK:(Tryz.prog.info? 65).map (·.size)=some 10:=by kernel_rfl
theorem SF (g:Nat)(s:ByteArray)(w:World)(h:FB w g s)(hs:s.size<=9223372036854775807) :
  () 108 #[g] w fun e w'=>e=.returned (.string (ttS s))/\FB w' g (ttR s)/\Below g w w':=by
 have c0:=cl h 0 rfl;have H:=Hd h;clear h;go_enter Tryz.func108,Tryz.ntmps108;go_wp2_with fail;refine(pI _ _ hs).mono ?_;rintro e w1 ⟨rfl,b1⟩;have H1:=Hd (H.below b1);have c1:=cl H1 0 rfl;have f1:w1.frozen? ⟨g,0,none⟩=false:=ufb H1 0;have hb:=b1.mono (Nat.le_of_lt H.lt);clear b1;go_wp2_with fail;go_ret;exact⟨rfl,H1.set _,hb.setCell (Nat.le_refl _) _⟩
theorem GC (s:ByteArray):(cS s).size<=256:=by
 unfold cS;split
 ·rw[cK];simp;omega
 ·decide
theorem tB (s:ByteArray)(n:Int):(aA s n).size<=s.size:=by
 unfold aA;split
 ·rw[ByteArray.size_extract];omega
 ·exact Nat.zero_le _
theorem OB (s:ByteArray):(ttS s).size<=255:=by
 have:=tC s;unfold ttS;split
 ·rw[ByteArray.size_extract];omega
 ·exact Nat.zero_le _
def dN (id:Int)(name:ByteArray)(li:Int)(ha:Int):Bool:=inB 1 16777215 id&&cT name&&((gM name).toList==name.toList)&&inB 0 1000 li&&inB 0 li ha
theorem yC (id:Int)(name:ByteArray)(li:Int)(ha:Int)(w:World):(method 217 151 (.agg #[id,name,li,ha]) "bailiwick/rec.right").run Tryz.prog w=.ok (241,.agg #[id,name,li,ha]) w:=by kernel_rfl
theorem vA (v:Value)(w:World):(Instr.typeAssert (.iface 151 v) 155 123 true).run Tryz.prog w=.ok (.tuple #[capZ,false]) w:=by kernel_rfl
theorem rZ (v:Value)(w:World):(Instr.typeAssert (.iface 151 v) 155 151 true).run Tryz.prog w=.ok (.tuple #[v,true]) w:=by kernel_rfl
theorem zN (N:Int->Int->ByteArray)(x:ByteArray)(id:Int)(name:ByteArray)(li:Int)(ha:Int)(w:World)(g0:0<=li)(l0:li<=9223372036854775807)(g1:0<=ha)(l1:ha<=9223372036854775807)
  (HN:Hid (∀ (n size:Int) (w:World),0<=n->n<=9223372036854775807->() 131 #[n,size] w fun e w'=>e=.returned (.string (N n size))/\Below w.heap.size w w'))(NS:Hid (∀ n size:Int,size<=8->(N n size).size<=8))
  (hx:Hid (cS name=x))(sx:x.size<=256) :
  () 115 #[.iface 151 (.agg #[id,name,li,ha])] w fun e w'=>e=.returned (.string (N li 2++N ha 2++x))/\Below w.heap.size w w':=by
 have q1:=vA (.agg #[id,name,li,ha]);have q2:=rZ (.agg #[id,name,li,ha]);have z0:=NS li 2 (by omega);have z1:=NS ha 2 (by omega);have s1:(9223372036854775807<(N li 2).size+(N ha 2).size)=False:=by rw[eq_iff_iff,iff_false];omega
 have s2:(9223372036854775807<(N li 2).size+(N ha 2).size+x.size)=False:=by rw[eq_iff_iff,iff_false];omega
 clear z0 z1;go_enter Tryz.func115,Tryz.ntmps115;go_wp2_with fail;refine(zZ _ _).mono ?_;rw[hx.o];rintro e w1 ⟨rfl,b1⟩;have hsz:w.heap.size<(w.alloc (.cells #[id,name,li,ha] 151)).heap.size:=by simp
 have hlt:w.heap.size<w1.heap.size:=Nat.lt_of_lt_of_le hsz b1.size
 have CC:Hid (∀ w',Below w1.heap.size w1 w'->w'.cell? ⟨w.heap.size,2,none⟩=some (.int .i64 li)/\w'.cell? ⟨w.heap.size,3,none⟩=some (.int .i64 ha)):=Hd fun w' h=>by
  refine⟨?_,?_⟩
  all_goals
   rw[h.cell hlt,b1.cell hsz];simp
 have bb:Below w.heap.size w w1:=(Br.alloc (Nat.le_refl _) _).trans (b1.mono (Nat.le_of_lt hsz));clear b1 hsz hlt q1 q2;have B0:Below w1.heap.size w1 w1:=Br;go_wp2_with fail;have C0:=CC w1 B0
 go_region_held3 (fun w'=>Below w1.heap.size w1 w'/\w'.cell? ⟨w.heap.size,2,none⟩=some (.int .i64 li)/\w'.cell? ⟨w.heap.size,3,none⟩=some (.int .i64 ha)) (first|assumption|exact⟨B0.drew,CC _ B0.drew⟩|exact MB CC ⟨B0.drew,CC _ B0.drew⟩ b9|exact MB CC (by assumption) b9) ((first|(go_at_call 131;refine(HN _ _ _ (by first|omega|exact(sD _).1) (by first|omega|exact(sD _).2)).mono ?_;rintro e w9 ⟨rfl,b9⟩)))
 rename_i hH;go_wp2_with fail;go_ret;exact⟨rfl,chain bb hH.1⟩
def gR (name:ByteArray)(li:Int)(ha:Int):ByteArray:=Str (aK li 2)++Str (aK ha 2)++cS name
theorem IG {id:Int}{name:ByteArray}{li:Int}{ha:Int}(h:dN id name li ha=true):(0<=li/\li<=9223372036854775807)/\(0<=ha/\ha<=9223372036854775807):=by
 unfold dN at h;simp only[Bool.and_eq_true,iL] at h;omega
theorem UD (id:Int)(name:ByteArray)(li:Int)(ha:Int)(w:World)(h:dN id name li ha=true) :
  () 115 #[.iface 151 (.agg #[id,name,li,ha])] w fun e w'=>e=.returned (.string (gR name li ha))/\Below w.heap.size w w':=by
 have hi:=IG h;obtain⟨k0,k1⟩:=hi;exact zN (fun n size=>Str (aK n size)) (cS name) id name li ha w k0.1 k0.2 k1.1 k1.2 (Hd fun n size w h0 h1=>tT n size w h0 h1) (Hd fun n size h=>wI n size h) (Hd rfl) (GC name)
def qW (id:Int)(name:ByteArray)(li:Int)(ha:Int)(s:ByteArray):Bool:=dN id name li ha&&decide (gR name li ha=s)
def nN (s:ByteArray):Int:=aT s 2
def nM (s:ByteArray):Int:=aT (aA s 2) 2
def nL (s:ByteArray):ByteArray:=ttS (aA (aA s 2) 2)
def mG (id:Int)(s:ByteArray):Bool:=qW id (nL s) (nN s) (nM s) s
theorem fW:(Tryz.prog.info? 54).map (·.size)=some 4:=by kernel_rfl
theorem fC (m:Nat)(size:Int):cU (m:Int) size=true ↔ 1<=size/\size<=8/\m<256 ^ size.toNat:=by
 simp only[cU,Bool.and_eq_true,decide_eq_true_eq,beq_iff_eq];constructor
 ·rintro⟨⟨h1,h8⟩,h⟩
  refine⟨h1,h8,?_⟩;obtain⟨s,rfl⟩:=Int.eq_ofNat_of_zero_le (show 0<=size by omega);rw[show(8*(s:Int)).toNat=8*s by omega] at h;have h':m / 2 ^ (8*s)=0:=by exact_mod_cast h
  have hp:0<2 ^ (8*s):=Nat.pow_pos (by decide);have e:(256:Nat) ^ s=2 ^ (8*s):=by rw[Nat.pow_mul]
  simp only[Int.toNat_natCast];rw[e];exact(Nat.div_eq_zero_iff_lt hp).1 h'
 ·rintro⟨h1,h8,h⟩
  refine⟨⟨h1,h8⟩,?_⟩;obtain⟨s,rfl⟩:=Int.eq_ofNat_of_zero_le (show 0<=size by omega);rw[show(8*(s:Int)).toNat=8*s by omega];simp only[Int.toNat_natCast] at h;have hp:0<2 ^ (8*s):=Nat.pow_pos (by decide);have e:(256:Nat) ^ s=2 ^ (8*s):=by rw[Nat.pow_mul]
  rw[e] at h;have h':=(Nat.div_eq_zero_iff_lt hp).2 h
  exact_mod_cast h'
theorem BF {n size:Int}(h0:0<=n)(h:cU n size=true):n.toNat<256 ^ size.toNat/\1<=size/\size<=8:=by
 obtain⟨a,rfl⟩:=Int.eq_ofNat_of_zero_le h0;have:=(fC a size).1 h;exact⟨by simpa using this.2.2,this.1,this.2.1⟩
theorem aAX (m s:Nat)(rest:ByteArray):(Str (M.be s m)++rest).data.toList.take s=M.be s m:=by
 rw[bJ,aX];exact List.take_left' (M.be_length s m)
theorem zS (m s:Nat)(rest:ByteArray)(h:m<256 ^ s):M.val ((Str (M.be s m)++rest).data.toList.take s)=m:=by
 rw[aAX,M.val_be,Nat.mod_eq_of_lt h]
theorem vD (l:List UInt8)(rest:ByteArray):(Str l++rest).extract l.length (Str l++rest).size=rest:=by
 apply aJ;rw[aR,bJ,aX,List.drop_left,List.take_of_length_le];simp[cK]
theorem qG (s rest:ByteArray):(s++rest).extract 0 s.size=s:=by
 apply aJ;rw[aR,bJ,List.drop_zero,Nat.sub_zero,List.take_left' (bZ s)]
theorem mX (s rest:ByteArray):(s++rest).extract s.size (s++rest).size=rest:=by
 apply aJ;rw[aR,bJ,List.drop_left' (bZ s),List.take_of_length_le];simp
theorem pG (r:ByteArray)(n:Nat):Str (r.data.toList.take n)++r.extract n r.size=r:=by
 apply aJ;rw[bJ,aX,aR];have:(r.data.toList.drop n).take (r.size-n)=r.data.toList.drop n:=List.take_of_length_le (by simp);rw[this,List.take_append_drop]
theorem aBI (r:ByteArray)(size:Nat)(h1:1<=size)(h8:size<=8):cU (M.val (r.data.toList.take size):Int) (size:Int)=true:=by
 rw[fC];refine⟨by omega,by omega,?_⟩;have h1:=M.val_lt (r.data.toList.take size);simp only[Int.toNat_natCast];exact Nat.lt_of_lt_of_le h1 (Nat.pow_le_pow_right (by decide) (List.length_take_le _ _))
theorem EH (r:ByteArray)(size:Nat)(h:size<=r.size):M.be size (M.val (r.data.toList.take size))=r.data.toList.take size:=
 M.be_eq _ _ (by rw[List.length_take,bZ];omega)
theorem mH (s:ByteArray)(h:s.size<=255):(cS s).size=s.size+1:=by simp[cS,h,cK]
theorem sV (s rest:ByteArray)(h:s.size<=255):cS s++rest=Str (UInt8.ofNat s.size::(s++rest).data.toList):=by
 apply aJ;simp[cS,h,Str]
theorem zU (s rest:ByteArray)(h:s.size<=255):ttN (cS s++rest)=s.size:=by
 rw[sV s rest h];unfold ttN;rw[aX];simp only[Int.toNat_one,List.take_succ_cons,List.take_zero,M.val,List.foldl_cons,List.foldl_nil,UInt8.toNat_ofNat'];omega
theorem zV (s rest:ByteArray)(h:s.size<=255):ttB (cS s++rest)=s++rest:=by
 apply aJ;unfold ttB;rw[aR,sV s rest h,aX];simp only[Int.toNat_one,List.drop_succ_cons,List.drop_zero];rw[List.take_of_length_le];simp[cK]
theorem OC (s rest:ByteArray)(h:s.size<=255):pF (cS s++rest)=true:=by
 have e:(cS s++rest).size=s.size+1+rest.size:=by rw[ByteArray.size_append,mH s h]
 simp only[pF,zU s rest h,zV s rest h,ByteArray.size_append,Bool.and_eq_true,decide_eq_true_eq,e];omega
theorem LH (s rest:ByteArray)(h:s.size<=255):ttS (cS s++rest)=s/\ttR (cS s++rest)=rest/\ttE (cS s++rest)=0:=by
 simp only[ttS,ttR,ttE,OC s rest h,if_true,zU s rest h,zV s rest h,qG,mX,and_self]
theorem mO {n k:Int}(rest:ByteArray)(h0:0<=n)(h:cU n k=true):aT (Str (aK n k)++rest) k=n/\aA (Str (aK n k)++rest) k=rest:=by
 obtain⟨m,rfl⟩:=Int.eq_ofNat_of_zero_le h0;obtain⟨s1,s8,hm⟩:=(fC m k).1 h;obtain⟨s,rfl⟩:=Int.eq_ofNat_of_zero_le (show 0<=k by omega);simp only[Int.toNat_natCast] at hm;have e:aK (m:Int) (s:Int)=M.be s m:=by unfold aK;rw[h,if_pos rfl];rfl
 have hz:(Str (M.be s m)).size=s:=by rw[cK,M.be_length]
 have hk:dA (Str (M.be s m)++rest) (s:Int)=true:=by
  unfold dA;rw[ByteArray.size_append,hz,Bool.and_eq_true,decide_eq_true_eq,decide_eq_true_eq];omega
 rw[e];refine⟨?_,?_⟩
 ·unfold aT;rw[hk,if_pos rfl,Int.toNat_natCast,zS m s rest hm]
 ·unfold aA;rw[hk,if_pos rfl,Int.toNat_natCast]
  have:=vD (M.be s m) rest;rw[M.be_length] at this;exact this
theorem cW {n k:Int}(h:cU n k=true):((Str (aK n k)).size:Int)=k:=by
 unfold aK;rw[h,if_pos rfl,cK,M.be_length];simp[cU] at h;omega
theorem xX (s:ByteArray){k:Int}(h1:1<=k)(h8:k<=8):cU (aT s k) k=true/\0<=aT s k:=by
 obtain⟨j,rfl⟩:=Int.eq_ofNat_of_zero_le (show 0<=k by omega);unfold aT
 split
 ·exact⟨aBI s j (by omega) (by omega),by omega⟩
 ·refine⟨?_,Int.le_refl _⟩
  have:=(fC 0 (j:Int)).2 ⟨by omega,by omega,Nat.pos_of_ne_zero (by simp)⟩;exact this
theorem sG (s:ByteArray){k:Int}(h1:1<=k)(h8:k<=8)(hs:k<=s.size):Str (aK (aT s k) k)++aA s k=s/\((aA s k).size:Int)+k=s.size:=by
 obtain⟨j,rfl⟩:=Int.eq_ofNat_of_zero_le (show 0<=k by omega);have hk:dA s (j:Int)=true:=by unfold dA;rw[Bool.and_eq_true,decide_eq_true_eq,decide_eq_true_eq];omega
 have ho:=(xX s h1 h8).1
 have e:aK (aT s j) j=s.data.toList.take j:=by
  unfold aK;rw[ho,if_pos rfl,Int.toNat_natCast];unfold aT;rw[hk,if_pos rfl,Int.toNat_natCast,Int.toNat_natCast];exact EH s j (by omega)
 have e2:aA s j=s.extract j s.size:=by unfold aA;rw[hk,if_pos rfl,Int.toNat_natCast]
 rw[e,e2,pG];refine⟨rfl,?_⟩;rw[ByteArray.size_extract];omega
theorem dT {s:ByteArray}(h:s.size=0):s=⟨#[]⟩:=by
 apply aJ;have:=bZ s;rw[h] at this;rw[List.length_eq_zero_iff.1 this]
theorem fJ (s:ByteArray):s++(⟨#[]⟩:ByteArray)=s:=by
 apply aJ;rw[bJ];simp
theorem LI (s:ByteArray)(h:pF s=true):cS (ttS s)++ttR s=s/\(ttS s).size=ttN s/\ttN s<=255/\(ttS s).size+1+(ttR s).size=s.size:=by
 have hk:=h;unfold pF at h;simp only[Bool.and_eq_true,decide_eq_true_eq] at h;obtain⟨h1,h2⟩:=h;have hb:ttB s=s.extract 1 s.size:=rfl;have hn:ttN s<=255:=by have:=tC s;omega
 have hS:ttS s=(ttB s).extract 0 (ttN s):=by unfold ttS;rw[hk,if_pos rfl]
 have hR:ttR s=(ttB s).extract (ttN s) (ttB s).size:=by unfold ttR;rw[hk,if_pos rfl]
 have hz:(ttS s).size=ttN s:=by rw[hS,ByteArray.size_extract];omega
 have hj:ttS s++ttR s=ttB s:=by
  apply aJ;rw[bJ,hS,hR,aR,aR,List.drop_zero,Nat.sub_zero];have:((ttB s).data.toList.drop (ttN s)).take ((ttB s).size-ttN s)=(ttB s).data.toList.drop (ttN s):=List.take_of_length_le (by simp);rw[this,List.take_append_drop]
 have hbz:(ttB s).size+1=s.size:=by rw[hb,ByteArray.size_extract];omega
 have hsum:(ttS s).size+(ttR s).size=(ttB s).size:=by rw[<-hj,ByteArray.size_append]
 refine⟨?_,hz,hn,by omega⟩;rw[sV _ _ (by omega),hj,hz];apply aJ;rw[aX,hb,aR];obtain⟨⟨l⟩⟩:=s
 cases l with
 | nil=>simp[ByteArray.size] at h1
 | cons c t=>
  have e:UInt8.ofNat (ttN ⟨⟨c::t⟩⟩)=c:=by
   have:ttN ⟨⟨c::t⟩⟩=c.toNat:=by simp[ttN,M.val]
   rw[this];simp
  rw[e];simp[ByteArray.size]
theorem aFG (s:ByteArray)(h:pF s=false):ttS s=⟨#[]⟩/\ttR s=⟨#[]⟩:=by
 unfold ttS ttR;rw[h];exact⟨rfl,rfl⟩
