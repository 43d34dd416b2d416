/-
 Math, Sup, Kept, Rd, NodeMath, NodeR, NodeS, NodeF, Concat, Flow, FlowKit, NodeP.
-/
import Derived.Test.YtblbiihpfjjhhaaGreatDoorRows
import Derived.Lib.SmallJoins
import Derived.WalkKit
import Derived.WalkSpells
import Derived.WalkLawsBesides
import Derived.OpenShut
import Derived.Lib.Hide
import Derived.Lib.Strings
import Derived.Deep.RegionWith
import Derived.Deep.QuietTactic
import Derived.BigQuiet
import Derived.Deep.RegionHeld3
import Derived.Laws.AppendOwn
import Derived.Deep.AppendSrc
import Derived.WalkMore
import Derived.Lib.AppendZeros
import Derived.OrdersHeld
import Derived.RegionTactic
import Derived.KernelRfl
namespace Go.Proofs.YtblbiihpfjjhhaaGreatDoor
namespace M
set_option maxRecDepth 20000
set_option maxHeartbeats 12800000
set_option linter.unusedVariables false
set_option linter.unusedSimpArgs false
def be:Nat→Nat→List UInt8
 | 0,_=>[]
 | s + 1,n=>be s (n / 256) ++ [UInt8.ofNat (n % 256)]
theorem be_length (s n:Nat):(be s n).length=s:=by
 induction s generalizing n with
 | zero=>rfl
 | succ s ih=>simp [be,ih]
theorem be_get (s n i:Nat) (h:i < s):(be s n)[i]?=some (UInt8.ofNat (n / 256 ^ (s - 1 - i) % 256)):=by
 induction s generalizing n with
 | zero=>omega
 | succ s ih =>
  rw [be]
  by_cases hi:i < s
  ·rw [List.getElem?_append_left (by rw [be_length]; exact hi),ih (n / 256) hi,Nat.div_div_eq_div_mul]
   have e:s + 1 - 1 - i=(s - 1 - i) + 1:=by omega
   rw [e,Nat.pow_succ,Nat.mul_comm 256]
  ·have e:i=s:=by omega
   subst e;rw [List.getElem?_append_right (by rw [be_length]; exact Nat.le_refl _),be_length];simp
def val (l:List UInt8):Nat:=l.foldl (fun a b=>a * 256 + b.toNat) 0
theorem val_snoc (l:List UInt8) (b:UInt8):val (l ++ [b])=val l * 256 + b.toNat:=by simp [val,List.foldl_append]
theorem zL (l:List UInt8) (a:Nat):l.foldl (fun a b=>a * 256 + b.toNat) a=a * 256 ^ l.length + val l:=by
 induction l generalizing a with
 | nil=>simp [val]
 | cons b l ih =>
  simp only [List.foldl_cons,List.length_cons,val];rw [ih,ih (0 * 256 + b.toNat),Nat.pow_succ,Nat.add_mul,Nat.mul_assoc,Nat.mul_comm 256];simp; omega
theorem val_lt (l:List UInt8):val l < 256 ^ l.length:=by
 induction l with
 | nil=>simp [val]
 | cons b l ih =>
  have e:val (b :: l)=b.toNat * 256 ^ l.length + val l:=by
   have:=zL l b.toNat;simp only [val,List.foldl_cons,Nat.zero_mul,Nat.zero_add] at this ⊢;exact this
  have hb:b.toNat < 256:=b.toNat_lt;rw [e,List.length_cons,Nat.pow_succ];have h1:b.toNat * 256 ^ l.length≤255 * 256 ^ l.length:=Nat.mul_le_mul_right _ (by omega);omega
theorem val_be (s n:Nat):val (be s n)=n % 256 ^ s:=by
 induction s generalizing n with
 | zero=>simp [be,val,Nat.mod_one]
 | succ s ih =>
  rw [be,val_snoc,ih,Nat.pow_succ,UInt8.toNat_ofNat', Nat.mod_mod_of_dvd _ (by decide)];rw [Nat.mul_comm (256 ^ s),Nat.mod_mul];omega
theorem TW (l:List UInt8):be l.length (val l)=l:=by
 suffices h:∀ s,∀ l:List UInt8,l.length=s→be s (val l)=l from h _ l rfl
 intro s
 induction s with
 | zero=>intro l h; rw [List.length_eq_zero_iff.1 h]; rfl
 | succ s ih =>
  intro l h;have hne:l≠[]:=by intro e; subst e; simp at h
  have hl:=List.dropLast_concat_getLast hne;have hd:l.dropLast.length=s:=by simp [h]
  rw [be,← hl,val_snoc];have hb:(l.getLast hne).toNat < 256:=(l.getLast hne).toNat_lt;rw [show (val l.dropLast * 256 + (l.getLast hne).toNat) / 256=val l.dropLast by omega,show (val l.dropLast * 256 + (l.getLast hne).toNat) % 256=(l.getLast hne).toNat by omega,ih _ hd];simp
theorem be_eq (s:Nat) (l:List UInt8) (h:l.length=s):be s (val l)=l:=by subst h; exact TW l
end M
open Go.RowKit
set_option linter.unusedVariables false
set_option maxRecDepth 20000
set_option maxHeartbeats 12800000
set_option linter.unusedSimpArgs false
def IsInts (k:IntKind) (w:World) (a:Option Addr) (len cap:Nat) (zs:List Int):Prop :=
  (a=none∧len=0∧cap=0∧zs=[]) ∨
  ∃ x:Addr,a=some x∧len≤cap∧cap≤maxLen∧zs.length=cap∧(∀ i,i < zs.length→w.cell? (x.add i)=some (.int k (zs.getD i 0)))∧∀ n∈zs,(Lit.int k n).wf=true
theorem cS {a b:Bool} (h:a=b):Ending.returned (.bool a)=Ending.returned (.bool b):=by rw [h]
theorem AS {k:IntKind} {a b:Int} (h:a=b):Ending.returned (.int k a)=Ending.returned (.int k b):=by rw [h]
theorem toList_data (s:ByteArray):s.toList=s.data.toList:=Lib.toList_data s
theorem aD {a b:ByteArray} (h:a.data.toList=b.data.toList):a=b:=ByteArray.ext (Array.toList_inj.1 h)
theorem MS {a b:ByteArray}:a.data.toList=b.data.toList ↔ a=b:=⟨aD,fun h=>by rw [h]⟩
theorem wB {a b:ByteArray}:a.toList=b.toList ↔ a=b:=by rw [toList_data,toList_data,MS]
theorem wC (a b:ByteArray):(a.toList == b.toList)=decide (a=b):=by
  rw [Bool.eq_iff_iff,beq_iff_eq,decide_eq_true_eq,wB]
def Str (l:List UInt8):ByteArray:=⟨l.toArray⟩
theorem bY (l:List UInt8):(Str l).size=l.length:=by simp [Str,ByteArray.size]
theorem aN (l:List UInt8):(Str l).data.toList=l:=by simp [Str]
theorem UC (s:ByteArray):Str s.data.toList=s:=by simp [Str]
theorem qT (l:List UInt8) (s:ByteArray):Str l ++ s=Str (l ++ s.data.toList):=by
  apply ByteArray.ext
  simp [Str]
theorem cQ (s:ByteArray):s.data.toList.length=s.size:=by simp
theorem aE (s:ByteArray) (i j:Nat):(s.extract i j).data.toList=(s.data.toList.drop i).take (j - i):=Lib.extract_data s i j
theorem aP (s t:ByteArray):(s ++ t).data.toList=s.data.toList ++ t.data.toList:=by simp
theorem jN (s:ByteArray) (h:0 < s.size):s.toList.isEmpty=false:=by
  rw [toList_data]
  have:=cQ s
  cases h' : s.data.toList with
  | nil=>rw [h'] at this; simp at this; omega
  | cons a l=>rfl
theorem chain {w a b:World} (h:Below w.heap.size w a) (k:Below a.heap.size a b):Below w.heap.size w b:=h.trans (k.mono h.size)
theorem bI {B:Nat} {a w:World} (h:Below B a w) (n:Nat):Below B a (w.drewN n):=⟨h.os,h.tape,h.output,h.size,h.block⟩
theorem eI (b off i:Nat):(⟨b,off,none⟩:Addr).add i=⟨b,off + i,none⟩:=by unfold Addr.add; split <;> simp_all
theorem cl {w:World} {b:Nat} {l:List Value} {T:TypeId} (h:w.heap[b]?=some (.cells l.toArray T)) (k:Nat) {v:Value} {r:List Value} (hk:l.drop k=v :: r):w.cell? ⟨b,k,none⟩=some v:=by
  rw [Go.Joins.cell_of_block h]
  have e:l[k]?=some v:=by
    have:=congrArg (·[0]?) hk
    simpa using this
  simpa using e
theorem SL:(∀ (l:List Value) (i:Nat) (a:Value),l.toArray.setIfInBounds i a=(l.set i a).toArray)∧(∀ (l:List Bool) (i:Nat) (a:Bool),l.toArray.setIfInBounds i a=(l.set i a).toArray)∧(∀ (x a:Value) (l:List Value),(x :: l).set 0 a=a :: l)∧(∀ (x a:Bool) (l:List Bool),(x :: l).set 0 a=a :: l)∧(∀ (x a:Value) (l:List Value) (n:Nat),(x :: l).set (n + 1) a=x :: l.set n a)∧∀ (x a:Bool) (l:List Bool) (n:Nat),(x :: l).set (n + 1) a=x :: l.set n a :=
  ⟨fun _ _ _=>by simp,fun _ _ _=>by simp,fun _ _ _=>rfl,fun _ _ _=>rfl,fun _ _ _ _=>rfl,fun _ _ _ _=>rfl⟩
theorem Hd {p:Prop} (h:p):RowKit.Hid p:=h
theorem zl {α:Type _} {xs:Array α} {i:Nat} {a:α} (h:xs[i]?=some a):i < xs.size:=(Array.getElem?_eq_some_iff.1 h).1
theorem hss (w:World) (g i:Nat) (cs:Array Value) (t:TypeId) (v:Value) (h:w.heap[g]?=some (.cells cs t)):(w.setCell ⟨g,i,none⟩ v).heap[g]?=some (.cells (cs.setIfInBounds i v) t):=heap_setCell_same w g i cs t v h
theorem han (w:World) (o:Obj):(w.alloc o).heap[w.heap.size]?=some o:=heap_alloc_new w o
theorem hao (w:World) (o:Obj) {r:Nat} (h:r < w.heap.size):(w.alloc o).heap[r]?=w.heap[r]?:=heap_alloc_old w o h
theorem cob {w:World} {g:Nat} {cs:Array Value} {t:TypeId} {fr:Nat × Nat} (h:w.heap[g]?=some (.cells cs t fr)) (i:Nat):w.cell? ⟨g,i,none⟩=cs[i]?:=Go.Joins.cell_of_block h i
theorem Br {n:Nat} {w:World}:Below n w w:=Below.refl _ _
theorem hC {n:Nat} {p:Addr} {v:Value} {w wx:World} (c:w.cell? p=some v) (hS:Below n w wx) (lt:p.block < n):wx.cell? p=some v:=(hS.cell lt).trans c
theorem ufb {w:World} {b:Nat} {r:Array Value} {t:TypeId} (h:w.heap[b]?=some (.cells r t)) (i:Nat):w.frozen? ⟨b,i,none⟩=false:=Go.Joins.unfrozen_of_block h i
theorem kept {w w' : World} {g:Nat} {o:Obj} (h:w.heap[g]?=some o) (b:Below w.heap.size w w'):w'.heap[g]?=some o:=by
 rw [b.block g (zl h)]; exact h
def Rd (w:World) (a:Option Addr) (L:List Value):Prop :=
 L=[]∨∃ b off,a=some ⟨b,off,none⟩∧b < w.heap.size∧∀ i u,L[i]?=some u→w.cell? ⟨b,off + i,none⟩=some u
theorem Rd.below {w w' : World} {a:Option Addr} {L:List Value} (h:Rd w a L) (hb:Below w.heap.size w w'):Rd w' a L:=by
 rcases h with h | ⟨b,off,h1,h2,h3⟩
 ·exact .inl h
 ·exact .inr ⟨b,off,h1,Nat.lt_of_lt_of_le h2 hb.size,fun i u hu=>(hb.cell (p:=⟨b,off + i,none⟩) h2).trans (h3 i u hu)⟩
theorem Rd.at {w:World} {a:Option Addr} {L:List Value} (h:Rd w a L) (i:Nat) (hi:i < L.length):∃ b off,a=some ⟨b,off,none⟩∧b < w.heap.size∧w.cell? ⟨b,off + i,none⟩=some L[i]:=by
 rcases h with rfl | ⟨b,off,h1,h2,h3⟩
 ·exact absurd hi (Nat.not_lt_zero _)
 ·exact ⟨b,off,h1,h2,h3 i _ (List.getElem?_eq_getElem hi)⟩
theorem Rd.sliced {w:World} {a:Option Addr} {L:List Value} (h:Rd w a L) (lo hi cap:Nat) (h1:lo≤hi) (h2:hi≤L.length) (h3:L.length≤cap) :
  ∃ a', sliced a lo hi cap 1=.slice a' (hi - lo) (cap - lo)∧Rd w a' ((L.drop lo).take (hi - lo)):=by
 refine ⟨_,rfl,?_⟩
 rcases h with rfl | ⟨b,off,rfl,g2,g3⟩
 ·left; simp
 ·by_cases hc:cap=lo
  ·left
   have:hi - lo=0:=by omega
   rw [this]; simp
  ·right
   refine ⟨b,off + lo,by simp only [hc,if_false,Option.map_some,Nat.mul_one]; rw [eI],g2,fun i u hu=>?_⟩;rw [List.getElem?_take] at hu
   split at hu
   case isFalse=>cases hu
   rw [List.getElem?_drop] at hu;have:=g3 (lo + i) u hu;rw [Nat.add_assoc]; exact this
theorem Rd.own {w:World} {base:Nat} {e:TypeId} {v:Value} {n:Nat} {xs:List Value} (h:w.ownsRow base e 1 v n xs):∃ a cap,v=.slice a xs.length cap∧Rd w a xs∧xs.length≤cap∧cap≤maxLen:=by
 have hl:xs.length=n:=by have:=h.1; omega
 rcases h.2 with ⟨rfl,h0⟩ | ⟨g,cap,cur,hv,hb,hh,hn,hc,hs,ht⟩
 ·have:xs=[]:=List.eq_nil_of_length_eq_zero (by omega)
  subst this;exact ⟨none,0,rfl,.inl rfl,Nat.le_refl _,Nat.zero_le _⟩
 ·refine ⟨some ⟨g,0,none⟩,cap,by rw [hl]; exact hv,.inr ⟨g,0,rfl,(zl hh),fun i u hu=>?_⟩,by omega,hc⟩
  have:=h.cells (g:=g) (by rw [hv]; rfl) i u hu;rwa [eI] at this
theorem nP {P:Program} (w:World) (base:Nat) (t ty e:TypeId) (i:TypeInfo) (z:Value) (bytes:Nat) (ht:P.underlying t=some (.slice e)) (hi:P.info? e=some i) (hz:i.zero=some z)
  (hsize:i.size=1) (hby:i.bytes=bytes) (hzs:z.cells.size=1)
  (v:Value) (n:Nat) (xs:List Value) (hown:w.ownsRow base e 1 v n xs) (a:Option Addr) (L:List Value) (c:Nat) (hr:Rd w a L) (h1:∀ u∈L,u.oneCell'=true)
  (h63:n + L.length≤maxLen) (hbytes:(n + L.length) * bytes≤140737488355328) (hbase:base≤w.heap.size) :
  ∃ v' w', (Builtin.append_ #[t,t] ty #[v,.slice a L.length c]).run P w=.ok v' w'∧w'.ownsRow base e 1 v' (n + L.length) (xs ++ L)∧w.grownBy w' v.ownBlock:=by
 by_cases hL:L=[]
 ·subst hL
  rw [List.append_nil];refine ⟨v,w,?_,hown,⟨rfl,rfl,rfl,Nat.le_refl _,fun _ _ _=>rfl⟩⟩
  rcases hown.2 with ⟨rfl,rfl⟩ | ⟨g,cap,cur,rfl,hbg,hg,hnc,hcm,hcs,htake⟩
  ·cases a <;> simp [Builtin.append_,run_underlying ht,sizeOf,typeInfo,hi,Builtin.lenOf,Builtin.firstCells,loadCells,loadCellsFrom]
  ·cases a <;> simp [Builtin.append_,run_underlying ht,sizeOf,typeInfo,hi,Builtin.lenOf,Builtin.firstCells,loadCells,loadCellsFrom,hnc,storeCells]
 ·rcases hr with hr | ⟨b,off,rfl,g2,g3⟩
  ·exact absurd hr hL
  ·obtain ⟨v', w', q1,q2,q3,_⟩:=run_append_own (P:=P) w base t ty e i z 1 bytes ht hi hz hsize hby hzs (by omega) v n xs hown ⟨b,off,none⟩ L.length c L (by omega)
    (fun j u hu=>by rw [eI]; exact g3 j u hu) h1 h63 hbytes hbase
   exact ⟨v', w', q1,q2,q3⟩
structure Nod where
 leaf:Bool
 K:List Int
 V:List ByteArray
 C:List Int
def aU (n:Nod):Bool:=if n.leaf then decide (n.V.length=n.K.length) && decide (n.C.length=0) else decide (n.C.length=n.K.length + 1) && decide (n.V.length=0)
def bB:List ByteArray→Nat
 | []=>0
 | v :: l=>v.size + bB l
theorem eH (l m:List ByteArray):bB (l ++ m)=bB l + bB m:=by
 induction l with
 | nil=>simp [bB]
 | cons a l ih=>simp [bB,ih]; omega
theorem mX (l:List ByteArray) (i:Nat):bB (l.take i) + bB (l.drop i)=bB l:=by
 rw [← eH,List.take_append_drop]
theorem kK (l:List ByteArray) (m:Nat) (h:∀ v∈l,v.size≤m):bB l≤l.length * m:=by
 induction l with
 | nil=>simp [bB]
 | cons a l ih =>
  have h1:=h a (by simp);have h2:=ih fun v hv=>h v (by simp [hv])
  simp only [bB,List.length_cons,Nat.add_mul];omega
def aG (n:Nod):Nat:=if n.leaf then 1 + 9 * n.K.length + bB n.V else 1 + 8 * n.K.length + 2 * n.C.length
def cZ (leaf:Bool) (key:Int):List Int→Nat→Nat × Bool
 | [],i=>(i,!leaf)
 | k :: r,i=>if leaf=true∧k=key then (i,true) else if key < k then (i,!leaf) else cZ leaf key r (i + 1)
theorem wP (leaf:Bool) (key:Int) (K:List Int) (i:Nat) (h:i < K.length) :
  cZ leaf key (K.drop i) i=if leaf=true∧K[i]=key then (i,true) else if key < K[i] then (i,!leaf) else cZ leaf key (K.drop (i + 1)) (i + 1):=by
 rw [List.drop_eq_getElem_cons h]
 rfl
theorem zN (leaf:Bool) (key:Int) (K:List Int) (i:Nat) (h:K.length=i):cZ leaf key (K.drop i) i=(i,!leaf):=by
 rw [List.drop_eq_nil_of_le (by omega)]
 rfl
theorem sI (leaf:Bool) (key:Int):∀ (K:List Int) (i:Nat),i≤(cZ leaf key K i).1∧(cZ leaf key K i).1≤i + K.length∧((cZ leaf key K i).2=true→leaf=true→(cZ leaf key K i).1 < i + K.length):=by
 intro K
 induction K with
 | nil=>intro i; simp [cZ]
 | cons k r ih =>
  intro i;unfold cZ
  split
  ·simp
  ·split
   ·refine ⟨Nat.le_refl _,by simp,?_⟩
    intro h1 h2;rw [h2] at h1;exact absurd h1 (by simp)
   ·have:=ih (i + 1)
    simp only [List.length_cons];refine ⟨by omega,by omega,fun h1 h2=>by have:=this.2.2 h1 h2; omega⟩
def aW (n:Nod) (key:Int):Nat × Bool:=if aU n then cZ n.leaf key n.K 0 else (0,false)
theorem qM (n:Nod) (key:Int):(aW n key).1≤n.K.length:=by
 unfold aW
 split
 ·have:=(sI n.leaf key n.K 0).2.1; omega
 ·exact Nat.zero_le _
theorem qL (n:Nod) (key:Int) (h:(aW n key).2=true) (hl:n.leaf=true):(aW n key).1 < n.K.length:=by
 unfold aW at h ⊢
 split
 ·rename_i hw
  rw [if_pos hw] at h;have:=(sI n.leaf key n.K 0).2.2 h hl; omega
 ·rename_i hw
  rw [if_neg hw] at h
  cases h
def dO (n:Nod) (key:Int) (v:ByteArray):Nod :=
 if (n.leaf && aU n)=true then
  {leaf:=true,K:=n.K.take (aW n key).1 ++ [key] ++ n.K.drop ((aW n key).1 + (if (aW n key).2 then 1 else 0)),V:=n.V.take (aW n key).1 ++ [v] ++ n.V.drop ((aW n key).1 + (if (aW n key).2 then 1 else 0)),C:=[] }
 else n
def kQ (n:Nod) (i:Int) (key:Int) (kid:Int):Nod :=
 if (!n.leaf && aU n && decide (0≤i) && decide (i≤n.K.length))=true then
  {leaf:=false,K:=n.K.take i.toNat ++ [key] ++ n.K.drop i.toNat,V:=[],C:=n.C.take (i.toNat + 1) ++ [kid] ++ n.C.drop (i.toNat + 1) }
 else n
theorem vL (n:Nod) (key:Int) (v:ByteArray) (h:n.leaf=true):(dO n key v).leaf=true:=by unfold dO; split <;> first | rfl | exact h
theorem aX {n:Nod} (h:n.leaf=true):aU n=true ↔ n.V.length=n.K.length∧n.C.length=0:=by unfold aU; rw [h]; simp
theorem aO {n:Nod} (h:n.leaf=false):aU n=true ↔ n.C.length=n.K.length + 1∧n.V.length=0:=by unfold aU; rw [h]; simp
theorem UQ (n:Nod) (key:Int) (v:ByteArray) (hl:n.leaf=true) (hw:aU n=true):(dO n key v).K.length=n.K.length + (if (aW n key).2 then 0 else 1):=by
 have h2:=qM n key;have h3:=qL n key;unfold dO;rw [if_pos (by rw [hl,hw]; rfl)];simp only [List.length_append,List.length_take,List.length_drop,List.length_cons,List.length_nil]
 split
 ·rename_i h
  have:=h3 h hl;omega
 ·omega
theorem KG (n:Nod) (key:Int) (v:ByteArray) (hl:n.leaf=true) (hw:aU n=true) :
  (aG (dO n key v):Int) - (aG n:Int)=if (aW n key).2 then (v.size:Int) - ((n.V.getD (aW n key).1 ByteArray.empty).size:Int) else 9 + (v.size:Int):=by
 have h1:=(aX hl).1 hw;have h2:=qM n key;have h3:=qL n key;have hk:=UQ n key v hl hw;have hs:=mX n.V (aW n key).1;unfold aG;rw [vL n key v hl,hl,hk];simp only [if_true]
 have hv:(dO n key v).V=n.V.take (aW n key).1 ++ [v] ++ n.V.drop ((aW n key).1 + (if (aW n key).2 then 1 else 0)):=by
  unfold dO;rw [if_pos (by rw [hl,hw]; rfl)]
 rw [hv,eH,eH]
 split
 ·rename_i h
  have hlt:=h3 h hl;have hd:n.V.drop (aW n key).1=n.V[(aW n key).1]'(by omega) :: n.V.drop ((aW n key).1 + 1):=List.drop_eq_getElem_cons (by omega);rw [hd] at hs;rw [List.getD_eq_getElem?_getD,List.getElem?_eq_getElem (by omega)];simp only [bB,Option.getD_some] at hs ⊢;omega
 ·simp only [bB,Nat.add_zero]
  omega
def bG (k:Int):Value:=.int .u64 k
def eY (k:Int):Value:=.int .i64 k
def aK (n:Nod) (ak av ac:Option Addr) (ck cv cc:Nat):Value:=.agg #[.bool n.leaf,.slice ak n.K.length ck,.slice av n.V.length cv,.slice ac n.C.length cc]
structure cX (n:Nod):Prop where
 k1:n.K.length≤1000
 v1:n.V.length≤1000
 c1:n.C.length≤1000
 kb:∀ x∈n.K,0≤x∧x≤18446744073709551615
 vb:∀ x∈n.V,x.size≤140737488351232
 cb:∀ x∈n.C,-9223372036854775808≤x∧x≤9223372036854775807
structure NodR (w:World) (n:Nod) (ak av ac:Option Addr) (ck cv cc:Nat):Prop where
 k:Rd w ak (n.K.map bG)
 v:Rd w av (n.V.map Value.string)
 c:Rd w ac (n.C.map eY)
 k2:n.K.length≤ck
 k3:ck≤maxLen
 v2:n.V.length≤cv
 v3:cv≤maxLen
 c2:n.C.length≤cc
 c3:cc≤maxLen
 ok:cX n
theorem NodR.below {w w' : World} {n:Nod} {ak av ac:Option Addr} {ck cv cc:Nat} (h:NodR w n ak av ac ck cv cc) (hb:Below w.heap.size w w'):NodR w' n ak av ac ck cv cc :=
 ⟨h.k.below hb,h.v.below hb,h.c.below hb,h.k2,h.k3,h.v2,h.v3,h.c2,h.c3,h.ok⟩
theorem ID (lf:Bool) (lk lv lc ck cv cc:Nat) (ak av ac:Option Addr) (w:World) (v:Bool) (hv:Hid ((if lf then decide (lv=lk) && decide (lc=0) else decide (lc=lk + 1) && decide (lv=0))=v)) (h1:lk≤1000) (h2:lv≤1000) (h3:lc≤1000) :
  Calls Tryz.prog 179 #[.agg #[.bool lf,.slice ak lk ck,.slice av lv cv,.slice ac lc cc]] w fun e w' => e=.returned (.bool v)∧Below w.heap.size w w' := by
 cases lf
 ·by_cases a1:(lc:Int)=(lk:Int) + 1
  ·by_cases a2:(lv:Int)=0
   ·have hv' : v=true:=by rw [← hv.out]; simp; omega
    subst hv';clear hv;go_enter Tryz.func179,Tryz.ntmps179;go_wp2_with fail;go_ret;exact ⟨cS (by first | rfl | simpa using a2),Br.alloc (Nat.le_refl _) _⟩
   ·have hv' : v=false:=by rw [← hv.out]; simp; omega
    subst hv';clear hv;go_enter Tryz.func179,Tryz.ntmps179;go_wp2_with fail;go_ret;exact ⟨cS (by first | rfl | simpa using a2),Br.alloc (Nat.le_refl _) _⟩
  ·have hv' : v=false:=by rw [← hv.out]; simp; omega
   subst hv';clear hv;go_enter Tryz.func179,Tryz.ntmps179;go_wp2_with fail;go_ret;exact ⟨rfl,Br.alloc (Nat.le_refl _) _⟩
 ·by_cases a1:(lv:Int)=(lk:Int)
  ·by_cases a2:(lc:Int)=0
   ·have hv' : v=true:=by rw [← hv.out]; simp; omega
    subst hv';clear hv;go_enter Tryz.func179,Tryz.ntmps179;go_wp2_with fail;go_ret;exact ⟨cS (by first | rfl | simpa using a2),Br.alloc (Nat.le_refl _) _⟩
   ·have hv' : v=false:=by rw [← hv.out]; simp; omega
    subst hv';clear hv;go_enter Tryz.func179,Tryz.ntmps179;go_wp2_with fail;go_ret;exact ⟨cS (by first | rfl | simpa using a2),Br.alloc (Nat.le_refl _) _⟩
  ·have hv' : v=false:=by rw [← hv.out]; simp; omega
   subst hv';clear hv;go_enter Tryz.func179,Tryz.ntmps179;go_wp2_with fail;go_ret;exact ⟨rfl,Br.alloc (Nat.le_refl _) _⟩
theorem gD (n:Nod) (ak av ac:Option Addr) (ck cv cc:Nat) (w:World) (ho:cX n) (v:Bool) (hv:aU n=v) :
  Calls Tryz.prog 179 #[aK n ak av ac ck cv cc] w fun e w' => e=.returned (.bool v)∧Below w.heap.size w w' :=
 ID n.leaf n.K.length n.V.length n.C.length ck cv cc ak av ac w v (Hd hv) ho.k1 ho.v1 ho.c1
theorem wW (V:List ByteArray) (i:Nat) (h:i < V.length):bB (V.take (i + 1))=bB (V.take i) + V[i].size:=by
 rw [List.take_succ_eq_append_getElem h,eH];simp [bB]
theorem mE (n:Nod) (ak av ac:Option Addr) (ck cv cc:Nat) (w:World) (h:NodR w n ak av ac ck cv cc) (z:Nat) (hz:Hid (aG n=z)) (hw:aU n=true) :
  Calls Tryz.prog 182 #[aK n ak av ac ck cv cc] w fun e w' => e=.returned (.int .i64 (z:Int))∧Below w.heap.size w w' := by
 obtain ⟨lf,K,V,C⟩:=n;have h1:=h.ok.k1;have h2:=h.ok.v1;have h3:=h.ok.c1;have HV:=Hd h.v;have vb:=h.ok.vb
 have tot:∀ i,bB (V.take i)≤1000 * 140737488351232:=fun i=>by
  have a:=kK (V.take i) 140737488351232 (fun v hv=>vb v (List.mem_of_mem_take hv));have b:(V.take i).length≤1000:=by have:V.length≤1000:=h2; rw [List.length_take]; omega
  exact Nat.le_trans a (Nat.mul_le_mul_right _ b)
 have TOT:=Hd tot;have VB:=Hd vb;have hk:K.length≤1000:=h1;have hv:V.length≤1000:=h2;have hc:C.length≤1000:=h3;clear h h1 h2 h3 tot vb;unfold aK
 cases lf
 ·have e:(z:Int)=1 + (K.length:Int) * 8 + (C.length:Int) * 2:=by rw [← hz.out]; unfold aG; simp; omega
  rw [e];clear e hz hw;generalize hlk:K.length=lk at *;generalize hlv:V.length=lv at *;generalize hlc:C.length=lc at *;clear HV TOT VB hlk hlv hlc;go_enter Tryz.func182,Tryz.ntmps182;go_wp2_with fail;go_ret;exact ⟨rfl,Br.alloc (Nat.le_refl _) _⟩
 ·have hvk:V.length=K.length:=((aX rfl).1 hw).1
  have e:(z:Int)=1 + (K.length:Int) * 8 + (K.length:Int) * 1 + (bB (V.take V.length):Int):=by rw [← hz.out]; unfold aG; simp; omega
  rw [e];clear e hz hw;have e0:Hid (bB (V.take 0)=0):=Hd rfl;generalize hlk:K.length=lk at *;generalize hlv:V.length=lv at *;generalize hlc:C.length=lc at *;go_enter Tryz.func182,Tryz.ntmps182;go_wp2_with fail
  go_loopw [3,5,29] (fun s v i wr=>∃ j:Nat,j≤lk∧i=.int .i64 (j:Int)∧s=.int .i64 (1 + (lk:Int) * 8 + (lk:Int) + (bB (V.take j):Int))∧wr=w.alloc (.cells #[.bool true,.slice ak lk ck,.slice av lk cv,.slice ac lc cc] 206)) (fun _ _ i _=>lk + 1 - (intOf i).toNat)
  case atStart=>exact ⟨0,Nat.zero_le _,rfl,by rw [e0.out]; simp,rfl⟩
  case round =>
   obtain ⟨j,hj,rfl,rfl,rfl⟩:=hrel
   by_cases hlt:j < lk
   ·have hji:(j:Int) < (lk:Int):=by omega
    have hjV:j < V.length:=by omega
    obtain ⟨b,off,rfl,hb,hcell⟩:=HV.out.at j (by simp; omega)
    have hcell' : (w.alloc (.cells #[.bool true,.slice ak lk ck,.slice (some ⟨b,off,none⟩) lk cv,.slice ac lc cc] 206)).cell? ⟨b,off + j,none⟩=some (.string V[j]):=by
     rw [World.cell?_alloc_lt _ _ _ hb,hcell]; simp
    have BT:=Hd (wW V j hjV);have t1:=TOT.out j;have t2:=VB.out V[j] (List.getElem_mem hjV);generalize hvj:V[j]=x at *;generalize bB (V.take j)=y at *;clear hcell hb hvj;go_wp2_with fail;go_roundw
    case rel=>exact ⟨j + 1,by omega,by go_num,by rw [BT.out]; go_num,by trivial⟩
    case measure=>simp [intOf]; omega
   ·obtain rfl:j=lk:=by omega
    have hji:¬ (j:Int) < (j:Int):=by omega
    go_wp2_with fail;go_ret;exact ⟨AS (by subst hvk; omega),Br.alloc (Nat.le_refl _) _⟩
theorem gN {w w1:World} {o:Obj} (b:Below (w.alloc o).heap.size (w.alloc o) w1):w1.heap[w.heap.size]?=some o:=by
 have h1:w.heap.size < (w.alloc o).heap.size:=by simp
 rw [b.block _ h1];exact han w o
theorem dS {w w1:World} {o:Obj} (b:Below (w.alloc o).heap.size (w.alloc o) w1):Below w.heap.size w w1 :=
 (Br.alloc (Nat.le_refl _) _).trans (b.mono (by simp))
theorem tH (n:Nod) (ak av ac:Option Addr) (ck cv cc:Nat) (w:World) (h:NodR w n ak av ac ck cv cc) (key:Int) (p:Nat) (ok:Bool) (hp:Hid (aW n key=(p,ok))) :
  Calls Tryz.prog 177 #[aK n ak av ac ck cv cc,.int .u64 key] w fun e w' => e=.returned (.tuple #[.int .i64 (p:Int),.bool ok])∧Below w.heap.size w w' := by
 obtain ⟨v,hv⟩:∃ v,aU n=v:=⟨_,rfl⟩
 have WH:=Hd (fun w=>gD n ak av ac ck cv cc w h.ok v hv);have HK:=Hd h.k;have hk:=h.ok.k1
 cases v
 ·have hp' := hp.out
  unfold aW at hp';rw [if_neg (by rw [hv]; simp)] at hp';obtain ⟨rfl,rfl⟩:=Prod.mk.inj hp';clear hp hp' h hv HK;unfold aK at *;go_enter Tryz.func177,Tryz.ntmps177;go_wp2_with fail
  go_step3
  go_wp2_with fail;refine (WH.out _).mono ?_;rintro e w1 ⟨rfl,b1⟩;have B:=dS b1;go_wp2_with fail;try rw [Exit.noGoto_ret]
  go_ret2;exact ⟨rfl,B⟩
 ·have hp' := hp.out
  unfold aW at hp';rw [if_pos hv] at hp';obtain ⟨lf,K,V,C⟩:=n
  dsimp only at hp' HK hk
  have F0:Hid (cZ lf key (K.drop 0) 0=(p,ok)):=Hd hp';have FS:=Hd (fun j hj=>wP lf key K j hj);clear hp hp' h hv;unfold aK at *
  dsimp only at WH ⊢
  obtain ⟨lk,hlk⟩:∃ lk,K.length=lk:=⟨_,rfl⟩
  rw [hlk] at WH hk ⊢;generalize V.length=lv at *;generalize C.length=lc at *;go_enter Tryz.func177,Tryz.ntmps177;go_wp2_with fail
  go_step3
  go_wp2_with fail;refine (WH.out _).mono ?_;rintro e w1 ⟨rfl,b1⟩;have B:=Hd (dS b1);have k1:=gN b1;have k0:=cl k1 0 rfl;have k2:=cl k1 1 rfl;clear k1 b1 WH;have HR:=Hd (HK.out.below B.out);clear HK;go_wp2_with fail
  go_step3
  go_wp2_with fail
  go_loopw [4,5,6,18] (fun s t q i wr=>∃ j:Nat,j≤lk∧i=.int .i64 (j:Int)∧q=.int .i64 (lk:Int)∧s=.int .i64 0∧t=.bool false∧wr=w1∧cZ lf key (K.drop j) j=(p,ok)) (fun _ _ _ i _=>lk + 1 - (intOf i).toNat)
  case atStart=>exact ⟨0,Nat.zero_le _,rfl,rfl,rfl,rfl,rfl,F0.out⟩
  case round =>
   obtain ⟨j,hj,rfl,rfl,rfl,rfl,rfl,hfa⟩:=hrel
   by_cases hlt:j < lk
   ·have hji:(j:Int) < (lk:Int):=by omega
    have hjK:j < K.length:=by omega
    rw [FS.out j hjK] at hfa;obtain ⟨b,off,rfl,hb,hcell⟩:=HR.out.at j (by simpa using hjK);have hcell' : wr.cell? ⟨b,off + j,none⟩=some (.int .u64 K[j]):=by rw [hcell]; simp [bG]
    clear hcell hb;generalize hx:K[j]=x at *;clear hx
    by_cases h1:x=key
    ·subst h1
     cases lf
     ·rw [if_neg (by simp),if_neg (by omega)] at hfa
      have HFA:=Hd hfa;clear hfa;have q1:¬ x < x:=by omega
      go_wp2_with fail;go_roundw
      case rel=>exact ⟨j + 1,by omega,by go_num,rfl,rfl,rfl,by trivial,HFA.out⟩
      case measure=>simp [intOf]; omega
     ·rw [if_pos ⟨rfl,rfl⟩] at hfa
      obtain ⟨rfl,rfl⟩:=Prod.mk.inj hfa;clear hfa F0;go_wp2_with fail;try rw [Exit.noGoto_ret]
      go_ret2;exact ⟨rfl,B.out⟩
    ·have q1:(x == key)=false:=by simpa using h1
     rw [if_neg (fun hc=>h1 hc.2)] at hfa
     by_cases h2:key < x
     ·rw [if_pos h2] at hfa
      obtain ⟨rfl,rfl⟩:=Prod.mk.inj hfa;clear hfa F0
      cases lf
      ·go_wp2_with fail
       go_quiet (fail)
       go_wp2_with fail;try rw [Exit.noGoto_ret]
       go_ret2;exact ⟨rfl,bI B.out _⟩
      ·go_wp2_with fail
       go_quiet (fail)
       go_wp2_with fail;try rw [Exit.noGoto_ret]
       go_ret2;exact ⟨rfl,bI B.out _⟩
     ·rw [if_neg h2] at hfa
      have HFA:=Hd hfa;clear hfa
      cases lf
      all_goals
       go_wp2_with fail;go_roundw
       case rel=>exact ⟨j + 1,by omega,by go_num,rfl,rfl,rfl,by trivial,HFA.out⟩
       case measure=>simp [intOf]; omega
   ·obtain rfl:j=lk:=by omega
    have hji:¬ (j:Int) < (j:Int):=by omega
    rw [zN lf key K j hlk] at hfa;obtain ⟨rfl,rfl⟩:=Prod.mk.inj hfa;clear hfa F0;go_wp2_with fail
    go_quiet (fail)
    go_wp2_with fail;try rw [Exit.noGoto_ret]
    go_ret2;exact ⟨rfl,bI B.out _⟩
structure Src where
 a:Option Addr
 L:List Value
 c:Nat
def Src.val (s:Src):Value:=.slice s.a s.L.length s.c
def aL:List Src→List Value
 | []=>[]
 | s :: r=>s.L ++ aL r
theorem mS (x y:List Src):aL (x ++ y)=aL x ++ aL y:=by
 induction x with
 | nil=>rfl
 | cons a x ih=>simp [aL,ih]
theorem lN (l:List Src) (j:Nat) (h:j < l.length):aL (l.take (j + 1))=aL (l.take j) ++ l[j].L:=by
 rw [List.take_succ_eq_append_getElem h,mS];simp [aL]
theorem qI (l:List Src) (j:Nat):(aL (l.take j)).length≤(aL l).length:=by
 have:aL l=aL (l.take j) ++ aL (l.drop j):=by rw [← mS,List.take_append_drop]
 rw [this,List.length_append]; omega
def bC (base:Nat) (T:TypeId) (L:List Value) (e:Ending) (w' : World):Prop:=∃ v,e=.returned v∧w'.ownsRow base T 1 v L.length L
theorem zE:(Tryz.prog.info? 30).map (fun i=>(i.zero,i.size,i.bytes))=some (some (.int .u64 0),1,8):=by kernel_rfl
theorem TC (n:Nat) (w:World) (hn:n≤100000) :
  Calls Tryz.prog 220 #[.slice none 0 0,.int .i64 (n:Int)] w fun e w' => bC w.heap.size 30 [] e w'∧Below w.heap.size w w' := by
 obtain ⟨i0,hi,hz0,hz1,hz2⟩:=info_parts zE
 by_cases h0:n=0
 ·subst h0
  clear hi hz0 hz1 hz2;go_enter Tryz.func220,Tryz.ntmps220;go_wp2_with fail;go_ret;exact ⟨⟨_,rfl,World.ownsRow_nil _ _ _ _⟩,Br⟩
 ·have hp:0 < n:=by omega
  have hpi:0 < (n:Int):=by omega
  have hA:=Lib.run_append_nil_zeros (P:=Tryz.prog) w 204 3 204 30 i0 (.int .u64 0) .i64 .i64 Tryz.underlying204 Tryz.underlying3 hi hz0 n hp (by omega) (by omega) (by rw [hz2]; omega);have hge:=grownCap_ge w n 0 30;have hle:=grownCap_le_maxLen w n 0 30 (by unfold maxLen; omega)
  have hsz:(Builtin.zeroCells (.int .u64 0:Value).cells n ++ Builtin.zeroCells (.int .u64 0:Value).cells (grownCap w n 0 30 - n)).size=grownCap w n 0 30:=by
   rw [Array.size_append,size_zeroCells,size_zeroCells]
   show n * 1 + (grownCap w n 0 30 - n) * 1=_
   omega
  generalize Builtin.zeroCells (.int .u64 0:Value).cells n ++ Builtin.zeroCells (.int .u64 0:Value).cells (grownCap w n 0 30 - n)=cs at *;generalize grownCap w n 0 30=cap at *
  have FIN:Hid (bC w.heap.size 30 [] (.returned (.slice (some ⟨w.heap.size,0,none⟩) 0 cap)) (w.drew.alloc (.cells cs 30))∧Below w.heap.size w (w.drew.alloc (.cells cs 30))):=Hd
   ⟨⟨_,rfl,rfl,.inr ⟨w.heap.size,cap,cs,rfl,Nat.le_refl _,han w.drew _,Nat.zero_le _,hle,by rw [hsz]; omega,rfl⟩⟩,(Br.drew).alloc (Nat.le_refl _) _⟩
  have hc0:¬ cap=0:=by omega
  clear hi hz0 hz1 hz2 hge hle hsz h0;have HA:=Hd hA;clear hA;go_enter Tryz.func220,Tryz.ntmps220
  go_wp2_with (at_builtin; refine Lib.wpList_append_run _ rfl _ _ _ _ rfl _ _ rfl rfl _ _ HA.out ?_)
  go_ret;exact FIN.out
theorem zF:(Tryz.prog.info? 9).map (fun i=>(i.zero,i.size,i.bytes))=some (some (.string ByteArray.empty),1,16):=by kernel_rfl
theorem TE (n:Nat) (w:World) (hn:n≤100000) :
  Calls Tryz.prog 221 #[.slice none 0 0,.int .i64 (n:Int)] w fun e w' => bC w.heap.size 9 [] e w'∧Below w.heap.size w w' := by
 obtain ⟨i0,hi,hz0,hz1,hz2⟩:=info_parts zF
 by_cases h0:n=0
 ·subst h0
  clear hi hz0 hz1 hz2;go_enter Tryz.func221,Tryz.ntmps221;go_wp2_with fail;go_ret;exact ⟨⟨_,rfl,World.ownsRow_nil _ _ _ _⟩,Br⟩
 ·have hp:0 < n:=by omega
  have hpi:0 < (n:Int):=by omega
  have hA:=Lib.run_append_nil_zeros (P:=Tryz.prog) w 39 3 39 9 i0 (.string ByteArray.empty) .i64 .i64 Tryz.underlying39 Tryz.underlying3 hi hz0 n hp (by omega) (by omega) (by rw [hz2]; omega);have hge:=grownCap_ge w n 0 9;have hle:=grownCap_le_maxLen w n 0 9 (by unfold maxLen; omega)
  have hsz:(Builtin.zeroCells (.string ByteArray.empty:Value).cells n ++ Builtin.zeroCells (.string ByteArray.empty:Value).cells (grownCap w n 0 9 - n)).size=grownCap w n 0 9:=by
   rw [Array.size_append,size_zeroCells,size_zeroCells]
   show n * 1 + (grownCap w n 0 9 - n) * 1=_
   omega
  generalize Builtin.zeroCells (.string ByteArray.empty:Value).cells n ++ Builtin.zeroCells (.string ByteArray.empty:Value).cells (grownCap w n 0 9 - n)=cs at *;generalize grownCap w n 0 9=cap at *
  have FIN:Hid (bC w.heap.size 9 [] (.returned (.slice (some ⟨w.heap.size,0,none⟩) 0 cap)) (w.drew.alloc (.cells cs 9))∧Below w.heap.size w (w.drew.alloc (.cells cs 9))):=Hd
   ⟨⟨_,rfl,rfl,.inr ⟨w.heap.size,cap,cs,rfl,Nat.le_refl _,han w.drew _,Nat.zero_le _,hle,by rw [hsz]; omega,rfl⟩⟩,(Br.drew).alloc (Nat.le_refl _) _⟩
  have hc0:¬ cap=0:=by omega
  clear hi hz0 hz1 hz2 hge hle hsz h0;have HA:=Hd hA;clear hA;go_enter Tryz.func221,Tryz.ntmps221
  go_wp2_with (at_builtin; refine Lib.wpList_append_run _ rfl _ _ _ _ rfl _ _ rfl rfl _ _ HA.out ?_)
  go_ret;exact FIN.out
theorem zG:(Tryz.prog.info? 3).map (fun i=>(i.zero,i.size,i.bytes))=some (some (.int .i64 0),1,8):=by kernel_rfl
theorem TG (n:Nat) (w:World) (hn:n≤100000) :
  Calls Tryz.prog 239 #[.slice none 0 0,.int .i64 (n:Int)] w fun e w' => bC w.heap.size 3 [] e w'∧Below w.heap.size w w' := by
 obtain ⟨i0,hi,hz0,hz1,hz2⟩:=info_parts zG
 by_cases h0:n=0
 ·subst h0
  clear hi hz0 hz1 hz2;go_enter Tryz.func239,Tryz.ntmps239;go_wp2_with fail;go_ret;exact ⟨⟨_,rfl,World.ownsRow_nil _ _ _ _⟩,Br⟩
 ·have hp:0 < n:=by omega
  have hpi:0 < (n:Int):=by omega
  have hA:=Lib.run_append_nil_zeros (P:=Tryz.prog) w 48 3 48 3 i0 (.int .i64 0) .i64 .i64 Tryz.underlying48 Tryz.underlying3 hi hz0 n hp (by omega) (by omega) (by rw [hz2]; omega);have hge:=grownCap_ge w n 0 3;have hle:=grownCap_le_maxLen w n 0 3 (by unfold maxLen; omega)
  have hsz:(Builtin.zeroCells (.int .i64 0:Value).cells n ++ Builtin.zeroCells (.int .i64 0:Value).cells (grownCap w n 0 3 - n)).size=grownCap w n 0 3:=by
   rw [Array.size_append,size_zeroCells,size_zeroCells]
   show n * 1 + (grownCap w n 0 3 - n) * 1=_
   omega
  generalize Builtin.zeroCells (.int .i64 0:Value).cells n ++ Builtin.zeroCells (.int .i64 0:Value).cells (grownCap w n 0 3 - n)=cs at *;generalize grownCap w n 0 3=cap at *
  have FIN:Hid (bC w.heap.size 3 [] (.returned (.slice (some ⟨w.heap.size,0,none⟩) 0 cap)) (w.drew.alloc (.cells cs 3))∧Below w.heap.size w (w.drew.alloc (.cells cs 3))):=Hd
   ⟨⟨_,rfl,rfl,.inr ⟨w.heap.size,cap,cs,rfl,Nat.le_refl _,han w.drew _,Nat.zero_le _,hle,by rw [hsz]; omega,rfl⟩⟩,(Br.drew).alloc (Nat.le_refl _) _⟩
  have hc0:¬ cap=0:=by omega
  clear hi hz0 hz1 hz2 hge hle hsz h0;have HA:=Hd hA;clear hA;go_enter Tryz.func239,Tryz.ntmps239
  go_wp2_with (at_builtin; refine Lib.wpList_append_run _ rfl _ _ _ _ rfl _ _ rfl rfl _ _ HA.out ?_)
  go_ret;exact FIN.out
theorem MV (al:Option Addr) (cl:Nat) (l:List Src) (w:World) (hl:Rd w al (l.map Src.val)) (hs:∀ s∈l,Rd w s.a s.L) (h1:∀ s∈l,∀ u∈s.L,u.oneCell'=true) (hf:(aL l).length≤100000) (hm:l.length≤1000) :
  Calls Tryz.prog 200 #[.slice al l.length cl] w fun e w' => bC w.heap.size 30 (aL l) e w'∧Below w.heap.size w w' := by
 obtain ⟨i0,hi,hz0,hz1,hz2⟩:=info_parts zE;have HL:=Hd hl;have HS:=Hd hs;have H1:=Hd h1;have HT:=Hd (lN l);have HF:=Hd (fun j=>Nat.le_trans (qI l j) hf);have F0:Hid ((aL (l.take 0)).length=0):=Hd rfl;have G:=Hd (fun n w (h:n≤100000)=>TC n w h);have APP:=Hd (fun (wr:World) v n xs hown a L c hr h1 h63 hb hbase=>nP (P:=Tryz.prog) wr w.heap.size 204 204 30 i0 (.int .u64 0) 8 Tryz.underlying204 hi hz0 hz1 hz2 rfl v n xs hown a L c hr h1 h63 hb hbase);obtain ⟨m,hm'⟩:∃ m,l.length=m:=⟨_,rfl⟩
 rw [hm'] at hm ⊢;clear hl hs h1 hf hi hz0 hz1 hz2;go_enter Tryz.func200,Tryz.ntmps200;go_wp2_with fail
 go_loop [3,11] (fun s i=>∃ j:Nat,j≤m∧i=.int .i64 (j:Int)∧s=.int .i64 ((aL (l.take j)).length:Int)) (fun _ i=>m + 1 - (intOf i).toNat)
 case atStart=>exact ⟨0,Nat.zero_le _,rfl,by rw [F0.out]; rfl⟩
 case round =>
  obtain ⟨j,hj,rfl,rfl⟩:=hrel
  by_cases hlt:j < m
  ·have hji:(j:Int) < (m:Int):=by omega
   have hjl:j < l.length:=by omega
   obtain ⟨b,off,rfl,hb,hcell⟩:=HL.out.at j (by simpa using hjl);have hcell' : w.cell? ⟨b,off + j,none⟩=some (.slice l[j].a l[j].L.length l[j].c):=by rw [hcell]; simp [Src.val]
   have BT:=Hd (HT.out j hjl);have t1:=HF.out (j + 1);rw [BT.out,List.length_append] at t1;clear hcell hb;generalize hx:l[j]=x at *;obtain ⟨xa,xL,xc⟩:=x
   dsimp only at hcell' t1 BT
   clear hx;generalize hy:(aL (l.take j)).length=y at *;generalize hz:xL.length=z at *;go_wp2_with fail
   go_round
   case rel=>exact ⟨j + 1,by omega,by go_num,by rw [BT.out,List.length_append,hy,hz]; go_num⟩
   case measure=>simp [intOf]; omega
  ·obtain rfl:j=m:=by omega
   have hji:¬ (j:Int) < (j:Int):=by omega
   have t1:=HF.out j;have hyb:Hid (aL (l.take j)=aL l):=Hd (by rw [List.take_of_length_le (by omega)]);go_wp2_with fail;refine (G.out _ w t1).mono ?_;rintro e w1 ⟨⟨v0,rfl,hv0⟩,b1⟩;have B0:=Hd b1;have O0:=Hd hv0;clear b1 hv0 t1;go_wp2_with fail
   go_loopw [6,27] (fun v i wr=>∃ k:Nat,k≤j∧i=.int .i64 (k:Int)∧wr.ownsRow w.heap.size 30 1 v (aL (l.take k)).length (aL (l.take k))∧Below w.heap.size w wr) (fun _ i _=>j + 1 - (intOf i).toNat)
   case atStart=>exact ⟨0,Nat.zero_le _,rfl,O0.out,B0.out⟩
   case round =>
    obtain ⟨k,hk,rfl,hown,hbel⟩:=hrel
    by_cases hlt2:k < j
    ·have hki:(k:Int) < (j:Int):=by omega
     have hkl:k < l.length:=by omega
     have HB:=Hd hbel;obtain ⟨b,off,rfl,hb,hcell⟩:=(HL.out.below hbel).at k (by simpa using hkl);have hcell' : wr.cell? ⟨b,off + k,none⟩=some (.slice l[k].a l[k].L.length l[k].c):=by rw [hcell]; simp [Src.val]
     have BT:=Hd (HT.out k hkl);have t1:=HF.out (k + 1);rw [BT.out,List.length_append] at t1;obtain ⟨v', w5,hap,hown', hgr⟩:=APP.out wr _ _ _ hown l[k].a l[k].L l[k].c ((HS.out _ (List.getElem_mem hkl)).below hbel) (H1.out _ (List.getElem_mem hkl)) (by unfold maxLen; omega) (by omega) hbel.size;have O5:=Hd hown';have B5:=Hd (hbel.grown hgr hbel.size (fun q hq=>(hown.lt q hq).1));have HA:=Hd hap;clear hcell hb hap hown' hgr hown hbel HB
     go_wp2_with (at_builtin; refine Lib.wpList_append_run _ rfl _ _ _ _ rfl _ _ rfl rfl _ _ HA.out ?_)
     go_roundw
     case rel=>exact ⟨k + 1,by omega,by go_num,by rw [BT.out,List.length_append]; exact O5.out,B5.out⟩
     case measure=>simp [intOf]; omega
    ·obtain rfl:k=j:=by omega
     have hki:¬ (k:Int) < (k:Int):=by omega
     have FIN:Hid (bC w.heap.size 30 (aL l) (.returned _) wr∧Below w.heap.size w wr):=Hd ⟨⟨_,rfl,by rw [← hyb.out]; exact hown⟩,hbel⟩;clear hown hbel;go_wp2_with fail;go_ret;exact FIN.out
theorem LQ (al:Option Addr) (cl:Nat) (l:List Src) (w:World) (hl:Rd w al (l.map Src.val)) (hs:∀ s∈l,Rd w s.a s.L) (h1:∀ s∈l,∀ u∈s.L,u.oneCell'=true) (hf:(aL l).length≤100000) (hm:l.length≤1000) :
  Calls Tryz.prog 180 #[.slice al l.length cl] w fun e w' => bC w.heap.size 30 (aL l) e w'∧Below w.heap.size w w' := by
 have C:=Hd (MV al cl l w hl hs h1 hf hm);obtain ⟨m,hm'⟩:∃ m,l.length=m:=⟨_,rfl⟩
 rw [hm'] at C ⊢;clear hl hs h1 hf;go_enter Tryz.func180,Tryz.ntmps180;go_wp2_with fail;refine C.out.mono ?_;rintro e w1 ⟨⟨v0,rfl,hv0⟩,b1⟩;have O0:=Hd hv0;clear hv0;go_wp2_with fail;go_ret;exact ⟨⟨_,rfl,O0.out⟩,b1⟩
theorem MW (al:Option Addr) (cl:Nat) (l:List Src) (w:World) (hl:Rd w al (l.map Src.val)) (hs:∀ s∈l,Rd w s.a s.L) (h1:∀ s∈l,∀ u∈s.L,u.oneCell'=true) (hf:(aL l).length≤100000) (hm:l.length≤1000) :
  Calls Tryz.prog 201 #[.slice al l.length cl] w fun e w' => bC w.heap.size 9 (aL l) e w'∧Below w.heap.size w w' := by
 obtain ⟨i0,hi,hz0,hz1,hz2⟩:=info_parts zF;have HL:=Hd hl;have HS:=Hd hs;have H1:=Hd h1;have HT:=Hd (lN l);have HF:=Hd (fun j=>Nat.le_trans (qI l j) hf);have F0:Hid ((aL (l.take 0)).length=0):=Hd rfl;have G:=Hd (fun n w (h:n≤100000)=>TE n w h);have APP:=Hd (fun (wr:World) v n xs hown a L c hr h1 h63 hb hbase=>nP (P:=Tryz.prog) wr w.heap.size 39 39 9 i0 (.string ByteArray.empty) 16 Tryz.underlying39 hi hz0 hz1 hz2 rfl v n xs hown a L c hr h1 h63 hb hbase);obtain ⟨m,hm'⟩:∃ m,l.length=m:=⟨_,rfl⟩
 rw [hm'] at hm ⊢;clear hl hs h1 hf hi hz0 hz1 hz2;go_enter Tryz.func201,Tryz.ntmps201;go_wp2_with fail
 go_loop [3,11] (fun s i=>∃ j:Nat,j≤m∧i=.int .i64 (j:Int)∧s=.int .i64 ((aL (l.take j)).length:Int)) (fun _ i=>m + 1 - (intOf i).toNat)
 case atStart=>exact ⟨0,Nat.zero_le _,rfl,by rw [F0.out]; rfl⟩
 case round =>
  obtain ⟨j,hj,rfl,rfl⟩:=hrel
  by_cases hlt:j < m
  ·have hji:(j:Int) < (m:Int):=by omega
   have hjl:j < l.length:=by omega
   obtain ⟨b,off,rfl,hb,hcell⟩:=HL.out.at j (by simpa using hjl);have hcell' : w.cell? ⟨b,off + j,none⟩=some (.slice l[j].a l[j].L.length l[j].c):=by rw [hcell]; simp [Src.val]
   have BT:=Hd (HT.out j hjl);have t1:=HF.out (j + 1);rw [BT.out,List.length_append] at t1;clear hcell hb;generalize hx:l[j]=x at *;obtain ⟨xa,xL,xc⟩:=x
   dsimp only at hcell' t1 BT
   clear hx;generalize hy:(aL (l.take j)).length=y at *;generalize hz:xL.length=z at *;go_wp2_with fail
   go_round
   case rel=>exact ⟨j + 1,by omega,by go_num,by rw [BT.out,List.length_append,hy,hz]; go_num⟩
   case measure=>simp [intOf]; omega
  ·obtain rfl:j=m:=by omega
   have hji:¬ (j:Int) < (j:Int):=by omega
   have t1:=HF.out j;have hyb:Hid (aL (l.take j)=aL l):=Hd (by rw [List.take_of_length_le (by omega)]);go_wp2_with fail;refine (G.out _ w t1).mono ?_;rintro e w1 ⟨⟨v0,rfl,hv0⟩,b1⟩;have B0:=Hd b1;have O0:=Hd hv0;clear b1 hv0 t1;go_wp2_with fail
   go_loopw [6,27] (fun v i wr=>∃ k:Nat,k≤j∧i=.int .i64 (k:Int)∧wr.ownsRow w.heap.size 9 1 v (aL (l.take k)).length (aL (l.take k))∧Below w.heap.size w wr) (fun _ i _=>j + 1 - (intOf i).toNat)
   case atStart=>exact ⟨0,Nat.zero_le _,rfl,O0.out,B0.out⟩
   case round =>
    obtain ⟨k,hk,rfl,hown,hbel⟩:=hrel
    by_cases hlt2:k < j
    ·have hki:(k:Int) < (j:Int):=by omega
     have hkl:k < l.length:=by omega
     have HB:=Hd hbel;obtain ⟨b,off,rfl,hb,hcell⟩:=(HL.out.below hbel).at k (by simpa using hkl);have hcell' : wr.cell? ⟨b,off + k,none⟩=some (.slice l[k].a l[k].L.length l[k].c):=by rw [hcell]; simp [Src.val]
     have BT:=Hd (HT.out k hkl);have t1:=HF.out (k + 1);rw [BT.out,List.length_append] at t1;obtain ⟨v', w5,hap,hown', hgr⟩:=APP.out wr _ _ _ hown l[k].a l[k].L l[k].c ((HS.out _ (List.getElem_mem hkl)).below hbel) (H1.out _ (List.getElem_mem hkl)) (by unfold maxLen; omega) (by omega) hbel.size;have O5:=Hd hown';have B5:=Hd (hbel.grown hgr hbel.size (fun q hq=>(hown.lt q hq).1));have HA:=Hd hap;clear hcell hb hap hown' hgr hown hbel HB
     go_wp2_with (at_builtin; refine Lib.wpList_append_run _ rfl _ _ _ _ rfl _ _ rfl rfl _ _ HA.out ?_)
     go_roundw
     case rel=>exact ⟨k + 1,by omega,by go_num,by rw [BT.out,List.length_append]; exact O5.out,B5.out⟩
     case measure=>simp [intOf]; omega
    ·obtain rfl:k=j:=by omega
     have hki:¬ (k:Int) < (k:Int):=by omega
     have FIN:Hid (bC w.heap.size 9 (aL l) (.returned _) wr∧Below w.heap.size w wr):=Hd ⟨⟨_,rfl,by rw [← hyb.out]; exact hown⟩,hbel⟩;clear hown hbel;go_wp2_with fail;go_ret;exact FIN.out
theorem LR (al:Option Addr) (cl:Nat) (l:List Src) (w:World) (hl:Rd w al (l.map Src.val)) (hs:∀ s∈l,Rd w s.a s.L) (h1:∀ s∈l,∀ u∈s.L,u.oneCell'=true) (hf:(aL l).length≤100000) (hm:l.length≤1000) :
  Calls Tryz.prog 181 #[.slice al l.length cl] w fun e w' => bC w.heap.size 9 (aL l) e w'∧Below w.heap.size w w' := by
 have C:=Hd (MW al cl l w hl hs h1 hf hm);obtain ⟨m,hm'⟩:∃ m,l.length=m:=⟨_,rfl⟩
 rw [hm'] at C ⊢;clear hl hs h1 hf;go_enter Tryz.func181,Tryz.ntmps181;go_wp2_with fail;refine C.out.mono ?_;rintro e w1 ⟨⟨v0,rfl,hv0⟩,b1⟩;have O0:=Hd hv0;clear hv0;go_wp2_with fail;go_ret;exact ⟨⟨_,rfl,O0.out⟩,b1⟩
theorem MX (al:Option Addr) (cl:Nat) (l:List Src) (w:World) (hl:Rd w al (l.map Src.val)) (hs:∀ s∈l,Rd w s.a s.L) (h1:∀ s∈l,∀ u∈s.L,u.oneCell'=true) (hf:(aL l).length≤100000) (hm:l.length≤1000) :
  Calls Tryz.prog 224 #[.slice al l.length cl] w fun e w' => bC w.heap.size 3 (aL l) e w'∧Below w.heap.size w w' := by
 obtain ⟨i0,hi,hz0,hz1,hz2⟩:=info_parts zG;have HL:=Hd hl;have HS:=Hd hs;have H1:=Hd h1;have HT:=Hd (lN l);have HF:=Hd (fun j=>Nat.le_trans (qI l j) hf);have F0:Hid ((aL (l.take 0)).length=0):=Hd rfl;have G:=Hd (fun n w (h:n≤100000)=>TG n w h);have APP:=Hd (fun (wr:World) v n xs hown a L c hr h1 h63 hb hbase=>nP (P:=Tryz.prog) wr w.heap.size 48 48 3 i0 (.int .i64 0) 8 Tryz.underlying48 hi hz0 hz1 hz2 rfl v n xs hown a L c hr h1 h63 hb hbase);obtain ⟨m,hm'⟩:∃ m,l.length=m:=⟨_,rfl⟩
 rw [hm'] at hm ⊢;clear hl hs h1 hf hi hz0 hz1 hz2;go_enter Tryz.func224,Tryz.ntmps224;go_wp2_with fail
 go_loop [3,11] (fun s i=>∃ j:Nat,j≤m∧i=.int .i64 (j:Int)∧s=.int .i64 ((aL (l.take j)).length:Int)) (fun _ i=>m + 1 - (intOf i).toNat)
 case atStart=>exact ⟨0,Nat.zero_le _,rfl,by rw [F0.out]; rfl⟩
 case round =>
  obtain ⟨j,hj,rfl,rfl⟩:=hrel
  by_cases hlt:j < m
  ·have hji:(j:Int) < (m:Int):=by omega
   have hjl:j < l.length:=by omega
   obtain ⟨b,off,rfl,hb,hcell⟩:=HL.out.at j (by simpa using hjl);have hcell' : w.cell? ⟨b,off + j,none⟩=some (.slice l[j].a l[j].L.length l[j].c):=by rw [hcell]; simp [Src.val]
   have BT:=Hd (HT.out j hjl);have t1:=HF.out (j + 1);rw [BT.out,List.length_append] at t1;clear hcell hb;generalize hx:l[j]=x at *;obtain ⟨xa,xL,xc⟩:=x
   dsimp only at hcell' t1 BT
   clear hx;generalize hy:(aL (l.take j)).length=y at *;generalize hz:xL.length=z at *;go_wp2_with fail
   go_round
   case rel=>exact ⟨j + 1,by omega,by go_num,by rw [BT.out,List.length_append,hy,hz]; go_num⟩
   case measure=>simp [intOf]; omega
  ·obtain rfl:j=m:=by omega
   have hji:¬ (j:Int) < (j:Int):=by omega
   have t1:=HF.out j;have hyb:Hid (aL (l.take j)=aL l):=Hd (by rw [List.take_of_length_le (by omega)]);go_wp2_with fail;refine (G.out _ w t1).mono ?_;rintro e w1 ⟨⟨v0,rfl,hv0⟩,b1⟩;have B0:=Hd b1;have O0:=Hd hv0;clear b1 hv0 t1;go_wp2_with fail
   go_loopw [6,27] (fun v i wr=>∃ k:Nat,k≤j∧i=.int .i64 (k:Int)∧wr.ownsRow w.heap.size 3 1 v (aL (l.take k)).length (aL (l.take k))∧Below w.heap.size w wr) (fun _ i _=>j + 1 - (intOf i).toNat)
   case atStart=>exact ⟨0,Nat.zero_le _,rfl,O0.out,B0.out⟩
   case round =>
    obtain ⟨k,hk,rfl,hown,hbel⟩:=hrel
    by_cases hlt2:k < j
    ·have hki:(k:Int) < (j:Int):=by omega
     have hkl:k < l.length:=by omega
     have HB:=Hd hbel;obtain ⟨b,off,rfl,hb,hcell⟩:=(HL.out.below hbel).at k (by simpa using hkl);have hcell' : wr.cell? ⟨b,off + k,none⟩=some (.slice l[k].a l[k].L.length l[k].c):=by rw [hcell]; simp [Src.val]
     have BT:=Hd (HT.out k hkl);have t1:=HF.out (k + 1);rw [BT.out,List.length_append] at t1;obtain ⟨v', w5,hap,hown', hgr⟩:=APP.out wr _ _ _ hown l[k].a l[k].L l[k].c ((HS.out _ (List.getElem_mem hkl)).below hbel) (H1.out _ (List.getElem_mem hkl)) (by unfold maxLen; omega) (by omega) hbel.size;have O5:=Hd hown';have B5:=Hd (hbel.grown hgr hbel.size (fun q hq=>(hown.lt q hq).1));have HA:=Hd hap;clear hcell hb hap hown' hgr hown hbel HB
     go_wp2_with (at_builtin; refine Lib.wpList_append_run _ rfl _ _ _ _ rfl _ _ rfl rfl _ _ HA.out ?_)
     go_roundw
     case rel=>exact ⟨k + 1,by omega,by go_num,by rw [BT.out,List.length_append]; exact O5.out,B5.out⟩
     case measure=>simp [intOf]; omega
    ·obtain rfl:k=j:=by omega
     have hki:¬ (k:Int) < (k:Int):=by omega
     have FIN:Hid (bC w.heap.size 3 (aL l) (.returned _) wr∧Below w.heap.size w wr):=Hd ⟨⟨_,rfl,by rw [← hyb.out]; exact hown⟩,hbel⟩;clear hown hbel;go_wp2_with fail;go_ret;exact FIN.out
theorem TH (al:Option Addr) (cl:Nat) (l:List Src) (w:World) (hl:Rd w al (l.map Src.val)) (hs:∀ s∈l,Rd w s.a s.L) (h1:∀ s∈l,∀ u∈s.L,u.oneCell'=true) (hf:(aL l).length≤100000) (hm:l.length≤1000) :
  Calls Tryz.prog 211 #[.slice al l.length cl] w fun e w' => bC w.heap.size 3 (aL l) e w'∧Below w.heap.size w w' := by
 have C:=Hd (MX al cl l w hl hs h1 hf hm);obtain ⟨m,hm'⟩:∃ m,l.length=m:=⟨_,rfl⟩
 rw [hm'] at C ⊢;clear hl hs h1 hf;go_enter Tryz.func211,Tryz.ntmps211;go_wp2_with fail;refine C.out.mono ?_;rintro e w1 ⟨⟨v0,rfl,hv0⟩,b1⟩;have O0:=Hd hv0;clear hv0;go_wp2_with fail;go_ret;exact ⟨⟨_,rfl,O0.out⟩,b1⟩
section
variable {P:Program} {ops:Array Oper} {Q:Exit→Act→World→Prop} {md:Region.Mode}
def gP (md:Region.Mode) (o:Oper) (j:Nat):Bool:=o.after.any fun e=>Region.binds md e && e.on == j
def oT (md:Region.Mode) (ops:Array Oper):List Nat→List Nat→Bool
  | _,[]=>true
  | seen,i :: r=>seen.any (fun j=>match ops[j]? with | some o=>gP md o i | none=>false) && oT md ops (i :: seen) r
def fY (md:Region.Mode) (f n:Nat):List Oper→Nat→List Nat→Bool
  | [],_,_=>true
  | o :: r,i,seen =>
    (o.after.all fun e=>!Region.binds md e || decide (e.on < i)) &&
    (if i=f then fY md f n r (i + 1) seen
     else match o.dst with
      | none=>fY md f n r (i + 1) seen
      | some d=>!seen.contains d && decide (d < n) && fY md f n r (i + 1) (d :: seen))
def iX (md:Region.Mode) (ops:Array Oper) (f n:Nat):Bool :=
  fY md f n ops.toList 0 [] && (!decide (f < ops.size) || oT md ops [f] ((List.range ops.size).reverse.filter fun i=>i != f))
def nU (ops:Array Oper) (f t:Nat):Prop:=∀ i o,ops[i]?=some o→i≠f→o.dst≠some t
theorem qX {f n:Nat}:∀ (l:List Oper) (i:Nat) (seen:List Nat),fY md f n l i seen=true→∀ j o,l[j]?=some o→∀ e∈o.after,Region.binds md e=true→e.on < i + j:=by
  intro l
  induction l with
  | nil=>intro i seen _ j o h; simp at h
  | cons p r ih =>
    intro i seen h j o hj e he hb;unfold fY at h;rw [Bool.and_eq_true] at h
    cases j with
    | zero =>
      have:p=o:=by simpa using hj
      subst this;have:=Array.all_eq_true_iff_forall_mem.1 h.1 e he;rw [hb] at this
      simpa using this
    | succ j =>
      have hr:∃ s,fY md f n r (i + 1) s=true:=by
        have h2:=h.2
        split at h2
        · exact ⟨_,h2⟩
        · split at h2
          · exact ⟨_,h2⟩
          · rw [Bool.and_eq_true] at h2; exact ⟨_,h2.2⟩
      obtain ⟨s,hs⟩:=hr;have:=ih (i + 1) s hs j o (by simpa using hj) e he hb;omega
theorem uW {f n:Nat}:∀ (l:List Oper) (i:Nat) (seen:List Nat),fY md f n l i seen=true →
    ∀ j o d,l[j]?=some o→i + j≠f→o.dst=some d→d < n∧d ∉ seen∧∀ k q,k < j→l[k]?=some q→i + k≠f→q.dst≠some d:=by
  intro l
  induction l with
  | nil=>intro i seen _ j o d h; simp at h
  | cons p r ih =>
    intro i seen h j o d hj hf hd;unfold fY at h;rw [Bool.and_eq_true] at h;have h2:=h.2;clear h
    cases j with
    | zero =>
      have:p=o:=by simpa using hj
      subst this;rw [if_neg (by simpa using hf),hd] at h2;simp only [Bool.and_eq_true,Bool.not_eq_true', decide_eq_true_eq] at h2;refine ⟨h2.1.2,?_,fun k q hk=>absurd hk (Nat.not_lt_zero _)⟩;have:=h2.1.1
      simpa using this
    | succ j =>
      have hj' : r[j]?=some o:=by simpa using hj
      by_cases hif:i=f
      · rw [if_pos hif] at h2;obtain ⟨a1,a2,a3⟩:=ih (i + 1) seen h2 j o d hj' (by omega) hd;refine ⟨a1,a2,fun k q hk hq hkf=>?_⟩
        cases k with
        | zero=>exact absurd hif (by simpa using hkf)
        | succ k=>exact a3 k q (by omega) (by simpa using hq) (by omega)
      · rw [if_neg hif] at h2
        cases hpd:p.dst with
        | none =>
          rw [hpd] at h2;obtain ⟨a1,a2,a3⟩:=ih (i + 1) seen h2 j o d hj' (by omega) hd;refine ⟨a1,a2,fun k q hk hq hkf=>?_⟩
          cases k with
          | zero =>
            have:p=q:=by simpa using hq
            subst this;rw [hpd]; simp
          | succ k=>exact a3 k q (by omega) (by simpa using hq) (by omega)
        | some d0 =>
          rw [hpd] at h2;simp only [Bool.and_eq_true] at h2;obtain ⟨a1,a2,a3⟩:=ih (i + 1) (d0 :: seen) h2.2 j o d hj' (by omega) hd;rw [List.mem_cons,not_or] at a2;refine ⟨a1,a2.2,fun k q hk hq hkf=>?_⟩
          cases k with
          | zero =>
            have:p=q:=by simpa using hq
            subst this;rw [hpd];exact fun e=>a2.1 (Option.some.inj e).symm
          | succ k=>exact a3 k q (by omega) (by simpa using hq) (by omega)
theorem zM {f n:Nat} (h:iX md ops f n=true):(∀ i o d,ops[i]?=some o→i≠f→o.dst=some d→d < n)∧∀ i j p q d,ops[i]?=some p→ops[j]?=some q→i≠f→j≠f→p.dst=some d→q.dst=some d→i=j:=by
  unfold iX at h;rw [Bool.and_eq_true] at h;have hs:=uW ops.toList 0 [] h.1
  have key:∀ i o d,ops[i]?=some o→i≠f→o.dst=some d→d < n∧d ∉ ([]:List Nat)∧∀ k q,k < i→ops[k]?=some q→k≠f→q.dst≠some d:=by
    intro i o d hi hf hd;have:=hs i o d (by simpa using hi) (by omega) hd;exact ⟨this.1,this.2.1,fun k q hk hq hkf=>this.2.2 k q hk (by simpa using hq) (by omega)⟩
  refine ⟨fun i o d hi hf hd=>(key i o d hi hf hd).1,fun i j p q d hi hj hif hjf hp hq=>?_⟩
  rcases Nat.lt_trichotomy i j with hlt | heq | hgt
  · exact absurd hp ((key j q d hj hjf hq).2.2 i p hlt hi hif)
  · exact heq
  · exact absurd hq ((key i p d hi hif hp).2.2 j q hgt hj hjf)
theorem tG {f n:Nat} (h:iX md ops f n=true):∀ i o,ops[i]?=some o→∀ e∈o.after,Region.binds md e=true→e.on < i:=by
  unfold iX at h;rw [Bool.and_eq_true] at h;intro i o hi e he hb;have:=qX ops.toList 0 [] h.1 i o (by simpa using hi) e he hb;omega
theorem tO {listed:Array Bool} {f:Nat} (hc:∀ i o,ops[i]?=some o→listed.getD i false=true→∀ e∈o.after,Region.binds md e=true→listed.getD e.on false=true)
    (hf:∀ o,ops[f]?=some o→∀ e∈o.after,Region.binds md e=true→listed.getD e.on false=true) :
    ∀ (todo seen:List Nat),oT md ops seen todo=true→(∀ j∈seen,j=f∨listed.getD j false=true)→∀ i∈todo,listed.getD i false=true:=by
  intro todo
  induction todo with
  | nil=>intro seen _ _ i hi; cases hi
  | cons t r ih =>
    intro seen h hs i hi;unfold oT at h;rw [Bool.and_eq_true] at h
    have ht:listed.getD t false=true:=by
      obtain ⟨j,hj,hw⟩:=List.any_eq_true.1 h.1
      cases ho:ops[j]? with
      | none=>rw [ho] at hw; cases hw
      | some o =>
        rw [ho] at hw;obtain ⟨k,hk,he⟩:=Array.any_eq_true.1 hw;rw [Bool.and_eq_true,beq_iff_eq] at he
        rcases hs j hj with rfl | hl
        · have:=hf o ho _ (Array.getElem_mem hk) he.1;rwa [he.2] at this
        · have:=hc j o ho hl _ (Array.getElem_mem hk) he.1;rwa [he.2] at this
    rcases List.mem_cons.1 hi with rfl | hi
    · exact ht
    · exact ih (t :: seen) h.2 (fun j hj=>by rcases List.mem_cons.1 hj with rfl | hj; exact .inr ht; exact hs j hj) i hi
structure QW (md:Region.Mode) (ops:Array Oper) (f:Nat) (I:Nat→Value→World→Prop) (S:World→Prop) (a0:Act) (b:Array Bool) (a:Act) (w:World):Prop where
  s:S w
  size:a.tmps.size=a0.tmps.size
  defers:a.defers=a0.defers
  old:∀ t,nU ops f t→a.tmps.getD t undef=a0.tmps.getD t undef
  bsize:b.size=ops.size
  closed:∀ i o,ops[i]?=some o→b.getD i false=true→∀ e∈o.after,Region.binds md e=true→b.getD e.on false=true
  done:∀ i o d,ops[i]?=some o→i≠f→b.getD i false=true→o.dst=some d→I i (a.tmps.getD d undef) w
def QU (P:Program) (md:Region.Mode) (ops:Array Oper) (f:Nat) (Q:Exit→Act→World→Prop) (I:Nat→Value→World→Prop) (S:World→Prop) (R:World→World→Prop) (a0:Act) (i:Nat):Prop :=
  ∀ o,ops[i]?=some o→∀ a w,S w→(∀ t,nU ops f t→a.tmps.getD t undef=a0.tmps.getD t undef) →
    (∀ j q d,ops[j]?=some q→gP md o j=true→q.dst=some d→I j (a.tmps.getD d undef) w) →
    ∀ K:Act→World→Prop,(∀ v w', I i v w'→R w w'→K (a.put o.dst v) w')→if Region.wanted o (yielded ops a.tmps)=true then Oper.wp P o a w K Q else K (a.put o.dst undef) w
theorem kR (b:Array Bool) (i:Nat) (h:i < b.size):(b.setIfInBounds i true).getD i false=true:=by
  rw [Array.getD_eq_getD_getElem?,Array.getElem?_setIfInBounds]; simp [h]
theorem dK (b:Array Bool) (i j:Nat) (h:i≠j) (z:Bool):(b.setIfInBounds i true).getD j z=b.getD j z:=by
  rw [Array.getD_eq_getD_getElem?,Array.getD_eq_getD_getElem?,Array.getElem?_setIfInBounds_ne h]
theorem cB {b:Array Bool} {i:Nat} (h:b.getD i true=false):b.getD i false=false∧i < b.size:=by
  rw [Array.getD_eq_getD_getElem?] at h ⊢
  by_cases hi:i < b.size
  · rw [Array.getElem?_eq_getElem hi] at h ⊢;exact ⟨h,hi⟩
  · rw [Array.getElem?_eq_none (by omega)] at h
    cases h
theorem IG {o:Oper} {j:Nat} (h:gP md o j=true):∃ e∈o.after,Region.binds md e=true∧e.on=j:=by
  obtain ⟨k,hk,he⟩:=Array.any_eq_true.1 h;rw [Bool.and_eq_true,beq_iff_eq] at he;exact ⟨_,Array.getElem_mem hk,he.1,he.2⟩
def nW (b:Array Bool):Nat:=b.toList.countP id
theorem CW {b:Array Bool} {i:Nat} (h:b.getD i true=false):nW (b.setIfInBounds i true)=nW b + 1:=by
  obtain ⟨hf,hi⟩:=cB h
  have hv:b.toList[i]'(by simpa using hi)=false:=by
    rw [Array.getD_eq_getD_getElem?,Array.getElem?_eq_getElem hi] at hf
    simpa using hf
  unfold nW;rw [Array.toList_setIfInBounds,List.countP_set (by simpa using hi),hv];simp
theorem CY {b:Array Bool} (h:nW b=b.size) (i:Nat) (hi:i < b.size):b.getD i false=true:=by
  unfold nW at h;have:=(List.countP_eq_length.1 (by rw [h,Array.length_toList])) (b.toList[i]'(by simpa using hi)) (List.getElem_mem _)
  rw [Array.getD_eq_getD_getElem?,Array.getElem?_eq_getElem hi]
  simpa using this
theorem GF {f n i:Nat} {I:Nat→Value→World→Prop} {S:World→Prop} {R:World→World→Prop} {a0:Act} {b:Array Bool} {a:Act} {w:World} (hok:iX md ops f n=true) (hn:a0.tmps.size=n)
    (hI:∀ j v w w', I j v w→R w w'→I j v w') (hS:∀ w w', S w→R w w'→S w') (h:QW md ops f I S a0 b a w) {o:Oper} (ho:ops[i]?=some o) (hif:i≠f) (hr:i∈Region.ready md ops b) {v:Value} {w' : World} (hv:I i v w') (hR:R w w') :
    QW md ops f I S a0 (b.setIfInBounds i true) (a.put o.dst v) w' := by
  obtain ⟨hd1,hd2⟩:=zM hok;obtain ⟨hun,o', ho', hall⟩:=mem_ready.1 hr;rw [ho] at ho';obtain rfl:=Option.some.inj ho';obtain ⟨hbf,hbi⟩:=cB hun
  have hput:∀ t,o.dst≠some t→(a.put o.dst v).tmps.getD t undef=a.tmps.getD t undef:=by
    intro t ht
    cases hd:o.dst with
    | none=>rfl
    | some d =>
      rw [hd] at ht;simp only [Act.put];rw [Array.getD_eq_getD_getElem?,Array.getD_eq_getD_getElem?,Array.getElem?_setIfInBounds_ne (fun e=>ht (by rw [e]))]
  refine { s:=hS _ _ h.s hR,size:=?_,defers:=?_,old:=fun t ht=>?_,bsize:=by simpa using h.bsize,closed:=?_,done:=?_ }
  · cases o.dst <;> simp [Act.put,h.size]
  · cases o.dst <;> simp [Act.put,h.defers]
  · rw [hput t (ht i o ho hif)]; exact h.old t ht
  · intro k q hk hl e he hb
    have hne:∀ j,b.getD j false=true→(b.setIfInBounds i true).getD j false=true:=fun j hj=>by
      by_cases hij:i=j
      · subst hij; exact kR b i hbi
      · rw [dK b i j hij]; exact hj
    by_cases hik:i=k
    · subst hik;rw [ho] at hk;obtain rfl:=Option.some.inj hk;exact hne _ (hall e he hb)
    · rw [dK b i k hik] at hl;exact hne _ (h.closed k q hk hl e he hb)
  · intro k q d hk hkf hl hd
    by_cases hik:i=k
    · subst hik;rw [ho] at hk;obtain rfl:=Option.some.inj hk;have hlt:=hd1 i o d ho hif hd;rw [hd]
      have:((a.put (some d) v).tmps.getD d undef)=v:=by
        simp only [Act.put];rw [Array.getD_eq_getD_getElem?,Array.getElem?_setIfInBounds];simp [h.size,hn,hlt]
      rw [this];exact hv
    · rw [dK b i k hik] at hl;rw [hput d (fun e=>hik (hd2 i k o q d ho hk hif hkf e hd))];exact hI _ _ _ _ (h.done k q d hk hkf hl hd) hR
def UF (P:Program) (md:Region.Mode) (ops:Array Oper) (f:Nat) (Q:Exit→Act→World→Prop) (I:Nat→Value→World→Prop) (S:World→Prop) (a0:Act):Prop :=
  ∀ a w,S w→a.tmps.size=a0.tmps.size→a.defers=a0.defers→(∀ t,nU ops f t→a.tmps.getD t undef=a0.tmps.getD t undef)→(∀ i o d,ops[i]?=some o→i≠f→o.dst=some d→I i (a.tmps.getD d undef) w) →
    match ops[f]? with
    | none=>Q .normal a w
    | some o=>∀ K:Act→World→Prop,(∀ a w,Q .normal a w→K a w)→if Region.wanted o (yielded ops a.tmps)=true then Oper.wp P o a w K Q else K (a.put o.dst undef) w
theorem rS {b:Array Bool} (h:∀ i,i < ops.size→b.getD i false=true):Region.ready md ops b=[]:=by
  apply List.eq_nil_iff_forall_not_mem.2;intro i hi;obtain ⟨hun,o,ho,_⟩:=mem_ready.1 hi;obtain ⟨hf,hb⟩:=cB hun;rw [h i (zl ho)] at hf
  cases hf
theorem CH {n:Nat} {b:Array Bool} {a:Act} {w:World} (h:∀ i,i < ops.size→b.getD i false=true) (hq:Q .normal a w):wpAny P md ops Q n b a w:=by
  have hr:=rS (md:=md) h
  cases n with
  | zero=>exact ⟨hr,hq⟩
  | succ n=>exact ⟨fun _=>hq,fun i hi=>(by rw [hr] at hi; cases hi)⟩
theorem MH {f n:Nat} {I:Nat→Value→World→Prop} {S:World→Prop} {R:World→World→Prop} {a0:Act} (hok:iX md ops f n=true) (hn:a0.tmps.size=n)
    (hI:∀ j v w w', I j v w→R w w'→I j v w') (hS:∀ w w', S w→R w w'→S w') (owes:∀ i,i < ops.size→i≠f→QU P md ops f Q I S R a0 i) (ends:UF P md ops f Q I S a0) :
    ∀ (m:Nat) (b:Array Bool) (a:Act) (w:World),QW md ops f I S a0 b a w→(f < ops.size→b.getD f true=false)→nW b + m=ops.size→wpAny P md ops Q m b a w:=by
  have haft:=tG hok
  have some_ready:∀ (b:Array Bool),b.size=ops.size→∀ i,i < ops.size→b.getD i false=false→Region.ready md ops b≠[]:=by
    intro b hb i
    induction i using Nat.strongRecOn with
    | _ i ih =>
      intro hi hf
      by_cases hall:∀ e∈(ops[i]'hi).after,Region.binds md e=true→b.getD e.on false=true
      · intro hr
        have hm:i∈Region.ready md ops b:=mem_ready.2 ⟨by
          rw [Array.getD_eq_getD_getElem?,Array.getElem?_eq_getElem (by omega)] at hf ⊢; simpa using hf,ops[i],Array.getElem?_eq_getElem hi,hall⟩
        rw [hr] at hm; cases hm
      · simp only [Classical.not_forall] at hall;obtain ⟨e,he,hbi,hne⟩:=hall;have hlt:=haft i ops[i] (Array.getElem?_eq_getElem hi) e he hbi;exact ih e.on hlt (by omega) (by simpa using hne)
  have fin:∀ (b:Array Bool) (a:Act) (w:World),QW md ops f I S a0 b a w→(∀ i,i < ops.size→i≠f→b.getD i false=true)→match ops[f]? with
    | none=>Q .normal a w
    | some o=>∀ K:Act→World→Prop,(∀ a w,Q .normal a w→K a w)→if Region.wanted o (yielded ops a.tmps)=true then Oper.wp P o a w K Q else K (a.put o.dst undef) w:=fun b a w h hall =>
    ends a w h.s h.size h.defers h.old fun i o d hi hif hd=>h.done i o d hi hif (hall i (zl hi) hif) hd
  intro m
  induction m with
  | zero =>
    intro b a w h hf ht;have hall:=CY (b:=b) (by rw [h.bsize]; omega);rw [h.bsize] at hall
    have hnf:¬ f < ops.size:=fun hlt=>by
      have h1:=hf hlt;have h2:=hall f hlt;rw [(cB h1).1] at h2; cases h2
    have:=fin b a w h fun i hi _=>hall i hi
    rw [Array.getElem?_eq_none (by omega)] at this;exact ⟨rS hall,this⟩
  | succ m ih =>
    intro b a w h hf ht;refine ⟨fun hr=>?_,fun i hi=>?_⟩
    · have hall:∀ i,i < ops.size→b.getD i false=true:=fun i hi=>by
        cases hb:b.getD i false with
        | true=>rfl
        | false=>exact absurd hr (some_ready b h.bsize i hi hb)
      have hnf:¬ f < ops.size:=fun hlt=>by
        have h1:=hf hlt;have h2:=hall f hlt;rw [(cB h1).1] at h2; cases h2
      have:=fin b a w h fun i hi _=>hall i hi
      rw [Array.getElem?_eq_none (by omega)] at this;exact this
    · obtain ⟨hun,o,ho,hall⟩:=mem_ready.1 hi;have hilt:i < ops.size:=(zl ho)
      by_cases hif:i=f
      · subst hif
        have hlisted:∀ k,k < ops.size→k≠i→b.getD k false=true:=by
          have hc:=hok;unfold iX at hc;rw [Bool.and_eq_true] at hc;have hc2:=hc.2;rw [show decide (i < ops.size)=true from by simpa using hilt] at hc2;simp only [Bool.not_true,Bool.false_or] at hc2;have:=tO (listed:=b) (f:=i) h.closed (fun o' ho' => by rw [ho] at ho'; obtain rfl:=Option.some.inj ho'; exact hall) _ _ hc2 (fun j hj=>by simp at hj; exact .inl hj);intro k hk hki;exact this k (by simp [hk,hki])
        have hfin:=fin b a w h hlisted;rw [ho] at hfin;refine wpOp_step ho fun K hK=>hfin K fun a2 w2 hq=>hK a2 w2 (CH (fun k hk=>?_) hq)
        by_cases hki:i=k
        · subst hki; exact kR b i (by rw [h.bsize]; exact hk)
        · rw [dK b i k hki]; exact hlisted k hk (Ne.symm hki)
      · refine wpOp_step ho fun K hK=>owes i hilt hif o ho a w h.s h.old (fun j q d hj hw hd=>?_) K fun v w' hv hR=>hK _ _ (ih _ _ _ (GF hok hn hI hS h ho hif hi hv hR) (fun hlt=>?_) ?_)
        · obtain ⟨e,he,hb,rfl⟩:=IG hw
          by_cases hjf:e.on=f
          · have h1:=hall e he hb;rw [hjf] at h1;have hlt:f < ops.size:=by rw [← hjf]; exact (zl hj)
            rw [(cB (hf hlt)).1] at h1; cases h1
          · exact h.done e.on q d hj hjf (hall e he hb) hd
        · rw [dK b i f hif]; exact hf hlt
        · rw [CW hun]; omega
theorem vH (f n:Nat) (I:Nat→Value→World→Prop) (S:World→Prop) (R:World→World→Prop) {id:Nat} {a:Act} {w:World} (hm:P.follows .mixedOrders=true) (hok:iX .any ops f n=true) (hn:a.tmps.size=n)
    (hI:∀ j v w w', I j v w→R w w'→I j v w') (hS:∀ w w', S w→R w w'→S w') (hs:S w.drew) (owes:∀ i,i < ops.size→i≠f→QU P .any ops f Q I S R a i) (ends:UF P .any ops f Q I S a):(Code.region id ops true).wp P Q a w:=by
  refine wp_region_any hm (MH hok hn hI hS owes ends ops.size _ a _ ?_ ?_ ?_)
  · refine { s:=hs,size:=rfl,defers:=rfl,old:=fun _ _=>rfl,bsize:=by simp,closed:=?_,done:=?_ }
    · intro i o _ hl;rw [Array.getD_eq_getD_getElem?] at hl
      by_cases hi:i < ops.size
      · simp [Array.getElem?_replicate,hi] at hl
      · simp [Array.getElem?_replicate,hi] at hl
    · intro i o d _ _ hl;rw [Array.getD_eq_getD_getElem?] at hl
      by_cases hi:i < ops.size
      · simp [Array.getElem?_replicate,hi] at hl
      · simp [Array.getElem?_replicate,hi] at hl
  · intro hlt;rw [Array.getD_eq_getD_getElem?];simp [Array.getElem?_replicate,hlt]
  · have:nW (Array.replicate ops.size false)=0:=by
      unfold nW;rw [Array.toList_replicate,List.countP_eq_zero];intro a ha;rw [List.mem_replicate] at ha;simp [ha.2]
    omega
end
structure SP where
  p:Value→World→Prop
  st:∀ v w w', p v w→Below w.heap.size w w'→p v w'
def eqV (x:Value):SP:=⟨fun v _=>v=x,fun _ _ _ h _=>h⟩
def nQ:SP:=⟨fun _ _=>True,fun _ _ _ h _=>h⟩
def kZ (lo:Nat) (L:List Value):SP:=⟨fun v w=>∃ a c,v=.slice a L.length c∧Rd w a L∧L.length≤c∧c≤maxLen∧∀ x,a=some x→lo≤x.block,fun _ _ _ ⟨a,c,h1,h2,h3,h4,h5⟩ hb=>⟨a,c,h1,h2.below hb,h3,h4,h5⟩⟩
theorem cF {w:World} {base lo:Nat} {T:TypeId} {L:List Value} {v:Value} (h:w.ownsRow base T 1 v L.length L) (hlo:lo≤base):(kZ lo L).p v w:=by
  obtain ⟨a,c,h1,h2,h3,h4⟩:=Rd.own h
  refine ⟨a,c,h1,h2,h3,h4,fun x hx=>?_⟩
  subst hx
  exact Nat.le_trans hlo (h.lt x.block (by rw [h1]; rfl)).1
theorem Rd.set {w:World} {a:Option Addr} {L:List Value} (h:Rd w a L) (p:Addr) (v:Value) (hne:∀ x,a=some x→p.block < x.block):Rd (w.setCell p v) a L:=by
  rcases h with h | ⟨b,off,rfl,h2,h3⟩
  · exact .inl h
  · have hb:b≠p.block:=fun e=>by have h9:p.block < b:=hne _ rfl; omega
    refine .inr ⟨b,off,rfl,by simpa [World.setCell] using h2,fun i u hu=>?_⟩
    rw [← h3 i u hu]
    exact World.cell?_of_block (Below.heap_setCell _ _ _ _ hb)
theorem Rd.set4 {w:World} {a:Option Addr} {L:List Value} (h:Rd w a L) (r:Nat) (v0 v1 v2 v3:Value) (hne:∀ x,a=some x→r < x.block):Rd ((((w.setCell ⟨r,0,none⟩ v0).setCell ⟨r,1,none⟩ v1).setCell ⟨r,2,none⟩ v2).setCell ⟨r,3,none⟩ v3) a L :=
  (((h.set _ _ hne).set _ _ hne).set _ _ hne).set _ _ hne
theorem iP (x:Addr):x.add 0=x:=by obtain ⟨b,o,s⟩:=x; cases s <;> simp [Addr.add]
def mP (L:List Value):SP:=⟨fun v w=>∃ a,v=.slice a L.length L.length∧Rd w a L,fun _ _ _ ⟨a,h1,h2⟩ hb=>⟨a,h1,h2.below hb⟩⟩
def rY (x y:Value) (L:List Value):SP:=⟨fun v w=>∃ a a5,v=.slice a 3 3∧Rd w a [x,.slice a5 L.length L.length,y]∧Rd w a5 L,fun _ _ _ ⟨a,a5,h1,h2,h3⟩ hb=>⟨a,a5,h1,h2.below hb,h3.below hb⟩⟩
theorem Rd.made (w:World) (cs:Array Value) (T:TypeId):Rd (w.alloc (.cells cs T)) (some ⟨w.heap.size,0,none⟩) cs.toList:=by
  refine .inr ⟨w.heap.size,0,rfl,by simp,fun i u hu=>?_⟩
  rw [cob (han w _)]
  simpa using hu
theorem aA (w:World) (o:Obj):Below w.heap.size w (w.alloc o):=(Below.refl _ _).alloc (Nat.le_refl _) _
def pB (f t:Nat):List Oper→Nat→Bool
  | [],_=>true
  | o :: r,i=>(i == f || o.dst != some t) && pB f t r (i + 1)
theorem CP {f t:Nat}:∀ (l:List Oper) (i:Nat),pB f t l i=true→∀ j o,l[j]?=some o→i + j≠f→o.dst≠some t:=by
  intro l
  induction l with
  | nil=>intro i _ j o h; simp at h
  | cons p r ih =>
    intro i h j o hj hf
    unfold pB at h
    rw [Bool.and_eq_true] at h
    cases j with
    | zero =>
      have:p=o:=by simpa using hj
      subst this
      have h1:=h.1
      rw [Bool.or_eq_true] at h1
      rcases h1 with h1 | h1
      · exact absurd (eq_of_beq h1) (by simpa using hf)
      · simpa using h1
    | succ j=>exact ih (i + 1) h.2 j o (by simpa using hj) (by omega)
theorem fR {ops:Array Oper} {f t:Nat} (h:pB f t ops.toList 0=true):nU ops f t:=fun i o hi hf=>CP ops.toList 0 h i o (by simpa using hi) (by omega)
section
variable {P:Program} {ops:Array Oper} {Q:Exit→Act→World→Prop} {md:Region.Mode}
def kit (l:List SP) (i:Nat) (v:Value) (w:World):Prop:=(l.getD i nQ).p v w
def OwesAll (P:Program) (ops:Array Oper) (f:Nat) (Q:Exit→Act→World→Prop) (l:List SP) (w0:World) (a0:Act) (k n:Nat):Prop :=
  ∀ i,k≤i→i < n→i≠f→QU P .any ops f Q (kit l) (fun w=>Below w0.heap.size w0 w) (fun w w' => Below w.heap.size w w') a0 i
theorem OwesAll.nil {f n:Nat} {l:List SP} {w0:World} {a0:Act}:OwesAll P ops f Q l w0 a0 n n:=fun i h1 h2=>absurd h2 (Nat.not_lt.2 h1)
theorem OwesAll.skip {f n:Nat} {l:List SP} {w0:World} {a0:Act} (h:OwesAll P ops f Q l w0 a0 (f + 1) n):OwesAll P ops f Q l w0 a0 f n:=fun i h1 h2 h3=>h i (by omega) h2 h3
theorem OwesAll.cons {f k n:Nat} {l:List SP} {w0:World} {a0:Act} (h0:QU P .any ops f Q (kit l) (fun w=>Below w0.heap.size w0 w) (fun w w' => Below w.heap.size w w') a0 k) (h:OwesAll P ops f Q l w0 a0 (k + 1) n):OwesAll P ops f Q l w0 a0 k n:=fun i h1 h2 h3=>by
  by_cases hk:i=k
  · rw [hk]; exact h0
  · exact h i (by omega) h2 h3
theorem eR (f n:Nat) (l:List SP) {id:Nat} {a:Act} {w:World} (hm:P.follows .mixedOrders=true) (hok:iX .any ops f n=true) (hn:a.tmps.size=n)
    (owes:OwesAll P ops f Q l w a 0 ops.size) (ends:UF P .any ops f Q (kit l) (fun w' => Below w.heap.size w w') a):(Code.region id ops true).wp P Q a w :=
  vH f n (kit l) (fun w' => Below w.heap.size w w') (fun w w' => Below w.heap.size w w') hm hok hn (fun j v w1 w2 h hb=>(l.getD j nQ).st v w1 w2 h hb) (fun w1 w2 h hb=>chain h hb) ((Below.refl _ _).drew)
    (fun i hi hf=>owes i (Nat.zero_le _) hi hf) ends
theorem VW {l:List SP} {o q:Oper} {a:Act} {w:World} {d:Nat} (h:∀ j q d,ops[j]?=some q→gP md o j=true→q.dst=some d→kit l j (a.tmps.getD d undef) w) (j:Nat) (hq:ops[j]?=some q) (hd:q.dst=some d) (hw:gP md o j=true):(l.getD j nQ).p (a.tmps.getD d undef) w:=h j q d hq hw hd
end
section
variable {P:Program} {ops:Array Oper} {Q:Exit→Act→World→Prop}
theorem gd (a:Act) (t:Nat):a.tmps.getD t undef=a.tmps[t]?.getD undef:=Array.getD_eq_getD_getElem? ..
theorem OwesAll.op {f k n:Nat} {l:List SP} {w0:World} {a0:Act} {o:Oper} {r:List Oper} (ho:ops.toList.drop k=o :: r)
    (h0:∀ a w,Below w0.heap.size w0 w→(∀ t,nU ops f t→a.tmps[t]?.getD undef=a0.tmps.getD t undef)→(∀ j q d,ops[j]?=some q→gP .any o j=true→q.dst=some d→kit l j (a.tmps[d]?.getD undef) w) →
      ∀ K:Act→World→Prop,Hid (∀ v w', kit l k v w'→Below w.heap.size w w'→K (a.put o.dst v) w')→if Region.wanted o (yielded ops a.tmps)=true then Oper.wp P o a w K Q else K (a.put o.dst undef) w)
    (h:OwesAll P ops f Q l w0 a0 (k + 1) n):OwesAll P ops f Q l w0 a0 k n:=by
  refine OwesAll.cons ?_ h
  intro o' ho' a w hS hold hdep K hK
  have e:ops[k]?=some o:=by
    have:=congrArg (·[0]?) ho
    simpa using this
  rw [e] at ho'
  injection ho' with ho'
  subst ho'
  exact h0 a w hS (fun t ht=>by rw [← gd]; exact hold t ht) (fun j q d h1 h2 h3=>by rw [← gd]; exact hdep j q d h1 h2 h3) K (Lib.hid hK)
theorem dp {l:List SP} {o q:Oper} {a:Act} {w:World} {d:Nat} (h:∀ j q d,ops[j]?=some q→gP .any o j=true→q.dst=some d→kit l j (a.tmps[d]?.getD undef) w) (j:Nat) (hq:ops[j]?=some q) (hd:q.dst=some d) (hw:gP .any o j=true):(l.getD j nQ).p (a.tmps[d]?.getD undef) w:=h j q d hq hw hd
end
section
variable {P:Program} {ops:Array Oper} {Q:Exit→Act→World→Prop}
theorem Fp {f:Nat} (k:Nat) {n:Nat} {l:List SP} {w0:World} {a0:Act} {o:Oper} {r:List Oper}
    (h0:∀ a w,Below w0.heap.size w0 w→(∀ t,nU ops f t→a.tmps[t]?.getD undef=a0.tmps.getD t undef)→(∀ j q d,ops[j]?=some q→gP .any o j=true→q.dst=some d→kit l j (a.tmps[d]?.getD undef) w) →
      ∀ K:Act→World→Prop,Hid (∀ v w', kit l k v w'→Below w.heap.size w w'→K (a.put o.dst v) w')→if Region.wanted o (yielded ops a.tmps)=true then Oper.wp P o a w K Q else K (a.put o.dst undef) w)
    (h:OwesAll P ops f Q l w0 a0 (k + 1) n) (ho:ops.toList.drop k=o :: r:=by exact rfl):OwesAll P ops f Q l w0 a0 k n:=OwesAll.op ho h0 h
theorem Fo {f:Nat} (k:Nat) {n:Nat} {l:List SP} {w0:World} {a0:Act} {o:Oper} {r:List Oper}
    (h0:∀ a w,Below w0.heap.size w0 w→(∀ t,nU ops f t→a.tmps[t]?.getD undef=a0.tmps.getD t undef)→(∀ j q d,ops[j]?=some q→gP .any o j=true→q.dst=some d→kit l j (a.tmps[d]?.getD undef) w) →
      ∀ K:Act→World→Prop,Hid (∀ v w', kit l k v w'→Below w.heap.size w w'→K (a.put o.dst v) w')→Oper.wp P o a w K Q)
    (h:OwesAll P ops f Q l w0 a0 (k + 1) n) (ho:ops.toList.drop k=o :: r:=by exact rfl) (hw:∀ t,Region.wanted o (yielded ops t)=true:=by intro t; rfl):OwesAll P ops f Q l w0 a0 k n:=OwesAll.op ho (fun a w h1 h2 h3 K hK=>by rw [if_pos (hw _)]; exact h0 a w h1 h2 h3 K hK) h
theorem Hr {l:List SP} {k:Nat} {a:Act} {d:Option Tmp} {w:World} {v:Value} {K:Act→World→Prop} (HK:Hid (∀ v w', kit l k v w'→Below w.heap.size w w'→K (a.put d v) w')) (h:kit l k v w:=by exact rfl):K (a.put d v) w:=HK.out v w h (Below.refl _ _)
theorem Fl {f:Nat} {a a0:Act} {v:Value} {r:List Value} (h:∀ t,nU ops f t→a.tmps[t]?.getD undef=a0.tmps.getD t undef) (t:Nat) (hu:pB f t ops.toList 0=true:=by kernel_rfl) (hv:a0.tmps.toList.drop t=v :: r:=by exact rfl):a.tmps[t]?.getD undef=v:=by
  rw [h t (fR hu),Array.getD_eq_getD_getElem?]
  have e:a0.tmps.toList[t]?=some v:=by
    have:=congrArg (·[0]?) hv
    simpa using this
  rw [← Array.getElem?_toList,e]
  rfl
theorem Fr {l:List SP} {o q:Oper} {a:Act} {w:World} {d:Nat} (h:∀ j q d,ops[j]?=some q→gP .any o j=true→q.dst=some d→kit l j (a.tmps[d]?.getD undef) w) (j:Nat) (hq:ops[j]?=some q:=by exact rfl) (hd:q.dst=some d:=by exact rfl) (hw:gP .any o j=true:=by kernel_rfl):(l.getD j nQ).p (a.tmps[d]?.getD undef) w:=h j q d hq hw hd
theorem Fq {l:List SP} {o q:Oper} {a:Act} {w:World} {d:Nat} {v:Value} (h:∀ j q d,ops[j]?=some q→gP .any o j=true→q.dst=some d→kit l j (a.tmps[d]?.getD undef) w) (j:Nat) (hq:ops[j]?=some q:=by exact rfl) (hd:q.dst=some d:=by exact rfl) (hw:gP .any o j=true:=by kernel_rfl) (he:l.getD j nQ=eqV v:=by exact rfl):a.tmps[d]?.getD undef=v:=by
  have:=h j q d hq hw hd
  unfold kit at this
  rw [he] at this
  exact this
end
def vW (lo:Nat) (LK LV:List Value):SP:=⟨fun v w=>∃ xa xb xc xd,v=.agg #[.bool true,.slice xa LK.length xc,.slice xb LV.length xd,.slice none 0 0]∧Rd w xa LK∧Rd w xb LV∧LK.length≤xc∧xc≤maxLen∧LV.length≤xd∧xd≤maxLen∧(∀ x,xa=some x→lo≤x.block)∧∀ x,xb=some x→lo≤x.block,
 fun _ _ _ ⟨xa,xb,xc,xd,h,q1,q2,q⟩ hb=>⟨xa,xb,xc,xd,h,q1.below hb,q2.below hb,q⟩⟩
def iY (lo:Nat) (LK LV:List Value) (e:Ending) (w' : World):Prop:=∃ v,e=.returned v∧(vW lo LK LV).p v w'
theorem PI (ak av ac a1 a2 a3 a4:Option Addr) (ck cv cc lk lc p:Nat) (key:Int) (v:ByteArray) (LK LV:List Value) (w:World)
  (WH:Hid (∀ w,Calls Tryz.prog 179 #[.agg #[.bool true,.slice ak lk ck,.slice av lk cv,.slice ac lc cc]] w fun e w' => e=.returned (.bool true)∧Below w.heap.size w w'))
  (FI:Hid (∀ w1,Below w.heap.size w w1→Calls Tryz.prog 177 #[.agg #[.bool true,.slice ak lk ck,.slice av lk cv,.slice ac lc cc],.int .u64 key] w1 fun e w' => e=.returned (.tuple #[.int .i64 (p:Int),.bool false])∧Below w1.heap.size w1 w'))
  (S1:Hid (sliced ak 0 p ck 1=.slice a1 p ck)) (S2:Hid (sliced ak p lk ck 1=.slice a2 (lk - p) (ck - p))) (S3:Hid (sliced av 0 p cv 1=.slice a3 p cv)) (S4:Hid (sliced av p lk cv 1=.slice a4 (lk - p) (cv - p)))
  (CK:Hid (∀ wx a m,Below w.heap.size w wx→Rd wx a [.slice a1 p ck,.slice m 1 1,.slice a2 (lk - p) (ck - p)]→Rd wx m [bG key]→Calls Tryz.prog 180 #[.slice a 3 3] wx fun e w' => bC wx.heap.size 30 LK e w'∧Below wx.heap.size wx w'))
  (CV:Hid (∀ wx a m,Below w.heap.size w wx→Rd wx a [.slice a3 p cv,.slice m 1 1,.slice a4 (lk - p) (cv - p)]→Rd wx m [.string v]→Calls Tryz.prog 181 #[.slice a 3 3] wx fun e w' => bC wx.heap.size 9 LV e w'∧Below wx.heap.size wx w'))
  (h1:p≤lk) (h2:p≤lk) (h4:lk≤ck) (h5:lk≤cv) (h6:lk≤1000) :
  Calls Tryz.prog 187 #[.agg #[.bool true,.slice ak lk ck,.slice av lk cv,.slice ac lc cc],.int .u64 key,.string v] w fun e w' => iY w.heap.size LK LV e w'∧Below w.heap.size w w' := by
 have i1:(p:Int)≤(ck:Int):=by omega
 have i2:(p:Int)≤(lk:Int):=by omega
 have i3:(p:Int)≤(cv:Int):=by omega
 have i4:(p:Int)≤(lk:Int):=by omega
 have i5:(p:Int)≤1000:=by omega
 go_enter Tryz.func187,Tryz.ntmps187;go_wp2_with fail;refine (WH.out _).mono ?_;rintro e w1 ⟨rfl,b1⟩;have X1:=kept (han (w.alloc _) _) b1;have Y1:=kept (show ((w.alloc (.cells #[.bool true,.slice ak lk ck,.slice av lk cv,.slice ac lc cc] 206)).alloc (.cells #[.bool false,.slice none 0 0,.slice none 0 0,.slice none 0 0] 206)).heap[w.heap.size]?=some (.cells #[.bool true,.slice ak lk ck,.slice av lk cv,.slice ac lc cc] 206) from (hao _ _ (by simp)).trans (han w _)) b1
 have B1:Below w.heap.size w w1:=((Br.alloc (Nat.le_refl _) _).alloc (by simp) _).trans (b1.mono (by simp; omega));have k0:=cl Y1 0 rfl;have k1:=cl Y1 1 rfl;have k2:=cl Y1 2 rfl;have k3:=cl Y1 3 rfl;have XH:=Hd X1;have YH:=Hd Y1;have BH:=Hd B1;clear b1 X1 Y1 B1;go_wp2_with fail;refine (FI.out _ BH.out).mono ?_;rintro e w2 ⟨rfl,b2⟩;have X2:=kept XH.out b2;have Y2:=kept YH.out b2;have B2:=Hd (chain BH.out b2);clear XH YH BH k0 k1 k2 k3 b2;have lt0:w.heap.size < w2.heap.size:=(zl Y2);have c1:=cl Y2 1 rfl;have c2:=cl Y2 2 rfl
 have X:=Hd X2;have Y:=Hd Y2;clear X2 Y2 FI WH;go_wp2_with fail
 refine eR 25 54 [eqV (.pointer (some ⟨w.heap.size,1,none⟩)),eqV (.slice ak lk ck),eqV (.int .i64 (p:Int)),eqV (.slice a1 p ck),eqV (.int .u64 key),mP [bG key],eqV (.pointer (some ⟨w.heap.size,1,none⟩)),eqV (.slice ak lk ck),eqV (.int .i64 ((p:Int))),eqV (.slice a2 (lk - p) (ck - p)),rY (.slice a1 p ck) (.slice a2 (lk - p) (ck - p)) [bG key],kZ w2.heap.size (LK),eqV (.pointer (some ⟨w.heap.size,2,none⟩)),eqV (.slice av lk cv),eqV (.int .i64 (p:Int)),eqV (.slice a3 p cv),eqV (.string v),mP [.string v],eqV (.pointer (some ⟨w.heap.size,2,none⟩)),eqV (.slice av lk cv),eqV (.int .i64 ((p:Int))),eqV (.slice a4 (lk - p) (cv - p)),rY (.slice a3 p cv) (.slice a4 (lk - p) (cv - p)) [.string v],kZ w2.heap.size (LV),vW w2.heap.size LK LV,nQ] (by kernel_rfl) (by kernel_rfl) (by rfl) ?owes ?ends
 case owes =>
  refine Fo 0 (fun a wx hS xo xd K HK=>?_) ?_
  ·have d3:=Fl xo 3
   clear xo xd;go_simp;exact Hr HK
  refine Fo 1 (fun a wx hS xo xd K HK=>?_) ?_
  ·have d29:=Fq xd 0
   clear xo xd;have c0:=hC c1 hS lt0;go_simp;exact Hr HK
  refine Fo 2 (fun a wx hS xo xd K HK=>?_) ?_
  ·have d7:=Fl xo 7
   clear xo xd;go_simp;exact Hr HK
  refine Fo 3 (fun a wx hS xo xd K HK=>?_) ?_
  ·have d30:=Fq xd 1
   have d31:=Fq xd 2;clear xo xd;go_simp;refine HK.out _ _ ?_ Br
   show _=_
   rw [← S1.out];simp [sliced,iP,Addr.add]
  refine Fo 4 (fun a wx hS xo xd K HK=>?_) ?_
  ·have d1:=Fl xo 1
   clear xo xd;go_simp;exact Hr HK
  refine Fo 5 (fun a wx hS xo xd K HK=>?_) ?_
  ·have d33:=Fq xd 4
   clear xo xd;go_simp;exact HK.out _ _ ⟨_,rfl,Rd.made _ _ _⟩ (aA _ _)
  refine Fo 6 (fun a wx hS xo xd K HK=>?_) ?_
  ·have d3:=Fl xo 3
   clear xo xd;go_simp;exact Hr HK
  refine Fo 7 (fun a wx hS xo xd K HK=>?_) ?_
  ·have d35:=Fq xd 6
   clear xo xd;have c0:=hC c1 hS lt0;go_simp;exact Hr HK
  refine Fo 8 (fun a wx hS xo xd K HK=>?_) ?_
  ·have d9:=Fl xo 9
   clear xo xd;go_simp;exact Hr HK
  refine Fo 9 (fun a wx hS xo xd K HK=>?_) ?_
  ·have d36:=Fq xd 7
   have d37:=Fq xd 8;clear xo xd;go_simp;refine HK.out _ _ ?_ Br
   show _=_
   rw [← S2.out];simp [sliced,iP,Addr.add]
  refine Fo 10 (fun a wx hS xo xd K HK=>?_) ?_
  ·have d32:=Fq xd 3
   obtain ⟨a34,d34,r34⟩:=Fr xd 5;have d38:=Fq xd 9;clear xo xd;go_simp;exact HK.out _ _ ⟨_,a34,rfl,Rd.made _ _ _,r34.below (aA _ _)⟩ (aA _ _)
  refine Fo 11 (fun a wx hS xo xd K HK=>?_) ?_
  ·obtain ⟨a39,m39,d39,r39,s39⟩:=Fr xd 10
   clear xo xd;have CA:=CK.out wx a39 m39 (chain B2.out hS) r39 s39;clear r39 s39;go_simp;go_wp2_with fail;refine CA.mono ?_;rintro e w9 ⟨⟨v9,rfl,h9⟩,b9⟩;exact HK.out _ _ (cF h9 hS.size) b9
  refine Fo 12 (fun a wx hS xo xd K HK=>?_) ?_
  ·have d3:=Fl xo 3
   clear xo xd;go_simp;exact Hr HK
  refine Fo 13 (fun a wx hS xo xd K HK=>?_) ?_
  ·have d41:=Fq xd 12
   clear xo xd;have c0:=hC c2 hS lt0;go_simp;exact Hr HK
  refine Fo 14 (fun a wx hS xo xd K HK=>?_) ?_
  ·have d7:=Fl xo 7
   clear xo xd;go_simp;exact Hr HK
  refine Fo 15 (fun a wx hS xo xd K HK=>?_) ?_
  ·have d42:=Fq xd 13
   have d43:=Fq xd 14;clear xo xd;go_simp;refine HK.out _ _ ?_ Br
   show _=_
   rw [← S3.out];simp [sliced,iP,Addr.add]
  refine Fo 16 (fun a wx hS xo xd K HK=>?_) ?_
  ·have d2:=Fl xo 2
   clear xo xd;go_simp;exact Hr HK
  refine Fo 17 (fun a wx hS xo xd K HK=>?_) ?_
  ·have d45:=Fq xd 16
   clear xo xd;go_simp;exact HK.out _ _ ⟨_,rfl,Rd.made _ _ _⟩ (aA _ _)
  refine Fo 18 (fun a wx hS xo xd K HK=>?_) ?_
  ·have d3:=Fl xo 3
   clear xo xd;go_simp;exact Hr HK
  refine Fo 19 (fun a wx hS xo xd K HK=>?_) ?_
  ·have d47:=Fq xd 18
   clear xo xd;have c0:=hC c2 hS lt0;go_simp;exact Hr HK
  refine Fo 20 (fun a wx hS xo xd K HK=>?_) ?_
  ·have d9:=Fl xo 9
   clear xo xd;go_simp;exact Hr HK
  refine Fo 21 (fun a wx hS xo xd K HK=>?_) ?_
  ·have d48:=Fq xd 19
   have d49:=Fq xd 20;clear xo xd;go_simp;refine HK.out _ _ ?_ Br
   show _=_
   rw [← S4.out];simp [sliced,iP,Addr.add]
  refine Fo 22 (fun a wx hS xo xd K HK=>?_) ?_
  ·have d44:=Fq xd 15
   obtain ⟨a46,d46,r46⟩:=Fr xd 17;have d50:=Fq xd 21;clear xo xd;go_simp;exact HK.out _ _ ⟨_,a46,rfl,Rd.made _ _ _,r46.below (aA _ _)⟩ (aA _ _)
  refine Fo 23 (fun a wx hS xo xd K HK=>?_) ?_
  ·obtain ⟨a51,m51,d51,r51,s51⟩:=Fr xd 22
   clear xo xd;have CA:=CV.out wx a51 m51 (chain B2.out hS) r51 s51;clear r51 s51;go_simp;go_wp2_with fail;refine CA.mono ?_;rintro e w9 ⟨⟨v9,rfl,h9⟩,b9⟩;exact HK.out _ _ (cF h9 hS.size) b9
  refine Fo 24 (fun a wx hS xo xd K HK=>?_) ?_
  ·obtain ⟨a40,c40,d40,r40,l40,m40,n40⟩:=Fr xd 11
   obtain ⟨a52,c52,d52,r52,l52,m52,n52⟩:=Fr xd 23;clear xo xd;go_simp;exact HK.out _ _ ⟨_,_,_,_,rfl,r40,r52,l40,m40,l52,m52,n40,n52⟩ Br
  refine OwesAll.skip (f:=25) ?_;exact OwesAll.nil
 case ends =>
  intro a wx hS hsz hdf hold hdone;simp only [List.getElem?_toArray,List.getElem?_cons_succ,List.getElem?_cons_zero];intro K hK;have HK:=Hd hK;clear hK;obtain ⟨xa,xb,xc,xd,d53,q1,q2,q3,q4,q5,q6,q7,q8⟩:=hdone 24 _ 53 rfl (by decide) rfl;have d6:a.tmps.getD 6 undef=.pointer (some ⟨w.heap.size + 1,0,none⟩):=hold 6 (fR (by kernel_rfl));have hdf' : a.defers=[]:=hdf;clear hold hdone hsz hdf;rw [Array.getD_eq_getD_getElem?] at d53 d6;have XB:=kept X.out hS
  rw [show (w.alloc (.cells #[.bool true,.slice ak lk ck,.slice av lk cv,.slice ac lc cc] 206)).heap.size=w.heap.size + 1 from by simp] at XB;have y0:=cl XB 0 rfl;have y1:=cl XB 1 rfl;have y2:=cl XB 2 rfl;have y3:=cl XB 3 rfl;have f0:=ufb XB 0;have f1:=ufb XB 1;have f2:=ufb XB 2;have f3:=ufb XB 3;rw [if_pos (by rfl)];go_simp;refine HK.out _ _ ?_
  have B9:Below w.heap.size w ((((wx.setCell ⟨w.heap.size + 1,0,none⟩ (.bool true)).setCell ⟨w.heap.size + 1,1,none⟩ (.slice xa LK.length xc)).setCell ⟨w.heap.size + 1,2,none⟩ (.slice xb LV.length xd)).setCell ⟨w.heap.size + 1,3,none⟩ (.slice none 0 0)) :=
   ((((chain B2.out hS).setCell (by simp) _).setCell (by simp) _).setCell (by simp) _).setCell (by simp) _
  clear y0 y1 y2 y3 f0 f1 f2 f3 HK K;go_wp2_with fail;have lt1:w.heap.size + 1 < w2.heap.size:=by have:=(zl X.out); simpa using this
  have FIN:Hid (iY w.heap.size LK LV (.returned (.agg #[.bool true,.slice xa LK.length xc,.slice xb LV.length xd,.slice none 0 0])) ((((wx.setCell ⟨w.heap.size + 1,0,none⟩ (.bool true)).setCell ⟨w.heap.size + 1,1,none⟩ (.slice xa LK.length xc)).setCell ⟨w.heap.size + 1,2,none⟩ (.slice xb LV.length xd)).setCell ⟨w.heap.size + 1,3,none⟩ (.slice none 0 0))) :=
   Hd ⟨_,rfl,xa,xb,xc,xd,rfl,q1.set4 _ _ _ _ _ (fun x hx=>Nat.lt_of_lt_of_le lt1 (q7 x hx)),q2.set4 _ _ _ _ _ (fun x hx=>Nat.lt_of_lt_of_le lt1 (q8 x hx)),q3,q4,q5,q6,fun x hx=>Nat.le_trans (Nat.le_of_lt lt0) (q7 x hx),fun x hx=>Nat.le_trans (Nat.le_of_lt lt0) (q8 x hx)⟩
  have XR:(((((wx.setCell ⟨w.heap.size + 1,0,none⟩ (.bool true)).setCell ⟨w.heap.size + 1,1,none⟩ (.slice xa LK.length xc)).setCell ⟨w.heap.size + 1,2,none⟩ (.slice xb LV.length xd)).setCell ⟨w.heap.size + 1,3,none⟩ (.slice none 0 0))).heap[w.heap.size + 1]?=some (.cells #[.bool true,.slice xa LK.length xc,.slice xb LV.length xd,.slice none 0 0] 206):=by
   rw [hss _ _ 3 _ _ _ (hss _ _ 2 _ _ _ (hss _ _ 1 _ _ _ (hss _ _ 0 _ _ _ XB)))]
   rfl
  generalize ((((wx.setCell ⟨w.heap.size + 1,0,none⟩ (.bool true)).setCell ⟨w.heap.size + 1,1,none⟩ (.slice xa LK.length xc)).setCell ⟨w.heap.size + 1,2,none⟩ (.slice xb LV.length xd)).setCell ⟨w.heap.size + 1,3,none⟩ (.slice none 0 0))=wz at *;have z0:=cl XR 0 rfl;have z1:=cl XR 1 rfl;have z2:=cl XR 2 rfl;have z3:=cl XR 3 rfl;exact bodyPost_ret (v:=.agg #[.bool true,.slice xa LK.length xc,.slice xb LV.length xd,.slice none 0 0]) (by simp [results,Tryz.results187,go_sem,d6,z0,z1,z2,z3]) hdf' ⟨FIN.out,B9⟩
theorem LB (ak av ac a1 a2 a3 a4:Option Addr) (ck cv cc lk lc p:Nat) (key:Int) (v:ByteArray) (LK LV:List Value) (w:World)
  (WH:Hid (∀ w,Calls Tryz.prog 179 #[.agg #[.bool true,.slice ak lk ck,.slice av lk cv,.slice ac lc cc]] w fun e w' => e=.returned (.bool true)∧Below w.heap.size w w'))
  (FI:Hid (∀ w1,Below w.heap.size w w1→Calls Tryz.prog 177 #[.agg #[.bool true,.slice ak lk ck,.slice av lk cv,.slice ac lc cc],.int .u64 key] w1 fun e w' => e=.returned (.tuple #[.int .i64 (p:Int),.bool true])∧Below w1.heap.size w1 w'))
  (S1:Hid (sliced ak 0 p ck 1=.slice a1 p ck)) (S2:Hid (sliced ak (p + 1) lk ck 1=.slice a2 (lk - (p + 1)) (ck - (p + 1)))) (S3:Hid (sliced av 0 p cv 1=.slice a3 p cv)) (S4:Hid (sliced av (p + 1) lk cv 1=.slice a4 (lk - (p + 1)) (cv - (p + 1))))
  (CK:Hid (∀ wx a m,Below w.heap.size w wx→Rd wx a [.slice a1 p ck,.slice m 1 1,.slice a2 (lk - (p + 1)) (ck - (p + 1))]→Rd wx m [bG key]→Calls Tryz.prog 180 #[.slice a 3 3] wx fun e w' => bC wx.heap.size 30 LK e w'∧Below wx.heap.size wx w'))
  (CV:Hid (∀ wx a m,Below w.heap.size w wx→Rd wx a [.slice a3 p cv,.slice m 1 1,.slice a4 (lk - (p + 1)) (cv - (p + 1))]→Rd wx m [.string v]→Calls Tryz.prog 181 #[.slice a 3 3] wx fun e w' => bC wx.heap.size 9 LV e w'∧Below wx.heap.size wx w'))
  (h1:p≤lk) (h2:(p + 1)≤lk) (h4:lk≤ck) (h5:lk≤cv) (h6:lk≤1000) :
  Calls Tryz.prog 187 #[.agg #[.bool true,.slice ak lk ck,.slice av lk cv,.slice ac lc cc],.int .u64 key,.string v] w fun e w' => iY w.heap.size LK LV e w'∧Below w.heap.size w w' := by
 have i1:(p:Int)≤(ck:Int):=by omega
 have i2:(p:Int) + 1≤(lk:Int):=by omega
 have i3:(p:Int)≤(cv:Int):=by omega
 have i4:(p:Int) + 1≤(lk:Int):=by omega
 have i5:(p:Int)≤1000:=by omega
 go_enter Tryz.func187,Tryz.ntmps187;go_wp2_with fail;refine (WH.out _).mono ?_;rintro e w1 ⟨rfl,b1⟩;have X1:=kept (han (w.alloc _) _) b1;have Y1:=kept (show ((w.alloc (.cells #[.bool true,.slice ak lk ck,.slice av lk cv,.slice ac lc cc] 206)).alloc (.cells #[.bool false,.slice none 0 0,.slice none 0 0,.slice none 0 0] 206)).heap[w.heap.size]?=some (.cells #[.bool true,.slice ak lk ck,.slice av lk cv,.slice ac lc cc] 206) from (hao _ _ (by simp)).trans (han w _)) b1
 have B1:Below w.heap.size w w1:=((Br.alloc (Nat.le_refl _) _).alloc (by simp) _).trans (b1.mono (by simp; omega));have k0:=cl Y1 0 rfl;have k1:=cl Y1 1 rfl;have k2:=cl Y1 2 rfl;have k3:=cl Y1 3 rfl;have XH:=Hd X1;have YH:=Hd Y1;have BH:=Hd B1;clear b1 X1 Y1 B1;go_wp2_with fail;refine (FI.out _ BH.out).mono ?_;rintro e w2 ⟨rfl,b2⟩;have X2:=kept XH.out b2;have Y2:=kept YH.out b2;have B2:=Hd (chain BH.out b2);clear XH YH BH k0 k1 k2 k3 b2;have lt0:w.heap.size < w2.heap.size:=(zl Y2);have c1:=cl Y2 1 rfl;have c2:=cl Y2 2 rfl
 have X:=Hd X2;have Y:=Hd Y2;clear X2 Y2 FI WH;go_wp2_with fail
 refine eR 25 54 [eqV (.pointer (some ⟨w.heap.size,1,none⟩)),eqV (.slice ak lk ck),eqV (.int .i64 (p:Int)),eqV (.slice a1 p ck),eqV (.int .u64 key),mP [bG key],eqV (.pointer (some ⟨w.heap.size,1,none⟩)),eqV (.slice ak lk ck),eqV (.int .i64 ((p:Int) + 1)),eqV (.slice a2 (lk - (p + 1)) (ck - (p + 1))),rY (.slice a1 p ck) (.slice a2 (lk - (p + 1)) (ck - (p + 1))) [bG key],kZ w2.heap.size (LK),eqV (.pointer (some ⟨w.heap.size,2,none⟩)),eqV (.slice av lk cv),eqV (.int .i64 (p:Int)),eqV (.slice a3 p cv),eqV (.string v),mP [.string v],eqV (.pointer (some ⟨w.heap.size,2,none⟩)),eqV (.slice av lk cv),eqV (.int .i64 ((p:Int) + 1)),eqV (.slice a4 (lk - (p + 1)) (cv - (p + 1))),rY (.slice a3 p cv) (.slice a4 (lk - (p + 1)) (cv - (p + 1))) [.string v],kZ w2.heap.size (LV),vW w2.heap.size LK LV,nQ] (by kernel_rfl) (by kernel_rfl) (by rfl) ?owes ?ends
 case owes =>
  refine Fo 0 (fun a wx hS xo xd K HK=>?_) ?_
  ·have d3:=Fl xo 3
   clear xo xd;go_simp;exact Hr HK
  refine Fo 1 (fun a wx hS xo xd K HK=>?_) ?_
  ·have d29:=Fq xd 0
   clear xo xd;have c0:=hC c1 hS lt0;go_simp;exact Hr HK
  refine Fo 2 (fun a wx hS xo xd K HK=>?_) ?_
  ·have d7:=Fl xo 7
   clear xo xd;go_simp;exact Hr HK
  refine Fo 3 (fun a wx hS xo xd K HK=>?_) ?_
  ·have d30:=Fq xd 1
   have d31:=Fq xd 2;clear xo xd;go_simp;refine HK.out _ _ ?_ Br
   show _=_
   rw [← S1.out];simp [sliced,iP,Addr.add]
  refine Fo 4 (fun a wx hS xo xd K HK=>?_) ?_
  ·have d1:=Fl xo 1
   clear xo xd;go_simp;exact Hr HK
  refine Fo 5 (fun a wx hS xo xd K HK=>?_) ?_
  ·have d33:=Fq xd 4
   clear xo xd;go_simp;exact HK.out _ _ ⟨_,rfl,Rd.made _ _ _⟩ (aA _ _)
  refine Fo 6 (fun a wx hS xo xd K HK=>?_) ?_
  ·have d3:=Fl xo 3
   clear xo xd;go_simp;exact Hr HK
  refine Fo 7 (fun a wx hS xo xd K HK=>?_) ?_
  ·have d35:=Fq xd 6
   clear xo xd;have c0:=hC c1 hS lt0;go_simp;exact Hr HK
  refine Fo 8 (fun a wx hS xo xd K HK=>?_) ?_
  ·have d9:=Fl xo 9
   clear xo xd;go_simp;exact Hr HK
  refine Fo 9 (fun a wx hS xo xd K HK=>?_) ?_
  ·have d36:=Fq xd 7
   have d37:=Fq xd 8;clear xo xd;go_simp;refine HK.out _ _ ?_ Br
   show _=_
   rw [← S2.out];simp [sliced,iP,Addr.add]
  refine Fo 10 (fun a wx hS xo xd K HK=>?_) ?_
  ·have d32:=Fq xd 3
   obtain ⟨a34,d34,r34⟩:=Fr xd 5;have d38:=Fq xd 9;clear xo xd;go_simp;exact HK.out _ _ ⟨_,a34,rfl,Rd.made _ _ _,r34.below (aA _ _)⟩ (aA _ _)
  refine Fo 11 (fun a wx hS xo xd K HK=>?_) ?_
  ·obtain ⟨a39,m39,d39,r39,s39⟩:=Fr xd 10
   clear xo xd;have CA:=CK.out wx a39 m39 (chain B2.out hS) r39 s39;clear r39 s39;go_simp;go_wp2_with fail;refine CA.mono ?_;rintro e w9 ⟨⟨v9,rfl,h9⟩,b9⟩;exact HK.out _ _ (cF h9 hS.size) b9
  refine Fo 12 (fun a wx hS xo xd K HK=>?_) ?_
  ·have d3:=Fl xo 3
   clear xo xd;go_simp;exact Hr HK
  refine Fo 13 (fun a wx hS xo xd K HK=>?_) ?_
  ·have d41:=Fq xd 12
   clear xo xd;have c0:=hC c2 hS lt0;go_simp;exact Hr HK
  refine Fo 14 (fun a wx hS xo xd K HK=>?_) ?_
  ·have d7:=Fl xo 7
   clear xo xd;go_simp;exact Hr HK
  refine Fo 15 (fun a wx hS xo xd K HK=>?_) ?_
  ·have d42:=Fq xd 13
   have d43:=Fq xd 14;clear xo xd;go_simp;refine HK.out _ _ ?_ Br
   show _=_
   rw [← S3.out];simp [sliced,iP,Addr.add]
  refine Fo 16 (fun a wx hS xo xd K HK=>?_) ?_
  ·have d2:=Fl xo 2
   clear xo xd;go_simp;exact Hr HK
  refine Fo 17 (fun a wx hS xo xd K HK=>?_) ?_
  ·have d45:=Fq xd 16
   clear xo xd;go_simp;exact HK.out _ _ ⟨_,rfl,Rd.made _ _ _⟩ (aA _ _)
  refine Fo 18 (fun a wx hS xo xd K HK=>?_) ?_
  ·have d3:=Fl xo 3
   clear xo xd;go_simp;exact Hr HK
  refine Fo 19 (fun a wx hS xo xd K HK=>?_) ?_
  ·have d47:=Fq xd 18
   clear xo xd;have c0:=hC c2 hS lt0;go_simp;exact Hr HK
  refine Fo 20 (fun a wx hS xo xd K HK=>?_) ?_
  ·have d9:=Fl xo 9
   clear xo xd;go_simp;exact Hr HK
  refine Fo 21 (fun a wx hS xo xd K HK=>?_) ?_
  ·have d48:=Fq xd 19
   have d49:=Fq xd 20;clear xo xd;go_simp;refine HK.out _ _ ?_ Br
   show _=_
   rw [← S4.out];simp [sliced,iP,Addr.add]
  refine Fo 22 (fun a wx hS xo xd K HK=>?_) ?_
  ·have d44:=Fq xd 15
   obtain ⟨a46,d46,r46⟩:=Fr xd 17;have d50:=Fq xd 21;clear xo xd;go_simp;exact HK.out _ _ ⟨_,a46,rfl,Rd.made _ _ _,r46.below (aA _ _)⟩ (aA _ _)
  refine Fo 23 (fun a wx hS xo xd K HK=>?_) ?_
  ·obtain ⟨a51,m51,d51,r51,s51⟩:=Fr xd 22
   clear xo xd;have CA:=CV.out wx a51 m51 (chain B2.out hS) r51 s51;clear r51 s51;go_simp;go_wp2_with fail;refine CA.mono ?_;rintro e w9 ⟨⟨v9,rfl,h9⟩,b9⟩;exact HK.out _ _ (cF h9 hS.size) b9
  refine Fo 24 (fun a wx hS xo xd K HK=>?_) ?_
  ·obtain ⟨a40,c40,d40,r40,l40,m40,n40⟩:=Fr xd 11
   obtain ⟨a52,c52,d52,r52,l52,m52,n52⟩:=Fr xd 23;clear xo xd;go_simp;exact HK.out _ _ ⟨_,_,_,_,rfl,r40,r52,l40,m40,l52,m52,n40,n52⟩ Br
  refine OwesAll.skip (f:=25) ?_;exact OwesAll.nil
 case ends =>
  intro a wx hS hsz hdf hold hdone;simp only [List.getElem?_toArray,List.getElem?_cons_succ,List.getElem?_cons_zero];intro K hK;have HK:=Hd hK;clear hK;obtain ⟨xa,xb,xc,xd,d53,q1,q2,q3,q4,q5,q6,q7,q8⟩:=hdone 24 _ 53 rfl (by decide) rfl;have d6:a.tmps.getD 6 undef=.pointer (some ⟨w.heap.size + 1,0,none⟩):=hold 6 (fR (by kernel_rfl));have hdf' : a.defers=[]:=hdf;clear hold hdone hsz hdf;rw [Array.getD_eq_getD_getElem?] at d53 d6;have XB:=kept X.out hS
  rw [show (w.alloc (.cells #[.bool true,.slice ak lk ck,.slice av lk cv,.slice ac lc cc] 206)).heap.size=w.heap.size + 1 from by simp] at XB;have y0:=cl XB 0 rfl;have y1:=cl XB 1 rfl;have y2:=cl XB 2 rfl;have y3:=cl XB 3 rfl;have f0:=ufb XB 0;have f1:=ufb XB 1;have f2:=ufb XB 2;have f3:=ufb XB 3;rw [if_pos (by rfl)];go_simp;refine HK.out _ _ ?_
  have B9:Below w.heap.size w ((((wx.setCell ⟨w.heap.size + 1,0,none⟩ (.bool true)).setCell ⟨w.heap.size + 1,1,none⟩ (.slice xa LK.length xc)).setCell ⟨w.heap.size + 1,2,none⟩ (.slice xb LV.length xd)).setCell ⟨w.heap.size + 1,3,none⟩ (.slice none 0 0)) :=
   ((((chain B2.out hS).setCell (by simp) _).setCell (by simp) _).setCell (by simp) _).setCell (by simp) _
  clear y0 y1 y2 y3 f0 f1 f2 f3 HK K;go_wp2_with fail;have lt1:w.heap.size + 1 < w2.heap.size:=by have:=(zl X.out); simpa using this
  have FIN:Hid (iY w.heap.size LK LV (.returned (.agg #[.bool true,.slice xa LK.length xc,.slice xb LV.length xd,.slice none 0 0])) ((((wx.setCell ⟨w.heap.size + 1,0,none⟩ (.bool true)).setCell ⟨w.heap.size + 1,1,none⟩ (.slice xa LK.length xc)).setCell ⟨w.heap.size + 1,2,none⟩ (.slice xb LV.length xd)).setCell ⟨w.heap.size + 1,3,none⟩ (.slice none 0 0))) :=
   Hd ⟨_,rfl,xa,xb,xc,xd,rfl,q1.set4 _ _ _ _ _ (fun x hx=>Nat.lt_of_lt_of_le lt1 (q7 x hx)),q2.set4 _ _ _ _ _ (fun x hx=>Nat.lt_of_lt_of_le lt1 (q8 x hx)),q3,q4,q5,q6,fun x hx=>Nat.le_trans (Nat.le_of_lt lt0) (q7 x hx),fun x hx=>Nat.le_trans (Nat.le_of_lt lt0) (q8 x hx)⟩
  have XR:(((((wx.setCell ⟨w.heap.size + 1,0,none⟩ (.bool true)).setCell ⟨w.heap.size + 1,1,none⟩ (.slice xa LK.length xc)).setCell ⟨w.heap.size + 1,2,none⟩ (.slice xb LV.length xd)).setCell ⟨w.heap.size + 1,3,none⟩ (.slice none 0 0))).heap[w.heap.size + 1]?=some (.cells #[.bool true,.slice xa LK.length xc,.slice xb LV.length xd,.slice none 0 0] 206):=by
   rw [hss _ _ 3 _ _ _ (hss _ _ 2 _ _ _ (hss _ _ 1 _ _ _ (hss _ _ 0 _ _ _ XB)))]
   rfl
  generalize ((((wx.setCell ⟨w.heap.size + 1,0,none⟩ (.bool true)).setCell ⟨w.heap.size + 1,1,none⟩ (.slice xa LK.length xc)).setCell ⟨w.heap.size + 1,2,none⟩ (.slice xb LV.length xd)).setCell ⟨w.heap.size + 1,3,none⟩ (.slice none 0 0))=wz at *;have z0:=cl XR 0 rfl;have z1:=cl XR 1 rfl;have z2:=cl XR 2 rfl;have z3:=cl XR 3 rfl;exact bodyPost_ret (v:=.agg #[.bool true,.slice xa LK.length xc,.slice xb LV.length xd,.slice none 0 0]) (by simp [results,Tryz.results187,go_sem,d6,z0,z1,z2,z3]) hdf' ⟨FIN.out,B9⟩
end Go.Proofs.YtblbiihpfjjhhaaGreatDoor
