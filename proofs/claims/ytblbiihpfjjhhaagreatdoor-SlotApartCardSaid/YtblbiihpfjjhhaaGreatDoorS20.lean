/-
 Map8, Ap, Aq, Ls, Es, SlM, SlV.
-/
import Derived.Test.YtblbiihpfjjhhaaGreatDoorS04
import Derived.MapKept
import Derived.Test.YtblbiihpfjjhhaaGreatDoorS19
import Derived.Test.YtblbiihpfjjhhaaGreatDoorS17
import Derived.Test.YtblbiihpfjjhhaaGreatDoorS15
import Derived.Test.YtblbiihpfjjhhaaGreatDoorS02
import Derived.Test.YtblbiihpfjjhhaaGreatDoorS03
import Derived.Deep.DeepCutAuto
import Derived.Test.YtblbiihpfjjhhaaGreatDoorS01
import Derived.Laws.Rows
import Derived.Laws.Tables
namespace Go.Proofs.YtblbiihpfjjhhaaGreatDoor
open Go.RowKit
set_option maxRecDepth 20000
set_option maxHeartbeats 12800000
set_option linter.unusedVariables false
set_option linter.unusedSimpArgs false
def lM:List (Int × Value)→Int→Option Value
 | [],_=>none
 | p :: L,k=>if p.1=k then some p.2 else lM L k
def pO:List (Int × Value)→Int→Value→List (Int × Value)
 | [],k,v=>[(k,v)]
 | p :: L,k,v=>if p.1=k then (k,v) :: L else p :: pO L k v
theorem LZ (L:List (Int × Value)) (k:Int) (v:Value) (k' : Int):lM (pO L k v) k'=if k'=k then some v else lM L k' := by
 induction L with
 | nil =>
  simp only [pO,lM]
  by_cases h:k=k'
  ·rw [if_pos h,if_pos h.symm]
  ·rw [if_neg h,if_neg (Ne.symm h)]
 | cons p L ih =>
  simp only [pO]
  by_cases h:p.1=k
  ·rw [if_pos h]
   simp only [lM]
   by_cases h2:k=k'
   ·rw [if_pos h2,if_pos h2.symm]
   ·rw [if_neg h2,if_neg (Ne.symm h2),if_neg (by rw [h]; exact h2)]
  ·rw [if_neg h]
   simp only [lM,ih]
   by_cases h2:p.1=k'
   ·rw [if_pos h2,if_neg (by rw [← h2]; exact h),if_pos h2]
   ·rw [if_neg h2,if_neg h2]
def tW (L:List (Int × Value)) (l:List MapEntry):Prop:=l.map (fun e=>(e.key,e.val))=L.map (fun p=>(Value.int .u8 p.1,p.2))
def Map8 (w:World) (m:Nat) (L:List (Int × Value)):Prop:=∃ es clock,w.heap[m]?=some (.map es clock)∧tW L es.toList
theorem Map8.kept {w w' : World} {m:Nat} {L:List (Int × Value)} (h:Map8 w m L) (e:w'.heap[m]?=w.heap[m]?):Map8 w' m L:=by
 obtain ⟨es,c,hb,he⟩:=h;exact ⟨es,c,e.trans hb,he⟩
def d8:TypeDesc:=.int .u8
theorem xZ (a b:Int):Instr.sameNow d8 (.int .u8 a) (.int .u8 b)=some (a == b):=by simp [Instr.sameNow,d8]
theorem MJ (n:Int):∀ (l:List MapEntry) (L:List (Int × Value)) (i:Nat),tW L l →
  (Instr.findNow d8 (.int .u8 n) l i=some none∧lM L n=none∧∀ v,pO L n v=L ++ [(n,v)])∨∃ j v,Instr.findNow d8 (.int .u8 n) l i=some (some (i + j,v))∧j < l.length∧lM L n=some v∧L.map (·.1)=L.map (·.1)∧∀ v', pO L n v'=L.set j (n,v')
 | [],L,_,h=>by
  cases L with
  | nil=>exact .inl ⟨rfl,rfl,fun _=>rfl⟩
  | cons p L=>simp [tW] at h
 | e :: l,[],_,h=>by simp [tW] at h
 | e :: l,p :: L,i,h=>by
  simp only [tW,List.map_cons,List.cons.injEq,Prod.mk.injEq] at h
  by_cases hp:p.1=n
  ·refine .inr ⟨0,p.2,?_,by simp,?_,rfl,?_⟩
   ·have hs:Instr.sameNow d8 (.int .u8 n) e.key=some true:=by rw [h.1.1,xZ,hp]; simp
    simp only [Instr.findNow,hs,h.1.2,Nat.add_zero]
   ·simp only [lM]; rw [if_pos hp]
   ·intro v'; simp only [pO]; rw [if_pos hp]; rfl
  ·have hs:Instr.sameNow d8 (.int .u8 n) e.key=some false:=by
    rw [h.1.1,xZ]
    congr 1
    rw [beq_eq_false_iff_ne];exact Ne.symm hp
   rcases MJ n l L (i + 1) h.2 with ⟨h1,h2,h3⟩ | ⟨j,v,h1,h2,h3,_,h4⟩
   ·refine .inl ⟨by simp only [Instr.findNow,hs]; exact h1,by simp only [lM]; rw [if_neg hp]; exact h2,fun v=>?_⟩
    simp only [pO]; rw [if_neg hp,h3]; rfl
   ·refine .inr ⟨j + 1,v,by simp only [Instr.findNow,hs]; rw [h1]; congr 3; omega,by simpa using h2,by simp only [lM]; rw [if_neg hp]; exact h3,rfl,fun v' => ?_⟩
    simp only [pO]; rw [if_neg hp,h4]; rfl
section
variable {P:Program} {w:World} {m:Nat} {L:List (Int × Value)} {t k e:TypeId} (ht:P.underlying t=some (.map k e)) (hk:P.underlying k=some (.int .u8))
include ht hk
theorem PQ (h:Map8 w m L) (n:Int) (z:Value) (hz:(zeroValue e).run P w=.ok z w) (ok:Bool) :
  (Instr.lookup t (.map (some m)) (.int .u8 n) ok).run P w=.ok (if ok then .tuple #[((lM L n).getD z),.bool (lM L n).isSome] else ((lM L n).getD z)) w:=by
 obtain ⟨es,c,hb,he⟩:=h;have h1:=MapKept.run_getObj_map (P:=P) hb;have h2:=MapKept.run_checkKey (P:=P) (w:=w) hk (k:=.int .u8 n) (by first | rfl | trivial | exact ⟨_,rfl⟩) es.isEmpty 9999
 rcases MJ n es.toList L 0 he with ⟨f1,f2,_⟩ | ⟨j,v,f1,_,f2,_,_⟩
 ·have h3:=MapKept.run_findKey (P:=P) (w:=w) hk f1
  rw [f2]
  cases ok <;> simp [Instr.lookup,run_underlying ht,h1,h2,h3,hz]
 ·have h3:=MapKept.run_findKey (P:=P) (w:=w) hk f1
  rw [f2]
  cases ok <;> simp [Instr.lookup,run_underlying ht,h1,h2,h3]
theorem NM (h:Map8 w m L) (n:Int) (v:Value) :
  ∃ o,(Instr.mapUpdate t (.map (some m)) (.int .u8 n) v).run P w=.ok () { w with heap:=w.heap.setIfInBounds m o }∧Map8 { w with heap:=w.heap.setIfInBounds m o } m (pO L n v):=by
 obtain ⟨es,c,hb,he⟩:=h;have h1:=MapKept.run_getObj_map (P:=P) hb;have h2:=MapKept.run_checkKey (P:=P) (w:=w) hk (k:=.int .u8 n) (by first | rfl | trivial | exact ⟨_,rfl⟩) false 9999
 rcases MJ n es.toList L 0 he with ⟨f1,f2,f3⟩ | ⟨j,u,f1,fj,f2,_,f3⟩
 ·have h3:=MapKept.run_findKey (P:=P) (w:=w) hk f1
  have h4:=MapKept.run_setObj_map (P:=P) (.map (es.push { key:=.int .u8 n,val:=v,born:=c }) (c + 1)) hb;refine ⟨_,by simp [Instr.mapUpdate,run_underlying ht,h1,h2,h3,h4]; rfl,?_⟩;refine ⟨_,_,(MapKept.heap_set hb).1,?_⟩;unfold tW at *;rw [f3,Array.toList_push,List.map_append,he,List.map_append]
  rfl
 ·have h3:=MapKept.run_findKey (P:=P) (w:=w) hk f1
  rw [Nat.zero_add] at h3
  have hke:∀ e,es[j]?=some e→e.key=.int .u8 n:=by
   intro e hej;have hl:L.length=es.toList.length:=by have:=congrArg List.length he; simpa using this.symm
   have h5:=f3 v;have e1:(es.toList.map (fun e=>(e.key,e.val)))[j]?=some (e.key,e.val):=by rw [List.getElem?_map,Array.getElem?_toList,hej]; rfl
   rw [he,List.getElem?_map] at e1;have hjL:j < L.length:=by rw [hl]; exact fj
   rw [List.getElem?_eq_getElem hjL] at e1;simp only [Option.map_some,Option.some.injEq,Prod.mk.injEq] at e1
   have hn:L[j].1=n:=by
    have:∀ (l:List MapEntry) (L:List (Int × Value)) (i j:Nat) (x:Value),tW L l→Instr.findNow d8 (.int .u8 n) l i=some (some (i + j,x))→∀ h:j < L.length,L[j].1=n:=by
     intro l
     induction l with
     | nil=>intro L i j x _ hf; simp [Instr.findNow] at hf
     | cons a l ih =>
      intro L i j x hE hf hj
      cases L with
      | nil=>cases hj
      | cons p L =>
       simp only [tW,List.map_cons,List.cons.injEq,Prod.mk.injEq] at hE;simp only [Instr.findNow] at hf;rw [hE.1.1,xZ] at hf
       by_cases hp:n=p.1
       ·simp [hp] at hf
        obtain rfl:j=0:=by omega
        exact hp.symm
       ·rw [show (n == p.1)=false from by simpa using hp] at hf
        simp only at hf
        cases j with
        | zero =>
         exfalso
         have hgt:∀ (l:List MapEntry) (i:Nat) (r:Nat) (x:Value),Instr.findNow d8 (.int .u8 n) l i=some (some (r,x))→i≤r:=by
          intro l
          induction l with
          | nil=>intro i r x h; simp [Instr.findNow] at h
          | cons b l ih =>
           intro i r x h;simp only [Instr.findNow] at h
           split at h
           ·simp at h; omega
           ·have:=ih _ _ _ h; omega
           ·cases h
         have:=hgt l (i + 1) (i + 0) x hf;omega
        | succ j=>exact ih L (i + 1) j x hE.2 (by rw [show i + 1 + j=i + (j + 1) from by omega]; exact hf) (by simpa using hj)
    exact this es.toList L 0 j _ he f1 hjL
   rw [← e1.1,hn]
  have h4:=MapKept.run_setObj_map (P:=P) (.map (es.modify j fun e=>{ e with key:=.int .u8 n,val:=v }) c) hb
  have h6:(Instr.keyThatStays (((es[j]?).map (·.key)).getD (.int .u8 n)) (.int .u8 n)).run P w=.ok (.int .u8 n) w:=by
   have:((es[j]?).map (·.key)).getD (.int .u8 n)=.int .u8 n:=by
    cases hq:es[j]? with
    | none=>rfl
    | some e=>simp [hke e hq]
   rw [this];exact MapKept.run_keyThatStays (d:=d8) (by first | rfl | trivial | exact ⟨_,rfl⟩)
  refine ⟨_,by simp [Instr.mapUpdate,run_underlying ht,h1,h2,h3,h6,h4]; rfl,?_⟩;refine ⟨_,_,(MapKept.heap_set hb).1,?_⟩;unfold tW at *;rw [f3 v,List.map_set,← he];apply List.ext_getElem?;intro i;rw [List.getElem?_map,Array.getElem?_toList,Array.getElem?_modify,List.getElem?_set]
  by_cases hij:j=i
  ·subst hij
   rw [if_pos rfl,if_pos rfl,if_pos (by simpa using fj)];have:j < es.size:=by simpa using fj
   rw [Array.getElem?_eq_getElem this]
   rfl
  ·rw [if_neg hij,if_neg hij,List.getElem?_map,Array.getElem?_toList]
theorem IP (h:Map8 w m L) (n:Int) (v:Value) :
  ∃ w', (Instr.mapUpdate t (.map (some m)) (.int .u8 n) v).run P w=.ok () w'∧Map8 w' m (pO L n v)∧Below m w w'∧w'.heap.size=w.heap.size∧Frm (fun x=>x=m) w w' := by
 obtain ⟨o,h1,h2⟩:=NM ht hk h n v;obtain ⟨es,c,hb,_⟩:=h;refine ⟨_,h1,h2,⟨rfl,rfl,rfl,by simp,fun k hk=>(MapKept.heap_set hb).2 k (Nat.ne_of_lt hk)⟩,by simp,(Frm.refl _ w).setObj m o (.inl rfl)⟩
end
open Go Go.RowKit
section
theorem lP {α:Type} (p:α→Bool) (L:List α) (h:∀ x∈L,p x=false):(L.filter p).length=0:=by
 rw [List.length_eq_zero_iff,List.filter_eq_nil_iff];intro x hx;simp [h x hx]
theorem sK {α:Type} (p:α→Bool):∀ (L:List α) (j:Nat) (x:α),L[j]?=some x→p x=true→(∀ (i:Nat) (y:α),L[i]?=some y→p y=true→i=j)→(L.filter p).length=1
 | [],j,x,h,_,_=>by simp at h
 | y :: L,0,x,h,hp,hu=>by
  have e:y=x:=by simpa using h
  subst e;rw [List.filter_cons,if_pos hp,List.length_cons,lP p L];intro z hz;obtain ⟨i,hi⟩:=List.mem_iff_getElem?.1 hz
  cases hpz:p z with
  | false=>rfl
  | true=>have:=hu (i + 1) z (by simpa using hi) hpz; omega
 | y :: L,j + 1,x,h,hp,hu=>by
  have hy:p y=false:=by
   cases hpy:p y with
   | false=>rfl
   | true=>have:=hu 0 y (by simp) hpy; omega
  rw [List.filter_cons,if_neg (by simp [hy])];exact sK p L j x (by simpa using h) hp fun i z hi hz=>by have:=hu (i + 1) z (by simpa using hi) hz; omega
theorem oJ {α:Type} (f g k:α→Bool):∀ (L:List α),(∀ x∈L,f x=(g x || k x)∧(g x && k x)=false)→(L.filter f).length=(L.filter g).length + (L.filter k).length
 | [],_=>rfl
 | y :: L,h=>by
  have ih:=oJ f g k L fun x hx=>h x (List.mem_cons_of_mem _ hx)
  obtain ⟨h1,h2⟩:=h y (by simp);rw [List.filter_cons,List.filter_cons,List.filter_cons,h1]
  cases hg:g y <;> cases hk:k y
  ·simpa using ih
  ·simp [ih]; omega
  ·simp [ih]; omega
  ·rw [hg,hk] at h2; simp at h2
structure ApI (L:List (Int × Int × Int)) (lv cp:Int→Int):Prop where
 live:∀ (j:Nat) (x:Int × Int × Int),L[j]?=some x→x.1≠0→(0≤x.2.2∧x.2.2≤255)∧lv x.2.2=(j:Int) + 1∧cp x.2.2=x.1
 has:∀ k,0 < lv k→∃ (j:Nat) (x:Int × Int × Int),L[j]?=some x∧x.1≠0∧x.2.2=k
 nn:∀ k,0≤lv k
theorem ApI.nil:ApI [] (fun _=>0) (fun _=>0):=⟨fun j x h=>by simp at h,fun k h=>by omega,fun k=>by omega⟩
variable {L:List (Int × Int × Int)} {lv cp:Int→Int}
theorem ApI.used (h:ApI L lv cp) {nc:Int} (hp:0 < lv nc):∃ (j:Nat) (x:Int × Int × Int),L[j]?=some x∧bX x.1 x.2.2 nc=true:=by
 obtain ⟨j,x,h1,h2,h3⟩:=h.has nc hp;exact ⟨j,x,h1,by simp [bX,h2,h3]⟩
theorem ApI.free (h:ApI L lv cp) {nc:Int} (hz:lv nc=0):∀ x∈L,bX x.1 x.2.2 nc=false:=by
 intro x hx;obtain ⟨j,hj⟩:=List.mem_iff_getElem?.1 hx
 cases hb:bX x.1 x.2.2 nc with
 | false=>rfl
 | true =>
  unfold bX at hb;simp only [Bool.and_eq_true,bne_iff_ne,beq_iff_eq] at hb;have h1:=(h.live j x hj hb.1).2.1;rw [hb.2,hz] at h1;omega
def upd (f:Int→Int) (k v:Int):Int→Int:=fun x=>if x=k then v else f x
theorem ApI.take (h:ApI L lv cp) {nc ca ep:Int} {i:Nat} {L' : List (Int × Int × Int)} (hz:lv nc=0) (hn:0≤nc∧nc≤255) (hca:ca≠0) (hi:L'[i]?=some (ca,ep,nc)) (ho:∀ j,j≠i→L'[j]?=L[j]?) (hop:∀ x,L[i]?=some x→x.1=0) :
  ApI L' (upd lv nc ((i:Int) + 1)) (upd cp nc ca):=by
 refine ⟨fun j x hx hl=>?_,fun k hk=>?_,fun k=>?_⟩
 ·by_cases e:j=i
  ·subst e
   rw [hi] at hx;injection hx with hx;subst hx;exact ⟨hn,by simp [upd],by simp [upd]⟩
  ·rw [ho j e] at hx
   obtain ⟨h1,h2,h3⟩:=h.live j x hx hl;have hne:x.2.2≠nc:=fun e2=>by rw [e2,hz] at h2; omega
   exact ⟨h1,by simp [upd,hne,h2],by simp [upd,hne,h3]⟩
 ·by_cases e:k=nc
  ·subst e
   exact ⟨i,_,hi,hca,rfl⟩
  ·simp only [upd,if_neg e] at hk
   obtain ⟨j,x,h1,h2,h3⟩:=h.has k hk;refine ⟨j,x,?_,h2,h3⟩;rw [ho j (fun e2=>h2 (hop x (e2 ▸ h1)))];exact h1
 ·unfold upd
  split
  ·omega
  ·exact h.nn k
theorem ApI.freed (h:ApI L lv cp) (gone:Int):ApI (L.map (cW gone)) (fun k=>if 0 < lv k∧cp k=gone then 0 else lv k) cp:=by
 refine ⟨fun j y hy hl=>?_,fun k hk=>?_,fun k=>?_⟩
 ·rw [List.getElem?_map] at hy
  cases hx:L[j]? with
  | none=>rw [hx] at hy; simp at hy
  | some x =>
   rw [hx] at hy;have hy' : cW gone x=y:=by simpa using hy
   cases hg:cG gone x with
   | true=>unfold cW at hy'; rw [if_pos hg] at hy'; subst hy'; exact absurd rfl hl
   | false =>
    unfold cW at hy';rw [if_neg (by simp [hg])] at hy';subst hy';obtain ⟨h1,h2,h3⟩:=h.live j x hx hl;refine ⟨h1,?_,h3⟩;rw [if_neg]
    ·exact h2
    ·rintro ⟨_,e⟩
     rw [h3] at e;rw [← e] at hg;simp [cG,eG] at hg;exact hl hg
 ·by_cases e:0 < lv k∧cp k=gone
  ·rw [if_pos e] at hk; omega
  ·rw [if_neg e] at hk
   obtain ⟨j,x,h1,h2,h3⟩:=h.has k hk;have hc:=(h.live j x h1 h2).2.2;rw [h3] at hc
   have hg:cG gone x=false:=by
    cases hg:cG gone x with
    | false=>rfl
    | true =>
     simp only [cG,Bool.and_eq_true,beq_iff_eq] at hg;exact absurd ⟨hk,hc.trans hg.2⟩ e
   refine ⟨j,x,?_,h2,h3⟩;rw [List.getElem?_map,h1];simp [cW,hg]
 ·split
  ·omega
  ·exact h.nn k
def kM (L:List (Int × Int × Int)) (gone k:Int):Nat:=(L.filter fun x=>cG gone x && decide (k≤x.2.2)).length
theorem ApI.cnt_start (h:ApI L lv cp) (gone:Int):kM L gone 0=(L.filter (cG gone)).length:=by
 unfold kM
 congr 1
 apply List.filter_congr;intro x hx;obtain ⟨j,hj⟩:=List.mem_iff_getElem?.1 hx
 cases hg:cG gone x with
 | false=>rfl
 | true =>
  have hl:x.1≠0:=by simp only [cG,eG,Bool.and_eq_true,bne_iff_ne] at hg; exact hg.1
  have:=(h.live j x hj hl).1.1;simp [this]
theorem ApI.cnt_end (h:ApI L lv cp) (gone:Int):kM L gone 256=0:=by
 unfold kM;apply lP;intro x hx;obtain ⟨j,hj⟩:=List.mem_iff_getElem?.1 hx
 cases hg:cG gone x with
 | false=>rfl
 | true =>
  have hl:x.1≠0:=by simp only [cG,eG,Bool.and_eq_true,bne_iff_ne] at hg; exact hg.1
  have:=(h.live j x hj hl).1.2;simp; omega
theorem ApI.cnt_step (h:ApI L lv cp) (gone k:Int):kM L gone k=kM L gone (k + 1) + (if 0 < lv k∧cp k=gone then 1 else 0):=by
 have hs:=oJ (fun x:Int × Int × Int=>cG gone x && decide (k≤x.2.2)) (fun x=>cG gone x && decide (k + 1≤x.2.2)) (fun x=>cG gone x && decide (x.2.2=k)) L (fun x _=>by
  cases cG gone x
  ·simp
  ·simp only [Bool.true_and]
   refine ⟨?_,?_⟩
   ·rw [Bool.eq_iff_iff]; simp; omega
   ·rw [← Bool.not_eq_true]; simp; omega)
 unfold kM;rw [hs]
 congr 1
 split
 ·rename_i e
  obtain ⟨j,x,h1,h2,h3⟩:=h.has k e.1;have hc:=(h.live j x h1 h2).2.2;rw [h3] at hc;refine sK _ L j x h1 (by rw [show gone=x.1 from e.2.symm.trans hc]; simp [cG,eG,h2,h3]) fun i y hy hp=>?_
  simp only [Bool.and_eq_true,decide_eq_true_eq,cG,eG,bne_iff_ne] at hp;have a1:=(h.live j x h1 h2).2.1;have a2:=(h.live i y hy hp.1.1).2.1;rw [h3] at a1;rw [hp.2] at a2;omega
 ·rename_i e
  refine lP _ _ fun x hx=>?_
  obtain ⟨j,hj⟩:=List.mem_iff_getElem?.1 hx;rw [← Bool.not_eq_true];intro hp;simp only [Bool.and_eq_true,decide_eq_true_eq,cG,eG,bne_iff_ne,beq_iff_eq] at hp;obtain ⟨_,a2,a3⟩:=h.live j x hj hp.1.1;rw [hp.2] at a2 a3;exact e ⟨by omega,a3.trans hp.1.2⟩
end
theorem qJ:∀ (L:List (Int × Int × Int)),(∃ (i:Nat) (x:Int × Int × Int),L[i]?=some x∧eE x.1 x.2.1=true∧∀ (j:Nat) (y:Int × Int × Int),j < i→L[j]?=some y→eE y.1 y.2.1=false)∨∀ y∈L,eE y.1 y.2.1=false
 | []=>.inr fun y hy=>by cases hy
 | x :: L=>by
  cases hx:eE x.1 x.2.1 with
  | true=>exact .inl ⟨0,x,rfl,hx,fun j y hj=>by omega⟩
  | false =>
   rcases qJ L with ⟨i,z,h1,h2,h3⟩ | h
   ·refine .inl ⟨i + 1,z,by simpa using h1,h2,fun j y hj hy=>?_⟩
    cases j with
    | zero=>
     have e:x=y:=by simpa using hy
     subst e; exact hx
    | succ j=>exact h3 j y (by omega) (by simpa using hy)
   ·refine .inr fun y hy=>?_
    rcases List.mem_cons.1 hy with rfl | hy
    ·exact hx
    ·exact h y hy
theorem JE {w0 w:World} {R:List Nat} {t d s:Nat} {L:List (Int × Int × Int)} {ca nc:Int} (h:TxS w0 R w t d s 640 (slE 0 L)) (hL:SlL L) (hca:1≤ca∧ca≤16777215) (hnc:0≤nc∧nc≤18446744073709551615) (hbu:∀ x∈L,bX x.1 x.2.2 nc=false) (hl:L.length < 200) :
  ∃ (i:Nat) (ep:Int) (L' : List (Int × Int × Int)),L'[i]?=some (ca,ep,nc)∧(∀ j,j≠i→L'[j]?=L[j]?)∧(∀ x,L[i]?=some x→x.1=0)∧L'.length≤L.length + 1∧SlL L'∧i < 200 ∧
   Calls Tryz.prog 18 #[.pointer (some ⟨t,0,none⟩),.int .i64 ca,.int .u64 nc] w fun e w' => e=.returned (.tuple #[.agg #[.int .i64 ((i + 1:Nat):Int),.int .i64 ca,.int .i64 ep,.int .u64 nc],.int .i64 0])∧TxS w0 R w' t d s 640 (slE 0 L')∧KeptT R t w w' := by
 rcases qJ L with ⟨i,x,hx,hop,hlo⟩ | hno
 ·have hi:=(List.getElem?_eq_some_iff.1 hx).1
  have hS:SlL (L.set i (ca,x.2.1,nc)):=by
   have h0:x.1=0∧x.2.1≤15:=by
    unfold eE at hop
    simpa using hop
   have hin:=gE (hL.2 i x hx).1;have h200:=hL.1
   exact hL.set hi ⟨by
    unfold bJ;simp only [Bool.and_eq_true,iV];refine ⟨⟨⟨by omega,by omega⟩,by omega⟩,?_⟩;have:(x.2.1 != 16)=true:=by simp; omega
    rw [this]; rfl,hnc.1,hnc.2⟩
  refine ⟨i,x.2.1,L.set i (ca,x.2.1,nc),by simp [hi],fun j hj=>by rw [List.getElem?_set_ne (Ne.symm hj)],fun y hy=>?_,by simp,hS,by omega,(rN h hL hca hnc hbu hx hop hlo).mono fun _ _ g=>⟨g.1,g.2.1,g.2.2.1⟩⟩;rw [hx] at hy;injection hy with hy;subst hy;unfold eE at hop;simp at hop;exact hop.1
 ·have hS:SlL (L ++ [(ca,1,nc)]):=hL.snoc hl ⟨by
   unfold bJ;simp only [Bool.and_eq_true,iV];exact ⟨⟨⟨by omega,by omega⟩,by decide⟩,by simp⟩,hnc.1,hnc.2⟩
  refine ⟨L.length,1,L ++ [(ca,1,nc)],by simp,fun j hj=>?_,fun y hy=>?_,by simp,hS,hl,(rO h hL hca hnc hbu hl hno).mono fun _ _ g=>⟨g.1,g.2.1,g.2.2.1⟩⟩
  ·rcases Nat.lt_or_ge j L.length with h1 | h1
   ·rw [List.getElem?_append_left h1]
   ·rw [List.getElem?_append_right h1,List.getElem?_eq_none (by simpa using (by omega:1≤j - L.length)),List.getElem?_eq_none h1]
  ·rw [List.getElem?_eq_none (Nat.le_refl _)] at hy
   cases hy

theorem rX (w:World) :
  Calls Tryz.prog 16 #[] w fun e w' => ∃ t d s,e=.returned (.pointer (some ⟨t,0,none⟩))∧TxS w [] w' t d s 640 []:=by
 have NY:=Hd fun w=>PJ w 640 (by decide) (by decide)
 have hln:(DkS.fresh 640).S.length=640:=by show (List.replicate 640 zs).length=640; rw [List.length_replicate]
 have FG:=Hd (MG (DkS.fresh 640) rfl rfl (by rw [hln]; decide) (by rw [hln]; decide));rw [hln] at FG;clear hln;go_enter Tryz.func16,Tryz.ntmps16;go_wp2_with fail;refine (NY.out _).mono ?_;intro e w1 hm;obtain ⟨d,rfl,hd⟩:=SR Br hm;clear hm NY;have HD:=Hd hd;clear hd;have pn:=KN ⟨d,0,none⟩;go_wp2_with fail;refine (MF HD.out FG.out.1).mono ?_;rintro e w3 ⟨s,rfl,hs⟩;have BG:=Hd (QP hs FG.out.2.1 FG.out.2.2.1 FG.out.2.2.2);clear hs HD;have sn:=KL ⟨s,0,none⟩;go_wp2_with fail;refine BG.out.mono ?_;rintro e w4 ⟨t,rfl,h1,h2,h3⟩
 have FIN:=Hd (show TxS w [] w4 t d s 640 [] from ⟨⟨0,h1,h2⟩,h3⟩);clear h1 h2 h3 BG;go_wp2_with fail;go_ret;exact ⟨t,d,s,rfl,FIN.out⟩
theorem AO:SlL []:=⟨by decide,fun j x h=>by simp at h⟩
theorem qN (w:World) :
  Calls Tryz.prog 15 #[] w fun e w' => e=.returned (.bool true)∧Below w.heap.size w w' := by
 have MD:=Hd (rX w);go_enter Tryz.func15,Tryz.ntmps15;try simp only [List.append_eq,List.cons_append,List.nil_append]
 go_wp2_with fail;refine MD.out.mono ?_;rintro e w1 ⟨t,d,s,rfl,h1⟩;have pn:=vS ⟨t,0,none⟩;have TK:=Hd (rO (L:=[]) (ca:=9) (nc:=7) h1 AO (by decide) (by decide) (fun x hx=>by cases hx) (by decide) (fun x hx=>by cases hx));clear h1 MD;go_wp2_with fail;refine TK.out.mono ?_;rintro e w2 ⟨rfl,h1,_,hL⟩;obtain ⟨b1,hb1⟩:∃ b,w2.heap.size=b:=⟨_,rfl⟩
 obtain ⟨x1,hx1⟩:∃ x,w2.alloc (.cells #[.int .i64 1,.int .i64 9,.int .i64 1,.int .u64 7] 32)=x:=⟨_,rfl⟩
 obtain ⟨a1,a2,a3,a4,a5,a6,a7⟩:=h1.box (.cells #[.int .i64 1,.int .i64 9,.int .i64 1,.int .u64 7] 32);rw [hx1] at a1 a2 a3 a5;rw [hb1] at a1 a3 a4 a5 a6 a7;have X1:=Hd (And.intro hx1 hb1);have TB:=Hd (pI (L:=[(9,1,7)]) (ca:=9) (nc:=7) (j:=0) (x:=(9,1,7)) a1 hL (by decide) rfl rfl);have HA:=Hd (And.intro a3 a4);clear h1 TK hx1 hb1 a1 a2 a3 a4 a5 a6 a7;go_upto_region 5 with fail
 rw [X1.out.1,X1.out.2];go_wp2_with fail;refine TB.out.mono ?_;rintro e w3 ⟨rfl,h1,k1⟩;have M1:=Hd ((k1 b1 (by simp) HA.out.2).trans HA.out.1);obtain ⟨b2,hb2⟩:∃ b,w3.heap.size=b:=⟨_,rfl⟩
 obtain ⟨x2,hx2⟩:∃ x,w3.alloc (.cells #[.int .i64 0,.int .i64 0,.int .i64 0,.int .u64 0] 32)=x:=⟨_,rfl⟩
 obtain ⟨a1,a2,a3,a4,a5,a6,a7⟩:=h1.box (.cells #[.int .i64 0,.int .i64 0,.int .i64 0,.int .u64 0] 32);rw [hx2] at a1 a2 a3 a5;rw [hb2] at a1 a3 a4 a5 a6 a7;have X2:=Hd (And.intro hx2 hb2);have M2:=Hd ((a2 b1 (by simp) HA.out.2).trans M1.out);have TF:=Hd (sY (L:=[(9,1,7)]) 9 a1 hL);clear h1 TB k1 hx2 hb2 a1 a2 a3 a4 a5 a6 a7;go_upto_region 6 with fail
 rw [X2.out.1,X2.out.2];go_wp2_with fail;refine TF.out.mono ?_;rintro e w4 ⟨rfl,h1,k1⟩;have hn:((([(9,1,7)]:List (Int × Int × Int)).filter (cG 9)).length:Int)=1:=by decide
 have M3:=Hd ((k1 b1 (by simp) HA.out.2).trans M2.out);have hf:SlL [(0,2,0)]:=hL.free 9;have TO:=Hd (rN (L:=[(0,2,0)]) (ca:=8) (nc:=7) (i:=0) (x:=(0,2,0)) h1 hf (by decide) (by decide) (fun x hx=>by obtain rfl:=List.mem_singleton.1 hx; rfl) rfl (by decide) (fun j y hj=>by omega));clear h1 TF k1 hf hL;rw [hn];go_wp2_with fail;refine TO.out.mono ?_;rintro e w5 ⟨rfl,h1,k1,_⟩;have m5:=(k1 b1 (by simp) HA.out.2).trans M3.out;obtain ⟨b3,hb3⟩:∃ b,w5.heap.size=b:=⟨_,rfl⟩
 obtain ⟨x3,hx3⟩:∃ x,w5.alloc (.cells #[.int .i64 1,.int .i64 8,.int .i64 2,.int .u64 7] 32)=x:=⟨_,rfl⟩
 obtain ⟨a1,a2,a3,a4,a5,a6,a7⟩:=h1.box (.cells #[.int .i64 1,.int .i64 8,.int .i64 2,.int .u64 7] 32);rw [hx3] at a1 a2 a3 a5;rw [hb3] at a1 a3 a4 a5 a6 a7;have X3:=Hd (And.intro hx3 hb3);obtain ⟨⟨c0,c1,c2,c3⟩,_⟩:=bV ((a2 b1 (by simp) HA.out.2).trans m5);obtain ⟨⟨d0,d1,d2,d3⟩,_⟩:=bV a3;have FIN:=Hd a1.from;clear h1 TO k1 hx3 hb3 a1 a2 a3 a4 a5 a6 a7 m5;go_upto_region 8 with fail
 rw [X3.out.1,X3.out.2];go_wp2_with fail;go_ret;exact ⟨rfl,FIN.out⟩

theorem uE {w:World} {a:Option Addr} {len cap:Nat} {zs:List Int} (hk:IsInts .u8 w a len cap zs) (j:Nat) (hj:j < len):∃ (x:Addr) (z:Int),a=some x∧zs.getD j 0=z∧(0≤z∧z≤255)∧Hid (∀ wr,Below w.heap.size w wr→wr.cell? (x.add j)=some (.int .u8 z)):=by
 rcases hk with ⟨rfl,rfl,rfl,rfl⟩ | ⟨x,rfl,h1,h2,h3,h4,h5⟩
 ·omega
 ·have hjl:j < zs.length:=by omega
  refine ⟨x,_,rfl,rfl,?_,Hd fun wr hb=>?_⟩
  ·have hm:zs.getD j 0∈zs:=by
    rw [List.getD_eq_getElem?_getD,List.getElem?_eq_getElem hjl];exact List.getElem_mem hjl
   have hw:=h5 _ hm;generalize zs.getD j 0=z at hw ⊢;simp [Lit.wf] at hw;have e1:IntKind.u8.min=0:=by rfl
   have e2:IntKind.u8.max=255:=by rfl
   omega
  ·have hc:=h4 j hjl
   have hlt:(x.add j).block < w.heap.size:=by
    unfold World.cell? at hc
    cases hq:w.heap[(x.add j).block]? with
    | none=>rw [hq] at hc; simp at hc
    | some b=>exact (zl hq)
   exact (hb.cell hlt).trans hc
theorem IQ {w:World} {a:Option Addr} {len cap:Nat} {zs:List Int} (hk:IsInts .u8 w a len cap zs):(len:Int)≤9223372036854775807:=by
 rcases hk with ⟨_,rfl,_,_⟩ | ⟨_,_,h1,h2,_⟩
 ·decide
 ·unfold maxLen at h2; omega
end Go.Proofs.YtblbiihpfjjhhaaGreatDoor
