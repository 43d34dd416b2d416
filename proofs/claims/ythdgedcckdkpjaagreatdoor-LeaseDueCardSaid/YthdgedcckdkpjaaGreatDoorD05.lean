import Derived.Test.YthdgedcckdkpjaaGreatDoorD04
import Derived.Laws.Rows
import Derived.Laws.Tables
import Derived.Laws.CopyOwn
import Derived.MapKept
import Derived.Maps.RangeRun
namespace Go.Proofs.YthdgedcckdkpjaaGreatDoor
set_option maxRecDepth 20000
set_option maxHeartbeats 12800000
set_option linter.unusedVariables false
set_option linter.unusedSimpArgs false
theorem LJ {α:Type}{l:List α}{c:Nat}(h1:1<=c)(h2:1<=l.length):l.take c≠[]:=by
 intro e;have e2:=congrArg List.length e;rw[List.length_take,List.length_nil] at e2;omega
theorem vN {α:Type}{l:List α}{c:Nat}(h:c<l.length):l.drop c≠[]:=by
 intro e;have e2:=congrArg List.length e;rw[List.length_drop,List.length_nil] at e2;omega
theorem rG (V:List ByteArray)(k:Nat)(h:k<V.length):bI (V.take (k+1))=bI (V.take k)+V[k].size:=by
 rw[List.take_add_one,eW,List.getElem?_eq_getElem h];simp[bI]
theorem oZ (n:Nod)(k:Nat)(hw:bD n=true)(hk:k<n.K.length):aH (aP n (k+1))=aH (aP n k)+fO n k:=by
 cases hl:n.leaf with
 | true=>
  have hv:=(bC hl).1 hw;have:=rG n.V k (by omega);unfold aP fO aH;simp only[hl,if_true];rw[this,List.length_take,List.length_take,List.getD_eq_getElem?_getD,List.getElem?_eq_getElem (by omega)];simp only[Option.getD_some];omega
 | false=>
  have hv:=(aQ hl).1 hw;unfold aP fO aH;simp only[hl,Bool.false_eq_true,if_false];rw[List.length_take,List.length_take,List.length_take,List.length_take];omega
theorem rO (n:Nod)(k:Nat)(hv:∀ v∈n.V,v.size<=40):fO n k<=49:=by
 unfold fO
 split
 ·rw[List.getD_eq_getElem?_getD]
  cases h:n.V[k]? with
  | none=>simp
  | some v=>have:=hv v (List.mem_of_getElem? h);simp;omega
 ·omega
theorem IE (n:Nod)(k:Nat)(hw:bD n=true)(hk:k<n.K.length):aH (aP n k)+aH (aU n k)<=aH n+1:=by
 cases hl:n.leaf with
 | true=>
  have hv:=(bC hl).1 hw;have:=qM n.V k;unfold aP aU aH;simp only[hl,if_true];rw[List.length_take,List.length_drop];omega
 | false=>
  have hv:=(aQ hl).1 hw;unfold aP aU aH;simp only[hl,Bool.false_eq_true,if_false];rw[List.length_take,List.length_take,List.length_drop,List.length_drop];omega
theorem zB (n:Nod)(half:Nat)(hw:bD n=true)(hv:∀ v∈n.V,v.size<=40):∀ f k,k+f<=n.K.length->∀ c,fH n half f k (aH (aP n k))=c->(half<=aH (aP n c)\/c=k+f)/\(c=k\/aH (aP n c)<half+49):=by
 intro f
 induction f with
 | zero=>intro k hk c hc;unfold fH at hc;subst hc;exact⟨.inr rfl,.inl rfl⟩
 | succ f ih=>
  intro k hk c hc;unfold fH at hc
  by_cases h:half<=aH (aP n k)
  ·rw[if_pos h] at hc;subst hc;exact⟨.inl h,.inl rfl⟩
  ·rw[if_neg h,<-oZ n k hw (by omega)] at hc
   have:=ih (k+1) (by omega) c hc;refine⟨this.1.imp id (by omega),.inr ?_⟩
   rcases this.2 with rfl|hx
   ·have h1:=oZ n k hw (by omega)
    have h2:=rO n k hv;omega
   ·exact hx
theorem KJ (l:List ByteArray)(m:Nat)(h:∀ v∈l,v.size<=m)(h1:l.length<=1):bI l<=m:=by
 have:=oC l m h;have h2:l.length*m<=1*m:=Nat.mul_le_mul_right _ h1;omega
theorem xF (n:Nod)(hw:bD n=true)(hv:∀ v∈n.V,v.size<=40)(hl:cH n.leaf<=n.K.length)(hz:aH n<=320):aH (aP n (cI n))<=240/\aH (aU n (cI n))<=240:=by
 have hc:=zA n;have hm:kR n=n.K.length-cH n.leaf+1:=rfl;have h2:2<=cH n.leaf:=by unfold cH;split <;> omega
 obtain⟨s1,s2⟩:=zB n (aH n / 2) hw hv (kR n-1) 1 (by omega) (cI n) rfl;have hp:=IE n (cI n) hw (by omega);constructor
 ·rcases s2 with h|h
  ·rw[h]
   have ha:=oZ n 0 hw (by omega);have hs:=rO n 0 hv
   have h0:aH (aP n 0)<=3:=by
    unfold aP aH
    split
    ·simp[bI]
    ·simp only[Bool.false_eq_true,if_false,List.length_take];simp;omega
   simp only[Nat.zero_add] at ha;omega
  ·omega
 ·rcases s1 with h|h
  ·omega
  ·have hB:(aU n (cI n)).K.length<=1:=by
    unfold aU cH at *
    cases hlf:n.leaf with
    | true=>rw[hlf] at hl hm;simp at hl hm |-;omega
    | false=>rw[hlf] at hl hm;simp at hl hm |-;omega
   cases hlf:n.leaf with
   | true=>
    have hwl:=(bC hlf).1 hw;have e:aU n (cI n)={ leaf:=true,K:=n.K.drop (cI n),V:=n.V.drop (cI n),C:=[] }:=by unfold aU;rw[hlf];rfl
    rw[e] at hB |-;have hb:=KJ (n.V.drop (cI n)) 40 (fun v hx=>hv v (List.mem_of_mem_drop hx)) (by simp at hB |-;omega);unfold aH;simp only[if_true];simp only at hB;omega
   | false=>
    have hwl:=(aQ hlf).1 hw;have e:aU n (cI n)={ leaf:=false,K:=n.K.drop (cI n+1),V:=[],C:=n.C.drop (cI n+1) }:=by unfold aU;rw[hlf];rfl
    rw[e] at hB |-;unfold aH;simp only[Bool.false_eq_true,if_false];simp only[List.length_drop] at hB |-;omega
theorem VI {X Y Z:List Mk}{k:Int}{v:ByteArray}(hs:bT (X++Y++(k,some v)::Z))(hY:Y≠[])(he:∀ m∈Y,m.2.isSome=true):bT (X++(Y++(k,none)::(k,some v)::Z)):=by
 obtain⟨s1,s2,s3⟩:=aG.1 hs
 have hy:∀ a∈Y,dI a<2*k:=by
  intro a ha;have:=s3 a (by simp[ha]) (k,some v) (by simp);rw[fE] at this;have h1:=he a ha;unfold dI at this |-;rw[h1] at this |-;simp at this |-;omega
 have hx:∀ a∈X,dI a<2*k:=by
  intro a ha;obtain⟨y,hm⟩:=List.exists_mem_of_ne_nil Y hY;have h1:=(aG.1 s1).2.2 a ha y hm;have h2:=hy y hm;omega
 rw[<-List.append_assoc];refine aG.2 ⟨s1,eM.2 ⟨fun b hb=>?_,s2⟩,fun a ha b hb=>?_⟩
 ·rw[jA]
  rcases List.mem_cons.1 hb with rfl|hb
  ·rw[fE];omega
  ·have:=(eM.1 s2).1 b hb
   rw[fE] at this;omega
 ·have hak:dI a<2*k:=by
   rcases List.mem_append.1 ha with h|h
   ·exact hx a h
   ·exact hy a h
  rcases List.mem_cons.1 hb with rfl|hb
  ·rw[jA];exact hak
  ·rcases List.mem_cons.1 hb with rfl|hb
   ·rw[fE];omega
   ·exact s3 a ha b (by simp[hb])
theorem nP {R:Int->Option Nod}{h:Nat}{N:Nod}{F:List Mk}{P:List Int}(ht:fK R h N F P)(hl:cH N.leaf<=N.K.length) :
  ∃ mid FA FB PA PB,N.K[cI N]?=some mid/\fK R h (aP N (cI N)) FA PA/\fK R h (aU N (cI N)) FB PB/\(aP N (cI N)).K≠[]/\(aU N (cI N)).K≠[]/\P=PA++PB /\
   aC (FA++(mid,none)::FB)=aC F/\∀ X Y,bT (X++F++Y)->bT (X++(FA++(mid,none)::FB)++Y):=by
 have hc:=zA N;have hm:kR N=N.K.length-cH N.leaf+1:=rfl;have h2:2<=cH N.leaf/\(N.leaf=false->3<=cH N.leaf):=by unfold cH;cases N.leaf <;> simp
 have hcl:cI N<N.K.length:=by omega
 generalize hcc:cI N=c at *
 cases h with
 | zero=>
  obtain⟨h1,h3,h4,h5,h6⟩:=ht;have eA:aP N c={ leaf:=true,K:=N.K.take c,V:=N.V.take c,C:=[] }:=by unfold aP;rw[h1];rfl
  have eB:aU N c={ leaf:=true,K:=N.K.drop c,V:=N.V.drop c,C:=[] }:=by unfold aU;rw[h1];rfl
  rw[eA,eB];have lt:(N.V.take c).length=(N.K.take c).length:=by simp[h3]
  have eF:F=cX (N.K.take c) (N.V.take c)++cX (N.K.drop c) (N.V.drop c):=by
   rw[h5,<-fF _ _ _ _ lt,List.take_append_drop,List.take_append_drop]
  have hv:c<N.V.length:=by omega
  have eD:cX (N.K.drop c) (N.V.drop c)=(N.K[c],some N.V[c])::cX (N.K.drop (c+1)) (N.V.drop (c+1)):=by
   rw[List.drop_eq_getElem_cons hcl,List.drop_eq_getElem_cons hv];rfl
  refine⟨N.K[c],cX (N.K.take c) (N.V.take c),cX (N.K.drop c) (N.V.drop c),[],[],List.getElem?_eq_getElem hcl,⟨rfl,lt,rfl,rfl,rfl⟩,⟨rfl,by simp[h3],rfl,rfl,rfl⟩,?_,?_,h6,?_,fun X Y hs=>?_⟩
  ·exact LJ hc.1 (by omega)
  ·exact vN hcl
  ·rw[eF,aN,aN,iF]
  ·rw[eF,eD,List.append_assoc,List.append_assoc,<-List.append_assoc X] at hs
   have hne:cX (N.K.take c) (N.V.take c)≠[]:=by
    intro e;have:=congrArg List.length (tZ _ _ lt);rw[e] at this;simp at this;omega
   have:=VI (X:=X) (Y:=cX (N.K.take c) (N.V.take c)) (Z:=cX (N.K.drop (c+1)) (N.V.drop (c+1))++Y) hs hne (fun m hm=>by obtain⟨v,e,_⟩:=kU hm;rw[e];rfl);rw[eD]
   simpa using this
 | succ h=>
  obtain⟨h1,h3,Q,h4,h5,h6,h7,h8⟩:=cY.1 ht;have h33:=h2.2 h1;have eA:aP N c={ leaf:=false,K:=N.K.take c,V:=[],C:=N.C.take (c+1) }:=by unfold aP;rw[h1];rfl
  have eB:aU N c={ leaf:=false,K:=N.K.drop (c+1),V:=[],C:=N.C.drop (c+1) }:=by unfold aU;rw[h1];rfl
  rw[eA,eB];have lA:(Q.take (c+1)).length=(N.K.take c).length+1:=by simp;omega
  have lB:(Q.drop (c+1)).length=(N.K.drop (c+1)).length+1:=by simp;omega
  have eF:bH N.K Q=bH (N.K.take c) (Q.take (c+1))++(N.K[c],none)::bH (N.K.drop (c+1)) (Q.drop (c+1)):=by
   have eK:N.K=(N.K.take c++[N.K[c]])++N.K.drop (c+1):=by
    rw[List.append_assoc,List.singleton_append,<-List.drop_eq_getElem_cons hcl,List.take_append_drop]
   have eQ:Q=Q.take (c+1)++Q.drop (c+1):=(List.take_append_drop _ _).symm;have hQd:Q.drop (c+1)≠[]:=by intro e;have:=congrArg List.length e;simp at this;omega
   have e1:=jI (N.K.take c++[N.K[c]]) (Q.take (c+1)) (N.K.drop (c+1)) (Q.drop (c+1)) (by rw[lA,List.length_append,List.length_singleton]) hQd;rw[<-eK,<-eQ] at e1;rw[e1]
   obtain⟨X,q,hX⟩:∃ X q,Q.take (c+1)=X++[q]:=by
    cases hq:(Q.take (c+1)).reverse with
    | nil=>have e:=congrArg List.length hq;rw[List.length_reverse,lA,List.length_nil] at e;omega
    | cons q Y=>exact⟨Y.reverse,q,by simpa using congrArg List.reverse hq⟩
   have hXl:X.length=(N.K.take c).length:=by have e:=congrArg List.length hX;rw[lA,List.length_append,List.length_singleton] at e;omega
   rw[hX];have e2:=jI (N.K.take c) X [] [q] hXl (by simp);rw[List.append_nil] at e2;rw[e2,lP];unfold bX;rw[List.zipWith_append (by omega)];simp
  refine⟨N.K[c],bH (N.K.take c) (Q.take (c+1)),bH (N.K.drop (c+1)) (Q.drop (c+1)),kPs (Q.take (c+1)),kPs (Q.drop (c+1)),List.getElem?_eq_getElem hcl,?_,?_,?_,?_,?_,?_,fun X Y hs=>?_⟩
  ·exact cY.2 ⟨rfl,rfl,Q.take (c+1),by show N.C.take (c+1)=_;rw[h4];simp[kP,List.map_take],lA,fun q hq=>h6 q (List.mem_of_mem_take hq),rfl,rfl⟩
  ·exact cY.2 ⟨rfl,rfl,Q.drop (c+1),by show N.C.drop (c+1)=_;rw[h4];simp[kP,List.map_drop],lB,fun q hq=>h6 q (List.mem_of_mem_drop hq),rfl,rfl⟩
  ·exact LJ hc.1 (by omega)
  ·exact vN (by omega)
  ·rw[h8,<-cJ,List.take_append_drop]
  ·rw[h7,eF]
  ·rw[h7,eF] at hs;exact hs
def aF (a:Nod)(mid:Int)(b:Nod):Nod:={ leaf:=a.leaf,K:=a.K++(if a.leaf then[] else[mid])++b.K,V:=a.V++b.V,C:=a.C++b.C }
theorem rH {R:Int->Option Nod}{h:Nat}{A B:Nod}{FA FB:List Mk}{PA PB:List Int}(ha:fK R h A FA PA)(hb:fK R h B FB PB)(mid:Int) :
  ∃ F,fK R h (aF A mid B) F (PA++PB)/\aC F=aC FA++aC FB/\∀ X Y,bT (X++(FA++(mid,none)::FB)++Y)->bT (X++F++Y):=by
 cases h with
 | zero=>
  obtain⟨a1,a2,a3,a4,a5⟩:=ha;obtain⟨b1,b2,b3,b4,b5⟩:=hb;refine⟨FA++FB,⟨a1,by simp[aF,a1,a2,b2],by simp[aF,a3,b3],?_,by rw[a5,b5];rfl⟩,aN _ _,fun X Y hs=>?_⟩
  ·unfold aF;rw[a1];simp only[if_true,List.append_nil]
   rw[fF _ _ _ _ a2,a4,b4]
  ·refine List.Pairwise.sublist ?_ hs
   exact((List.Sublist.refl X).append ((List.Sublist.refl FA).append (List.sublist_cons_self _ _))).append (List.Sublist.refl Y)
 | succ h=>
  obtain⟨a1,a2,Q,a3,a4,a5,a6,a7⟩:=cY.1 ha;obtain⟨b1,b2,Q',b3,b4,b5,b6,b7⟩:=cY.1 hb
  have eF:bH (A.K++[mid]++B.K) (Q++Q')=FA++(mid,none)::FB:=by
   have e1:=jI (A.K++[mid]) Q B.K Q' (by rw[a4];simp) (by intro e;rw[e] at b4;simp at b4);rw[e1,a6,b6]
   obtain⟨X,q,hX⟩:∃ X q,Q=X++[q]:=by
    cases hq:Q.reverse with
    | nil=>have e:=congrArg List.length hq;rw[List.length_reverse,a4,List.length_nil] at e;omega
    | cons q Y=>exact⟨Y.reverse,q,by simpa using congrArg List.reverse hq⟩
   have hXl:X.length=A.K.length:=by rw[hX] at a4;simpa using a4
   rw[hX];have e2:=jI A.K X [] [q] hXl (by simp);rw[List.append_nil] at e2;rw[e2,lP];unfold bX;rw[List.zipWith_append (by omega)];simp
  refine⟨FA++(mid,none)::FB,cY.2 ⟨a1,by simp[aF,a2,b2],Q++Q',by simp[aF,a3,b3,kP],by unfold aF;rw[a1];simp[a4,b4];omega,fun q hq=>?_,?_,by rw[a7,b7,cJ]⟩,by rw[aN,iF],fun X Y hs=>hs⟩
  ·rcases List.mem_append.1 hq with hx|hx
   ·exact a5 q hx
   ·exact b5 q hx
  ·unfold aF;rw[a1];simp only[Bool.false_eq_true,if_false]
   exact eF.symm
open Go.RowKit
structure Frm (F:Nat->Prop)(w w':World):Prop where
 os:w'.os=w.os
 tape:w'.tape=w.tape
 output:w'.output=w.output
 size:w.heap.size<=w'.heap.size
 block:∀ k,k<w.heap.size->¬ F k->w'.heap[k]?=w.heap[k]?
theorem Frm.refl (F:Nat->Prop)(w:World):Frm F w w:=⟨rfl,rfl,rfl,Nat.le_refl _,fun _ _ _=>rfl⟩
theorem Frm.trans {F G:Nat->Prop}{a b c:World}(h:Frm F a b)(k:Frm G b c)(hG:∀ i,G i->F i\/a.heap.size<=i):Frm F a c:=
 ⟨k.os.trans h.os,k.tape.trans h.tape,k.output.trans h.output,Nat.le_trans h.size k.size,fun i hi hf=>by
  rw[k.block i (Nat.lt_of_lt_of_le hi h.size) (fun hg=>by rcases hG i hg with hx|hx;exact hf hx;omega)];exact h.block i hi hf⟩
theorem Frm.mono {F G:Nat->Prop}{a b:World}(h:Frm F a b)(hG:∀ i,F i->G i):Frm G a b:=
 ⟨h.os,h.tape,h.output,h.size,fun i hi hf=>h.block i hi fun hx=>hf (hG i hx)⟩
theorem Frm.of_below {F:Nat->Prop}{a b:World}(h:Below a.heap.size a b):Frm F a b:=⟨h.os,h.tape,h.output,h.size,fun i hi _=>h.block i hi⟩
theorem Frm.below {F:Nat->Prop}{B:Nat}{a b:World}(h:Frm F a b)(hF:∀ i,F i->B<=i)(hB:B<=a.heap.size):Below B a b:=
 ⟨h.os,h.tape,h.output,h.size,fun i hi=>h.block i (by omega) fun hx=>by have:=hF i hx;omega⟩
theorem Frm.drew {F:Nat->Prop}{a w:World}(h:Frm F a w):Frm F a w.drew:=⟨h.os,h.tape,h.output,h.size,h.block⟩
theorem Frm.alloc {F:Nat->Prop}{a w:World}(h:Frm F a w)(o:Obj):Frm F a (w.alloc o):=
 h.trans (G:=fun _=>False) (Frm.of_below (Br.alloc (Nat.le_refl _) o)) fun _ hx=>hx.elim
theorem Frm.setCell {F:Nat->Prop}{a w:World}(h:Frm F a w)(p:Addr)(u:Value)(hp:F p.block\/a.heap.size<=p.block):Frm F a (w.setCell p u):=
 h.trans (G:=fun i=>i=p.block) ⟨rfl,rfl,rfl,by simp[World.setCell],fun k _ hk=>Below.heap_setCell _ _ _ _ hk⟩ fun i hi=>by subst hi;exact hp
theorem Frm.setObj {F:Nat->Prop}{a w:World}(h:Frm F a w)(r:Nat)(o:Obj)(hp:F r\/a.heap.size<=r):Frm F a { w with heap:=w.heap.setIfInBounds r o }:=
 h.trans (G:=fun i=>i=r) ⟨rfl,rfl,rfl,by simp,fun k _ hk=>by
  show(w.heap.setIfInBounds r o)[k]?=_
  rw[Array.getElem?_setIfInBounds_ne (Ne.symm hk)]⟩ fun i hi=>by subst hi;exact hp
theorem Frm.setRow {F:Nat->Prop}{a w:World}(h:Frm F a w)(g:Nat)(cs:Array Value)(hp:F g\/a.heap.size<=g):Frm F a (w.setRow g cs):=
 h.trans (G:=fun i=>i=g) ⟨rfl,rfl,rfl,by simp,fun k _ hk=>setRow_other w g k cs hk⟩ fun i hi=>by subst hi;exact hp
theorem Frm.grown {F:Nat->Prop}{a w w':World}{row:Option Nat}(h:Frm F a w)(hg:w.grownBy w' row)(hr:∀ k,row=some k->F k\/a.heap.size<=k):Frm F a w':=
 h.trans (G:=fun i=>row=some i) ⟨hg.os,hg.tape,hg.output,hg.size,fun k hk hne=>hg.block k hk fun e=>hne e.symm⟩ hr
def aGA (L:List (Nat × Value))(es:Array MapEntry):Prop:=es.toList.map (fun e=>(e.key,e.val))=L.map (fun p=>(Value.int .i64 (p.1:Int),p.2))
def MapI (w:World)(m:Nat)(L:List (Nat × Value)):Prop:=∃ es clock,w.heap[m]?=some (.map es clock)/\aGA L es
theorem MapI.lt {w:World}{m:Nat}{L:List (Nat × Value)}(h:MapI w m L):m<w.heap.size:=by
 obtain⟨es,c,hb,_⟩:=h;exact(zl hb)
theorem MapI.kept {w w':World}{m:Nat}{L:List (Nat × Value)}(h:MapI w m L)(e:w'.heap[m]?=w.heap[m]?):MapI w' m L:=by
 obtain⟨es,c,hb,he⟩:=h;exact⟨es,c,e.trans hb,he⟩
def d64:TypeDesc:=.int .i64
theorem oX (n:Nat):∀ (l:List MapEntry) (L:List (Nat × Value)) (i:Nat),l.map (fun e=>(e.key,e.val))=L.map (fun p=>(Value.int .i64 (p.1:Int),p.2))->(∀ p∈L,p.1≠n)->Instr.findNow d64 (.int .i64 (n:Int)) l i=some none
 | [],_,_,_,_=>rfl
 | e::l,[],_,h,_=>by simp at h
 | e::l,p::L,i,h,hn=>by
  simp only[List.map_cons,List.cons.injEq,Prod.mk.injEq] at h;have hne:p.1≠n:=hn p (List.mem_cons_self ..)
  have hs:Instr.sameNow d64 (.int .i64 (n:Int)) e.key=some false:=by
   rw[h.1.1];simp only[Instr.sameNow,d64,if_true]
   congr 1
   rw[beq_eq_false_iff_ne];intro hc;exact hne (by omega)
  simp only[Instr.findNow,hs];exact oX n l L (i+1) h.2 fun q hq=>hn q (List.mem_cons_of_mem _ hq)
theorem rU (n:Nat)(v:Value):∀ (l:List MapEntry) (L:List (Nat × Value)) (i:Nat),l.map (fun e=>(e.key,e.val))=L.map (fun p=>(Value.int .i64 (p.1:Int),p.2))->(L.map (·.1)).Nodup->(n,v)∈L->∃ j,Instr.findNow d64 (.int .i64 (n:Int)) l i=some (some (j,v))
 | [],L,_,h,_,hm=>by
  cases L with
  | nil=>cases hm
  | cons p L=>simp at h
 | e::l,[],_,h,_,hm=>by cases hm
 | e::l,p::L,i,h,hd,hm=>by
  simp only[List.map_cons,List.cons.injEq,Prod.mk.injEq] at h;simp only[List.map_cons,List.nodup_cons] at hd
  by_cases hp:p.1=n
  ·have hv:p.2=v:=by
    rcases List.mem_cons.1 hm with e1|e1
    ·rw[<-e1]
    ·exact absurd (List.mem_map.2 ⟨(n,v),e1,rfl⟩:n∈L.map (·.1)) (hp ▸ hd.1)
   refine⟨i,?_⟩
   have hs:Instr.sameNow d64 (.int .i64 (n:Int)) e.key=some true:=by
    rw[h.1.1,hp];simp[Instr.sameNow,d64]
   simp only[Instr.findNow,hs,h.1.2,hv]
  ·have hs:Instr.sameNow d64 (.int .i64 (n:Int)) e.key=some false:=by
    rw[h.1.1];simp only[Instr.sameNow,d64,if_true]
    congr 1
    rw[beq_eq_false_iff_ne];intro hc;exact hp (by omega)
   obtain⟨j,hj⟩:=rU n v l L (i+1) h.2 hd.2 (by
    rcases List.mem_cons.1 hm with e1|e1
    ·exact absurd (by rw[<-e1]) hp
    ·exact e1)
   exact⟨j,by simp only[Instr.findNow,hs];exact hj⟩
section
variable {P:Program} {w:World} {m:Nat} {L:List (Nat × Value)} {t k e:TypeId} (ht:P.underlying t=some (.map k e)) (hk:P.underlying k=some (.int .i64))
include ht hk
theorem RJ (h:MapI w m L)(n:Nat)(hn:∀ p∈L,p.1≠n)(z:Value)(hz:(zeroValue e).run P w=.ok z w)(ok:Bool) :
  (Instr.lookup t (.map (some m)) (.int .i64 (n:Int)) ok).run P w=.ok (if ok then .tuple #[z,false] else z) w:=by
 obtain⟨es,c,hb,he⟩:=h;have h1:=MapKept.run_getObj_map (P:=P) hb;have h2:=MapKept.run_checkKey (P:=P) (w:=w) hk (k:=.int .i64 (n:Int)) (by first|rfl|trivial|exact⟨_,rfl⟩) es.isEmpty 9999;have h3:=MapKept.run_findKey (P:=P) (w:=w) hk (oX n es.toList L 0 he hn)
 cases ok <;> simp[Instr.lookup,run_underlying ht,h1,h2,h3,hz]
theorem IV (h:MapI w m L)(hd:(L.map (·.1)).Nodup)(n:Nat)(v:Value)(hm:(n,v)∈L)(ok:Bool) :
  (Instr.lookup t (.map (some m)) (.int .i64 (n:Int)) ok).run P w=.ok (if ok then .tuple #[v,true] else v) w:=by
 obtain⟨es,c,hb,he⟩:=h;have h1:=MapKept.run_getObj_map (P:=P) hb;have h2:=MapKept.run_checkKey (P:=P) (w:=w) hk (k:=.int .i64 (n:Int)) (by first|rfl|trivial|exact⟨_,rfl⟩) es.isEmpty 9999;obtain⟨j,hj⟩:=rU n v es.toList L 0 he hd hm;have h3:=MapKept.run_findKey (P:=P) (w:=w) hk hj
 cases ok <;> simp[Instr.lookup,run_underlying ht,h1,h2,h3]
theorem FY (h:MapI w m L)(n:Nat)(hn:∀ p∈L,p.1≠n)(v:Value) :
  ∃ o,(Instr.mapUpdate t (.map (some m)) (.int .i64 (n:Int)) v).run P w=.ok () { w with heap:=w.heap.setIfInBounds m o }/\MapI { w with heap:=w.heap.setIfInBounds m o } m (L++[(n,v)]):=by
 obtain⟨es,c,hb,he⟩:=h;have h1:=MapKept.run_getObj_map (P:=P) hb;have h2:=MapKept.run_checkKey (P:=P) (w:=w) hk (k:=.int .i64 (n:Int)) (by first|rfl|trivial|exact⟨_,rfl⟩) false 9999;have h3:=MapKept.run_findKey (P:=P) (w:=w) hk (oX n es.toList L 0 he hn);have h4:=MapKept.run_setObj_map (P:=P) (.map (es.push { key:=.int .i64 (n:Int),val:=v,born:=c }) (c+1)) hb;refine⟨_,by simp[Instr.mapUpdate,run_underlying ht,h1,h2,h3,h4];rfl,?_⟩;refine⟨_,_,(MapKept.heap_set hb).1,?_⟩;unfold aGA at *
 rw[Array.toList_push,List.map_append,he,List.map_append]
 rfl
omit hk in
theorem TU (h:MapI w m L)(ty:TypeId) :
  ∃ o,(Builtin.clear_ #[t] ty #[.map (some m)]).run P w=.ok (.tuple #[]) { w with heap:=w.heap.setIfInBounds m o }/\MapI { w with heap:=w.heap.setIfInBounds m o } m []:=by
 obtain⟨es,c,hb,he⟩:=h;have h1:=MapKept.run_getObj_map (P:=P) hb;have h4:=MapKept.run_setObj_map (P:=P) (.map #[] c) hb;refine⟨_,by simp[Builtin.clear_,run_underlying ht,h1,h4];rfl,?_⟩;exact⟨_,_,(MapKept.heap_set hb).1,rfl⟩
end
theorem KN (P:Program)(w:World)(t ty e:TypeId)(i:TypeInfo)(z:Value)(ht:P.underlying t=some (.slice e))(hi:P.info? e=some i)(hz:i.zero=some z)
  (hsize:i.size=1)(hby:i.bytes=8)(hzs:z.cells.size=1)
  (v:Value)(n:Nat)(xs:List Value)(hown:w.ownsRow 0 e 1 v n xs)(b:Nat)(u:Value)(hu:w.cell? ⟨b,0,none⟩=some u)(h1:u.oneCell'=true)(hn:n<=100000) :
  ∃ v' w' k,(Builtin.append_ #[t,t] ty #[v,.slice (some ⟨b,0,none⟩) 1 1]).run P w=.ok v' w'/\w'.ownsRow 0 e 1 v' (n+1) (xs++[u])/\w.grownBy w' v.ownBlock/\v'.ownBlock=some k/\(v.ownBlock=some k\/k=w.heap.size):=by
 have hnews:∀ j x,[u][j]?=some x->w.cell? ((⟨b,0,none⟩:Addr).add j)=some x:=by
  intro j x hj;rw[fU]
  cases j with
  | zero=>
   rw[hu]
   simpa using hj
  | succ j=>simp at hj
 obtain⟨v',w',hr,ho,hg,_⟩:=run_append_own (P:=P) w 0 t ty e i z 1 8 ht hi hz hsize hby hzs (by decide) v n xs hown ⟨b,0,none⟩ 1 1 [u] rfl hnews (by simpa using h1) (by simp only[maxLen];omega) (by omega) (Nat.zero_le _);refine⟨v',w',?_⟩
 have hk:∃ k,v'.ownBlock=some k/\(v.ownBlock=some k\/k=w.heap.size):=by
  rcases hown.2 with⟨rfl,rfl⟩|⟨g,cap,cur,rfl,_,hgg,hnc,hcm,hcs,htake⟩
  ·have h2:=run_append_nil (P:=P) w t ty e i z ht hi hz ⟨b,0,none⟩ 1 1 [u] (by rw[hsize];rfl) hnews (by decide) (by decide) (by omega)
   rw[hr] at h2;injection h2 with h3 h4;exact⟨w.heap.size,by rw[h3];rfl,.inr rfl⟩
  ·by_cases hroom:n+1<=cap
   ·have h2:=run_append_room (P:=P) w t ty e i ht hi g n cap cur hgg ⟨b,0,none⟩ 1 1 [u] (by rw[hsize];rfl) hnews (by simpa using h1) hroom (by rw[hcs,hsize];simp;omega)
    rw[hr] at h2;injection h2 with h3 h4;exact⟨g,by rw[h3];rfl,.inl rfl⟩
   ·have holds:∀ j x,xs[j]?=some x->w.cell? ((⟨g,0,none⟩:Addr).add j)=some x:=hown.cells (g:=g) rfl
    have h2:=run_append_grow (P:=P) w t ty e i z ht hi hz ⟨g,0,none⟩ n cap xs (by rw[hown.1,hsize]) holds ⟨b,0,none⟩ 1 1 [u] (by rw[hsize];rfl) hnews (by omega) (by omega) (growslice_fits (by omega) (by rw[hby];omega));rw[hr] at h2;injection h2 with h3 h4;exact⟨w.heap.size,by rw[h3];rfl,.inr rfl⟩
 obtain⟨k,h1,h2⟩:=hk;exact⟨k,hr,ho,hg,h1,h2⟩
def mQ (n:Int):Value:=.int .i64 n
def pE:Value:=.agg #[]
def KeysI (es:List MapEntry)(L:List Int):Prop:=es.map (fun e=>(e.key,e.val))=L.map (fun n=>(mQ n,pE))
def SetI (w:World)(m:Nat)(L:List Int):Prop:=∃ es clock,w.heap[m]?=some (.map es clock)/\KeysI es.toList L/\MapKept.Stamped es clock
theorem SetI.lt {w:World}{m:Nat}{L:List Int}(h:SetI w m L):m<w.heap.size:=by
 obtain⟨es,c,h1,_⟩:=h;exact(zl h1)
theorem SetI.kept {w w':World}{m:Nat}{L:List Int}(h:SetI w m L)(e:w'.heap[m]?=w.heap[m]?):SetI w' m L:=by
 obtain⟨es,c,h1,h2⟩:=h;exact⟨es,c,e.trans h1,h2⟩
theorem KeysI.keys {es:List MapEntry}{L:List Int}(h:KeysI es L):es.map (·.key)=L.map mQ:=by
 have:=congrArg (List.map Prod.fst) h
 simpa[List.map_map,Function.comp_def] using this
theorem KeysI.isKey {es:List MapEntry}{L:List Int}(h:KeysI es L):∀ x∈es,MapKept.IsKey (.int .i64) x.key:=by
 intro x hx;have:x.key∈L.map mQ:=by rw[<-h.keys];exact List.mem_map.2 ⟨x,hx,rfl⟩
 obtain⟨n,_,hn⟩:=List.mem_map.1 this;rw[<-hn];rfl
theorem CJ {a b:Int}(h:mQ a=mQ b):a=b:=by injection h
theorem KeysI.mem {es:List MapEntry}{L:List Int}(h:KeysI es L)(k:Int):k∈L ↔ ∃ x∈es,x.key=mQ k:=by
 constructor
 ·intro hk
  have:mQ k∈es.map (·.key):=by rw[h.keys];exact List.mem_map.2 ⟨k,hk,rfl⟩
  obtain⟨x,hx,e⟩:=List.mem_map.1 this;exact⟨x,hx,e⟩
 ·rintro⟨x,hx,e⟩
  have:mQ k∈L.map mQ:=by rw[<-h.keys,<-e];exact List.mem_map.2 ⟨x,hx,rfl⟩
  obtain⟨n,hn,e⟩:=List.mem_map.1 this;rw[<-CJ e];exact hn
theorem KeysI.val {es:List MapEntry}{L:List Int}(h:KeysI es L){x:MapEntry}(hx:x∈es):x.val=pE:=by
 have:(x.key,x.val)∈L.map (fun n=>(mQ n,pE)):=by rw[<-h];exact List.mem_map.2 ⟨x,hx,rfl⟩
 obtain⟨n,_,hn⟩:=List.mem_map.1 this;exact(Prod.mk.inj hn).2.symm
def isK (n:Int):Value->Bool
 | .int .i64 x=>decide (x=n)
 | _=>false
theorem MC (n:Int)(v:Value):isK n v=true ↔ v=mQ n:=by
 unfold isK mQ
 split
 ·simp
 ·rename_i h
  constructor
  ·intro h2;cases h2
  ·intro h2;exact absurd h2 (h n)
theorem JB {n:Int}{v:Value}(h:v≠mQ n):isK n v=false:=by
 cases hk:isK n v
 ·rfl
 ·exact absurd ((MC n v).1 hk) h
theorem CN (n:Int):isK n (mQ n)=true:=(MC n _).2 rfl
theorem qH:∀ (l:List MapEntry) (j:Nat) (hj:j<l.length) (n:Int),l[j].key=mQ n->l.Pairwise (fun x y=>x.key≠y.key)->l.eraseIdx j=l.filter fun y=>!isK n y.key
 | x::l,0,hj,n,hx,hp=>by
  have h1:=List.pairwise_cons.1 hp;have h2:x.key=mQ n:=hx;rw[List.eraseIdx_cons_zero,List.filter_cons_of_neg (by rw[h2,CN];decide),List.filter_eq_self.2];intro y hy;rw[JB (fun e=>h1.1 y hy (h2.trans e.symm))];rfl
 | x::l,j+1,hj,n,hx,hp=>by
  have h1:=List.pairwise_cons.1 hp;have hj':j<l.length:=by simpa using hj
  have h2:l[j].key=mQ n:=hx;rw[List.eraseIdx_cons_succ,List.filter_cons_of_pos,qH l j hj' n h2 h1.2];rw[JB (fun e=>h1.1 l[j] (List.getElem_mem _) (e.trans h2.symm))];rfl
theorem CI {l:List MapEntry}{L:List Int}(he:KeysI l L)(n:Int):KeysI (l.filter fun y=>!isK n y.key) (L.filter fun x=>decide (x≠n)):=by
 induction l generalizing L with
 | nil=>cases L with
  | nil=>rfl
  | cons a L=>simp[KeysI] at he
 | cons x l ih=>
  cases L with
  | nil=>simp[KeysI] at he
  | cons a L=>
   unfold KeysI at he;simp only[List.map_cons,List.cons.injEq,Prod.mk.injEq] at he;have ih':=ih (L:=L) he.2
   by_cases h:a=n
   ·rw[List.filter_cons_of_neg (by rw[he.1.1,h,CN];decide),List.filter_cons_of_neg (by simp[h])]
    exact ih'
   ·rw[List.filter_cons_of_pos (by rw[he.1.1,JB (fun e=>h (CJ e))];rfl),List.filter_cons_of_pos (by simpa using h)]
    unfold KeysI at ih' |-;rw[List.map_cons,List.map_cons,ih',he.1.1,he.1.2]
section
variable {P:Program} {w:World} {m:Nat} {L:List Int} {t k e:TypeId} (ht:P.underlying t=some (.map k e)) (hk:P.underlying k=some (.int .i64))
include ht hk
theorem aB4 (h:SetI w m L)(n:Int)(hz:(zeroValue e).run P w=.ok pE w) :
  (Instr.lookup t (.map (some m)) (.int .i64 n) true).run P w=.ok (.tuple #[pE,.bool (decide (n∈L))]) w:=by
 obtain⟨es,c,hb,he,hs⟩:=h;have h1:=MapKept.run_getObj_map (P:=P) hb;have h2:=MapKept.run_checkKey (P:=P) (w:=w) hk (k:=.int .i64 n) rfl es.isEmpty 9999
 rcases MapKept.findNow_spec (d:=.int .i64) (k:=.int .i64 n) rfl es.toList 0 he.isKey with⟨h3,h4⟩|⟨j,x,h3,h4,h5⟩
 ·have h6:=MapKept.run_findKey (P:=P) (w:=w) hk h3
  have hn:¬ n∈L:=fun hn=>by
   obtain⟨x,hx,e⟩:=(he.mem n).1 hn;exact h4 x hx e
  rw[decide_eq_false hn];simp[Instr.lookup,run_underlying ht,h1,h2,h6,hz]
 ·have h6:=MapKept.run_findKey (P:=P) (w:=w) hk h3
  have hx:x∈es.toList:=List.mem_of_getElem? h4;rw[decide_eq_true ((he.mem n).2 ⟨x,hx,h5⟩)];have hv:=he.val hx;simp[Instr.lookup,run_underlying ht,h1,h2,h6,hv]
theorem aFO (h:SetI w m L)(n:Int)(hn:n ∉ L) :
  ∃ o,(Instr.mapUpdate t (.map (some m)) (.int .i64 n) pE).run P w=.ok () { w with heap:=w.heap.setIfInBounds m o }/\SetI { w with heap:=w.heap.setIfInBounds m o } m (L++[n]):=by
 obtain⟨es,c,hb,he,hs⟩:=h;have h1:=MapKept.run_getObj_map (P:=P) hb;have h2:=MapKept.run_checkKey (P:=P) (w:=w) hk (k:=.int .i64 n) rfl false 9999
 rcases MapKept.findNow_spec (d:=.int .i64) (k:=.int .i64 n) rfl es.toList 0 he.isKey with⟨h3,h4⟩|⟨j,x,h3,h4,h5⟩
 ·have h6:=MapKept.run_findKey (P:=P) (w:=w) hk h3
  have h7:=MapKept.run_setObj_map (P:=P) (.map (es.push { key:=.int .i64 n,val:=pE,born:=c }) (c+1)) hb;refine⟨_,by simp[Instr.mapUpdate,run_underlying ht,h1,h2,h6,h7];rfl,?_⟩;refine⟨_,_,(MapKept.heap_set hb).1,?_,MapKept.stamped_push hs h4⟩;unfold KeysI at *;rw[Array.toList_push,List.map_append,he,List.map_append]
  rfl
 ·exact absurd ((he.mem n).2 ⟨x,List.mem_of_getElem? h4,h5⟩) hn
theorem delS (h:SetI w m L)(n:Int)(ty:TypeId) :
  ∃ o,(Builtin.delete_ #[t,k] ty #[.map (some m),n]).run P w=.ok (.tuple #[]) { w with heap:=w.heap.setIfInBounds m o }/\SetI { w with heap:=w.heap.setIfInBounds m o } m (L.filter fun x=>decide (x≠n)):=by
 obtain⟨es,c,hb,he,hs⟩:=h;have h1:=MapKept.run_getObj_map (P:=P) hb;have h2:=MapKept.run_checkKey (P:=P) (w:=w) hk (k:=.int .i64 n) rfl es.isEmpty 9999;have hkn:=((MapKept.stamped_iff es c).1 hs).2.2
 rcases MapKept.findNow_spec (d:=.int .i64) (k:=.int .i64 n) rfl es.toList 0 he.isKey with⟨h3,h4⟩|⟨j,x,h3,h4,h5⟩
 ·have h6:=MapKept.run_findKey (P:=P) (w:=w) hk h3
  have h7:=MapKept.run_setObj_map (P:=P) (.map es c) hb;refine⟨.map es c,by simp[Builtin.delete_,run_underlying ht,h1,h2,h6,h7],?_⟩;refine⟨es,c,(MapKept.heap_set hb).1,?_,hs⟩
  have hf:L.filter (fun x=>decide (x≠n))=L:=by
   rw[List.filter_eq_self];intro x hx;simp only[decide_eq_true_eq];intro e;subst e;obtain⟨y,hy,e⟩:=(he.mem x).1 hx;exact h4 y hy e
  rw[hf];exact he
 ·have h6:=MapKept.run_findKey (P:=P) (w:=w) hk h3
  have h7:=MapKept.run_setObj_map (P:=P) (.map (es.eraseIdxIfInBounds j) c) hb;rw[Nat.zero_add] at h6;refine⟨.map (es.eraseIdxIfInBounds j) c,by simp[Builtin.delete_,run_underlying ht,h1,h2,h6,h7],?_⟩;refine⟨_,c,(MapKept.heap_set hb).1,?_,MapKept.stamped_erase hs j⟩;obtain⟨hjl,hjx⟩:=List.getElem?_eq_some_iff.1 h4
  have e1:(es.eraseIdxIfInBounds j).toList=es.toList.filter fun y=>!isK n y.key:=by
   have hj2:j<es.size:=by simpa using hjl
   unfold Array.eraseIdxIfInBounds;rw[dif_pos hj2,Array.toList_eraseIdx];exact qH es.toList j hjl n (by rw[hjx];exact h5) hkn
  rw[e1];exact CI he n
omit hk in
theorem ZT (h:SetI w m L)(ty:TypeId) :
  ∃ o,(Builtin.clear_ #[t] ty #[.map (some m)]).run P w=.ok (.tuple #[]) { w with heap:=w.heap.setIfInBounds m o }/\SetI { w with heap:=w.heap.setIfInBounds m o } m []:=by
 obtain⟨es,c,hb,he,hs⟩:=h;have h1:=MapKept.run_getObj_map (P:=P) hb;have h4:=MapKept.run_setObj_map (P:=P) (.map #[] c) hb;refine⟨_,by simp[Builtin.clear_,run_underlying ht,h1,h4];rfl,?_⟩;exact⟨_,_,(MapKept.heap_set hb).1,rfl,MapKept.stamped_empty c⟩
end
