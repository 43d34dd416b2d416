import Derived.Test.YtknikcihgijmlaaGreatDoorM03
import Derived.Deep.RegionHeld
import Derived.Deep.DeepCutAuto
import Derived.Shelf.Strings.Builder1
import Derived.Test.YtknikcihgijmlaaGreatDoorProg
namespace Go.Proofs.YtknikcihgijmlaaGreatDoor
open Go.RowKit
set_option maxRecDepth 20000
set_option maxHeartbeats 12800000
set_option linter.unusedVariables false
set_option linter.unusedSimpArgs false
def aP (n:Nod)(p:Nat):Nod:=if n.leaf then{ leaf:=true,K:=n.K.take p,V:=n.V.take p,C:=[] } else{ leaf:=false,K:=n.K.take p,V:=[],C:=n.C.take (p+1) }
def aV (n:Nod)(p:Nat):Nod:=if n.leaf then{ leaf:=true,K:=n.K.drop p,V:=n.V.drop p,C:=[] } else{ leaf:=false,K:=n.K.drop (p+1),V:=[],C:=n.C.drop (p+1) }
def cL (lf:Bool):Nat:=if lf then 2 else 3
def fW (n:Nod)(i:Nat):Nat:=if n.leaf then 9+(n.V.getD i ByteArray.empty).size else 10
theorem ZK (n:Nod)(p:Nat)(ho:dD n):dD (aP n p):=by
 unfold aP
 split
 ·exact⟨Nat.le_trans (by simp;omega) ho.k1,Nat.le_trans (by simp;omega) ho.v1,Nat.zero_le _,fun x hx=>ho.kb x (List.mem_of_mem_take hx),fun x hx=>ho.vb x (List.mem_of_mem_take hx),fun x hx=>(by cases hx)⟩
 ·exact⟨Nat.le_trans (by simp;omega) ho.k1,Nat.zero_le _,Nat.le_trans (by simp;omega) ho.c1,fun x hx=>ho.kb x (List.mem_of_mem_take hx),fun x hx=>(by cases hx),fun x hx=>ho.cb x (List.mem_of_mem_take hx)⟩
theorem TM (n:Nod)(p:Nat)(ho:dD n):dD (aV n p):=by
 unfold aV
 split
 ·exact⟨Nat.le_trans (by simp) ho.k1,Nat.le_trans (by simp) ho.v1,Nat.zero_le _,fun x hx=>ho.kb x (List.mem_of_mem_drop hx),fun x hx=>ho.vb x (List.mem_of_mem_drop hx),fun x hx=>(by cases hx)⟩
 ·exact⟨Nat.le_trans (by simp) ho.k1,Nat.zero_le _,Nat.le_trans (by simp) ho.c1,fun x hx=>ho.kb x (List.mem_of_mem_drop hx),fun x hx=>(by cases hx),fun x hx=>ho.cb x (List.mem_of_mem_drop hx)⟩
theorem ED (n:Nod)(ak av ac:Option Addr)(ck cv cc:Nat)(w:World)(h:NodR w n ak av ac ck cv cc)(p:Nat)(hw:bH n=true)(hp:p<=n.K.length) :
  () 179 #[aJ n ak av ac ck cv cc,(p:Int)] w fun e w'=>fG w.heap.size (aP n p) e w'/\Below w.heap.size w w':=by
 have hok:=ZK n p h.ok;have hk1:=h.ok.k1;have hk2:=h.k2;obtain⟨a1,S1,R1⟩:=jB h.k p ck (by simp;omega) (by simpa using hk2);have e1:((n.K.map bI).take p).length=p:=by simp;omega
 have CK:=fun wx a hb ha=>JT nU ((n.K.map bI).take p) (fun u hu=>lX _ u (List.mem_of_mem_take hu)) p e1.symm (by omega) (c1:=ck) R1 wx a hb ha
 cases hl:n.leaf with
 | true=>
  have hwl:=(bG hl).1 hw;have hv2:=h.v2;rw[hwl.1] at hv2;obtain⟨a2,S2,R2⟩:=jB h.v p cv (by simp[hwl.1];omega) (by simpa using h.v2);have e2:((n.V.map Value.string).take p).length=p:=by simp[hwl.1];omega
  have CV:=fun wx a hb ha=>JT xY ((n.V.map Value.string).take p) (fun u hu=>BI _ u (List.mem_of_mem_take hu)) p e2.symm (by omega) (c1:=cv) R2 wx a hb ha
  unfold aJ;rw[hl,hwl.1];refine(KE ak av ac a1 a2 ck cv cc n.K.length n.C.length p _ _ w (Hd S1) (Hd S2) (Hd CK) (Hd CV) hp hk2 hv2 hk1).mono ?_;rintro e w' ⟨⟨x,rfl,xa,xb,xc,xd,rfl,q1,q2,q3,q4,q5,q6,q7,q8⟩,hb⟩;have hN:aP n p={ leaf:=true,K:=n.K.take p,V:=n.V.take p,C:=[] }:=by unfold aP;rw[hl];rfl
  have eK:(aP n p).K.map bI=(n.K.map bI).take p:=by rw[hN];simp[List.map_take]
  have eV:(aP n p).V.map Value.string=(n.V.map Value.string).take p:=by rw[hN];simp[List.map_take]
  rw[<-eK] at q1 q3;rw[<-eV] at q2 q5;refine⟨⟨xa,xb,none,xc,xd,0,?_,⟨q1,q2,by rw[hN];exact .inl rfl,by simpa using q3,q4,by simpa using q5,q6,by rw[hN];exact Nat.le_refl _,Nat.zero_le _,hok⟩,q7,q8,fun x hx=>by cases hx⟩,hb⟩;unfold aJ;rw[<-eK,<-eV,hN];simp
 | false=>
  have hwl:=(aQ hl).1 hw;have hc2:=h.c2;rw[hwl.1] at hc2;obtain⟨a2,S2,R2⟩:=jB h.c (p+1) cc (by simp[hwl.1];omega) (by simpa using h.c2);have e2:((n.C.map dT).take (p+1)).length=p+1:=by simp[hwl.1];omega
  have CC:=fun wx a hb ha=>JT sE ((n.C.map dT).take (p+1)) (fun u hu=>wG _ u (List.mem_of_mem_take hu)) (p+1) e2.symm (by omega) (c1:=cc) R2 wx a hb ha
  unfold aJ;rw[hl,hwl.1];refine(yZ ak av ac a1 a2 ck cv cc n.K.length n.V.length p _ _ w (Hd S1) (Hd S2) (Hd CK) (Hd CC) hp hk2 hc2 hk1).mono ?_;rintro e w' ⟨⟨x,rfl,xa,xb,xc,xd,rfl,q1,q2,q3,q4,q5,q6,q7,q8⟩,hb⟩;have hN:aP n p={ leaf:=false,K:=n.K.take p,V:=[],C:=n.C.take (p+1) }:=by unfold aP;rw[hl];rfl
  have eK:(aP n p).K.map bI=(n.K.map bI).take p:=by rw[hN];simp[List.map_take]
  have eC:(aP n p).C.map dT=(n.C.map dT).take (p+1):=by rw[hN];simp[List.map_take]
  rw[<-eK] at q1 q3;rw[<-eC] at q2 q5;refine⟨⟨xa,none,xb,xc,0,xd,?_,⟨q1,by rw[hN];exact .inl rfl,q2,by simpa using q3,q4,by rw[hN];exact Nat.le_refl _,Nat.zero_le _,by simpa using q5,q6,hok⟩,q7,(fun x hx=>by cases hx),q8⟩,hb⟩;unfold aJ;rw[<-eK,<-eC,hN];simp
theorem TN (n:Nod)(ak av ac:Option Addr)(ck cv cc:Nat)(w:World)(h:NodR w n ak av ac ck cv cc)(p:Nat)(hw:bH n=true)(hp:p+1<=n.K.length) :
  () 180 #[aJ n ak av ac ck cv cc,(p:Int)] w fun e w'=>fG w.heap.size (aV n p) e w'/\Below w.heap.size w w':=by
 have hok:=TM n p h.ok;have hk1:=h.ok.k1;have hk2:=h.k2
 cases hl:n.leaf with
 | true=>
  have hwl:=(bG hl).1 hw;have hv2:=h.v2;rw[hwl.1] at hv2;obtain⟨a1,S1,R1⟩:=iN h.k p n.K.length ck (by simp) (by simp;omega) (by simpa using hk2);have e1:((n.K.map bI).drop p).length=n.K.length-p:=by simp
  have CK:=fun wx a hb ha=>JT nU ((n.K.map bI).drop p) (fun u hu=>lX _ u (List.mem_of_mem_drop hu)) (n.K.length-p) e1.symm (by omega) (c1:=ck-p) R1 wx a hb ha
  obtain⟨a2,S2,R2⟩:=iN h.v p n.K.length cv (by simp[hwl.1]) (by simp[hwl.1];omega) (by simpa using h.v2);have e2:((n.V.map Value.string).drop p).length=n.K.length-p:=by simp[hwl.1]
  have CV:=fun wx a hb ha=>JT xY ((n.V.map Value.string).drop p) (fun u hu=>BI _ u (List.mem_of_mem_drop hu)) (n.K.length-p) e2.symm (by omega) (c1:=cv-p) R2 wx a hb ha
  unfold aJ;rw[hl,hwl.1];refine(DW ak av ac a1 a2 ck cv cc n.K.length n.C.length p _ _ w (Hd S1) (Hd S2) (Hd CK) (Hd CV) (by omega) hk2 hv2 hk1).mono ?_;rintro e w' ⟨⟨x,rfl,xa,xb,xc,xd,rfl,q1,q2,q3,q4,q5,q6,q7,q8⟩,hb⟩;have hN:aV n p={ leaf:=true,K:=n.K.drop p,V:=n.V.drop p,C:=[] }:=by unfold aV;rw[hl];rfl
  have eK:(aV n p).K.map bI=(n.K.map bI).drop p:=by rw[hN];simp[List.map_drop]
  have eV:(aV n p).V.map Value.string=(n.V.map Value.string).drop p:=by rw[hN];simp[List.map_drop]
  rw[<-eK] at q1 q3;rw[<-eV] at q2 q5;refine⟨⟨xa,xb,none,xc,xd,0,?_,⟨q1,q2,by rw[hN];exact .inl rfl,by simpa using q3,q4,by simpa using q5,q6,by rw[hN];exact Nat.le_refl _,Nat.zero_le _,hok⟩,q7,q8,fun x hx=>by cases hx⟩,hb⟩;unfold aJ;rw[<-eK,<-eV,hN];simp
 | false=>
  have hwl:=(aQ hl).1 hw;have hc2:=h.c2;rw[hwl.1] at hc2;obtain⟨a1,S1,R1⟩:=iN h.k (p+1) n.K.length ck (by simp) (by simpa using hp) (by simpa using hk2);have e1:((n.K.map bI).drop (p+1)).length=n.K.length-(p+1):=by simp
  have CK:=fun wx a hb ha=>JT nU ((n.K.map bI).drop (p+1)) (fun u hu=>lX _ u (List.mem_of_mem_drop hu)) (n.K.length-(p+1)) e1.symm (by omega) (c1:=ck-(p+1)) R1 wx a hb ha
  obtain⟨a2,S2,R2⟩:=iN h.c (p+1) (n.K.length+1) cc (by simp[hwl.1]) (by simp[hwl.1];omega) (by simpa using h.c2);rw[show n.K.length+1-(p+1)=n.K.length-p from by omega] at S2;have e2:((n.C.map dT).drop (p+1)).length=n.K.length-p:=by simp[hwl.1]
  have CC:=fun wx a hb ha=>JT sE ((n.C.map dT).drop (p+1)) (fun u hu=>wG _ u (List.mem_of_mem_drop hu)) (n.K.length-p) e2.symm (by omega) (c1:=cc-(p+1)) R2 wx a hb ha
  unfold aJ;rw[hl,hwl.1];refine(uX ak av ac a1 a2 ck cv cc n.K.length n.V.length p _ _ w (Hd S1) (Hd S2) (Hd CK) (Hd CC) hp hk2 hc2 hk1).mono ?_;rintro e w' ⟨⟨x,rfl,xa,xb,xc,xd,rfl,q1,q2,q3,q4,q5,q6,q7,q8⟩,hb⟩;have hN:aV n p={ leaf:=false,K:=n.K.drop (p+1),V:=[],C:=n.C.drop (p+1) }:=by unfold aV;rw[hl];rfl
  have eK:(aV n p).K.map bI=(n.K.map bI).drop (p+1):=by rw[hN];simp[List.map_drop]
  have eC:(aV n p).C.map dT=(n.C.map dT).drop (p+1):=by rw[hN];simp[List.map_drop]
  rw[<-eK] at q1 q3;rw[<-eC] at q2 q5;refine⟨⟨xa,none,xb,xc,0,xd,?_,⟨q1,by rw[hN];exact .inl rfl,q2,by simpa using q3,q4,by rw[hN];exact Nat.le_refl _,Nat.zero_le _,by simpa using q5,q6,hok⟩,q7,(fun x hx=>by cases hx),q8⟩,hb⟩;unfold aJ;rw[<-eK,<-eC,hN];simp
theorem BP (n:Nod)(ak av ac:Option Addr)(ck cv cc:Nat)(w:World) :
  () 177 #[aJ n ak av ac ck cv cc] w fun e w'=>e=.returned (.int .i64 (cL n.leaf:Int))/\Below w.heap.size w w':=by
 unfold aJ;generalize n.leaf=lf;generalize n.K.length=lk;generalize n.V.length=lv;generalize n.C.length=lc
 cases lf
 all_goals
  go_enter Tryz.func177,Tryz.ntmps177;go_wp2_with fail;go_ret;exact⟨rfl,Br.alloc (Nat.le_refl _) _⟩
theorem UW (n:Nod)(ak av ac:Option Addr)(ck cv cc:Nat)(w:World)(h:NodR w n ak av ac ck cv cc)(i:Nat)(hw:bH n=true)(hi:i<n.K.length)(s:Nat)(hs:fW n i=s) :
  () 193 #[aJ n ak av ac ck cv cc,(i:Int)] w fun e w'=>e=.returned (.int .i64 (s:Int))/\Below w.heap.size w w':=by
 obtain⟨lf,K,V,C⟩:=n;subst hs
 cases lf
 ·clear h hw hi
  unfold aJ fW
  dsimp only
  generalize K.length=lk;generalize V.length=lv;generalize C.length=lc;go_enter Tryz.func193,Tryz.ntmps193;go_wp2_with fail;go_ret;exact⟨rfl,Br.alloc (Nat.le_refl _) _⟩
 ·have hvk:V.length=K.length:=((bG rfl).1 hw).1
  have hiv:i<V.length:=by rw[hvk];exact hi
  obtain⟨b,off,he,hb,hcell⟩:=h.v.at i (by simpa using hiv);subst he;have hvb:=h.ok.vb V[i] (List.getElem_mem hiv);have hgd:V.getD i ByteArray.empty=V[i]:=by rw[List.getD_eq_getElem?_getD,List.getElem?_eq_getElem hiv];rfl
  unfold aJ fW
  dsimp only at hcell |-
  rw[hgd];obtain⟨x,hx⟩:∃ x,V[i]=x:=⟨_,rfl⟩
  have hc:(w.alloc (.cells #[true,ak K.length ck,.slice (some ⟨b,off,none⟩) V.length cv,ac C.length cc] 166)).cell? ⟨b,off+i,none⟩=some (.string x):=by
   rw[World.cell?_alloc_lt _ _ _ hb,hcell,<-hx];simp
  rw[hx] at hvb |-;have hiI:(i:Int)<(V.length:Int):=by omega
  have hw9:IntKind.i64.wrap (9+(x.size:Int))=9+(x.size:Int):=IntWalk.i64_in _ (by omega);clear hx hcell hgd h hw hi hiv hvk hvb;generalize K.length=lk at *;generalize V.length=lv at *;generalize C.length=lc at *;go_enter Tryz.func193,Tryz.ntmps193;go_wp2_with fail;go_ret;exact⟨LD (by simp),Br.alloc (Nat.le_refl _) _⟩
section
variable {P:Program} {ops:Array Oper} {Q:Exit->Act->World->Prop} {md:Region.Mode} {S:World->Prop}
theorem RN {i:Nat}(d:Tmp){oi:Oper}(v:Value){n:Nat}{b:Array Bool}{a:Act}{w:World}(hi:ops[i]?=some oi)(hd:oi.dst=some d)(hs:Region.noSelect ops=true)(hf:Region.free md ops b i=true)(hr:(Region.ready md ops b).contains i=true)
    (hQ:∀ c a w,Q (.panic c) (a.put oi.dst v) w->Q (.panic c) a w)(hS:S w)(hw:Region.wanted oi (yielded ops a.tmps)=true)(hy:∀ w,S w->(execOp a.eval oi).run P w=.ok (.value v) w)
    (h:wpAnyH P md ops Q S n (b.setIfInBounds i true) { tmps:=a.tmps.setIfInBounds d v,defers:=a.defers } w):wpAnyH P md ops Q S (n+1) b a w:=
  wpAnyH_take hi hs hf hr hQ (.inl ⟨hw,hy⟩) hS (by rw[hd];exact h)
theorem RP {i:Nat}(d:Tmp){oi:Oper}{n:Nat}{b:Array Bool}{a:Act}{w:World}(hi:ops[i]?=some oi)(hd:oi.dst=some d)(hs:Region.noSelect ops=true)(hf:Region.free md ops b i=true)(hr:(Region.ready md ops b).contains i=true)
    (hQ:∀ c a w,Q (.panic c) (a.put oi.dst undef) w->Q (.panic c) a w)(hS:S w)(hw:Region.wanted oi (yielded ops a.tmps)=false)
    (h:wpAnyH P md ops Q S n (b.setIfInBounds i true) { tmps:=a.tmps.setIfInBounds d undef,defers:=a.defers } w):wpAnyH P md ops Q S (n+1) b a w:=
  wpAnyH_take hi hs hf hr hQ (.inr ⟨hw,rfl⟩) hS (by rw[hd];exact h)
theorem RO {i:Nat}{oi:Oper}{n:Nat}{b:Array Bool}{a:Act}{w:World}(hi:ops[i]?=some oi)(hr:Region.ready md ops b=[i])
    (h:∀ K:Act->World->Prop,(∀ a2 w2,S w2->wpAnyH P md ops Q S n (b.setIfInBounds i true) a2 w2->K a2 w2)->if Region.wanted oi (yielded ops a.tmps)=true then Oper.wp P oi a w K Q else K (a.put oi.dst undef) w):wpAnyH P md ops Q S (n+1) b a w:=
  wpAnyH_ready hr (by simp) (AllReadyH.cons hi (fun K hK=>h K fun a2 w2 h1 h2=>hK a2 w2 h1 fun _=>h2) AllReadyH.nil)
theorem RR {i j:Nat}{oi oj:Oper}{n:Nat}{b:Array Bool}{a:Act}{w:World}(hi:ops[i]?=some oi)(hj:ops[j]?=some oj)(hr:Region.ready md ops b=[i,j])
    (h:∀ K:Act->World->Prop,(∀ a2 w2,S w2->wpAnyH P md ops Q S n (b.setIfInBounds i true) a2 w2->K a2 w2)->if Region.wanted oi (yielded ops a.tmps)=true then Oper.wp P oi a w K Q else K (a.put oi.dst undef) w)
    (h2:∀ K:Act->World->Prop,(∀ a2 w2,S w2->wpAnyH P md ops Q S n (b.setIfInBounds j true) a2 w2->K a2 w2)->if Region.wanted oj (yielded ops a.tmps)=true then Oper.wp P oj a w K Q else K (a.put oj.dst undef) w):wpAnyH P md ops Q S (n+1) b a w:=
  wpAnyH_ready hr (by simp) (AllReadyH.cons hi (fun K hK=>h K fun a2 w2 h1 h2=>hK a2 w2 h1 fun _=>h2) (AllReadyH.cons hj (fun K hK=>h2 K fun a2 w2 h1 h2=>hK a2 w2 h1 fun _=>h2) AllReadyH.nil))
end
section
variable {P:Program} {ops:Array Oper} {Q:Exit->Act->World->Prop} {md:Region.Mode} {S:World->Prop}
theorem ht {i:Nat}(d:Tmp){oi:Oper}(v:Value){n:Nat}{b:Array Bool}{a:Act}{w:World}(hi:ops[i]?=some oi)(hd:oi.dst=some d)(hc:(Region.noSelect ops&&Region.free md ops b i&&(Region.ready md ops b).contains i)=true)
    (hQ:∀ c a w,Q (.panic c) (a.put oi.dst v) w->Q (.panic c) a w)(hS:S w)(hw:Region.wanted oi (yielded ops a.tmps)=true)(hy:∀ w,S w->(execOp a.eval oi).run P w=.ok (.value v) w)
    (h:wpAnyH P md ops Q S n (b.setIfInBounds i true) { tmps:=a.tmps.setIfInBounds d v,defers:=a.defers } w):wpAnyH P md ops Q S (n+1) b a w:=by
  simp only[Bool.and_eq_true] at hc
  exact RN d v hi hd hc.1.1 hc.1.2 hc.2 hQ hS hw hy h
end
section
open Go.RowKit
variable {P:Program} {ops:Array Oper} {Q:Exit->Act->World->Prop} {md:Region.Mode} {S:World->Prop}
theorem Hu (i:Nat)(d:Tmp){oi:Oper}{v:Value}{n:Nat}{b:Array Bool}{a:Act}{w:World}(hS:S w)(h:wpAnyH P md ops Q S n (b.setIfInBounds i true) { tmps:=a.tmps.setIfInBounds d v,defers:=a.defers } w)(hi:ops[i]?=some oi:=by exact rfl)(hd:oi.dst=some d:=by exact rfl)(hc:(Region.noSelect ops&&Region.free md ops b i&&(Region.ready md ops b).contains i)=true:=by kernel_rfl)
    (hQ:∀ c a w,Q (.panic c) (a.put oi.dst v) w->Q (.panic c) a w:=by exact fun _ _ _ h=>h)(hw:Region.wanted oi (yielded ops a.tmps)=true:=by rfl)(hy:∀ w,S w->(execOp a.eval oi).run P w=.ok (.value v) w:=by intro w9 s9;clear s9;go_simp;try (with_reducible rfl)):wpAnyH P md ops Q S (n+1) b a w:=
  ht d v hi hd hc hQ hS hw hy h
theorem Hv (i:Nat)(d:Tmp)(v:Value){oi:Oper}{n:Nat}{b:Array Bool}{a:Act}{w:World}(hS:S w)(hy:∀ w,S w->(execOp a.eval oi).run P w=.ok (.value v) w)(h:wpAnyH P md ops Q S n (b.setIfInBounds i true) { tmps:=a.tmps.setIfInBounds d v,defers:=a.defers } w)(hi:ops[i]?=some oi:=by exact rfl)(hd:oi.dst=some d:=by exact rfl)(hc:(Region.noSelect ops&&Region.free md ops b i&&(Region.ready md ops b).contains i)=true:=by kernel_rfl)
    (hQ:∀ c a w,Q (.panic c) (a.put oi.dst v) w->Q (.panic c) a w:=by exact fun _ _ _ h=>h)(hw:Region.wanted oi (yielded ops a.tmps)=true:=by rfl):wpAnyH P md ops Q S (n+1) b a w:=
  ht d v hi hd hc hQ hS hw hy h
theorem Hn (i:Nat)(d:Tmp){oi:Oper}{n:Nat}{b:Array Bool}{a:Act}{w:World}(hS:S w)(h:wpAnyH P md ops Q S n (b.setIfInBounds i true) { tmps:=a.tmps.setIfInBounds d undef,defers:=a.defers } w)(hi:ops[i]?=some oi:=by exact rfl)(hd:oi.dst=some d:=by exact rfl)(hs:Region.noSelect ops=true:=by kernel_rfl)(hf:Region.free md ops b i=true:=by kernel_rfl)(hr:(Region.ready md ops b).contains i=true:=by kernel_rfl)
    (hQ:∀ c a w,Q (.panic c) (a.put oi.dst undef) w->Q (.panic c) a w:=by exact fun _ _ _ h=>h)(hw:Region.wanted oi (yielded ops a.tmps)=false:=by rfl):wpAnyH P md ops Q S (n+1) b a w:=
  RP d hi hd hs hf hr hQ hS hw h
theorem Hs (i:Nat){oi:Oper}{n:Nat}{b:Array Bool}{a:Act}{w:World}
    (h:∀ K:Act->World->Prop,Hid (∀ a2 w2,S w2->wpAnyH P md ops Q S n (b.setIfInBounds i true) a2 w2->K a2 w2)->if Region.wanted oi (yielded ops a.tmps)=true then Oper.wp P oi a w K Q else K (a.put oi.dst undef) w)(hi:ops[i]?=some oi:=by exact rfl)(hr:Region.ready md ops b=[i]:=by kernel_rfl):wpAnyH P md ops Q S (n+1) b a w:=
  RO hi hr fun K hK=>h K (Lib.hid hK)
theorem Hk (i j:Nat){oi oj:Oper}{n:Nat}{b:Array Bool}{a:Act}{w:World}
    (h:∀ K:Act->World->Prop,Hid (∀ a2 w2,S w2->wpAnyH P md ops Q S n (b.setIfInBounds i true) a2 w2->K a2 w2)->if Region.wanted oi (yielded ops a.tmps)=true then Oper.wp P oi a w K Q else K (a.put oi.dst undef) w)
    (h2:∀ K:Act->World->Prop,Hid (∀ a2 w2,S w2->wpAnyH P md ops Q S n (b.setIfInBounds j true) a2 w2->K a2 w2)->if Region.wanted oj (yielded ops a.tmps)=true then Oper.wp P oj a w K Q else K (a.put oj.dst undef) w)(hi:ops[i]?=some oi:=by exact rfl)(hj:ops[j]?=some oj:=by exact rfl)(hr:Region.ready md ops b=[i,j]:=by kernel_rfl):wpAnyH P md ops Q S (n+1) b a w:=
  RR hi hj hr (fun K hK=>h K (Lib.hid hK)) (fun K hK=>h2 K (Lib.hid hK))
end
def fR (n:Nod)(half:Nat):Nat->Nat->Nat->Nat
 | 0,k,_=>k
 | f+1,k,s=>if half<=s then k else fR n half f (k+1) (s+fW n k)
def kV (n:Nod):Nat:=n.K.length-cL n.leaf+1
def cM (n:Nod):Nat:=fR n (aI n / 2) (kV n-1) 1 (aI (aP n 1))
theorem JO (n:Nod)(half:Nat):∀ f k s,k<=fR n half f k s/\fR n half f k s<=k+f:=by
 intro f
 induction f with
 | zero=>intro k s;exact⟨Nat.le_refl _,Nat.le_refl _⟩
 | succ f ih=>
  intro k s;unfold fR
  split
  ·exact⟨Nat.le_refl _,by omega⟩
  ·have:=ih (k+1) (s+fW n k)
   exact⟨by omega,by omega⟩
theorem yM (n:Nod):1<=cM n/\cM n<=kV n:=by
 have:=JO n (aI n / 2) (kV n-1) 1 (aI (aP n 1));have h:1<=kV n:=by unfold kV;omega
 unfold cM;omega
theorem EB (n:Nod)(p:Nat)(hw:bH n=true)(hp:p<=n.K.length):bH (aP n p)=true:=by
 unfold aP
 cases hl:n.leaf with
 | true=>
  have:=(bG hl).1 hw;exact(bG rfl).2 ⟨by simp[this.1],rfl⟩
 | false=>
  have:=(aQ hl).1 hw;exact(aQ rfl).2 ⟨by simp[this.1],rfl⟩
theorem UV (n:Nod)(i:Nat)(ho:dD n):fW n i<=9+140737488351232:=by
 unfold fW
 split
 ·rw[List.getD_eq_getElem?_getD]
  cases h:n.V[i]? with
  | none=>simp
  | some v=>have:=ho.vb v (List.mem_of_getElem? h);simp;omega
 ·omega
theorem AB (n:Nod)(ho:dD n):aI (aP n 1)<=281474976710656:=by
 have h:∀ (l:List ByteArray),(∀ v∈l,v.size<=140737488351232)->bK (l.take 1)<=140737488351232:=by
  intro l hl
  cases l with
  | nil=>simp[bK]
  | cons a l=>simpa[bK] using hl a (by simp)
 have hb:=h n.V ho.vb;unfold aP aI
 cases n.leaf
 ·simp only[Bool.false_eq_true,if_false]
  have h1:(n.K.take 1).length<=1:=by simp;omega
  have h2:(n.C.take (1+1)).length<=2:=by simp;omega
  omega
 ·simp only[if_true]
  have h1:(n.K.take 1).length<=1:=by simp;omega
  omega
theorem UU (n:Nod)(ho:dD n):aI n<=140737488351232*1000+20000:=by
 have:=nZ n.V _ ho.vb;have h1:=ho.k1;have h2:=ho.v1;have h3:=ho.c1;have h4:n.V.length*140737488351232<=1000*140737488351232:=Nat.mul_le_mul_right _ h2;unfold aI
 split <;> omega
theorem aEC (n:Nod)(ak av ac:Option Addr)(ck cv cc:Nat)(w:World)(h:NodR w n ak av ac ck cv cc)(hw:bH n=true)(hl:cL n.leaf<=n.K.length) :
  () 178 #[aJ n ak av ac ck cv cc] w fun e w'=>e=.returned (.int .i64 (cM n:Int))/\Below w.heap.size w w':=by
 have hk1:=h.ok.k1;have hle2:2<=cL n.leaf:=by unfold cL;split <;> omega
 have SZ:=Hd (fun w' (hb:Below w.heap.size w w')=>jA n ak av ac ck cv cc w' (h.below hb) _ (Hd rfl) hw);have LS:=Hd (fun w'=>BP n ak av ac ck cv cc w');have AH:=Hd (fun w' (hb:Below w.heap.size w w')=>ED n ak av ac ck cv cc w' (h.below hb) 1 hw (by omega));have SA:=Hd (fun ak av ac ck cv cc w' (h:NodR w' (aP n 1) ak av ac ck cv cc)=>jA (aP n 1) ak av ac ck cv cc w' h _ (Hd rfl) (EB n 1 hw (by omega)))
 have SH:=Hd (fun i (hi:i<n.K.length) w' (hb:Below w.heap.size w w')=>UW n ak av ac ck cv cc w' (h.below hb) i hw hi _ rfl);have SHL:=Hd (fun i=>UV n i h.ok);have hz:=UU n h.ok;have ha1:=AB n h.ok;obtain⟨half,hhf⟩:∃ half,aI n / 2=half:=⟨_,rfl⟩
 obtain⟨most,hms⟩:∃ most,kV n=most:=⟨_,rfl⟩
 have hm1:1<=most:=by rw[<-hms];unfold kV;omega
 have hm2:(n.K.length:Int)-(cL n.leaf:Int)+1=(most:Int):=by rw[<-hms];unfold kV;omega
 have hm3:most<n.K.length:=by rw[<-hms];unfold kV;omega
 have F0:Hid (fR n half (most-1) 1 (aI (aP n 1))=cM n):=Hd (by unfold cM;rw[hhf,hms]);have FS:=Hd (fun f k s=>show fR n half (f+1) k s=if half<=s then k else fR n half f (k+1) (s+fW n k) from rfl);have FZ:=Hd (fun k s=>show fR n half 0 k s=k from rfl);generalize cM n=c at *;generalize hzn:aI n=z at *;generalize aI (aP n 1)=za at *;obtain⟨d,hd⟩:∃ d:Nat,(n.K.length:Int)-(cL n.leaf:Int)=(d:Int):=⟨n.K.length-cL n.leaf,by omega⟩
 have hw1:IntKind.i64.wrap ((n.K.length:Int)-(cL n.leaf:Int))=(d:Int):=by rw[hd];exact IntWalk.i64_in _ (by omega)
 have hw2:IntKind.i64.wrap ((d:Int)+1)=(most:Int):=by rw[<-hd,hm2];exact IntWalk.i64_in _ (by omega)
 have hw3:(z:Int).tdiv 2=(half:Int):=by rw[Int.tdiv_eq_ediv_of_nonneg (by omega)];omega
 have hw4:(z:Int) / 2=(half:Int):=by omega
 have hw5:IntKind.i64.wrap (half:Int)=(half:Int):=IntWalk.i64_in _ (by omega);have HB:Hid (Below w.heap.size w w):=Hd Br;clear hd hm2 hhf hms hz hle2 hl hw hzn h;obtain⟨lf,K,V,C⟩:=n;unfold aJ at *
 dsimp only at *
 generalize K.length=lk at *;generalize V.length=lv at *;generalize C.length=lc at *;obtain⟨W,hW⟩:∃ W,w.alloc (.cells #[lf,ak lk ck,av lv cv,ac lc cc] 166)=W:=⟨_,rfl⟩
 have bW:Below w.heap.size w W:=by rw[<-hW];exact aB _ _
 have XW:Hid (W.heap[w.heap.size]?=some (.cells #[lf,ak lk ck,av lv cv,ac lc cc] 166)):=Hd (by rw[<-hW];exact han _ _);have BW:=Hd bW;have HW:=Hd hW;clear bW hW;go_enter Tryz.func178,Tryz.ntmps178;go_wp2_with fail;rw[HW.o];clear HW;refine wp_region_held_drew (S:=fun w'=>Below W.heap.size W w') (by kernel_rfl) (Below.refl W.heap.size W).drew (fun hS=>?_);refine Hv 0 7 ?va0x1 hS ?ha0x1 ?_
 case ha0x1=>
  intro w9 s9;have X9:=kept XW s9;have c0:=cl X9 0 rfl;have c1:=cl X9 1 rfl;have c2:=cl X9 2 rfl;have c3:=cl X9 3 rfl;clear s9;go_simp;try (with_reducible rfl)
 simp only[SL];refine Hu 3 10 hS ?_;simp only[SL];refine Hv 4 11 ?va4x3 hS ?ha4x3 ?_
 case ha4x3=>
  intro w9 s9;have X9:=kept XW s9;have c0:=cl X9 0 rfl;have c1:=cl X9 1 rfl;have c2:=cl X9 2 rfl;have c3:=cl X9 3 rfl;clear s9;go_simp;try (with_reducible rfl)
 simp only[SL];refine Hu 5 12 hS ?_;simp only[SL];refine Hv 6 13 ?va6x5 hS ?ha6x5 ?_
 case ha6x5=>
  intro w9 s9;have X9:=kept XW s9;have c0:=cl X9 0 rfl;have c1:=cl X9 1 rfl;have c2:=cl X9 2 rfl;have c3:=cl X9 3 rfl;clear s9;go_simp;try (with_reducible rfl)
 simp only[SL];refine Hs 1 (fun K HK=>?_);go_simp;go_wp2_with fail;refine(SZ _ (chain BW hS)).mono ?_;rintro e v1 ⟨rfl,b1⟩;refine HK _ _ ?_ ?_
 ·exact chain hS b1
 clear HK K;try simp only[Act.put,SL]
 have hS9:=chain hS b1;clear hS;have hS:=hS9;clear hS9;clear b1;refine Hu 2 9 hS ?_;simp only[SL];refine Hs 7 (fun K HK=>?_);go_simp;go_wp2_with fail;refine(LS _).mono ?_;rintro e v2 ⟨rfl,b2⟩;refine HK _ _ ?_ ?_
 ·exact chain hS b2
 clear HK K;try simp only[Act.put,SL]
 have hS9:=chain hS b2;clear hS;have hS:=hS9;clear hS9;clear b2;refine Hu 8 15 hS ?_;simp only[SL];refine Hu 9 16 hS ?_;simp only[SL];refine Hu 10 3 hS ?_;simp only[SL];refine Hu 11 4 hS ?_;simp only[SL];refine wpAnyH_done (by kernel_rfl) ?_ _;have H1:=Hd hS;clear hS;have X2:=Hd (kept XW H1.o);have B2:=Hd (chain BW H1.o);clear XW BW H1;have y0:=cl X2 0 rfl;have y1:=cl X2 1 rfl;have y2:=cl X2 2 rfl;have y3:=cl X2 3 rfl;go_wp2_with fail;refine(AH _ B2.o).mono ?_;rintro e v3 ⟨⟨xk,xv,xc,dk,dv,dc,rfl,hR,-,-,-⟩,b3⟩;have R3:=Hd hR
 have X3:=Hd (kept X2 b3);have B3:=Hd (chain B2 b3);clear hR b3 X2 B2 y0 y1 y2 y3 AH;unfold aJ;go_wp2_with fail;refine(SA _ _ _ _ _ _ _ R3.o).mono ?_;rintro e v4 ⟨rfl,b4⟩;have X4:=Hd (kept X3 b4);have B4:=Hd (chain B3 b4);clear b4 X3 B3 R3 SA;go_wp2_with fail
 go_loopw [5,6] (fun s k wr=>∃ j y:Nat,1<=j/\j<=most/\k=.int .i64 (j:Int)/\s=.int .i64 (y:Int)/\y<=j*281474976710656/\fR { leaf:=lf,K:=K,V:=V,C:=C } half (most-j) j y=c/\Below v4.heap.size v4 wr) (fun _ k _=>most+1-(intOf k).toNat)
 case atStart=>exact⟨1,za,Nat.le_refl _,hm1,rfl,rfl,by omega,F0.o,Br⟩
 case round=>
  obtain⟨j,y,hj1,hj2,rfl,rfl,hy,hc,hb⟩:=hrel;have XR:=Hd (kept X4 hb);have BR:=Hd (chain B4 hb);have HBR:=Hd hb;have HC:=Hd hc;clear hb hc;have y0:=cl XR 0 rfl;have y1:=cl XR 1 rfl;have y2:=cl XR 2 rfl;have y3:=cl XR 3 rfl
  by_cases hlt:j<most
  ·have hji:(j:Int)<(most:Int):=by omega
   have hfu:=FS (most-j-1) j y;rw[show most-j-1+1=most-j from by omega,HC.o] at hfu
   by_cases hhy:half<=y
   ·rw[if_pos hhy] at hfu
    subst hfu;have hhi:(half:Int)<=(y:Int):=by omega
    clear hhy HC F0 FS FZ;go_wp2_with fail;try rw[Exit.noGoto_ret]
    go_ret;exact⟨rfl,BR.o⟩
   ·rw[if_neg hhy] at hfu
    have HFU:=Hd hfu;have hsl:=SHL j;have hhi:¬ (half:Int)<=(y:Int):=by omega
    have hyy:IntKind.i64.wrap ((y:Int)+(fW { leaf:=lf,K:=K,V:=V,C:=C } j:Int))=(y:Int)+(fW { leaf:=lf,K:=K,V:=V,C:=C } j:Int):=IntWalk.i64_in _ (by omega);clear hfu hhy;have SHJ:=Hd (SH j (by omega) wr BR.o);generalize fW { leaf:=lf,K:=K,V:=V,C:=C } j=sh at *;go_wp2_with fail;refine SHJ.mono ?_;rintro e v5 ⟨rfl,b5⟩;go_wp2_with fail;go_roundw
    case rel=>exact⟨j+1,y+sh,by omega,by omega,by go_num,by go_num,by omega,by rw[HFU.o];congr 1,chain HBR b5⟩
    case measure=>simp[intOf];omega
  ·obtain rfl:j=most:=by omega
   have hji:¬ (j:Int)<(j:Int):=by omega
   have hfz:=HC.o;rw[Nat.sub_self,FZ.o] at hfz;subst hfz;clear HC F0 FS FZ;go_wp2_with fail;try rw[Exit.noGoto_ret]
   go_ret;exact⟨rfl,BR.o⟩
theorem tB (K:List Int)(a:Option Addr)(c:Nat)(w:World)(h:Rd w a (K.map bI))(h1:K.length<=1000)(hs:∀ i (h:i+1<K.length),K[i]<K[i+1]) :
  () 195 #[a K.length c] w fun e w'=>e=.returned (.bool true)/\Below w.heap.size w w':=by
 have HR:=Hd h;have HS:=Hd hs;obtain⟨m,hm⟩:∃ m,K.length=m:=⟨_,rfl⟩
 rw[hm] at h1 |-;clear h hs;go_enter Tryz.func195,Tryz.ntmps195;go_wp2_with fail
 go_loopw [3] (fun i wr=>∃ j q:Nat,j<=1000/\i=.int .i64 ((j:Int)+1)/\wr=w.drewN q) (fun i _=>1002-(intOf i).toNat)
 case atStart=>exact⟨0,0,by omega,rfl,rfl⟩
 case round=>
  obtain⟨j,q,hj,rfl,rfl⟩:=hrel
  by_cases hlt:j+1<m
  ·have hji:(j:Int)+1<(m:Int):=by omega
   have hji2:(j:Int)<(m:Int):=by omega
   have hjl:j<(K.map bI).length:=by rw[List.length_map];omega
   have hjl2:j+1<(K.map bI).length:=by rw[List.length_map];omega
   obtain⟨b,off,hab,hb,z1⟩:=HR.at j hjl;obtain⟨b2,off2,hab2,_,z2⟩:=HR.at (j+1) hjl2;rw[hab] at hab2
   obtain⟨rfl,rfl⟩:b2=b/\off2=off:=by
    have:=Option.some.inj hab2;exact⟨(congrArg Addr.block this).symm,(congrArg Addr.off this).symm⟩
   subst hab;have e1:(K.map bI)[j]=.int .u64 (K[j]'(by omega)):=by rw[List.getElem_map];rfl
   have e2:(K.map bI)[j+1]=.int .u64 (K[j+1]'(by omega)):=by rw[List.getElem_map];rfl
   rw[e1] at z1;rw[e2] at z2;have hlt2:=HS j (by omega);clear e1 e2 hab2 hb;generalize K[j]'(by omega)=x at *;generalize K[j+1]'(by omega)=y at *;have hge:¬ (y<=x):=by omega
   have hw0:IntKind.i64.wrap ((j:Int)+1-1)=(j:Int):=by rw[IntKind.wrap_i64];omega
   have hw1:IntKind.i64.wrap (j:Int)=(j:Int):=by rw[IntKind.wrap_i64];omega
   have ht1:((j:Int)+1).toNat=j+1:=by omega
   clear hlt2;go_wp2_with fail
   go_quiet (fail)
   go_wp2_with fail;go_roundw
   case rel=>exact⟨j+1,_,by omega,by go_num,rfl⟩
   case measure=>simp[intOf];omega
  ·have hji:¬ (j:Int)+1<(m:Int):=by omega
   go_wp2_with fail;go_ret;exact⟨rfl,bU Br _⟩
theorem QI (n:Nod)(ak av ac:Option Addr)(ck cv cc:Nat)(w:World)(h:NodR w n ak av ac ck cv cc)(hw:bH n=true)(hs:∀ i (h:i+1<n.K.length),n.K[i]<n.K[i+1])(hv:∀ v∈n.V,v.size<=40)(hc:∀ c∈n.C,2<=c/\c<640) :
  () 187 #[aJ n ak av ac ck cv cc] w fun e w'=>e=.returned (.bool true)/\Below w.heap.size w w':=by
 have WH:=Hd (fun w=>gK n ak av ac ck cv cc w h.ok true hw);have RI:=Hd (fun w' (hb:Below w.heap.size w w')=>tB n.K ak ck w' (h.k.below hb) h.ok.k1 hs);have hv1:=h.ok.v1;have hc1:=h.ok.c1;have HV0:=h.v;have HC0:=h.c;clear h hw hs;obtain⟨lf,K,V,C⟩:=n;unfold aJ at *
 dsimp only at WH RI hv1 hc1 HV0 HC0 hv hc |-
 obtain⟨lk,hlk⟩:∃ lk,K.length=lk:=⟨_,rfl⟩
 obtain⟨lv,hlv⟩:∃ lv,V.length=lv:=⟨_,rfl⟩
 obtain⟨lc,hlc⟩:∃ lc,C.length=lc:=⟨_,rfl⟩
 rw[hlk,hlv,hlc] at WH |-;rw[hlk] at RI;rw[hlv] at hv1;rw[hlc] at hc1;obtain⟨W,hW⟩:∃ W,w.alloc (.cells #[lf,ak lk ck,av lv cv,ac lc cc] 166)=W:=⟨_,rfl⟩
 have bel:Below w.heap.size w W:=by rw[<-hW];exact aB _ _
 have XA:W.heap[w.heap.size]?=some (.cells #[lf,ak lk ck,av lv cv,ac lc cc] 166):=by rw[<-hW];exact han w _
 have x0:=cl XA 0 rfl;have x1:=cl XA 1 rfl;have x2:=cl XA 2 rfl;have x3:=cl XA 3 rfl;have HV:=Hd (HV0.below bel);have HC:=Hd (HC0.below bel);have HVB:=Hd hv;have HCB:=Hd hc;have BEL:=Hd bel;have XH:=Hd XA;have HW:=Hd hW;clear bel XA hW HV0 HC0 hv hc;go_enter Tryz.func187,Tryz.ntmps187;go_upto_region 1 with fail
 rw[HW.o];go_wp2_with fail
 go_loop [10] (fun i=>∃ j:Nat,j<=lv/\i=.int .i64 (j:Int)) (fun i=>lv+1-(intOf i).toNat)
 case atStart=>exact⟨0,Nat.zero_le _,rfl⟩
 case round=>
  obtain⟨j,hj,rfl⟩:=hrel
  by_cases hlt:j<lv
  ·have hji:(j:Int)<(lv:Int):=by omega
   have hjl:j<(V.map Value.string).length:=by rw[List.length_map];omega
   obtain⟨b,off,rfl,hb,z⟩:=HV.at j hjl;have e1:(V.map Value.string)[j]=.string (V[j]'(by omega)):=by rw[List.getElem_map]
   rw[e1] at z;have hz:=HVB (V[j]'(by omega)) (List.getElem_mem _);clear e1 hb;generalize V[j]'(by omega)=x at *;have hz2:¬ (40:Int)<(x.size:Int):=by omega
   clear hz;go_wp2_with fail
   go_round
   case rel=>exact⟨j+1,by omega,by go_num⟩
   case measure=>simp[intOf];omega
  ·obtain rfl:j=lv:=by omega
   have hji:¬ (j:Int)<(j:Int):=by omega
   go_wp2_with fail
   go_loop [21] (fun i=>∃ k:Nat,k<=lc/\i=.int .i64 (k:Int)) (fun i=>lc+1-(intOf i).toNat)
   case atStart=>exact⟨0,Nat.zero_le _,rfl⟩
   case round=>
    obtain⟨k,hk,rfl⟩:=hrel
    by_cases hlt2:k<lc
    ·have hki:(k:Int)<(lc:Int):=by omega
     have hkl:k<(C.map dT).length:=by rw[List.length_map];omega
     obtain⟨b,off,rfl,hb,z⟩:=HC.at k hkl;have e1:(C.map dT)[k]=.int .i64 (C[k]'(by omega)):=by rw[List.getElem_map];rfl
     rw[e1] at z;have hz:=HCB (C[k]'(by omega)) (List.getElem_mem _);clear e1 hb;generalize C[k]'(by omega)=x at *;have hz1:¬ x<2:=by omega
     have hz2:¬ 640<=x:=by omega
     clear hz;go_wp2_with fail
     go_round
     case rel=>exact⟨k+1,by omega,by go_num⟩
     case measure=>simp[intOf];omega
    ·obtain rfl:k=lc:=by omega
     have hki:¬ (k:Int)<(k:Int):=by omega
     go_wp2_with fail;refine(WH _).mono ?_;rintro e w1 ⟨rfl,b1⟩;have B1:=Hd (chain BEL b1)
     have y1:w1.cell? ⟨w.heap.size,1,none⟩=some (.slice ak lk ck):=by
      have X1:w1.heap[w.heap.size]?=_:=(b1.block _ (zl XH.o)).trans XH.o;rw[cob X1];rfl
     clear b1;go_wp2_with fail;refine(RI _ B1.o).mono ?_;rintro e w2 ⟨rfl,b2⟩;go_wp2_with fail;go_ret;exact⟨rfl,chain B1 b2⟩
theorem PX (n:Nod)(ak av ac:Option Addr)(ck cv cc:Nat)(w:World)(h:NodR w n ak av ac ck cv cc)(hw:bH n=true)(hs:∀ i (h:i+1<n.K.length),n.K[i]<n.K[i+1])(hv:∀ v∈n.V,v.size<=40)(hc:∀ c∈n.C,2<=c/\c<640)(h0:n.leaf=true)(h1:0<n.K.length)(hz:aI n<=240) :
  () 170 #[aJ n ak av ac ck cv cc] w fun e w'=>e=.returned (.bool true)/\Below w.heap.size w w':=by
 obtain⟨z,hzz⟩:∃ z,aI n=z:=⟨_,rfl⟩
 have PL:=Hd (fun w' (hb:Below w.heap.size w w')=>QI n ak av ac ck cv cc w' (h.below hb) hw hs hv hc);have SZ:=Hd (fun w' (hb:Below w.heap.size w w')=>jA n ak av ac ck cv cc w' (h.below hb) z (Hd hzz) hw);rw[hzz] at hz;clear h hw hs hv hc hzz;obtain⟨lf,K,V,C⟩:=n;unfold aJ at *
 dsimp only at PL SZ h0 h1 |-
 subst h0;generalize K.length=lk at *;generalize V.length=lv at *;generalize C.length=lc at *;have h1i:(0:Int)<(lk:Int):=by omega
 have hzi:(z:Int)<=240:=by omega
 have b0:Below w.heap.size w (w.alloc (.cells #[true,ak lk ck,av lv cv,ac lc cc] 166)):=aB _ _;have B0:=Hd b0;clear b0 h1 hz;go_enter Tryz.func170,Tryz.ntmps170;go_wp2_with fail;refine(PL _ B0.o).mono ?_;rintro e w1 ⟨rfl,b1⟩;have X1:=jO b1;have B1:=Hd (fS b1);have y0:=cl X1 0 rfl;have y1:=cl X1 1 rfl;have y2:=cl X1 2 rfl;have y3:=cl X1 3 rfl;clear X1 b1;go_wp2_with fail;refine(SZ _ B1.o).mono ?_;rintro e w2 ⟨rfl,b2⟩;go_wp2_with fail;go_ret;exact⟨rfl,chain B1 b2⟩
theorem kA (n size:Int)(x:ByteArray)(w:World)(h0:0<=n)(hx:Str (aS n size)=x) :
  () 189 #[.int .u64 n,size] w fun e w'=>e=.returned (.string x)/\Below w.heap.size w w':=by
 subst hx;have PA:=Hd (fun w=>nP n size w h0);generalize Str (aS n size)=x at *;generalize AV n size=y at *;go_enter Tryz.func189,Tryz.ntmps189;go_wp2_with fail;refine(PA _).mono ?_;rintro e w1 ⟨rfl,b1⟩;go_wp2_with fail;go_ret;exact⟨rfl,b1⟩
theorem AA:(Tryz.prog.info? 259).map (fun i=>i.size)=some 2:=by kernel_rfl
theorem JR (b:Nat)(w:World)(h0:w.cell? ⟨b,0,none⟩=some (.pointer (some ⟨b,0,none⟩))) :
  () 196 #[b] w fun e w'=>e=.returned (.tuple #[])/\w'=w:=by
 obtain⟨j,hj,_⟩:=Option.map_eq_some_iff.1 AA;go_enter Tryz.func196,Tryz.ntmps196
 go_wp2
 rw[Lib.run_neq_ptr_same w _ Tryz.underlying257 hj]
 go_wp2
 go_end0
 exact⟨rfl,rfl⟩
theorem DL (b:Nat)(w:World)(h0:w.cell? ⟨b,0,none⟩=some (.pointer none))(hsh:w.shape? b=some (259,2))(hfz:w.frozen? ⟨b,0,none⟩=false) :
  () 196 #[b] w fun e w'=>e=.returned (.tuple #[])/\w'=w.setCell ⟨b,0,none⟩ (.pointer (some ⟨b,0,none⟩)):=by
 obtain⟨j,hj,hjs⟩:=Option.map_eq_some_iff.1 AA;go_enter Tryz.func196,Tryz.ntmps196
 go_wp2
 rw[Lib.run_to_unsafe w ⟨b,0,none⟩ Tryz.underlying257 Tryz.underlying270 hj (by rw[hjs];decide) hsh (Nat.zero_lt_succ 1)];simp only[Result.andThen];rw[Oper.upon_value]
 go_wp2
 rw[run_callFunc_extern Tryz.func198 (by kernel_rfl) (by kernel_rfl) (by kernel_rfl) (e:=Extern.AbiNoEscape.same) (by kernel_rfl)];rw[Lib.run_noEscape];simp only[Result.andThen];rw[Oper.upon_value]
 go_wp2
 rw[Lib.run_from_unsafe w ⟨b,0,none⟩ Tryz.underlying270 Tryz.underlying257 hj hsh (by kernel_rfl)];simp only[Result.andThen];rw[Oper.upon_value]
 go_wp2
 go_end0
 exact⟨rfl,rfl⟩
theorem TH (B b:Nat)(bs:List Value)(w:World)(h:Lib.IsBuilder 259 5 B b bs w) :
  () 196 #[b] w fun e w'=>e=.returned (.tuple #[])/\(Lib.BuilderAt 259 5 B b (.pointer (some ⟨b,0,none⟩)) bs w'/\Below B w w'):=by
 rcases h with h|h
 ·refine(DL b w h.cell0 h.shape h.frozen0).mono ?_
  rintro e w' ⟨rfl,rfl⟩;exact⟨rfl,h.used _,(Below.refl B w).setCell (p:=⟨b,0,none⟩) h.1 _⟩
 ·refine(JR b w h.cell0).mono ?_
  rintro e w' ⟨rfl,rfl⟩;exact⟨rfl,h,Below.refl B _⟩
theorem aBV:(Tryz.prog.info? 5).map (fun i=>(i.zero,i.size,i.bytes))=some (some (.int .u8 0),1,1):=by kernel_rfl
theorem iK (B b:Nat)(bs:List Value)(s:ByteArray)(w:World)(h:Lib.IsBuilder 259 5 B b bs w)(hlen:bs.length+s.size<=140737488355328)(hBw:B<=w.heap.size) :
  () 188 #[b,s] w fun e w'=>e=.returned (.tuple #[.int .i64 s.size,.nilIface])/\(Lib.BuilderAt 259 5 B b (.pointer (some ⟨b,0,none⟩)) (bs++Lib.strCells s) w'/\Below B w w'):=by
 obtain⟨i0,hi,hz0,hz1,hz2⟩:=info_parts aBV;go_enter Tryz.func188,Tryz.ntmps188
 go_wp2_with (go_at_call 196;refine(TH B b bs _ h).mono ?_)
 rintro e w1 ⟨rfl,h1,hb1⟩;obtain⟨hB,v,hbk,hown,hne⟩:=h1;have c0:w1.cell? ⟨b,0,none⟩=some (.pointer (some ⟨b,0,none⟩)):=by rw[Lib.cell_of_heap hbk];rfl
 have c1:w1.cell? ⟨b,1,none⟩=some v:=by rw[Lib.cell_of_heap hbk];rfl
 go_wp2_with (at_builtin;refine Lib.wpList_append_own_string _ rfl _ _ 93 9 rfl B 5 i0 Tryz.underlying93 Tryz.underlying9 hi hz0 hz1 hz2 _ _ _ rfl hown s rfl ?c3 ?c4 ?c5 ?_)
 case c3=>unfold maxLen;omega
 case c4=>omega
 case c5=>have:=hb1.size;omega
 intro v' w2 hown' hgrow _
 have hlt:b<w1.heap.size:=by
  rcases Nat.lt_or_ge b w1.heap.size with h'|h'
  ·exact h'
  ·simp[Array.getElem?_eq_none h'] at hbk
 have hb2:w2.heap[b]?=some (.cells #[b,v] 259 (0,0)):=by
  rw[hgrow.block b hlt (fun e=>hne e.symm)];exact hbk
 have d0:w2.cell? ⟨b,0,none⟩=some (.pointer (some ⟨b,0,none⟩)):=by rw[Lib.cell_of_heap hb2];rfl
 have d1:w2.cell? ⟨b,1,none⟩=some v:=by rw[Lib.cell_of_heap hb2];rfl
 have f1:w2.frozen? ⟨b,1,none⟩=false:=Lib.frozen_of_heap hb2 1
 obtain⟨ao,n',cap,rfl⟩:∃ ao n' cap,v'=.slice ao n' cap:=by
  rcases hown'.2 with⟨hv,_⟩|⟨g,cap,cur,hv,_⟩
  ·exact⟨_,_,_,hv⟩
  ·exact⟨_,_,_,hv⟩
 go_wp2
 go_ret2;refine⟨rfl,?_,?_⟩
 ·exact Lib.BuilderAt.put (T:=259) (e:=5) hB hb2 (bs':=bs++Lib.strCells s) (by simpa[Lib.strCells_length] using hown') (by decide)
 ·exact(hb1.grown hgrow (by have:=hb1.size;omega) (fun k hk=>(hown.lt k hk).1)).setCell (p:=⟨b,1,none⟩) hB _
end Go.Proofs.YtknikcihgijmlaaGreatDoor
namespace Go.Proofs
set_option linter.unusedVariables false
set_option linter.unusedSimpArgs false
open Go.Shelf
def Tryz.lays169_ren:Go.Shelf.Ren:=⟨fun|169=>190|n=>n,fun|70=>257|9=>9|0=>0|72=>259|37=>93|127=>268|3=>3|5=>5|n=>n,fun|n=>n⟩
theorem Tryz.lays169:Go.Proofs.Lays.n169 Tryz.prog Tryz.lays169_ren:={
 mixed:=by kernel_rfl
 f169:=Tryz.func190.trans (congrArg some (by kernel_rfl))
 t0:=Tryz.underlying0
 a0:=Tryz.isAgg0
 z0:=Tryz.sizeOf0
 v0:=Tryz.zeroValue0
 t3:=Tryz.underlying3
 a3:=Tryz.isAgg3
 z3:=Tryz.sizeOf3
 v3:=Tryz.zeroValue3
 t9:=Tryz.underlying9
 a9:=Tryz.isAgg9
 z9:=Tryz.sizeOf9
 v9:=Tryz.zeroValue9
 t37:=Tryz.underlying93
 a37:=Tryz.isAgg93
 z37:=Tryz.sizeOf93
 v37:=Tryz.zeroValue93
 t70:=Tryz.underlying257
 a70:=Tryz.isAgg257
 z70:=Tryz.sizeOf257
 v70:=Tryz.zeroValue257
 t72:=Tryz.underlying259
 a72:=Tryz.isAgg259
 z72:=Tryz.sizeOf259
 v72:=Tryz.zeroValue259
 t127:=Tryz.underlying268
 a127:=Tryz.isAgg268
 z127:=Tryz.sizeOf268
 v127:=Tryz.zeroValue268 }
theorem Tryz.Builder_Extra_169:Builder.Extra Tryz.prog Tryz.lays169_ren:={
 sizeBuilder:=by kernel_rfl
 liesBuilder:=by kernel_rfl
 t5:=Tryz.underlying5
 a5:=Tryz.isAgg5
 z5:=Tryz.sizeOf5
 v5:=Tryz.zeroValue5
 infoByte:=by kernel_rfl
 cellsByte:=by kernel_rfl
 sizeByte:=by kernel_rfl
 neB5:=by decide }
open Go.RowKit in
theorem Tryz.Builder_String_any (B b:Nat)(l:List UInt8)(w:World)(h:Lib.IsBuilder 259 5 B b (Lib.byteCells l) w)(hBw:B<=w.heap.size) :
  () 190 #[b] w fun e w'=>e=.returned (.string ⟨l.toArray⟩)/\Below B w w':=Any.Builder_String_any Tryz.lays169 Tryz.Builder_Extra_169 B b l w h hBw
end Go.Proofs
namespace Go.Proofs.YtknikcihgijmlaaGreatDoor
open Go.RowKit
set_option maxRecDepth 20000
set_option maxHeartbeats 12800000
set_option linter.unusedVariables false
set_option linter.unusedSimpArgs false
theorem wD {w w':World}{B:Nat}{e:TypeId}{v:Value}{n:Nat}{xs:List Value}(h:w.ownsRow B e 1 v n xs)(hb:Below w.heap.size w w'):w'.ownsRow B e 1 v n xs:=by
 refine⟨h.1,?_⟩
 rcases h.2 with hx|⟨g,cap,cur,hv,hbg,hh,r⟩
 ·exact .inl hx
 ·exact .inr ⟨g,cap,cur,hv,hbg,(hb.block g (zl hh)).trans hh,r⟩
theorem lC {w w':World}{T e:TypeId}{B b:Nat}{bs:List Value}(h:Lib.IsBuilder T e B b bs w)(hb:Below w.heap.size w w'):Lib.IsBuilder T e B b bs w':=by
 rcases h with⟨h1,v,h2,h3,h4⟩|⟨h1,v,h2,h3,h4⟩
 ·exact .inl ⟨h1,v,(hb.block b (zl h2)).trans h2,wD h3 hb,h4⟩
 ·exact .inr ⟨h1,v,(hb.block b (zl h2)).trans h2,wD h3 hb,h4⟩
def qF (K:List Int)(V:List ByteArray):Nat->List UInt8
 | 0=>[1]
 | j+1=>qF K V j++aS (K.getD j 0) 8++(cX (V.getD j ByteArray.empty)).data.toList
theorem be_length (k n:Nat):(M.be k n).length=k:=by
 induction k generalizing n with
 | zero=>rfl
 | succ k ih=>simp[M.be,ih]
theorem rX (n:Int):(aS n 8).length<=8:=by
 unfold aS
 split
 ·rw[be_length];decide
 ·exact Nat.zero_le _
theorem zS (s:ByteArray):(cX s).size<=256:=by
 unfold cX
 split
 ·rw[cP];simp;omega
 ·exact Nat.zero_le _
theorem aB8 (K:List Int)(V:List ByteArray)(j:Nat):(qF K V j).length<=1+264*j:=by
 induction j with
 | zero=>exact Nat.le_refl _
 | succ j ih=>
  have h1:=rX (K.getD j 0);have h2:=zS (V.getD j ByteArray.empty);simp only[qF,List.length_append,cI];omega
theorem CW (n:Nod)(ak av ac:Option Addr)(ck cv cc:Nat)(w:World)(h:NodR w n ak av ac ck cv cc)(hw:bH n=true)(hs:∀ i (h:i+1<n.K.length),n.K[i]<n.K[i+1])(hv:∀ v∈n.V,v.size<=40)(h0:n.leaf=true)(h1:0<n.K.length)(hz:aI n<=240) :
  () 173 #[aJ n ak av ac ck cv cc] w fun e w'=>e=.returned (.tuple #[.string (Str (qF n.K n.V n.K.length)),(0:Int)])/\Below w.heap.size w w':=by
 have hwl:=(bG h0).1 hw;have RG:=Hd (fun w' (hb:Below w.heap.size w w')=>PX n ak av ac ck cv cc w' (h.below hb) hw hs hv (by rw[List.eq_nil_of_length_eq_zero hwl.2];intro c hc;cases hc) h0 h1 hz);have hk1:=h.ok.k1;have hkb:=h.ok.kb;have HK0:=h.k;have HV0:=h.v;clear h hw hs hv hz;obtain⟨lf,K,V,C⟩:=n;unfold aJ at *
 dsimp only at RG h0 h1 hwl hk1 hkb HK0 HV0 |-
 subst h0;obtain⟨lk,hlk⟩:∃ lk,K.length=lk:=⟨_,rfl⟩
 have hlv:V.length=lk:=by rw[hwl.1,hlk]
 rw[hlk,hlv] at RG |-;rw[hlk] at hk1;generalize C.length=lc at *;have b0:Below w.heap.size w (w.alloc (.cells #[true,ak lk ck,av lk cv,ac lc cc] 166)):=aB _ _;have B0:=Hd b0;have HKB:=Hd hkb;have HLE:=Hd (aB8 K V);clear b0 hwl h1 hkb;go_enter Tryz.func173,Tryz.ntmps173;go_wp2_with fail;refine(RG _ B0.o).mono ?_;rintro e w1 ⟨rfl,b1⟩;have X1:=Hd (jO b1);have B1:=Hd (fS b1);clear b1 RG B0;have FB:=Lib.fresh_isBuilder 259 5 w1
 have bA:Below w1.heap.size w1 (w1.alloc (.cells #[.pointer none,.slice none 0 0] 259)):=aB _ _;have XA:=Hd ((bA.block _ (zl X1.o)).trans X1.o);have y0:=cl XA 0 rfl;have FBH:=Hd FB;have BA:=Hd bA;clear FB bA;go_wp2_with fail;refine(iK w1.heap.size w1.heap.size [] ⟨#[1]⟩ _ FBH (by decide) BA.size).mono ?_;rintro e w2 ⟨rfl,h2,b2⟩
 have I2:Lib.IsBuilder 259 5 w1.heap.size w1.heap.size (Lib.byteCells (qF K V 0)) w2:=by
  rw[List.nil_append,Lib.strCells_eq] at h2;exact .inr h2
 have B2:=Hd (BA.trans b2);have I2H:=Hd I2
 have z1:w2.cell? ⟨w.heap.size,1,none⟩=some (.slice ak lk ck):=by
  have X2:=(B2.block _ (zl X1.o)).trans X1.o;rw[cob X2];rfl
 clear h2 b2 I2 y0;go_wp2_with fail
 go_loopw [26] (fun i wr=>∃ j:Nat,j<=lk/\i=.int .i64 (j:Int)/\Below w1.heap.size w1 wr/\Lib.IsBuilder 259 5 w1.heap.size w1.heap.size (Lib.byteCells (qF K V j)) wr) (fun i _=>lk+1-(intOf i).toNat)
 case atStart=>exact⟨0,Nat.zero_le _,rfl,B2.o,I2H.o⟩
 case round=>
  obtain⟨j,hj,rfl,hb,hI⟩:=hrel;have HB:=Hd hb;have HI:=Hd hI;clear hI
  by_cases hlt:j<lk
  ·have hji:(j:Int)<(lk:Int):=by omega
   have hjl:j<(K.map bI).length:=by rw[List.length_map];omega
   have hjv:j<(V.map Value.string).length:=by rw[List.length_map];omega
   obtain⟨b,off,rfl,hbl,zk0⟩:=HK0.at j hjl;obtain⟨b',off',rfl,hbl',zv0⟩:=HV0.at j hjv;have zk:=(hb.cell (p:=⟨b,off+j,none⟩) (Nat.lt_of_lt_of_le hbl B1.size)).trans ((B1.cell (p:=⟨b,off+j,none⟩) hbl).trans zk0);have zv1:=(B1.cell (p:=⟨b',off'+j,none⟩) hbl').trans zv0;have e1:(K.map bI)[j]=.int .u64 (K.getD j 0):=by rw[List.getElem_map,List.getD_eq_getElem?_getD,List.getElem?_eq_getElem (by omega)];rfl
   have e2:(V.map Value.string)[j]=.string (V.getD j ByteArray.empty):=by rw[List.getElem_map,List.getD_eq_getElem?_getD,List.getElem?_eq_getElem (by omega)];rfl
   rw[e1] at zk;rw[e2] at zv1;have ZV1:=Hd zv1
   have hkj:0<=K.getD j 0:=by
    rw[List.getD_eq_getElem?_getD,List.getElem?_eq_getElem (by omega)];exact(HKB _ (List.getElem_mem _)).1
   have hle:=HLE j;have hp8:=rX (K.getD j 0);have ht8:=zS (V.getD j ByteArray.empty);have ES:Hid (qF K V (j+1)=qF K V j++aS (K.getD j 0) 8++(cX (V.getD j ByteArray.empty)).data.toList):=Hd rfl;clear e1 e2 zk0 zv0 zv1;generalize K.getD j 0=kx at *;generalize V.getD j ByteArray.empty=vx at *;have XR:=(hb.block _ (zl X1.o)).trans X1.o;have XRH:=Hd XR;clear XR hb;go_wp2_with fail;refine(kA kx 8 _ _ hkj rfl).mono ?_;rintro e w3 ⟨rfl,b3⟩;have I3:=Hd (lC HI b3);have B3:=Hd (chain HB b3)
   clear b3 zk hbl;go_wp2_with fail;refine(iK w1.heap.size w1.heap.size _ _ _ I3 (by rw[Lib.byteCells_length,cP];omega) B3.size).mono ?_;rintro e w4 ⟨rfl,h4,b4⟩;have B4:=Hd (B3.trans b4)
   have I4:Hid (Lib.IsBuilder 259 5 w1.heap.size w1.heap.size (Lib.byteCells (qF K V j++aS kx 8)) w4):=Hd (by
    rw[Lib.strCells_eq,aY,<-Lib.byteCells_append] at h4;exact .inr h4)
   have X4:=(B4.block _ (zl X1.o)).trans X1.o;have u0:=cl X4 0 rfl;have u2:=cl X4 2 rfl;clear X4 h4 b4;have zv4:w4.cell? ⟨b',off'+j,none⟩=some (.string vx):=(B4.cell (p:=⟨b',off'+j,none⟩) (Nat.lt_of_lt_of_le hbl' B1.size)).trans ZV1.o;go_wp2_with fail;refine(zR vx _).mono ?_;rintro e w5 ⟨rfl,b5⟩;have I5:=Hd (lC I4 b5);have B5:=Hd (chain B4 b5);clear b5 zv4 u0 u2;go_wp2_with fail
   refine(iK w1.heap.size w1.heap.size _ _ _ I5 (by rw[Lib.byteCells_length,List.length_append];omega) B5.size).mono ?_;rintro e w6 ⟨rfl,h6,b6⟩;have B6:=Hd (B5.trans b6)
   have I6:Hid (Lib.IsBuilder 259 5 w1.heap.size w1.heap.size (Lib.byteCells (qF K V (j+1))) w6):=Hd (by
    rw[Lib.strCells_eq,<-Lib.byteCells_append] at h6;rw[ES.o];exact .inr h6)
   clear h6 b6;go_wp2_with fail;go_roundw
   case rel=>exact⟨j+1,by omega,by go_num,B6.o,I6.o⟩
   case measure=>simp[intOf];omega
  ·obtain rfl:j=lk:=by omega
   have hji:¬ (j:Int)<(j:Int):=by omega
   clear hb;go_wp2_with fail;refine(Tryz.Builder_String_any w1.heap.size w1.heap.size _ _ HI HB.size).mono ?_;rintro e w3 ⟨rfl,b3⟩;go_wp2_with fail;go_ret2;exact⟨rfl,chain B1 (HB.trans b3)⟩
def AL (K:List Int):Bool:=(List.range (K.length-1)).all fun i=>decide (K.getD i 0<K.getD (i+1) 0)
theorem qO (K:List Int):AL K=true ↔ ∀ i (h:i+1<K.length),K[i]<K[i+1]:=by
 unfold AL;rw[List.all_eq_true];constructor
 ·intro h i hi
  have:=h i (List.mem_range.2 (by omega));rw[decide_eq_true_eq,List.getD_eq_getElem?_getD,List.getD_eq_getElem?_getD,List.getElem?_eq_getElem (by omega),List.getElem?_eq_getElem hi] at this;exact this
 ·intro h i hi
  have hi':=List.mem_range.1 hi;rw[decide_eq_true_eq,List.getD_eq_getElem?_getD,List.getD_eq_getElem?_getD,List.getElem?_eq_getElem (by omega),List.getElem?_eq_getElem (by omega)];exact h i (by omega)
def lI (n:Nod):Bool:=AL n.K&&n.V.all (fun v=>decide (v.size<=40))&&n.C.all fun c=>decide (2<=c/\c<640)
theorem dX (n:Nod):lI n=true ↔ (∀ i (h:i+1<n.K.length),n.K[i]<n.K[i+1])/\(∀ v∈n.V,v.size<=40)/\∀ c∈n.C,2<=c/\c<640:=by
 unfold lI;rw[Bool.and_eq_true,Bool.and_eq_true,qO,List.all_eq_true,List.all_eq_true];simp only[decide_eq_true_eq,and_assoc]
def cC (n:Nod):Bool:=lI n&&bH n&&(!n.leaf || decide (0<n.K.length))&&decide (aI n<=240)
theorem dV (n:Nod):cC n=true ↔ lI n=true/\bH n=true/\(n.leaf=true->0<n.K.length)/\aI n<=240:=by
 unfold cC;rw[Bool.and_eq_true,Bool.and_eq_true,Bool.and_eq_true,decide_eq_true_eq]
 cases n.leaf <;> simp[and_assoc]
def iX (K C:List Int):Nat->List UInt8
 | 0=>2::aS (C.getD 0 0) 2
 | j+1=>iX K C j++aS (K.getD j 0) 8++aS (C.getD (j+1) 0) 2
def dM (n:Nod):ByteArray:=if n.leaf then Str (qF n.K n.V n.K.length) else Str (iX n.K n.C n.K.length)
def gU:List Int->List ByteArray->ByteArray
 | k::K,v::V=>Str (aS k 8)++(cX v++gU K V)
 | _,_=>⟨#[]⟩
def fU:List Int->List Int->ByteArray
 | k::K,c::C=>Str (aS k 8)++(Str (aS c 2)++fU K C)
 | _,_=>⟨#[]⟩
def bS:Nat->ByteArray->List Int × List ByteArray × Bool
 | 0,_=>([],[],false)
 | f+1,s=>if s.size=0 then([],[],false) else
  (aT s 8::(bS f (ttR (aA s 8))).1,ttS (aA s 8)::(bS f (ttR (aA s 8))).2.1,(decide (dP s 8≠0) || decide (ttE (aA s 8)≠0)) || (bS f (ttR (aA s 8))).2.2)
def eI:Nat->ByteArray->List Int × List Int × Bool
 | 0,_=>([],[],false)
 | f+1,s=>if s.size=0 then([],[],false) else
  (aT s 8::(eI f (aA (aA s 8) 2)).1,aT (aA s 8) 2::(eI f (aA (aA s 8) 2)).2.1,(decide (dP s 8≠0) || decide (dP (aA s 8) 2≠0)) || (eI f (aA (aA s 8) 2)).2.2)
def rdN (s:ByteArray):Option (Nod × Bool):=
 if s.extract 0 1=⟨#[1]⟩ then some (⟨true,(bS s.size (s.extract 1 s.size)).1,(bS s.size (s.extract 1 s.size)).2.1,[]⟩,(bS s.size (s.extract 1 s.size)).2.2)
 else if s.extract 0 1=⟨#[2]⟩ then some (⟨false,(eI s.size (aA (s.extract 1 s.size) 2)).1,[],aT (s.extract 1 s.size) 2::(eI s.size (aA (s.extract 1 s.size) 2)).2.1⟩,decide (dP (s.extract 1 s.size) 2≠0) || (eI s.size (aA (s.extract 1 s.size) 2)).2.2)
 else none
def yJ (s:ByteArray):Option Nod:=
 if s.size=0\/240<s.size then none else
 match rdN s with
 | some (n,bad)=>if(!bad&&cC n)=true then some n else none
 | none=>none
theorem pJ {s:ByteArray}{k:Int}:dP s k=0 ↔ dJ s k=true:=by
 unfold dP
 split
 ·simp[*]
 ·split <;> simp[*]
theorem aEY {s:ByteArray}:ttE s=0 ↔ pD s=true:=by
 unfold ttE
 split <;> simp[*]
theorem mI (s:ByteArray)(k:Int):(aA s k).size<=s.size:=by
 unfold aA;split
 ·rw[ByteArray.size_extract];omega
 ·exact Nat.zero_le _
theorem pI (s:ByteArray)(h:s.size≠0){k:Int}(h1:1<=k):(aA s k).size<s.size:=by
 unfold aA;split
 ·rw[ByteArray.size_extract];omega
 ·exact Nat.pos_of_ne_zero h
theorem UG (s:ByteArray):(ttR s).size<=s.size:=by
 unfold ttR;split
 ·have h:(ttB s).size<=s.size:=by unfold ttB;rw[ByteArray.size_extract];omega
  rw[ByteArray.size_extract];omega
 ·exact Nat.zero_le _
theorem aDF (s:ByteArray):(ttS s).size<=255:=by
 cases h:pD s with
 | true=>have:=KU s h;omega
 | false=>rw[(aEX s h).1];exact Nat.zero_le _
theorem vP (s:ByteArray):0<=aT s 8/\aT s 8<=18446744073709551615:=by
 have h:=xO s (k:=8) (by decide) (by decide);have h2:=AU h.2 h.1;have e:(256:Nat) ^ (8:Int).toNat=18446744073709551616:=by decide
 rw[e] at h2;omega
theorem nK (s:ByteArray):0<=aT s 2/\aT s 2<=65535:=by
 have h:=xO s (k:=2) (by decide) (by decide);have h2:=AU h.2 h.1;have e:(256:Nat) ^ (2:Int).toNat=65536:=by decide
 rw[e] at h2;omega
theorem jX {s:ByteArray}{k:Int}(h:dJ s k=true):k<=s.size:=by
 unfold dJ at h;simp at h;omega
theorem pO:∀ (f:Nat) (s:ByteArray),(bS f s).1.length=(bS f s).2.1.length/\(bS f s).1.length<=f/\(bS f s).1.length<=s.size/\(∀ x∈(bS f s).1,0<=x/\x<=18446744073709551615)/\(∀ v∈(bS f s).2.1,v.size<=255)/\(s.size<=f->(bS f s).2.2=false->gU (bS f s).1 (bS f s).2.1=s):=by
 intro f
 induction f with
 | zero=>
  intro s;refine⟨rfl,Nat.le_refl _,Nat.zero_le _,by simp[bS],by simp[bS],fun h _=>?_⟩;exact(dY (by omega)).symm
 | succ f ih=>
  intro s;unfold bS
  by_cases h0:s.size=0
  ·rw[if_pos h0]
   exact⟨rfl,Nat.zero_le _,Nat.zero_le _,by simp,by simp,fun h _=>(dY h0).symm⟩
  ·rw[if_neg h0]
   obtain⟨i1,i2,i3,i4,i5,i6⟩:=ih (ttR (aA s 8));have l1:=pI s h0 (k:=8) (by decide);have l2:=UG (aA s 8);refine⟨by simp[i1],by simp;omega,by simp;omega,?_,?_,?_⟩
   ·intro x hx
    rcases List.mem_cons.1 hx with rfl|hx
    ·exact vP s
    ·exact i4 x hx
   ·intro v hv
    rcases List.mem_cons.1 hv with rfl|hv
    ·exact aDF _
    ·exact i5 v hv
   ·intro hf hb
    simp only[Bool.or_eq_false_iff,decide_eq_false_iff_not,Decidable.not_not,ne_eq] at hb;obtain⟨⟨e1,e2⟩,e3⟩:=hb;have t1:=rY s (k:=8) (by decide) (by decide) (jX (pJ.1 e1));have t2:=KU (aA s 8) (aEY.1 e2)
    show Str (aS (aT s 8) 8)++(cX (ttS (aA s 8))++gU _ _)=s
    rw[i6 (by omega) e3,t2.1,t1.1]
theorem tC:∀ (f:Nat) (s:ByteArray),(eI f s).1.length=(eI f s).2.1.length/\(eI f s).1.length<=f/\(eI f s).1.length<=s.size/\(∀ x∈(eI f s).1,0<=x/\x<=18446744073709551615)/\(∀ v∈(eI f s).2.1,0<=v/\v<=65535)/\(s.size<=f->(eI f s).2.2=false->fU (eI f s).1 (eI f s).2.1=s):=by
 intro f
 induction f with
 | zero=>
  intro s;refine⟨rfl,Nat.le_refl _,Nat.zero_le _,by simp[eI],by simp[eI],fun h _=>?_⟩;exact(dY (by omega)).symm
 | succ f ih=>
  intro s;unfold eI
  by_cases h0:s.size=0
  ·rw[if_pos h0]
   exact⟨rfl,Nat.zero_le _,Nat.zero_le _,by simp,by simp,fun h _=>(dY h0).symm⟩
  ·rw[if_neg h0]
   obtain⟨i1,i2,i3,i4,i5,i6⟩:=ih (aA (aA s 8) 2);have l1:=pI s h0 (k:=8) (by decide);have l2:=mI (aA s 8) 2;refine⟨by simp[i1],by simp;omega,by simp;omega,?_,?_,?_⟩
   ·intro x hx
    rcases List.mem_cons.1 hx with rfl|hx
    ·exact vP s
    ·exact i4 x hx
   ·intro v hv
    rcases List.mem_cons.1 hv with rfl|hv
    ·exact nK _
    ·exact i5 v hv
   ·intro hf hb
    simp only[Bool.or_eq_false_iff,decide_eq_false_iff_not,Decidable.not_not,ne_eq] at hb;obtain⟨⟨e1,e2⟩,e3⟩:=hb;have t1:=rY s (k:=8) (by decide) (by decide) (jX (pJ.1 e1));have t2:=rY (aA s 8) (k:=2) (by decide) (by decide) (jX (pJ.1 e2))
    show Str (aS (aT s 8) 8)++(Str (aS (aT (aA s 8) 2) 2)++fU _ _)=s
    rw[i6 (by omega) e3,t2.1,t1.1]
theorem aA7 {k:Int}(h:0<=k/\k<=18446744073709551615):cZ k 8=true:=by
 obtain⟨m,rfl⟩:=Int.eq_ofNat_of_zero_le h.1;exact(gL m 8).2 ⟨by decide,by decide,by show m<18446744073709551616;omega⟩
theorem aA8 {k:Int}(h:0<=k/\k<=65535):cZ k 2=true:=by
 obtain⟨m,rfl⟩:=Int.eq_ofNat_of_zero_le h.1;exact(gL m 2).2 ⟨by decide,by decide,by show m<65536;omega⟩
theorem aBA {n k:Int}(rest:ByteArray)(h:cZ n k=true):dP (Str (aS n k)++rest) k=0:=by
 rw[pJ];have:=dE h;unfold dJ;simp[cZ] at h;rw[ByteArray.size_append,Bool.and_eq_true,decide_eq_true_eq,decide_eq_true_eq];omega
theorem AP:∀ (K:List Int) (V:List ByteArray) (f:Nat),K.length=V.length->K.length<=f->(∀ x∈K,0<=x/\x<=18446744073709551615)->(∀ v∈V,v.size<=255)->bS f (gU K V)=(K,V,false):=by
 intro K
 induction K with
 | nil=>
  intro V f h1 h2 h3 h4;have:V=[]:=List.eq_nil_of_length_eq_zero (by simpa using h1.symm);subst this
  cases f <;> rfl
 | cons k K ih=>
  intro V f h1 h2 h3 h4
  cases V with
  | nil=>simp at h1
  | cons v V=>
   cases f with
   | zero=>simp at h2
   | succ f=>
    have p8:=aA7 (h3 k (by simp));have hs:=dE p8;have e1:=oD (cX v++gU K V) (h3 k (by simp)).1 p8;have e2:=aBA (cX v++gU K V) p8;have e3:=KS v (gU K V) (h4 v (by simp));have ih':=ih V f (by simpa using h1) (by simpa using h2) (fun x hx=>h3 x (by simp[hx])) (fun x hx=>h4 x (by simp[hx]));unfold gU bS;rw[if_neg (by rw[ByteArray.size_append];omega),e1.1,e1.2,e2,e3.1,e3.2.1,e3.2.2,ih']
    rfl
theorem QD:∀ (K C:List Int) (f:Nat),K.length=C.length->K.length<=f->(∀ x∈K,0<=x/\x<=18446744073709551615)->(∀ v∈C,0<=v/\v<=65535)->eI f (fU K C)=(K,C,false):=by
 intro K
 induction K with
 | nil=>
  intro V f h1 h2 h3 h4;have:V=[]:=List.eq_nil_of_length_eq_zero (by simpa using h1.symm);subst this
  cases f <;> rfl
 | cons k K ih=>
  intro V f h1 h2 h3 h4
  cases V with
  | nil=>simp at h1
  | cons v V=>
   cases f with
   | zero=>simp at h2
   | succ f=>
    have p8:=aA7 (h3 k (by simp));have p2:=aA8 (h4 v (by simp));have hs:=dE p8;have e1:=oD (Str (aS v 2)++fU K V) (h3 k (by simp)).1 p8;have e2:=aBA (Str (aS v 2)++fU K V) p8;have e3:=oD (fU K V) (h4 v (by simp)).1 p2;have e4:=aBA (fU K V) p2;have ih':=ih V f (by simpa using h1) (by simpa using h2) (fun x hx=>h3 x (by simp[hx])) (fun x hx=>h4 x (by simp[hx]));unfold fU eI;rw[if_neg (by rw[ByteArray.size_append];omega),e1.1,e1.2,e2,e3.1,e3.2,e4,ih']
    rfl
theorem FM:∀ (K:List Int) (V:List ByteArray) (k:Int) (v:ByteArray),K.length=V.length->gU (K++[k]) (V++[v])=gU K V++(Str (aS k 8)++cX v):=by
 intro K
 induction K with
 | nil=>
  intro V k v h;have:V=[]:=List.eq_nil_of_length_eq_zero (by simpa using h.symm);subst this;apply aK;simp[gU,bN]
 | cons a K ih=>
  intro V k v h
  cases V with
  | nil=>simp at h
  | cons b V=>
   show Str (aS a 8)++(cX b++gU (K++[k]) (V++[v]))=_
   rw[ih V k v (by simpa using h)];apply aK;simp[gU,bN]
theorem FP:∀ (K C:List Int) (k c:Int),K.length=C.length->fU (K++[k]) (C++[c])=fU K C++(Str (aS k 8)++Str (aS c 2)):=by
 intro K
 induction K with
 | nil=>
  intro V k v h;have:V=[]:=List.eq_nil_of_length_eq_zero (by simpa using h.symm);subst this;apply aK;simp[fU,bN]
 | cons a K ih=>
  intro V k v h
  cases V with
  | nil=>simp at h
  | cons b V=>
   show Str (aS a 8)++(Str (aS b 2)++fU (K++[k]) (V++[v]))=_
   rw[ih V k v (by simpa using h)];apply aK;simp[fU,bN]
theorem SO (K:List Int)(V:List ByteArray)(h:K.length=V.length):∀ j,j<=K.length->Str (qF K V j)=Str [1]++gU (K.take j) (V.take j):=by
 intro j
 induction j with
 | zero=>intro _;apply aK;simp[qF,gU,bN,aY]
 | succ j ih=>
  intro hj;have e1:K.take (j+1)=K.take j++[K[j]]:=List.take_succ_eq_append_getElem (by omega);have e2:V.take (j+1)=V.take j++[V[j]]:=List.take_succ_eq_append_getElem (by omega);rw[e1,e2,FM _ _ _ _ (by simp;omega)];have hi:=congrArg (fun b:ByteArray=>b.data.toList) (ih (by omega));simp only[aY,bN] at hi;apply aK;simp only[qF,bN,aY,hi,List.append_assoc];rw[List.getD_eq_getElem?_getD,List.getElem?_eq_getElem (by omega),List.getD_eq_getElem?_getD,List.getElem?_eq_getElem (by omega)]
  rfl
theorem JI (K C:List Int)(h:C.length=K.length+1):∀ j,j<=K.length->Str (iX K C j)=Str [2]++(Str (aS (C.getD 0 0) 2)++fU (K.take j) (C.tail.take j)):=by
 intro j
 induction j with
 | zero=>intro _;apply aK;simp[iX,fU,bN,aY]
 | succ j ih=>
  intro hj;have e1:K.take (j+1)=K.take j++[K[j]]:=List.take_succ_eq_append_getElem (by omega);have hl:j<C.tail.length:=by simp;omega
  have e2:C.tail.take (j+1)=C.tail.take j++[C.tail[j]]:=List.take_succ_eq_append_getElem hl;have e3:C.tail[j]=C.getD (j+1) 0:=by rw[List.getElem_tail,List.getD_eq_getElem?_getD,List.getElem?_eq_getElem (by omega)];rfl
  rw[e1,e2,FP _ _ _ _ (by simp;omega),e3];have hi:=congrArg (fun b:ByteArray=>b.data.toList) (ih (by omega));simp only[aY,bN] at hi;apply aK;simp only[iX,bN,aY,hi,List.append_assoc];rw[List.getD_eq_getElem?_getD (l:=K),List.getElem?_eq_getElem (by omega)]
  rfl
theorem mV (K:List Int)(V:List ByteArray)(h:K.length=V.length):dM ⟨true,K,V,[]⟩=Str [1]++gU K V:=by
 have:=SO K V h K.length (Nat.le_refl _);rw[List.take_length,h,List.take_length] at this;unfold dM;simp only[if_true];rw[h];exact this
theorem kI (K C:List Int)(c:Int)(h:K.length=C.length):dM ⟨false,K,[],c::C⟩=Str [2]++(Str (aS c 2)++fU K C):=by
 have:=JI K (c::C) (by simp[h]) K.length (Nat.le_refl _);rw[List.take_length,List.tail_cons,h,List.take_length] at this;unfold dM;simp only[Bool.false_eq_true,if_false];rw[h];exact this
theorem tY (b:UInt8)(t:ByteArray):(Str [b]++t).extract 0 1=⟨#[b]⟩/\(Str [b]++t).extract 1 (Str [b]++t).size=t:=by
 have e:(Str [b]).size=1:=rfl;refine⟨?_,?_⟩
 ·have:=qD (Str [b]) t
  rw[e] at this;exact this
 ·have:=mS (Str [b]) t
  rw[e] at this;exact this
theorem CO (s:ByteArray)(b:UInt8)(h:s.extract 0 1=⟨#[b]⟩):s=Str [b]++s.extract 1 s.size:=by
 have h1:=pE s 1
 have h2:Str (s.data.toList.take 1)=⟨#[b]⟩:=by
  rw[<-h];apply aK;rw[aR,aY,List.drop_zero,Nat.sub_zero]
 rw[h2] at h1;exact h1.symm
theorem CY (n:Nod)(hw:bH n=true)(ho:dD n)(hv:∀ v∈n.V,v.size<=40)(hc:∀ c∈n.C,2<=c/\c<640):(dM n).size=aI n:=by
 obtain⟨lf,K,V,C⟩:=n
 cases lf with
 | true=>
  have h:=(bG (n:=⟨true,K,V,C⟩) rfl).1 hw;have hC:C=[]:=List.eq_nil_of_length_eq_zero h.2;subst hC;rw[mV K V h.1.symm,ByteArray.size_append]
  have:∀ (K:List Int) (V:List ByteArray),K.length=V.length->(∀ x∈K,0<=x/\x<=18446744073709551615)->(∀ v∈V,v.size<=40)->(gU K V).size=9*K.length+bK V:=by
   intro K
   induction K with
   | nil=>intro V h _ _;have:V=[]:=List.eq_nil_of_length_eq_zero (by simpa using h.symm);subst this;rfl
   | cons k K ih=>
    intro V h h3 h4
    cases V with
    | nil=>simp at h
    | cons v V=>
     have:=ih V (by simpa using h) (fun x hx=>h3 x (by simp[hx])) (fun x hx=>h4 x (by simp[hx]));have e8:=dE (aA7 (h3 k (by simp)));have et:=mH v (by have:=h4 v (by simp);omega);simp only[gU,ByteArray.size_append,this,bK,List.length_cons];omega
  rw[this K V h.1.symm ho.kb hv];unfold aI;simp only[if_true]
  show 1+_=_
  omega
 | false=>
  have h:=(aQ (n:=⟨false,K,V,C⟩) rfl).1 hw;have hV:V=[]:=List.eq_nil_of_length_eq_zero h.2;subst hV
  cases C with
  | nil=>simp at h
  | cons c C=>
   have h1:K.length=C.length:=by have:=h.1;simp at this;omega
   rw[kI K C c h1,ByteArray.size_append,ByteArray.size_append]
   have:∀ (K C:List Int),K.length=C.length->(∀ x∈K,0<=x/\x<=18446744073709551615)->(∀ v∈C,2<=v/\v<640)->(fU K C).size=10*K.length:=by
    intro K
    induction K with
    | nil=>intro V h _ _;have:V=[]:=List.eq_nil_of_length_eq_zero (by simpa using h.symm);subst this;rfl
    | cons k K ih=>
     intro V h h3 h4
     cases V with
     | nil=>simp at h
     | cons v V=>
      have:=ih V (by simpa using h) (fun x hx=>h3 x (by simp[hx])) (fun x hx=>h4 x (by simp[hx]));have e8:=dE (aA7 (h3 k (by simp)));have e2:=dE (aA8 (k:=v) (by have:=h4 v (by simp);omega));simp only[fU,ByteArray.size_append,this,List.length_cons];omega
   rw[this K C h1 ho.kb (fun v hv=>hc v (by simp[hv]))];have e2:=dE (aA8 (k:=c) (by have:=hc c (by simp);omega));unfold aI;simp only[Bool.false_eq_true,if_false,List.length_cons]
   show 1+_=_
   omega
theorem aCB (n:Nod)(ho:dD n)(hr:cC n=true):yJ (dM n)=some n:=by
 have hr':=hr;rw[dV] at hr';obtain⟨hp,hw,h0,hz⟩:=hr';rw[dX] at hp;obtain⟨p1,p2,p3⟩:=hp;have hs:=CY n hw ho p2 p3;obtain⟨lf,K,V,C⟩:=n
 cases lf with
 | true=>
  have h:=(bG (n:=⟨true,K,V,C⟩) rfl).1 hw;have hC:C=[]:=List.eq_nil_of_length_eq_zero h.2;subst hC;have hk:K.length<=aI ⟨true,K,V,[]⟩:=by unfold aI;simp only[if_true];omega
  have hk0:0<aI ⟨true,K,V,[]⟩:=by unfold aI;simp only[if_true];omega
  have hrd:rdN (dM ⟨true,K,V,[]⟩)=some (⟨true,K,V,[]⟩,false):=by
   rw[<-hs] at hk;rw[mV K V h.1.symm] at hk |-;have hf:=tY 1 (gU K V);unfold rdN;rw[if_pos hf.1,hf.2,AP K V _ h.1.symm hk ho.kb (fun v hv=>by have:=p2 v hv;omega)]
  unfold yJ;rw[if_neg (by omega),hrd]
  show(if(!false&&cC ⟨true,K,V,[]⟩)=true then some (⟨true,K,V,[]⟩:Nod) else none)=_
  rw[hr];rfl
 | false=>
  have h:=(aQ (n:=⟨false,K,V,C⟩) rfl).1 hw;have hV:V=[]:=List.eq_nil_of_length_eq_zero h.2;subst hV
  cases C with
  | nil=>simp at h
  | cons c C=>
   have h1:K.length=C.length:=by have:=h.1;simp at this;omega
   have hk:K.length<=aI ⟨false,K,[],c::C⟩:=by unfold aI;simp only[Bool.false_eq_true,if_false];omega
   have hk0:0<aI ⟨false,K,[],c::C⟩:=by unfold aI;simp only[Bool.false_eq_true,if_false];omega
   have p2':=aA8 (k:=c) (by have:=p3 c (by simp);omega)
   have hrd:rdN (dM ⟨false,K,[],c::C⟩)=some (⟨false,K,[],c::C⟩,false):=by
    rw[<-hs] at hk;rw[kI K C c h1] at hk |-;have hf:=tY 2 (Str (aS c 2)++fU K C);have hn:=oD (fU K C) (by have:=p3 c (by simp);omega) p2';have he:=aBA (fU K C) p2';unfold rdN;rw[if_neg (by rw[hf.1];decide),if_pos hf.1,hf.2,hn.1,hn.2,he,QD K C _ h1 hk ho.kb (fun v hv=>by have:=p3 v (by simp[hv]);omega)]
    rfl
   unfold yJ;rw[if_neg (by omega),hrd]
   show(if(!false&&cC ⟨false,K,[],c::C⟩)=true then some (⟨false,K,[],c::C⟩:Nod) else none)=_
   rw[hr];rfl
theorem aB6 (s:ByteArray)(n:Nod)(h:yJ s=some n):dM n=s/\cC n=true/\dD n:=by
 unfold yJ at h
 split at h
 ·cases h
 ·rename_i hsz
  split at h
  ·rename_i m bad hrd
   split at h
   ·rename_i hb
    obtain rfl:=Option.some.inj h;rw[Bool.and_eq_true,Bool.not_eq_true'] at hb;obtain⟨rfl,hr⟩:=hb;refine⟨?_,hr,?_⟩
    all_goals
     unfold rdN at hrd
     split at hrd
     ·rename_i h1
      obtain⟨e1,e2⟩:=Prod.mk.inj (Option.some.inj hrd);obtain⟨i1,i2,i3,i4,i5,i6⟩:=pO s.size (s.extract 1 s.size);have hle:(s.extract 1 s.size).size<=s.size:=by rw[ByteArray.size_extract];omega
      subst e1
      first
       | exact(mV _ _ i1).trans ((congrArg (Str [1]++·) (i6 hle e2)).trans (CO s 1 h1).symm)
       | exact⟨by dsimp only;omega,by dsimp only;omega,Nat.zero_le _,i4,fun v hv=>by have:=i5 v hv;omega,fun x hx=>by cases hx⟩
     ·split at hrd
      ·rename_i h0 h1
       obtain⟨e1,e2⟩:=Prod.mk.inj (Option.some.inj hrd);obtain⟨i1,i2,i3,i4,i5,i6⟩:=tC s.size (aA (s.extract 1 s.size) 2);have hle:(s.extract 1 s.size).size<=s.size:=by rw[ByteArray.size_extract];omega
       have hle2:=mI (s.extract 1 s.size) 2;simp only[Bool.or_eq_false_iff,decide_eq_false_iff_not,ne_eq,Decidable.not_not] at e2;have t2:=rY (s.extract 1 s.size) (k:=2) (by decide) (by decide) (jX (pJ.1 e2.1));subst e1
       first
        | exact(kI _ _ _ i1).trans ((congrArg (fun t=>Str [2]++(Str (aS (aT (s.extract 1 s.size) 2) 2)++t)) (i6 (by omega) e2.2)).trans ((congrArg (Str [2]++·) t2.1).trans (CO s 2 h1).symm))
        | exact⟨by dsimp only;omega,Nat.zero_le _,by simp only[List.length_cons];omega,i4,(fun v hv=>by cases hv),fun x hx=>by
          rcases List.mem_cons.1 hx with rfl|hx
          ·have:=nK (s.extract 1 s.size);omega
          ·have:=i5 x hx;omega⟩
      ·cases hrd
   ·cases h
  ·cases h
abbrev Mk:=Int × Option ByteArray
abbrev Ent:=Int × ByteArray
def dK (m:Mk):Int:=2*m.1+(if m.2.isSome then 1 else 0)
def bY (F:List Mk):Prop:=F.Pairwise fun a b=>dK a<dK b
def oV (m:Mk):Option Ent:=m.2.map fun v=>(m.1,v)
def aD (F:List Mk):List Ent:=F.filterMap oV
def bF (k:Int)(v:ByteArray)(m:List Ent):List Ent:=m.filter (fun e=>decide (e.1<k))++(k,v)::m.filter (fun e=>decide (k<e.1))
def iU (k:Int)(m:List Ent):List Ent:=m.filter fun e=>decide (e.1≠k)
def cG (k:Int)(m:List Ent):Option ByteArray:=(m.find? fun e=>decide (e.1=k)).map (·.2)
def jQ (m:List Ent):Prop:=m.Pairwise fun a b=>a.1<b.1
def dA:List Int->List ByteArray->List Mk
 | k::K,v::V=>(k,some v)::dA K V
 | _,_=>[]
structure Kid where
 p:Int
 F:List Mk
 P:List Int
def kP (Q:List Kid):List Int:=Q.map Kid.p
def kPs (Q:List Kid):List Int:=(Q.map Kid.P).flatten
def cF (K:List Int)(Q:List Kid):List Mk:=(List.zipWith (fun k (q:Kid)=>q.F++[(k,none)]) K Q).flatten
def dL (K:List Int)(Q:List Kid):List Mk:=(List.zipWith (fun k (q:Kid)=>(k,none)::q.F) K Q).flatten
def bJ:List Int->List Kid->List Mk
 | _,[]=>[]
 | [],q::_=>q.F
 | k::K,q::Q=>q.F++(k,none)::bJ K Q
def fT (R:Int->Option Nod):Nat->Nod->List Mk->List Int->Prop
 | 0,N,F,P=>N.leaf=true/\N.V.length=N.K.length/\N.C=[]/\F=dA N.K N.V/\P=[]
 | h+1,N,F,P=>N.leaf=false/\N.V=[]/\∃ Q:List Kid,N.C=kP Q/\Q.length=N.K.length+1/\(∀ q∈Q,∃ M PM,R q.p=some M/\M.K≠[]/\fT R h M q.F PM/\q.P=q.p::PM)/\F=bJ N.K Q/\P=kPs Q
def IsT (R:Int->Option Nod)(h:Nat)(p:Int)(F:List Mk)(P:List Int):Prop:=∃ M PM,R p=some M/\M.K≠[]/\fT R h M F PM/\P=p::PM
theorem dC {R:Int->Option Nod}{h:Nat}{N:Nod}{F:List Mk}{P:List Int} :
  fT R (h+1) N F P ↔ N.leaf=false/\N.V=[]/\∃ Q:List Kid,N.C=kP Q/\Q.length=N.K.length+1/\(∀ q∈Q,IsT R h q.p q.F q.P)/\F=bJ N.K Q/\P=kPs Q:=Iff.rfl
theorem cO (A B:List Kid):kPs (A++B)=kPs A++kPs B:=by simp[kPs]
theorem mO (q:Kid)(B:List Kid):kPs (q::B)=q.P++kPs B:=by simp[kPs]
theorem gP (A B:List Kid):kP (A++B)=kP A++kP B:=by simp[kP]
theorem cQ (A:List Kid):(kP A).length=A.length:=by simp[kP]
theorem kB {x:Int}{Q:List Kid}:x∈kPs Q ↔ ∃ q∈Q,x∈q.P:=by
 unfold kPs;rw[List.mem_flatten];constructor
 ·rintro⟨l,hl,hx⟩
  obtain⟨q,hq,rfl⟩:=List.mem_map.1 hl;exact⟨q,hq,hx⟩
 ·rintro⟨q,hq,hx⟩
  exact⟨q.P,List.mem_map.2 ⟨q,hq,rfl⟩,hx⟩
theorem aN (A B:List Mk):aD (A++B)=aD A++aD B:=by simp[aD]
theorem iJ (k:Int)(B:List Mk):aD ((k,none)::B)=aD B:=List.filterMap_cons_none rfl
theorem jI (k:Int)(v:ByteArray)(B:List Mk):aD ((k,some v)::B)=(k,v)::aD B:=List.filterMap_cons_some rfl
theorem aH {A B:List Mk}:bY (A++B) ↔ bY A/\bY B/\∀ a∈A,∀ b∈B,dK a<dK b:=List.pairwise_append
theorem eS {a:Mk}{B:List Mk}:bY (a::B) ↔ (∀ b∈B,dK a<dK b)/\bY B:=List.pairwise_cons
theorem jE (k:Int):dK (k,none)=2*k:=by simp[dK]
theorem fP (k:Int)(v:ByteArray):dK (k,some v)=2*k+1:=by simp[dK]
theorem eT {R R':Int->Option Nod}:∀ (h:Nat) {N:Nod} {F:List Mk} {P:List Int},fT R h N F P->(∀ p∈P,R' p=R p)->fT R' h N F P:=by
 intro h
 induction h with
 | zero=>intro N F P hn _;exact hn
 | succ h ih=>
  intro N F P hn hr;obtain⟨h1,h2,Q,h3,h4,h5,h6,h7⟩:=hn;refine⟨h1,h2,Q,h3,h4,fun q hq=>?_,h6,h7⟩;obtain⟨M,PM,m1,m2,m3,m4⟩:=h5 q hq;have hsub:∀ p∈q.P,R' p=R p:=fun p hp=>hr p (by rw[h7];exact kB.2 ⟨q,hq,hp⟩)
  exact⟨M,PM,(hsub q.p (by rw[m4];simp)).trans m1,m2,ih m3 (fun p hp=>hsub p (by rw[m4];simp[hp])),m4⟩
theorem jJ {R R':Int->Option Nod}{h:Nat}{p:Int}{F:List Mk}{P:List Int}(ht:IsT R h p F P)(hr:∀ p∈P,R' p=R p):IsT R' h p F P:=by
 obtain⟨M,PM,m1,m2,m3,m4⟩:=ht;exact⟨M,PM,(hr p (by rw[m4];simp)).trans m1,m2,eT h m3 (fun x hx=>hr x (by rw[m4];simp[hx])),m4⟩
theorem fQ:∀ (K:List Int) (V:List ByteArray) (K':List Int) (V':List ByteArray),V.length=K.length->dA (K++K') (V++V')=dA K V++dA K' V':=by
 intro K
 induction K with
 | nil=>intro V K' V' h;cases V with|nil=>rfl|cons _ _=>cases h
 | cons k K ih=>
  intro V K' V' h
  cases V with
  | nil=>cases h
  | cons v V=>simp only[List.cons_append,dA];rw[ih V K' V' (by simpa using h)]
theorem IJ:∀ (K:List Int) (V:List ByteArray),V.length=K.length->(aD (dA K V)).length=K.length:=by
 intro K
 induction K with
 | nil=>intro V h;rfl
 | cons k K ih=>
  intro V h
  cases V with
  | nil=>cases h
  | cons v V=>simp only[dA,jI,List.length_cons];rw[ih V (by simpa using h)]
theorem kX {K:List Int}{V:List ByteArray}{m:Mk}:m∈dA K V->∃ v,m.2=some v/\m.1∈K/\v∈V:=by
 induction K generalizing V with
 | nil=>intro h;cases V <;> cases h
 | cons k K ih=>
  intro h
  cases V with
  | nil=>cases h
  | cons v V=>
   simp only[dA,List.mem_cons] at h
   rcases h with rfl|h
   ·exact⟨v,rfl,by simp,by simp⟩
   ·obtain⟨x,h1,h2,h3⟩:=ih h
    exact⟨x,h1,by simp[h2],by simp[h3]⟩
theorem tS:∀ (K:List Int) (V:List ByteArray),V.length=K.length->(dA K V).map (·.1)=K:=by
 intro K
 induction K with
 | nil=>intro V h;cases V with|nil=>rfl|cons _ _=>cases h
 | cons k K ih=>
  intro V h
  cases V with
  | nil=>cases h
  | cons v V=>simp only[dA,List.map_cons];rw[ih V (by simpa using h)]
theorem CG (k:Int)(K:List Int)(q:Kid)(Q:List Kid):cF (k::K) (q::Q)=q.F++(k,none)::cF K Q:=by simp[cF]
theorem mP (k:Int)(K:List Int)(q:Kid)(Q:List Kid):dL (k::K) (q::Q)=(k,none)::(q.F++dL K Q):=by simp[dL]
theorem XS:∀ (K:List Int) (q:Kid) (Q:List Kid),Q.length=K.length->bJ K (q::Q)=q.F++dL K Q:=by
 intro K
 induction K with
 | nil=>intro q Q h;cases Q with|nil=>simp[bJ,dL]|cons _ _=>cases h
 | cons k K ih=>
  intro q Q h
  cases Q with
  | nil=>cases h
  | cons q' Q=>rw[mP];show q.F++(k,none)::bJ K (q'::Q)=_;rw[ih q' Q (by simpa using h)]
theorem jN:∀ (KA:List Int) (A:List Kid) (K:List Int) (Q:List Kid),A.length=KA.length->Q≠[]->bJ (KA++K) (A++Q)=cF KA A++bJ K Q:=by
 intro KA
 induction KA with
 | nil=>intro A K Q h hq;cases A with|nil=>simp[cF]|cons _ _=>cases h
 | cons k KA ih=>
  intro A K Q h hq
  cases A with
  | nil=>cases h
  | cons a A=>
   rw[CG]
   show a.F++(k,none)::bJ (KA++K) (A++Q)=_
   rw[ih A K Q (by simpa using h) hq];simp
theorem lN (KA KM KB:List Int)(A QM B:List Kid)(hA:A.length=KA.length)(hM:QM.length=KM.length+1)(hB:B.length=KB.length) :
  bJ (KA++KM++KB) (A++QM++B)=cF KA A++bJ KM QM++dL KB B:=by
 rw[List.append_assoc,List.append_assoc,jN KA A _ _ hA (by cases QM with|nil=>simp at hM|cons _ _=>simp)]
 have e:bJ (KM++KB) (QM++B)=bJ KM QM++dL KB B:=by
  obtain⟨X,q,rfl⟩:∃ X q,QM=X++[q]:=by
   cases h:QM.reverse with
   | nil=>simp at h;subst h;simp at hM
   | cons q X=>exact⟨X.reverse,q,by simpa using congrArg List.reverse h⟩
  have hX:X.length=KM.length:=by simpa using hM
  rw[List.append_assoc,jN KM X KB ([q]++B) hX (by simp)];have e1:=jN KM X [] [q] hX (by simp);rw[List.append_nil] at e1;rw[e1]
  show cF KM X++bJ KB (q::B)=_
  rw[XS KB q B hB];simp[bJ]
 rw[e];simp
theorem lM (q:Kid):bJ [] [q]=q.F:=rfl
theorem oS (k:Int)(q r:Kid):bJ [k] [q,r]=q.F++(k,none)::r.F:=rfl
theorem CF:∀ (K:List Int) (Q:List Kid),Q.length=K.length+1->List.Sublist (K.map fun k=>((k,none):Mk)) (bJ K Q):=by
 intro K
 induction K with
 | nil=>intro Q h;exact List.nil_sublist _
 | cons k K ih=>
  intro Q h
  cases Q with
  | nil=>simp at h
  | cons q Q=>
   show List.Sublist _ (q.F++(k,none)::bJ K Q)
   exact(List.Sublist.cons_cons _ (ih Q (by simpa using h))).trans (List.sublist_append_right _ _)
theorem gV {R:Int->Option Nod}{h:Nat}{N:Nod}{F:List Mk}{P:List Int}(ht:fT R h N F P)(hs:bY F):N.K.Pairwise (·<·):=by
 cases h with
 | zero=>
  obtain⟨h1,h2,h3,h4,h5⟩:=ht;rw[<-tS N.K N.V h2];subst h4;rw[List.pairwise_map];refine List.Pairwise.imp_of_mem ?_ hs;intro a b ha hb hab;obtain⟨va,ea,_⟩:=kX ha;obtain⟨vb,eb,_⟩:=kX hb;unfold dK at hab;rw[ea,eb] at hab;simp at hab;omega
 | succ h=>
  obtain⟨h1,h2,Q,h3,h4,h5,h6,h7⟩:=ht;subst h6;have hp:=List.Pairwise.sublist (CF N.K Q h4) hs;rw[List.pairwise_map] at hp;refine List.Pairwise.imp ?_ hp;intro a b hab;rw[jE,jE] at hab;omega
theorem eU {R:Int->Option Nod}{h:Nat}{N:Nod}{F:List Mk}{P:List Int}(ht:fT R h N F P):bH N=true:=by
 cases h with
 | zero=>
  obtain⟨h1,h2,h3,h4,h5⟩:=ht;exact(bG h1).2 ⟨h2,by rw[h3];rfl⟩
 | succ h=>
  obtain⟨h1,h2,Q,h3,h4,h5,h6,h7⟩:=ht;exact(aQ h1).2 ⟨by rw[h3,cQ,h4],by rw[h2];rfl⟩
theorem pY {R:Int->Option Nod}{h:Nat}{N:Nod}{F:List Mk}{P:List Int}(ht:fT R h N F P):N.leaf=decide (h=0):=by
 cases h with
 | zero=>rw[ht.1];rfl
 | succ h=>rw[ht.1];simp
theorem kO {R:Int->Option Nod}{h:Nat}{N:Nod}{F:List Mk}{P:List Int}(ht:fT R h N F P)(hs:bY F)(hv:∀ v∈N.V,v.size<=40)(hc:∀ c∈N.C,2<=c/\c<640)(hk:N.K≠[])(hz:aI N<=240):cC N=true:=by
 refine(dV N).2 ⟨(dX N).2 ⟨fun i hi=>?_,hv,hc⟩,eU ht,fun _=>?_,hz⟩
 ·exact List.pairwise_iff_getElem.1 (gV ht hs) i (i+1) (by omega) hi (by omega)
 ·exact List.length_pos_iff.2 hk
theorem xV:∀ (K:List Int) (Q:List Kid),Q.length=K.length+1->(aD (bJ K Q)).length=(Q.map fun q=>(aD q.F).length).sum:=by
 intro K
 induction K with
 | nil=>
  intro Q h
  cases Q with
  | nil=>simp at h
  | cons q Q=>cases Q with|nil=>simp[bJ]|cons _ _=>simp at h
 | cons k K ih=>
  intro Q h
  cases Q with
  | nil=>simp at h
  | cons q Q=>
   show(aD (q.F++(k,none)::bJ K Q)).length=_
   rw[aN,iJ,List.length_append,ih Q (by simpa using h)];simp
theorem ZD {R:Int->Option Nod}:∀ (h:Nat) {N:Nod} {F:List Mk} {P:List Int},fT R h N F P->N.K≠[]->P.length+2<=2*(aD F).length/\2 ^ h<=(aD F).length:=by
 intro h
 induction h with
 | zero=>
  intro N F P ht hk;obtain⟨h1,h2,h3,h4,h5⟩:=ht;subst h4 h5;have:=List.length_pos_iff.2 hk;rw[IJ _ _ h2];simp;omega
 | succ h ih=>
  intro N F P ht hk;obtain⟨h1,h2,Q,h3,h4,h5,h6,h7⟩:=ht;subst h6 h7;rw[xV _ _ h4]
  have hq:∀ q∈Q,q.P.length+1<=2*(aD q.F).length/\2 ^ h<=(aD q.F).length:=by
   intro q hq;obtain⟨M,PM,m1,m2,m3,m4⟩:=h5 q hq;have:=ih m3 m2;rw[m4,List.length_cons];omega
  have h2:2<=Q.length:=by have:=List.length_pos_iff.2 hk;omega
  have e1:(kPs Q).length+Q.length<=2*(Q.map fun q=>(aD q.F).length).sum:=by
   clear h3 h4 h5 h2
   induction Q with
   | nil=>simp[kPs]
   | cons q Q ihq=>
    have h1:=(hq q (by simp)).1;have h2:=ihq fun r hr=>hq r (by simp[hr])
    rw[mO];simp only[List.length_append,List.length_cons,List.map_cons,List.sum_cons];omega
  have e2:Q.length*2 ^ h<=(Q.map fun q=>(aD q.F).length).sum:=by
   clear h3 h4 h5 h2 e1
   induction Q with
   | nil=>simp
   | cons q Q ihq=>
    have h1:=(hq q (by simp)).2;have h2:=ihq fun r hr=>hq r (by simp[hr])
    simp only[List.length_cons,List.map_cons,List.sum_cons,Nat.add_mul];omega
  refine⟨by omega,Nat.le_trans ?_ e2⟩;rw[Nat.pow_succ,Nat.mul_comm];exact Nat.mul_le_mul_right _ h2
theorem oA {R:Int->Option Nod}{h:Nat}{p:Int}{F:List Mk}{P:List Int}(ht:IsT R h p F P):P.length+1<=2*(aD F).length/\2 ^ h<=(aD F).length:=by
 obtain⟨M,PM,m1,m2,m3,m4⟩:=ht;have:=ZD h m3 m2;rw[m4,List.length_cons];omega
theorem gJ {α:Type}(p:α->Bool)(l:List α)(h:∀ x∈l,p x=true):l.filter p=l:=List.filter_eq_self.2 h
theorem gS {α:Type}(p:α->Bool)(l:List α)(h:∀ x∈l,p x=false):l.filter p=[]:=List.filter_eq_nil_iff.2 fun x hx=>by rw[h x hx];decide
theorem XX (A B:List Ent)(k:Int)(v:ByteArray)(hA:∀ e∈A,e.1<k)(hB:∀ e∈B,k<e.1):bF k v (A++B)=A++(k,v)::B:=by
 unfold bF;rw[List.filter_append,List.filter_append,gJ _ A (fun e he=>decide_eq_true (hA e he)),gS _ B (fun e he=>decide_eq_false (by have:=hB e he;omega)),gS _ A (fun e he=>decide_eq_false (by have:=hA e he;omega)),gJ _ B (fun e he=>decide_eq_true (hB e he))];simp
theorem XV (A B:List Ent)(k:Int)(x v:ByteArray)(hA:∀ e∈A,e.1<k)(hB:∀ e∈B,k<e.1):bF k v (A++(k,x)::B)=A++(k,v)::B:=by
 unfold bF;rw[List.filter_append,List.filter_append,gJ _ A (fun e he=>decide_eq_true (hA e he)),gS _ A (fun e he=>decide_eq_false (by have:=hA e he;omega)),List.filter_cons_of_neg (by simp),List.filter_cons_of_neg (by simp),gS _ B (fun e he=>decide_eq_false (by have:=hB e he;omega)),gJ _ B (fun e he=>decide_eq_true (hB e he))];simp
theorem YW (A B:List Ent)(k:Int)(x:ByteArray)(hA:∀ e∈A,e.1<k)(hB:∀ e∈B,k<e.1):iU k (A++(k,x)::B)=A++B:=by
 unfold iU;rw[List.filter_append,gJ _ A (fun e he=>decide_eq_true (by have:=hA e he;omega)),List.filter_cons_of_neg (by simp),gJ _ B (fun e he=>decide_eq_true (by have:=hB e he;omega))]
theorem RV (m:List Ent)(k:Int)(h:∀ e∈m,e.1≠k):cG k m=none:=by
 unfold cG;rw[List.find?_eq_none.2 (fun e he=>by simpa using h e he)]
 rfl
theorem YF (A B:List Ent)(k:Int)(x:ByteArray)(hA:∀ e∈A,e.1<k):cG k (A++(k,x)::B)=some x:=by
 unfold cG;rw[List.find?_append,List.find?_eq_none.2 (fun e he=>by have:=hA e he;simp;omega)];simp
theorem aC7 (key:Int):∀ (K:List Int) (i:Nat),K.Pairwise (·<·)->∃ q,
  (eM true key K i=(i+q,true)/\q<K.length/\K[q]?=some key/\(∀ x∈K.take q,x<key)/\∀ x∈K.drop (q+1),key<x) \/
  (eM true key K i=(i+q,false)/\q<=K.length/\(∀ x∈K.take q,x<key)/\∀ x∈K.drop q,key<x):=by
 intro K
 induction K with
 | nil=>exact fun i _=>⟨0,.inr ⟨rfl,Nat.le_refl _,by simp,by simp⟩⟩
 | cons k r ih=>
  intro i hp;obtain⟨hp1,hp2⟩:=List.pairwise_cons.1 hp;unfold eM
  by_cases h1:k=key
  ·subst h1
   exact⟨0,.inl ⟨by simp,by simp,by simp,by simp,by simpa using hp1⟩⟩
  ·rw[if_neg (by simp[h1])]
   by_cases h2:key<k
   ·rw[if_pos h2]
    refine⟨0,.inr ⟨rfl,Nat.zero_le _,by simp,?_⟩⟩;intro x hx;simp only[List.drop_zero,List.mem_cons] at hx
    rcases hx with rfl|hx
    ·exact h2
    ·have:=hp1 x hx;omega
   ·rw[if_neg h2]
    obtain⟨q,hq⟩:=ih (i+1) hp2;refine⟨q+1,?_⟩
    rcases hq with⟨a,b,c,d,e⟩|⟨a,b,d,e⟩
    ·refine .inl ⟨by rw[a];simp;omega,by simp;omega,by simpa using c,?_,by simpa using e⟩
     intro x hx;simp only[List.take_succ_cons,List.mem_cons] at hx
     rcases hx with rfl|hx
     ·omega
     ·exact d x hx
    ·refine .inr ⟨by rw[a];simp;omega,by simp;omega,?_,by simpa using e⟩
     intro x hx;simp only[List.take_succ_cons,List.mem_cons] at hx
     rcases hx with rfl|hx
     ·omega
     ·exact d x hx
theorem aC8 (key:Int):∀ (K:List Int) (i:Nat),K.Pairwise (·<·)->∃ q,eM false key K i=(i+q,true)/\q<=K.length/\(∀ x∈K.take q,x<=key)/\∀ x∈K.drop q,key<x:=by
 intro K
 induction K with
 | nil=>exact fun i _=>⟨0,rfl,Nat.le_refl _,by simp,by simp⟩
 | cons k r ih=>
  intro i hp;obtain⟨hp1,hp2⟩:=List.pairwise_cons.1 hp;unfold eM;rw[if_neg (by simp)]
  by_cases h2:key<k
  ·rw[if_pos h2]
   refine⟨0,rfl,Nat.zero_le _,by simp,?_⟩;intro x hx;simp only[List.drop_zero,List.mem_cons] at hx
   rcases hx with rfl|hx
   ·exact h2
   ·have:=hp1 x hx;omega
  ·rw[if_neg h2]
   obtain⟨q,a,b,d,e⟩:=ih (i+1) hp2;refine⟨q+1,by rw[a];simp;omega,by simp;omega,?_,by simpa using e⟩;intro x hx;simp only[List.take_succ_cons,List.mem_cons] at hx
   rcases hx with rfl|hx
   ·omega
   ·exact d x hx
theorem oR {R:Int->Option Nod}{N:Nod}{F:List Mk}{P:List Int}(ht:fT R 0 N F P)(hs:bY F)(key:Int) :
  ∃ (i:Nat) (X Y:List Mk),(∀ m∈X,dK m<2*key+1)/\(∀ m∈Y,2*key+1<dK m) /\
   ((∃ old,bX N key=(i,true)/\i<N.K.length/\N.V[i]?=some old/\F=X++(key,some old)::Y /\
     (∀ v,fT R 0 (fN N key v) (X++(key,some v)::Y) [])/\fT R 0 (dF N i) (X++Y) []) \/
    (bX N key=(i,false)/\F=X++Y/\∀ v,fT R 0 (fN N key v) (X++(key,some v)::Y) [])):=by
 have hw:=eU ht;have hr:=gV ht hs;obtain⟨h1,h2,h3,h4,h5⟩:=ht;have hf:bX N key=eM true key N.K 0:=by unfold bX;rw[if_pos hw,h1]
 have hput:∀ v,fN N key v={ leaf:=true,K:=N.K.take (bX N key).1++[key]++N.K.drop ((bX N key).1+(if(bX N key).2 then 1 else 0)),V:=N.V.take (bX N key).1++[v]++N.V.drop ((bX N key).1+(if(bX N key).2 then 1 else 0)),C:=[] }:=by
  intro v;unfold fN;rw[if_pos (by rw[h1,hw];rfl)]
 have lt:∀ j,(N.V.take j).length=(N.K.take j).length:=fun j=>by simp[h2]
 have ld:∀ j,(N.V.drop j).length=(N.K.drop j).length:=fun j=>by simp[h2]
 have small:∀ q,(∀ x∈N.K.take q,x<key)->∀ m∈dA (N.K.take q) (N.V.take q),dK m<2*key+1:=by
  intro q hq m hm;obtain⟨v,e,hk,_⟩:=kX hm;have:=hq _ hk;unfold dK;rw[e];simp;omega
 have great:∀ q,(∀ x∈N.K.drop q,key<x)->∀ m∈dA (N.K.drop q) (N.V.drop q),2*key+1<dK m:=by
  intro q hq m hm;obtain⟨v,e,hk,_⟩:=kX hm;have:=hq _ hk;unfold dK;rw[e];simp;omega
 have rS:∀ q d v,dA (N.K.take q++[key]++N.K.drop d) (N.V.take q++[v]++N.V.drop d)=dA (N.K.take q) (N.V.take q)++(key,some v)::dA (N.K.drop d) (N.V.drop d):=by
  intro q d v;rw[List.append_assoc,List.append_assoc,fQ _ _ _ _ (lt q)]
  rfl
 obtain⟨q,hq⟩:=aC7 key N.K 0 hr
 rcases hq with⟨a,b,c,d,e⟩|⟨a,b,d,e⟩
 ·have hq2:bX N key=(q,true):=by rw[hf,a];simp
  have hv:q<N.V.length:=by omega
  refine⟨q,dA (N.K.take q) (N.V.take q),dA (N.K.drop (q+1)) (N.V.drop (q+1)),small q d,great (q+1) e,.inl ⟨N.V[q],hq2,b,List.getElem?_eq_getElem hv,?_,?_,?_⟩⟩
  ·rw[h4]
   have ek:N.K=N.K.take q++(key::N.K.drop (q+1)):=by
    obtain⟨hb,hc⟩:=List.getElem?_eq_some_iff.1 c;rw[<-hc,<-List.drop_eq_getElem_cons hb,List.take_append_drop]
   have ev:N.V=N.V.take q++(N.V[q]::N.V.drop (q+1)):=by
    rw[<-List.drop_eq_getElem_cons hv,List.take_append_drop]
   have:=fQ (N.K.take q) (N.V.take q) (key::N.K.drop (q+1)) (N.V[q]::N.V.drop (q+1)) (lt q);rw[<-ek,<-ev] at this;rw[this];rfl
  ·intro v
   rw[hput v,hq2];refine⟨rfl,by simp[h2],rfl,?_,rfl⟩;simp only[if_true];exact(rS q (q+1) v).symm
  ·refine⟨rfl,by simp[dF,h2],rfl,?_,rfl⟩
   show _=dA (N.K.take q++N.K.drop (q+1)) (N.V.take q++N.V.drop (q+1))
   rw[fQ _ _ _ _ (lt q)]
 ·have hq2:bX N key=(q,false):=by rw[hf,a];simp
  refine⟨q,dA (N.K.take q) (N.V.take q),dA (N.K.drop q) (N.V.drop q),small q d,great q e,.inr ⟨hq2,?_,?_⟩⟩
  ·rw[h4,<-fQ _ _ _ _ (lt q),List.take_append_drop,List.take_append_drop]
  ·intro v
   rw[hput v,hq2];refine⟨rfl,by simp[h2],rfl,?_,rfl⟩;simp only[Bool.false_eq_true,if_false,Nat.add_zero];exact(rS q q v).symm
structure aL where
 page:Int
 N:Nod
 KA:List Int
 KB:List Int
 A:List Kid
 B:List Kid
structure FrameOk (R:Int->Option Nod)(h:Nat)(f:aL):Prop where
 a:f.A.length=f.KA.length
 b:f.B.length=f.KB.length
 lf:f.N.leaf=false
 v:f.N.V=[]
 k:f.N.K=f.KA++f.KB
 c:∃ c,f.N.C=kP f.A++[c]++kP f.B
 ka:∀ q∈f.A,IsT R h q.p q.F q.P
 kb:∀ q∈f.B,IsT R h q.p q.F q.P
 k0:f.N.K≠[]
 r:cC f.N=true
 ok:dD f.N
def Ctx (R:Int->Option Nod):List aL->Nat->List Mk->List Mk->List Int->Prop
 | [],_,FL,FR,PC=>FL=[]/\FR=[]/\PC=[]
 | f::fs,h,FL,FR,PC=>FrameOk R h f/\∃ FL' FR' PC',Ctx R fs (h+1) FL' FR' PC'/\FL=FL'++cF f.KA f.A/\FR=dL f.KB f.B++FR'/\PC=f.page::(kPs f.A++kPs f.B++PC')
theorem FrameOk.congr {R R':Int->Option Nod}{h:Nat}{f:aL}(hf:FrameOk R h f)(hr:∀ p∈kPs f.A++kPs f.B,R' p=R p):FrameOk R' h f:=
 { hf with
  ka:=fun q hq=>jJ (hf.ka q hq) fun p hp=>hr p (List.mem_append_left _ (kB.2 ⟨q,hq,hp⟩))
  kb:=fun q hq=>jJ (hf.kb q hq) fun p hp=>hr p (List.mem_append_right _ (kB.2 ⟨q,hq,hp⟩)) }
theorem oB {R R':Int->Option Nod}:∀ (fs:List aL) {h:Nat} {FL FR:List Mk} {PC:List Int},Ctx R fs h FL FR PC->(∀ p∈PC,R' p=R p)->Ctx R' fs h FL FR PC:=by
 intro fs
 induction fs with
 | nil=>intro h FL FR PC hc _;exact hc
 | cons f fs ih=>
  intro h FL FR PC hc hr;obtain⟨h1,FL',FR',PC',h2,h3,h4,h5⟩:=hc;exact⟨h1.congr fun p hp=>hr p (by rw[h5];exact List.mem_cons_of_mem _ (List.mem_append_left _ hp)),FL',FR',PC',ih h2 (fun p hp=>hr p (by rw[h5];exact List.mem_cons_of_mem _ (List.mem_append_right _ hp))),h3,h4,h5⟩
theorem ZA {R:Int->Option Nod}(hR:∀ p M,R p=some M->cC M=true/\dD M){fs:List aL}{h:Nat}{FL FR F:List Mk}{PC PM:List Int}{p:Int}{M:Nod}(hc:Ctx R fs (h+1) FL FR PC)(hp:R p=some M)(h0:M.K≠[])(ht:fT R (h+1) M F PM)(hs:bY F)(key:Int) :
  ∃ (f:aL) (q:Kid),f.page=p/\f.N=M/\bX M key=(f.KA.length,true)/\M.C[f.KA.length]?=some q.p/\IsT R h q.p q.F q.P /\
   Ctx R (f::fs) h (FL++cF f.KA f.A) (dL f.KB f.B++FR) (p::(kPs f.A++kPs f.B++PC))/\F=cF f.KA f.A++q.F++dL f.KB f.B /\
   (∀ m∈cF f.KA f.A,dK m<2*key+1)/\(∀ m∈dL f.KB f.B,2*key+1<dK m)/\PM=kPs f.A++q.P++kPs f.B:=by
 have hw:=eU ht;have hr:=gV ht hs;obtain⟨h1,h2,Q,h3,h4,h5,h6,h7⟩:=dC.1 ht;obtain⟨i,f1,f2,f3,f4⟩:=aC8 key M.K 0 hr;have hf:bX M key=(i,true):=by unfold bX;rw[if_pos hw,h1,f1];simp
 have hiQ:i<Q.length:=by omega
 have eQ:Q=Q.take i++[Q[i]]++Q.drop (i+1):=by
  rw[List.append_assoc,List.singleton_append,<-List.drop_eq_getElem_cons hiQ,List.take_append_drop]
 have la:(Q.take i).length=(M.K.take i).length:=by simp;omega
 have lb:(Q.drop (i+1)).length=(M.K.drop i).length:=by simp;omega
 have li:(M.K.take i).length=i:=by simp;omega
 have eF:F=cF (M.K.take i) (Q.take i)++Q[i].F++dL (M.K.drop i) (Q.drop (i+1)):=by
  have:=lN (M.K.take i) [] (M.K.drop i) (Q.take i) [Q[i]] (Q.drop (i+1)) la rfl lb;rw[List.append_nil,List.take_append_drop,<-eQ] at this;rw[h6,this,lM]
 rw[eF,List.append_assoc] at hs;obtain⟨s1,s2,s3⟩:=aH.1 hs;obtain⟨s4,s5,s6⟩:=aH.1 s2;obtain⟨hMr,hMo⟩:=hR p M hp;refine⟨⟨p,M,M.K.take i,M.K.drop i,Q.take i,Q.drop (i+1)⟩,Q[i],rfl,rfl,by rw[li];exact hf,?_,h5 _ (List.getElem_mem hiQ),⟨⟨la,lb,h1,h2,(List.take_append_drop i M.K).symm,⟨Q[i].p,?_⟩,fun q hq=>h5 q (List.mem_of_mem_take hq),fun q hq=>h5 q (List.mem_of_mem_drop hq),h0,hMr,hMo⟩,FL,FR,PC,hc,rfl,rfl,rfl⟩,eF,?_,?_,?_⟩
 ·show M.C[(M.K.take i).length]?=_
  rw[li,h3];unfold kP;rw[List.getElem?_map,List.getElem?_eq_getElem hiQ];rfl
 ·show M.C=kP (Q.take i)++[Q[i].p]++kP (Q.drop (i+1))
  rw[h3]
  conv=>lhs;rw[eQ]
  rw[gP,gP];rfl
 ·intro m hm
  show dK m<2*key+1
  rcases hk:(M.K.take i).getLast? with _|k
  ·have:M.K.take i=[]:=List.getLast?_eq_none_iff.1 hk
   have e:cF (M.K.take i) (Q.take i)=[]:=by rw[this];rfl
   have hm':m∈cF (M.K.take i) (Q.take i):=hm;rw[e] at hm';cases hm'
  ·have hkm:=List.mem_of_getLast? hk
   have hle:=f3 k hkm;obtain⟨X,hX⟩:=List.getLast?_eq_some_iff.1 hk;have hXl:X.length+1=i:=by have e:=congrArg List.length hX;rw[li,List.length_append] at e;simpa using e.symm
   obtain⟨Y,q,hY⟩:∃ Y q,Q.take i=Y++[q]:=by
    cases hq:(Q.take i).reverse with
    | nil=>have e:=congrArg List.length hq;rw[List.length_reverse,la,li,List.length_nil] at e;omega
    | cons q Y=>exact⟨Y.reverse,q,by simpa using congrArg List.reverse hq⟩
   have hYl:Y.length=X.length:=by have e:=congrArg List.length hY;rw[la,li,List.length_append,List.length_singleton] at e;omega
   have eL:cF (M.K.take i) (Q.take i)=cF X Y++(q.F++[(k,none)]):=by
    rw[hX,hY];unfold cF;rw[List.zipWith_append hYl.symm];simp
   have hm':m∈cF (M.K.take i) (Q.take i):=hm;rw[eL] at hm' s1;rw[<-List.append_assoc] at hm' s1;obtain⟨_,_,t3⟩:=aH.1 s1
   rcases List.mem_append.1 hm' with hx|hx
   ·have:=t3 m hx (k,none) (by simp)
    rw[jE] at this;omega
   ·simp only[List.mem_singleton] at hx
    subst hx;rw[jE];omega
 ·intro m hm
  show 2*key+1<dK m
  have hm':m∈dL (M.K.drop i) (Q.drop (i+1)):=hm;clear hm
  cases hkk:M.K.drop i with
  | nil=>rw[hkk] at hm';cases hm'
  | cons k Kr=>
   have hlt:=f4 k (by rw[hkk];simp);rw[hkk] at hm' s5 lb
   cases hqq:Q.drop (i+1) with
   | nil=>rw[hqq] at lb;simp at lb
   | cons q Qr=>
    rw[hqq,mP] at hm' s5
    rcases List.mem_cons.1 hm' with rfl|hx
    ·rw[jE];omega
    ·have:=(eS.1 s5).1 m hx
     rw[jE] at this;omega
 ·show PM=kPs (Q.take i)++Q[i].P++kPs (Q.drop (i+1))
  rw[h7]
  conv=>lhs;rw[eQ]
  rw[cO,cO,mO];simp[kPs]
theorem YL {R:Int->Option Nod}{h:Nat}{f:aL}(hf:FrameOk R h f)(KM:List Int)(QM:List Kid)(hl:QM.length=KM.length+1)(hq:∀ q∈QM,IsT R h q.p q.F q.P)(N:Nod)(h1:N.leaf=false)(h2:N.V=[])(h3:N.K=f.KA++KM++f.KB)(h4:N.C=kP f.A++kP QM++kP f.B) :
  fT R (h+1) N (cF f.KA f.A++bJ KM QM++dL f.KB f.B) (kPs f.A++kPs QM++kPs f.B):=by
 refine dC.2 ⟨h1,h2,f.A++QM++f.B,?_,?_,?_,?_,?_⟩
 ·rw[h4,gP,gP]
 ·rw[h3];simp only[List.length_append];have:=hf.a;have:=hf.b;omega
 ·intro q hm
  rcases List.mem_append.1 hm with hm|hm
  ·rcases List.mem_append.1 hm with hm|hm
   ·exact hf.ka q hm
   ·exact hq q hm
  ·exact hf.kb q hm
 ·rw[h3,lN _ _ _ _ _ _ hf.a hl hf.b]
 ·rw[cO,cO]
