import Derived.Test.YtknikcihgijmlaaGreatDoorM19
import Derived.Maps.OwnIn
namespace Go.Proofs.YtknikcihgijmlaaGreatDoor
open Go.RowKit
set_option maxRecDepth 20000
set_option maxHeartbeats 12800000
set_option linter.unusedVariables false
set_option linter.unusedSimpArgs false
attribute [local go_sem] Oper.semAt_some
structure BoxF (w:World)(g:Nat)(p dp key:Int)(b0 b1 b2 b3:Nat):Prop where
 v:w.heap[b0]?=some (.cells #[.pointer (some ⟨g,0,none⟩)] 190)
 p:w.heap[b1]?=some (.cells #[.int .i64 p] 3)
 d:w.heap[b2]?=some (.cells #[.int .i64 dp] 3)
 k:w.heap[b3]?=some (.cells #[.int .u64 key] 80)
theorem MI (w:World)(g:Nat)(p dp key:Int) :
  () 163 #[g,p,dp,.int .u64 key] w fun e w'=>e=.returned (.func (.func 181) #[] #[.pointer (some ⟨w.heap.size,0,none⟩),.pointer (some ⟨w.heap.size+1,0,none⟩),.pointer (some ⟨w.heap.size+2,0,none⟩),.pointer (some ⟨w.heap.size+3,0,none⟩)])/\BoxF w' g p dp key w.heap.size (w.heap.size+1) (w.heap.size+2) (w.heap.size+3)/\Below w.heap.size w w'/\w'.heap.size=w.heap.size+4:=by
 obtain⟨x0,hx0⟩:∃ x,w.alloc (.cells #[g] 190)=x:=⟨_,rfl⟩
 obtain⟨x1,hx1⟩:∃ x,x0.alloc (.cells #[p] 3)=x:=⟨_,rfl⟩
 obtain⟨x2,hx2⟩:∃ x,x1.alloc (.cells #[dp] 3)=x:=⟨_,rfl⟩
 obtain⟨wa,hwa⟩:∃ x,x2.alloc (.cells #[.int .u64 key] 80)=x:=⟨_,rfl⟩
 have SZ:Hid (x0.heap.size=w.heap.size+1/\x1.heap.size=w.heap.size+2/\x2.heap.size=w.heap.size+3):=Hd (by
  have s0:x0.heap.size=w.heap.size+1:=by rw[<-hx0];simp
  have s1:x1.heap.size=w.heap.size+2:=by rw[<-hx1];simp;omega
  have s2:x2.heap.size=w.heap.size+3:=by rw[<-hx2];simp;omega
  exact⟨s0,s1,s2⟩)
 have FIN:Hid (BoxF wa g p dp key w.heap.size (w.heap.size+1) (w.heap.size+2) (w.heap.size+3)/\Below w.heap.size w wa/\wa.heap.size=w.heap.size+4):=by
  obtain⟨s0,s1,s2⟩:=SZ.o;have n0:=han w (.cells #[g] 190);have n1:=han x0 (.cells #[p] 3);have n2:=han x1 (.cells #[dp] 3);have n3:=han x2 (.cells #[.int .u64 key] 80);rw[hx0] at n0;rw[hx1,s0] at n1;rw[hx2,s1] at n2;rw[hwa,s2] at n3;have t1:=aB x0 (.cells #[p] 3);have t2:=aB x1 (.cells #[dp] 3);have t3:=aB x2 (.cells #[.int .u64 key] 80);have t0:=aB w (.cells #[g] 190);rw[hx0] at t0;rw[hx1] at t1
  rw[hx2] at t2;rw[hwa] at t3;refine Hd ⟨⟨?_,?_,?_,n3⟩,?_,?_⟩
  ·exact(t3.block _ (by omega)).trans ((t2.block _ (by omega)).trans ((t1.block _ (by omega)).trans n0))
  ·exact(t3.block _ (by omega)).trans ((t2.block _ (by omega)).trans n1)
  ·exact(t3.block _ (by omega)).trans n2
  ·exact((t0.trans (t1.mono (by omega))).trans (t2.mono (by omega))).trans (t3.mono (by omega))
  ·rw[<-hwa];simp;omega
 go_enter Tryz.func163,Tryz.ntmps163;go_wp2_with fail;go_ret;rw[SZ.1,SZ.2.1,SZ.2.2];exact⟨rfl,FIN.o⟩
def YT (e:Ent):Array Value:=#[.agg #[.int .u64 e.1,.string e.2]]
def FF (F:Nat->Prop)(b0 b1 b2 b3:Nat)(k:Nat):Prop:=F k\/k=b0\/k=b1\/k=b2\/k=b3
theorem BoxF.kept {w w':World}{g:Nat}{p dp key:Int}{b0 b1 b2 b3:Nat}(h:BoxF w g p dp key b0 b1 b2 b3)(e0:w'.heap[b0]?=w.heap[b0]?)(e1:w'.heap[b1]?=w.heap[b1]?)(e2:w'.heap[b2]?=w.heap[b2]?)(e3:w'.heap[b3]?=w.heap[b3]?):BoxF w' g p dp key b0 b1 b2 b3:=⟨e0.trans h.v,e1.trans h.p,e2.trans h.d,e3.trans h.k⟩
theorem BoxF.lt {w:World}{g:Nat}{p dp key:Int}{b0 b1 b2 b3:Nat}(h:BoxF w g p dp key b0 b1 b2 b3):b0<w.heap.size/\b1<w.heap.size/\b2<w.heap.size/\b3<w.heap.size:=⟨(zl h.v),(zl h.p),(zl h.d),(zl h.k)⟩
def scQ (key:Int)(Q:List Kid):List Ent:=(Q.map fun q=>bD key (aD q.F)).flatten
theorem aDI {key:Int}{Q:List Kid}{m:Nat}{q:Kid}(h:Q[m]?=some q):scQ key Q=scQ key (Q.take m)++(bD key (aD q.F)++scQ key (Q.drop (m+1)))/\scQ key (Q.take (m+1))=scQ key (Q.take m)++bD key (aD q.F):=by
 obtain⟨hm,rfl⟩:=List.getElem?_eq_some_iff.1 h;unfold scQ;constructor
 ·conv=>lhs;rw[<-List.take_append_drop m Q,List.drop_eq_getElem_cons hm]
  rw[List.map_append,List.flatten_append,List.map_cons,List.flatten_cons]
 ·rw[List.take_succ_eq_append_getElem hm,List.map_append,List.flatten_append]
  simp
theorem xE {α:Type}{Z:List α}{i m:Nat}{x:α}(hi:i<=m)(hx:Z[m]?=some x):(Z.take (m+1)).drop i=(Z.take m).drop i++[x]:=by
 obtain⟨hm,rfl⟩:=List.getElem?_eq_some_iff.1 hx;rw[List.take_succ_eq_append_getElem hm,List.drop_append_of_le_length (by rw[List.length_take];omega)]
theorem TO {α:Type}(Z:List α)(i m:Nat):(Z.take m).drop i <+: Z.drop i:=by
 have h:Z.drop i=(Z.take m).drop i++(Z.drop m).drop (i-(Z.take m).length):=by rw[<-List.drop_append,List.take_append_drop]
 rw[h];exact List.prefix_append _ _
def pU (Q:Exit->Act->World->Prop):Exit->Act->World->Prop
 | .panic _,_,_=>False
 | .normal,a,w=>Q .normal a w
 | .ret,a,w=>Q .ret a w
 | .exit i,a,w=>Q (.exit i) a w
 | .goto i,a,w=>Q (.goto i) a w
 | .outgrown,a,w=>Q .outgrown a w
theorem tM {Q:Exit->Act->World->Prop}:∀ e a w,pU Q e a w->Q e a w:=fun e a w h=>by
 cases e
 case panic=>exact h.elim
 all_goals exact h
theorem yR {w:World}{b:Nat}{v0 v1:Value}{T:TypeId}(h:w.heap[b]?=some (.cells #[v0,v1] T)):w.cell? ⟨b,0,none⟩=some v0/\w.cell? ⟨b,1,none⟩=some v1:=by
 refine⟨?_,?_⟩ <;> (rw[cob h];rfl)
theorem SF (key:Int)(h:Nat):∀ (w:World) (d s g:Nat) (dk:DkS) (st:ShS) (r:Nat) (F:Nat->Prop) (hT:TS w d s g dk st r F) (hu:st.up=true) (p:Int) (Fm:List Mk) (P:List Int) (ht:IsT (Rn dk) h p Fm P) (hs:bY Fm) (dp:Int) (h1:1<=dp) (hd:dp+h<=10) (hr:r+P.length<=640) (b0 b1 b2 b3:Nat) (hb:BoxF w g p dp key b0 b1 b2 b3) (hbF:¬ F b0/\¬ F b1/\¬ F b2/\¬ F b3),
  zB Tryz.prog 181 #[b0,b1,b2,b3] YT (FF F b0 b1 b2 b3) (VP d s g dk st r F P.length) (bD key (aD Fm)) w:=by
 induction h using Nat.strongRecOn with
 | _ h ih=>
  intro w d s g dk st r F hT hu p Fm P ht hs dp h1 hd hr b0 b1 b2 b3 hb hbF l J Jx W C hW hJ hJx hlt hltx hCG hR h0;obtain⟨M,PM,hM,hK,hNT,rfl⟩:=ht;have hTW:=hT.below hW;have hlt0:=hb.lt;have hbW:=hb.kept (hW.block _ hlt0.1) (hW.block _ hlt0.2.1) (hW.block _ hlt0.2.2.1) (hW.block _ hlt0.2.2.2);obtain⟨y,hy⟩:∃ y,W.heap.size=y:=⟨_,rfl⟩
  obtain⟨W1,hW1⟩:∃ W1,W.alloc (.cells #[.func (.yield l) #[] #[]] 253)=W1:=⟨_,rfl⟩
  have bW1:Below W.heap.size W W1:=by rw[<-hW1];exact aB _ _
  have hT1:=hTW.below bW1;have ltW:=hbW.lt;have hbW1:=hbW.kept (bW1.block _ ltW.1) (bW1.block _ ltW.2.1) (bW1.block _ ltW.2.2.1) (bW1.block _ ltW.2.2.2);have VN:=Hd (pB W1 d s g dk st r F hT1 hu (by simp only[List.length_cons] at hr;omega) p dp (by omega) M hM);have c0:=(aE hbW1.v).1;have c1:=(aE hbW1.p).1;have c2:=(aE hbW1.d).1;refine(callsIn_wide (n:=0)).1 (callsIn_of_wp_marks (F:=Fence.wide) (n:=0) Tryz.func181 rfl trivial (wpIn_wide.2 ?_) rfl)
  simp only[Tryz.ntmps181,List.size_toArray,List.length_cons,List.length_nil,Nat.reduceAdd,Nat.reduceSub,Array.replicate_succ,Array.replicate_zero,List.push_toArray,List.append_toArray,List.nil_append,List.cons_append];go_upto_region 1 with fail
  go_wp2_with fail;refine VN.mono ?_;rintro e w2 ⟨⟨ak,av,ac,ck,cv,cc,rfl,hNR,q1,q2,q3,u1,u2⟩,hT2,hf2⟩;simp only[aJ];obtain⟨nb,hnb⟩:∃ nb,w2.heap.size=nb:=⟨_,rfl⟩
  obtain⟨w3,hw3⟩:∃ w3,w2.alloc (.cells #[M.leaf,ak M.K.length ck,av M.V.length cv,ac M.C.length cc] 166)=w3:=⟨_,rfl⟩
  have s1:W1.heap.size=y+1:=by rw[<-hW1,<-hy];simp
  have s2:y+1<=nb:=by have:=hf2.size;omega
  have X3:w3.heap[nb]?=some (.cells #[M.leaf,ak M.K.length ck,av M.V.length cv,ac M.C.length cc] 166):=by
   rw[<-hw3,<-hnb];exact han w2 _
  have b23:Below nb w2 w3:=by rw[<-hw3,<-hnb];exact aB _ _
  have fg3:Frm (fun k=>k=g) W w3:=((Frm.of_below bW1).trans hf2 fun k hk=>.inl hk).trans (G:=fun _=>False) (Frm.of_below (by rw[hnb];exact b23)) fun _ h=>h.elim
  have hgF:F g:=by obtain⟨FD,FS,_,he⟩:=hT2;exact(he g).2 (.inr (.inr rfl))
  have hT3:TS w3 d s g dk st (r+1) F:=hT2.below (by rw[hnb];exact b23);have hNR3:=hNR.below (by rw[hnb];exact b23);have Y1:W1.heap[y]?=some (.cells #[.func (.yield l) #[] #[]] 253):=by rw[<-hW1,<-hy];exact han _ _
  have hgW:=hTW.lt g hgF;have Y3:w3.heap[y]?=some (.cells #[.func (.yield l) #[] #[]] 253):=(b23.block _ (by omega)).trans ((hf2.block y (by omega) (by omega)).trans Y1);have hb3:BoxF w3 g p dp key b0 b1 b2 b3:=hbW.kept (fg3.block _ ltW.1 (fun e=>hbF.1 (e ▸ hgF))) (fg3.block _ ltW.2.1 (fun e=>hbF.2.1 (e ▸ hgF))) (fg3.block _ ltW.2.2.1 (fun e=>hbF.2.2.1 (e ▸ hgF))) (fg3.block _ ltW.2.2.2 (fun e=>hbF.2.2.2 (e ▸ hgF)))
  have FND:Hid (∃ (i:Nat) (fd:Bool),bX M key=(i,fd)/\i<=M.K.length/\((M.leaf=true/\M.V.length=M.K.length/\bD key (aD Fm)=(M.K.zip M.V).drop i)\/(M.leaf=false/\∃ (h':Nat) (Q:List Kid),h'<h/\M.C=kP Q/\Q.length=M.K.length+1/\(∀ q∈Q,IsT (Rn dk) h' q.p q.F q.P/\bY q.F)/\bD key (aD Fm)=scQ key (Q.drop i)/\PM=kPs Q))):=Hd (by
   cases h with
   | zero=>
    obtain⟨i,fd,f1,f2,f3⟩:=OY hNT hs key;exact⟨i,fd,f1,f2,.inl ⟨hNT.1,hNT.2.1,f3⟩⟩
   | succ h=>
    obtain⟨Q,i,f1,f2,f3,f4,f5,f6,f7⟩:=AE hNT hs key;exact⟨i,true,f1,f2,.inr ⟨(dC.1 hNT).1,h,Q,Nat.lt_succ_self _,f3,f4,f5,f6,f7⟩⟩)
  obtain⟨i,fd,hfn,hiK,hSC⟩:=FND.o;have FI:=Hd (yB M ak av ac ck cv cc w3 hNR3 key i fd (Hd hfn));have cn:=cS X3;have ck3:=(aE hb3.k).1;have HNT:=Hd hNT;have HSC:=Hd hSC;have H23:=Hd (And.intro hnb s2);obtain⟨n0,n1,n2,n3⟩:=cn;clear c0 c1 c2 hT1 hbW1 VN b23 s1 s2 hT2 hf2 u1 u2 hSC hNT hNR FND;go_upto_region 4 with fail
  try rw[hw3]
  simp only[aJ] at FI;go_wp2_with fail;refine FI.mono ?_;rintro e w4 ⟨rfl,b4⟩;clear FI hw3;have fg4:Frm (fun k=>k=g) W w4:=fg3.trans (G:=fun _=>False) (Frm.of_below b4) fun _ h=>h.elim
  have lt3:∀ {k:Nat} {o:Obj},w3.heap[k]?=some o->k<w3.heap.size:=fun h=>(zl h)
  have X4:=(b4.block _ (lt3 X3)).trans X3;have Y4:=(b4.block _ (lt3 Y3)).trans Y3;have hb4:=hb3.kept (b4.block _ hb3.lt.1) (b4.block _ hb3.lt.2.1) (b4.block _ hb3.lt.2.2.1) (b4.block _ hb3.lt.2.2.2);have hT4:=hT3.below b4;have hNR4:=hNR3.below b4;obtain⟨H,hH⟩:∃ H:Nat->Prop,H=fun k=>k=y\/k=nb\/(∃ x,ac=some x/\k=x.block/\M.C≠[])\/(∃ x,ak=some x/\k=x.block/\M.K≠[])\/(∃ x,av=some x/\k=x.block/\M.V≠[])\/k=b0\/k=b1\/k=b2\/k=b3:=⟨_,rfl⟩
  have hC0:∀ k,C k->k<y:=fun k hk=>by have:=hlt _ _ _ h0 k hk;omega
  have hU:Under W C (FF F b0 b1 b2 b3) H w4 C w4:=by
   have hz3:=fg4.size;obtain⟨hnb,s2⟩:=H23.o;have hw1:W.heap.size<=W1.heap.size:=bW1.size;refine⟨fg4.mono fun k hk=>.inr (.inl (hk ▸ hgF)),fun k hk=>.inl hk,hCG,fun k hk hh=>?_,fun k hh=>⟨?_,rfl⟩,Nat.le_refl _,fun k hk=>?_,hz3⟩
   ·have hk':=hC0 k hk
    rw[hH] at hh
    rcases hh with h2|h2|⟨x,h2,h3,_⟩|⟨x,h2,h3,_⟩|⟨x,h2,h3,_⟩|h2|h2|h2|h2
    ·omega
    ·omega
    ·have:=q3 x h2;omega
    ·have:=q1 x h2;omega
    ·have:=q2 x h2;omega
    ·exact hCG k hk (.inr (.inl h2))
    ·exact hCG k hk (.inr (.inr (.inl h2)))
    ·exact hCG k hk (.inr (.inr (.inr (.inl h2))))
    ·exact hCG k hk (.inr (.inr (.inr (.inr h2))))
   ·rw[hH] at hh
    rcases hh with rfl|rfl|⟨x,h2,h3,h4⟩|⟨x,h2,h3,h4⟩|⟨x,h2,h3,h4⟩|rfl|rfl|rfl|rfl
    ·exact(zl Y4)
    ·exact(zl X4)
    ·rcases hNR4.c with h5|⟨bb,off,h5,h6,_⟩
     ·exact absurd (by simpa using h5) h4
     ·rw[h2] at h5;injection h5 with h5;rw[h3,h5];exact h6
    ·rcases hNR4.k with h5|⟨bb,off,h5,h6,_⟩
     ·exact absurd (by simpa using h5) h4
     ·rw[h2] at h5;injection h5 with h5;rw[h3,h5];exact h6
    ·rcases hNR4.v with h5|⟨bb,off,h5,h6,_⟩
     ·exact absurd (by simpa using h5) h4
     ·rw[h2] at h5;injection h5 with h5;rw[h3,h5];exact h6
    ·omega
    ·omega
    ·omega
    ·omega
   ·rcases hk with hk|rfl|rfl|rfl|rfl
    ·exact hTW.lt k hk
    ·exact ltW.1
    ·exact ltW.2.1
    ·exact ltW.2.2.1
    ·exact ltW.2.2.2
  have hJ4:J [] C w4:=hJ _ _ _ _ h0 (.of_frm fg4 fun k hk e=>hCG k hk (.inl (e ▸ hgF)));obtain⟨z0,z1,z2,z3⟩:=cS X4;have HU:=Hd hU;have HT4:=Hd hT4;have HNR:=Hd hNR4;have HX4:=Hd X4;have HY4:=Hd Y4;have HB4:=Hd hb4;have HHH:=Hd hH;have HJ4:=Hd hJ4
  have HCB:Hid ((∀ x,ac=some x->y+1<=x.block)/\(∀ x,ak=some x->y+1<=x.block)/\(∀ x,av=some x->y+1<=x.block)):=Hd (by
   have hw1:W1.heap.size=y+1:=by rw[<-hW1,<-hy];simp
   exact⟨fun x hx=>by have:=q3 x hx;omega,fun x hx=>by have:=q1 x hx;omega,fun x hx=>by have:=q2 x hx;omega⟩)
  have hU0F:∀ k,F k->k<y:=fun k hk=>by rw[<-hy];exact hTW.lt k hk
  have hlt0J:=hlt;clear hU hT4 hNR4 hNR3 q1 q2 q3 X3 X4 Y1 Y3 Y4 fg3 fg4 hb3 hb4 hH hT3 b4 lt3 n0 n1 n2 n3 ck3 hJ4 hW1 bW1
  rcases HSC.o with⟨hlf,hVK,hSE⟩|⟨hlf,h',Q,hh',hQC,hQL,hQs,hSE,hPQ⟩
  ·clear ih
   have HSE:=Hd hSE;have HVK:=Hd hVK;clear hSE hVK;go_wp2_with fail
   go_loopw [10] (fun ii wr=>∃ (m:Nat) (C1:Nat->Prop),ii=.int .i64 (m:Int)/\i<=m/\m<=M.K.length/\Hid (Under W C (FF F b0 b1 b2 b3) H w4 C1 wr)/\Hid (TS wr d s g dk st (r+1) F)/\Hid (J (((M.K.zip M.V).take m).drop i) C1 wr)) (fun ii _=>M.K.length-(intOf ii).toNat)
   case atStart=>exact⟨i,C,rfl,Nat.le_refl _,hiK,HU,HT4,Hd (by rw[List.drop_eq_nil_of_le (by rw[List.length_take];omega)];exact HJ4.o)⟩
   case round=>
    obtain⟨m,C1,rfl,him,hmK,HUr,HTr,HJr⟩:=hrel;have HHN:Hid (H nb):=Hd (by rw[HHH.o];exact .inr (.inl rfl));have HHY:Hid (H y):=Hd (by rw[HHH.o];exact .inl rfl);obtain⟨n0,n1,n2,n3⟩:=cS ((HUr.hk nb HHN.o).2.trans HX4.o)
    by_cases hlt:m<M.K.length
    ·have hli:(m:Int)<(M.K.length:Int):=by omega
     have hlj:(m:Int)<(M.V.length:Int):=by rw[HVK.o];omega
     obtain⟨kb,ko,hak,hkl,hkc⟩:=HNR.k.at m (by rw[List.length_map];exact hlt);obtain⟨vb,vo,hav,hvl,hvc⟩:=HNR.v.at m (by rw[List.length_map,HVK.o];exact hlt);have hKm:(M.K.map bI)[m]'(by rw[List.length_map];exact hlt)=.int .u64 (M.K[m]):=by rw[List.getElem_map];rfl
     have hVm:(M.V.map Value.string)[m]'(by rw[List.length_map,HVK.o];exact hlt)=.string (M.V[m]'(by rw[HVK.o];exact hlt)):=by rw[List.getElem_map]
     rw[hKm] at hkc;rw[hVm] at hvc;obtain⟨kk,hkk⟩:∃ kk,M.K[m]=kk:=⟨_,rfl⟩
     obtain⟨vv,hvv⟩:∃ vv,M.V[m]'(by rw[HVK.o];exact hlt)=vv:=⟨_,rfl⟩
     rw[hkk] at hkc;rw[hvv] at hvc
     have hZ:(M.K.zip M.V)[m]?=some (kk,vv):=by
      rw[List.getElem?_zip_eq_some];exact⟨by rw[<-hkk];exact List.getElem?_eq_getElem hlt,by rw[<-hvv];exact List.getElem?_eq_getElem _⟩
     have HZ:=Hd hZ;have HHK:Hid (H kb/\w4.cell? ⟨kb,ko+m,none⟩=some (.int .u64 kk)):=Hd ⟨by rw[HHH.o];exact .inr (.inr (.inr (.inl ⟨_,hak,rfl,fun e=>by rw[e] at hlt;exact absurd hlt (Nat.not_lt_zero _)⟩))),hkc⟩;have HHV:Hid (H vb/\w4.cell? ⟨vb,vo+m,none⟩=some (.string vv)):=Hd ⟨by rw[HHH.o];exact .inr (.inr (.inr (.inr (.inl ⟨_,hav,rfl,fun e=>by have:=HVK.o;rw[e] at this;rw[<-this] at hlt;exact absurd hlt (Nat.not_lt_zero _)⟩)))),hvc⟩;have HLT:=Hd hlt;subst hak hav;clear hKm hVm hkc hvc hkk hvv hZ hkl hvl hlt;go_upto_region 9 with fail
     obtain⟨wd,hwd⟩:∃ wd,wr.drew=wd:=⟨_,rfl⟩
     have bd:Below wr.heap.size wr wd:=by rw[<-hwd];exact Br.drew
     have Ud:Under W C (FF F b0 b1 b2 b3) H w4 C1 wd:=HUr.step (D:=fun _=>False) (Frm.of_below bd) fun _ h=>h.elim
     have HUd:=Hd Ud;have HTd:=Hd (HTr.below bd);have hSd:(fun w':World=>∀ k,H k->w'.heap[k]?=w4.heap[k]?) wd:=fun k hk=>(Ud.hk k hk).2
     have hJd:J (((M.K.zip M.V).take m).drop i) C1 wd:=hJ _ _ _ _ HJr (.of_frm (G:=fun _=>False) (Frm.of_below bd) fun _ _ h=>h);obtain⟨fn2,tmps2,assign2,body2,hyl,hRR⟩:=hR _ (kk,vv) C1 wd (by rw[<-xE him HZ.o,HSE.o];exact TO _ _ _) hJd;have HYL:=Hd hyl;have HRR:=Hd hRR;clear hyl hRR hJd Ud HUr HTr HJr;refine(wpIn_wide (n:=0)).1 (wpIn_mono (Q:=pU _) (LE (S:=fun w':World=>∀ k,H k->w'.heap[k]?=w4.heap[k]?) (by kernel_rfl) ?_) tM);rw[hwd];clear hwd bd
     refine eW (i:=0) 43 (v:=?v43) rfl rfl (by kernel_rfl) (by kernel_rfl) (by kernel_rfl) (fun _ _ _ h=>h) hSd (by rfl) ?h43 ?r43
     case h43=>
      intro w9 s9;have y9:=(aE ((s9 y HHY.o).trans HY4.o)).1;clear s9;go_simp;try (with_reducible rfl)
     simp only[SL];refine eW (i:=1) 44 (v:=?v44) rfl rfl (by kernel_rfl) (by kernel_rfl) (by kernel_rfl) (fun _ _ _ h=>h) hSd (by rfl) ?h44 ?r44
     case h44=>
      intro w9 s9;clear s9;go_simp;try (with_reducible rfl)
     simp only[SL];refine eW (i:=2) 45 (v:=?v45) rfl rfl (by kernel_rfl) (by kernel_rfl) (by kernel_rfl) (fun _ _ _ h=>h) hSd (by rfl) ?h45 ?r45
     case h45=>
      intro w9 s9;obtain⟨x0,x1,x2,x3⟩:=cS ((s9 nb HHN.o).trans HX4.o);clear s9;go_simp;try (with_reducible rfl)
     simp only[SL];refine eW (i:=3) 46 (v:=?v46) rfl rfl (by kernel_rfl) (by kernel_rfl) (by kernel_rfl) (fun _ _ _ h=>h) hSd (by rfl) ?h46 ?r46
     case h46=>
      intro w9 s9;clear s9;go_simp;try (with_reducible rfl)
     simp only[SL];refine eW (i:=4) 47 (v:=?v47) rfl rfl (by kernel_rfl) (by kernel_rfl) (by kernel_rfl) (fun _ _ _ h=>h) hSd (by rfl) ?h47 ?r47
     case h47=>
      intro w9 s9;clear s9;go_simp;try (with_reducible rfl)
     simp only[SL];refine eW (i:=5) 48 (v:=?v48) rfl rfl (by kernel_rfl) (by kernel_rfl) (by kernel_rfl) (fun _ _ _ h=>h) hSd (by rfl) ?h48 ?r48
     case h48=>
      intro w9 s9;have k9:=(kD (i:=ko+m) (s9 kb HHK.1)).trans HHK.2;clear s9;go_simp;try (with_reducible rfl)
     simp only[SL];refine eW (i:=6) 49 (v:=?v49) rfl rfl (by kernel_rfl) (by kernel_rfl) (by kernel_rfl) (fun _ _ _ h=>h) hSd (by rfl) ?h49 ?r49
     case h49=>
      intro w9 s9;clear s9;go_simp;try (with_reducible rfl)
     simp only[SL];refine eW (i:=7) 50 (v:=?v50) rfl rfl (by kernel_rfl) (by kernel_rfl) (by kernel_rfl) (fun _ _ _ h=>h) hSd (by rfl) ?h50 ?r50
     case h50=>
      intro w9 s9;obtain⟨x0,x1,x2,x3⟩:=cS ((s9 nb HHN.o).trans HX4.o);clear s9;go_simp;try (with_reducible rfl)
     simp only[SL];refine eW (i:=8) 51 (v:=?v51) rfl rfl (by kernel_rfl) (by kernel_rfl) (by kernel_rfl) (fun _ _ _ h=>h) hSd (by rfl) ?h51 ?r51
     case h51=>
      intro w9 s9;clear s9;go_simp;try (with_reducible rfl)
     simp only[SL];refine eW (i:=9) 52 (v:=?v52) rfl rfl (by kernel_rfl) (by kernel_rfl) (by kernel_rfl) (fun _ _ _ h=>h) hSd (by rfl) ?h52 ?r52
     case h52=>
      intro w9 s9;clear s9;go_simp;try (with_reducible rfl)
     simp only[SL];refine eW (i:=10) 53 (v:=?v53) rfl rfl (by kernel_rfl) (by kernel_rfl) (by kernel_rfl) (fun _ _ _ h=>h) hSd (by rfl) ?h53 ?r53
     case h53=>
      intro w9 s9;have k9:=(kD (i:=vo+m) (s9 vb HHV.1)).trans HHV.2;clear s9;go_simp;try (with_reducible rfl)
     simp only[SL];refine eW (i:=11) 54 (v:=?v54) rfl rfl (by kernel_rfl) (by kernel_rfl) (by kernel_rfl) (fun _ _ _ h=>h) hSd (by rfl) ?h54 ?r54
     case h54=>
      intro w9 s9;clear s9;go_simp;try (with_reducible rfl)
     simp only[SL];refine rG (i:=12) rfl (by kernel_rfl) (by rfl) (fun K hK=>?_);have HK:=Hd hK;clear hK;have hyl:=HYL.o;unfold YT at hyl;go_simp;refine⟨rfl,HRR.mono ?_⟩;rintro e w8 ⟨C8,ho8,(⟨rfl,hj8⟩|⟨rfl,hj8⟩)⟩
     ·have U8:=HUd.round ho8
      have T8:=HTd.round ho8 fun k hk hf=>HUd.cg k hk (.inl hf)
      rw[<-xE him HZ.o] at hj8;have HU8:=Hd U8;have HT8:=Hd T8;have HJ8:=Hd hj8;refine HK _ _ (fun k hk=>(U8.hk k hk).2) ?_;clear HK K hyl HYL HRR hSd HUd HTd U8 T8 ho8 hj8;try simp only[Act.put,SL]
      refine rG (i:=13) rfl (by kernel_rfl) (by rfl) (fun K hK=>?_);have HK:=Hd hK;clear hK;go_simp;refine HK _ _ (fun k hk=>(HU8.hk k hk).2) ?_;clear HK K;try simp only[Act.put,SL]
      refine MM (by kernel_rfl) ?_ _;simp only[pU];have e4:IntKind.i64.wrap ((m:Int)+1)=((m+1:Nat):Int):=by rw[show(m:Int)+1=((m+1:Nat):Int) by omega];exact IntWalk.i64_in _ (by have h2:=HNR.k2;have h3:=HNR.k3;have:=HLT.o;unfold maxLen at h3;omega)
      go_wp2_with fail;refine⟨⟨m+1,C8,rfl,by omega,HLT.o,HU8,HT8,HJ8⟩,?_⟩;have:=HLT.o;simp[intOf];omega
     ·have U8:=HUd.round ho8
      have T8:=HTd.round ho8 fun k hk hf=>HUd.cg k hk (.inl hf)
      rw[<-xE him HZ.o] at hj8;have HU8:=Hd U8;have HT8:=Hd T8;have HJ8:=Hd hj8;refine HK _ _ (fun k hk=>(U8.hk k hk).2) ?_;clear HK K hyl HYL HRR hSd HUd HTd U8 T8 ho8 hj8;try simp only[Act.put,SL]
      refine rG (i:=13) rfl (by kernel_rfl) (by rfl) (fun K hK=>?_);have HK:=Hd hK;clear hK;go_simp;refine HK _ _ (fun k hk=>(HU8.hk k hk).2) ?_;clear HK K;try simp only[Act.put,SL]
      refine MM (by kernel_rfl) ?_ _;simp only[pU];go_wp2_with fail;exact aB4 (P:=Tryz.prog) rfl (fun k hk=>.inl hk) hJ hJx HU8 HT8 (by omega) (by simp) [] (Marks.nil _) (fun D hD=>by cases hD) (.inr ⟨_,by rw[HSE.o];exact TO _ _ _,HJ8.o⟩) rfl
    ·obtain rfl:m=M.K.length:=by omega
     have hli:¬ ((M.K.length:Nat):Int)<(M.K.length:Int):=by omega
     go_wp2_with fail;refine aB4 (P:=Tryz.prog) rfl (fun k hk=>.inl hk) hJ hJx HUr HTr (by omega) (by simp) [] (Marks.nil _) (fun D hD=>by cases hD) (.inl ?_) hy;rw[HSE.o];have:=HJr.o;rwa [List.take_of_length_le (by rw[List.length_zip,HVK.o];omega)] at this
  ·subst hPQ
   obtain⟨Qd,hQd⟩:∃ Qd,Q.drop i=Qd:=⟨_,rfl⟩
   have hDL:Qd.length=Q.length-i:=by rw[<-hQd,List.length_drop]
   have hCL:M.C.length=Q.length:=by rw[hQC,cQ]
   obtain⟨cb,off,hac,hcbl,hX⟩:=HNR.c.at 0 (by rw[List.length_map];omega);clear hX;obtain⟨cD,hcD⟩:∃ cD,cc-i=cD:=⟨_,rfl⟩
   have hsl:∀ w:World,(Instr.slice 36 (.slice (some ⟨cb,off,none⟩) M.C.length cc) (some (.int .i64 (i:Int))) none none).run Tryz.prog w=.ok (.slice (some ⟨cb,off+i,none⟩) Qd.length cD) w:=fun w=>by
    have hi1:(i:Int)<=(M.C.length:Int):=by omega
    have hi0:(0:Int)<=(i:Int):=Int.natCast_nonneg i;have hcc:¬ cc=i:=by have:=HNR.c2;omega
    have e1:M.C.length-i=Qd.length:=by omega
    clear hQC hQd hDL hCL hQL hQs hSE ih;go_simp;try simp[e1]
   have HSL:=Hd hsl;have HQL:=Hd (And.intro hDL hQL);have HQC:=Hd (And.intro hQC (And.intro hCL hQd));have HQS:=Hd hQs;have HSE:=Hd hSE;subst hac;clear hQs hSE hQL hDL hcbl hQC hCL hQd HSC HNT;go_wp2_with fail;have HHY:Hid (H y):=Hd (by rw[HHH.o];exact .inl rfl)
   have HHC:Hid (H cb/\∀ j,j<M.C.length->w4.cell? ⟨cb,off+j,none⟩=some ((M.C.map dT).getD j undef)):=Hd (by
    have hne:M.C≠[]:=fun e=>by have h1:=HQC.2.1;have h2:=HQL.2;rw[e] at h1;simp at h1;omega
    refine⟨by rw[HHH.o];exact .inr (.inr (.inl ⟨_,rfl,rfl,hne⟩)),fun j hj=>?_⟩;obtain⟨cb',off',e1,e2,e3⟩:=HNR.c.at j (by rw[List.length_map];exact hj);injection e1 with e1;injection e1 with e1 e4;subst e1 e4;rw[e3,List.getD_eq_getElem?_getD,List.getElem?_eq_getElem (by rw[List.length_map];exact hj)]
    rfl)
   refine wp_loop (fun a wr=>∃ (m:Nat) (C1:Nat->Prop) (r1:Nat) (Ds:List Nat) (u12 u13 u63 u64 u65 u66 u67 u68 u69 u70 u71 u72 u73 u74 u75 u76 u77 u78 u79 u80 u81 u82:Value),m<=Qd.length/\a={ tmps:=#[.func (.yield l) #[] #[],.pointer (some ⟨b0,0,none⟩),.pointer (some ⟨b1,0,none⟩),.pointer (some ⟨b2,0,none⟩),.pointer (some ⟨b3,0,none⟩),.pointer (some ⟨y,0,none⟩),.pointer (some ⟨nb,0,none⟩),.int .i64 0,.int .i64 (i:Int),.bool fd,undef,undef,u12,u13,.tuple #[.agg #[.bool false,.slice ak M.K.length ck,.slice av M.V.length cv,.slice (some ⟨cb,off,none⟩) M.C.length cc],.int .i64 0],.pointer (some ⟨g,0,none⟩),.int .i64 p,.int .i64 dp,.tuple #[.agg #[.bool false,.slice ak M.K.length ck,.slice av M.V.length cv,.slice (some ⟨cb,off,none⟩) M.C.length cc],.int .i64 0],.agg #[.bool false,.slice ak M.K.length ck,.slice av M.V.length cv,.slice (some ⟨cb,off,none⟩) M.C.length cc],.int .i64 0,.int .i64 0,.bool false,undef,undef,undef,undef,.tuple #[.int .i64 (i:Int),.bool fd],.agg #[.bool false,.slice ak M.K.length ck,.slice av M.V.length cv,.slice (some ⟨cb,off,none⟩) M.C.length cc],.int .u64 key,.tuple #[.int .i64 (i:Int),.bool fd],.int .i64 (i:Int),.bool fd,.pointer (some ⟨nb,0,none⟩),.bool false,undef,undef,undef,undef,undef,undef,undef,undef,undef,undef,undef,undef,undef,undef,undef,undef,undef,undef,undef,undef,undef,undef,.pointer (some ⟨nb,3,none⟩),.slice (some ⟨cb,off,none⟩) M.C.length cc,.int .i64 (i:Int),.slice (some ⟨cb,off+i,none⟩) Qd.length cD,.int .i64 (Qd.length:Int),.int .i64 (m:Int),u63,u64,u65,u66,u67,u68,u69,u70,u71,u72,u73,u74,u75,u76,u77,u78,u79,u80,u81,u82],defers:=Ds.map mkD }/\Hid (Under W C (FF F b0 b1 b2 b3) H w4 C1 wr)/\Hid (TS wr d s g dk st r1 F)/\Hid (r+1<=r1/\r1<=r+1+(kPs (Qd.take m)).length)/\Hid (J (scQ key (Qd.take m)) C1 wr)/\Hid (Marks wr Ds/\∀ D∈Ds,w4.heap.size<=D/\¬ C1 D)) (fun a _=>Qd.length-(intOf (a.tmps.getD 62 undef)).toNat) ?_ ?_
   ·exact⟨0,C,r+1,[],_,_,_,_,_,_,_,_,_,_,_,_,_,_,_,_,_,_,_,_,_,_,Nat.zero_le _,rfl,HU,HT4,Hd (by simp),Hd (by simpa[scQ] using HJ4.o),Hd ⟨Marks.nil _,fun D hD=>by cases hD⟩⟩
   ·clear HU HT4 HJ4
    rintro a wr ⟨m,C1,r1,Ds,u12,u13,u63,u64,u65,u66,u67,u68,u69,u70,u71,u72,u73,u74,u75,u76,u77,u78,u79,u80,u81,u82,hm,rfl,HUr,HTr,HRr,HJr,HMr⟩
    by_cases hlt:m<Qd.length
    ·have hli:(m:Int)<(Qd.length:Int):=by omega
     obtain⟨q,hq⟩:∃ q,Qd[m]?=some q:=⟨_,List.getElem?_eq_getElem hlt⟩
     have hqQ:Q[i+m]?=some q:=by rw[<-HQC.2.2,List.getElem?_drop] at hq;exact hq
     obtain⟨hIT,hSM⟩:=HQS q (List.mem_of_getElem? hqQ);obtain⟨hk1,hk2⟩:=aDV hq;obtain⟨hx1,hx2⟩:=aDI (key:=key) hq;have hcell:=HHC.2 (i+m) (by have h1:=HQL.1;have h2:=HQC.2.1;omega)
     have hcv:(M.C.map dT).getD (i+m) undef=.int .i64 q.p:=by
      rw[HQC.1,kP,List.map_map,List.getD_eq_getElem?_getD,List.getElem?_map,hqQ]
      rfl
     rw[hcv] at hcell;have hcr:=(kD (i:=off+(i+m)) (HUr.hk cb HHC.1).2).trans hcell;rw[<-Nat.add_assoc] at hcr;have hbr:BoxF wr g p dp key b0 b1 b2 b3:=HB4.kept (HUr.hk b0 (by rw[HHH.o];exact .inr (.inr (.inr (.inr (.inr (.inl rfl))))))).2 (HUr.hk b1 (by rw[HHH.o];exact .inr (.inr (.inr (.inr (.inr (.inr (.inl rfl)))))))).2 (HUr.hk b2 (by rw[HHH.o];exact .inr (.inr (.inr (.inr (.inr (.inr (.inr (.inl rfl))))))))).2 (HUr.hk b3 (by rw[HHH.o];exact .inr (.inr (.inr (.inr (.inr (.inr (.inr (.inr rfl))))))))).2
     have hyr:=(HUr.hk y HHY.o).2.trans HY4.o;have v0:=(aE hbr.v).1;have v2:=(aE hbr.d).1;have v3:=(aE hbr.k).1;have e1:IntKind.i64.wrap (dp+1)=dp+1:=IntWalk.i64_in _ (by omega);have HIT:=Hd (And.intro hIT hSM);have HK1:=Hd (And.intro hk1 hk2);have HX1:=Hd (And.intro hx1 hx2);have HBR:=Hd hbr;have HYR:=Hd hyr;have HML:=Hd hlt;clear hIT hSM hk1 hk2 hx1 hx2 hcv hcell hbr hyr hlt hqQ;go_wp2_with fail;refine(MI wr g q.p (dp+1) key).mono ?_;rintro e w6 ⟨rfl,hbx,b6,s6⟩;obtain⟨bk,hbk⟩:∃ bk,wr.heap.size=bk:=⟨_,rfl⟩
     rw[hbk] at hbx b6 s6 |-;go_wp2_with fail;have hTr:=HTr.o;have hUr:=HUr.o;have hT6:=hTr.below (by rw[hbk];exact b6);have hFlt:=hTr.lt;have hq0:(kPs (Qd.take m)).length+(q.P.length+(kPs (Qd.drop (m+1))).length)=(kPs Qd).length:=by rw[HK1.1,List.length_append,List.length_append]
     have hq1:(kPs Qd).length<=(kPs Q).length:=by rw[<-HQC.2.2];exact CB Q i
     have hit:=ih h' hh' w6 d s g dk st r1 F hT6 hu q.p q.F q.P HIT.1 HIT.2 (dp+1) (by omega) (by omega) (by have:=HRr.o;simp only[List.length_cons] at hr;omega) bk (bk+1) (bk+2) (bk+3) hbx ⟨fun h=>by have:=hFlt _ h;omega,fun h=>by have:=hFlt _ h;omega,fun h=>by have:=hFlt _ h;omega,fun h=>by have:=hFlt _ h;omega⟩;have hHyF:H y:=HHY.o
     have hFH:∀ k,F k->¬ H k:=fun k hk hh=>by
      have hkW:=hU0F k hk;rw[HHH.o] at hh
      rcases hh with rfl|rfl|⟨x,h2,h3,_⟩|⟨x,h2,h3,_⟩|⟨x,h2,h3,_⟩|rfl|rfl|rfl|rfl
      ·omega
      ·have:=H23.2;omega
      ·have:=HCB.1 _ h2;omega
      ·have:=HCB.2.1 _ h2;omega
      ·have:=HCB.2.2 _ h2;omega
      ·exact hbF.1 hk
      ·exact hbF.2.1 hk
      ·exact hbF.2.2.1 hk
      ·exact hbF.2.2.2 hk
     have hy6:w6.heap[y]?=some (.cells #[.func (.yield l) #[] #[]] 253):=(b6.block y (by rw[<-hbk];exact(zl HYR.o))).trans HYR.o;have hCbk:∀ k,C1 k->k<bk:=fun k hk=>by rw[<-hbk];exact hlt _ _ _ HJr k hk
     have hyW:y<bk:=by rw[<-hbk];exact(zl HYR.o)
     have hJ6:J (scQ key (Qd.take m)) C1 w6:=hJ _ _ _ _ HJr (.of_frm (G:=fun _=>False) (Frm.of_below (by rw[hbk];exact b6)) fun _ _ h=>h)
     have AFT:∀ (D:Nat) (C' C2:Nat->Prop) (Wz:World),w6.heap.size<=D->(∀ k,C' k ↔ C2 k\/k=y)->Wz.heap[y]?=some (.cells #[.func (.yield l) #[] #[]] 253)->¬ C2 y->Frm (fun k=>(C1 k\/k=y)\/FF F bk (bk+1) (bk+2) (bk+3) k) w6 Wz->(∀ k,C' k->(C1 k\/k=y)\/w6.heap.size<=k)->¬ C' D->Wz.heap[D]?=some (.deferred (some []))->Under W C (FF F b0 b1 b2 b3) H w4 C2 Wz/\(Marks Wz (D::Ds)/\∀ D'∈D::Ds,w4.heap.size<=D'/\¬ C2 D'):=by
      intro D C' C2 Wz hDz hDi hy2 hn2 hfr hC' hnD hdef;have hnH:∀ j,bk<=j->¬ H j:=fun j hj hh=>by have:=(hUr.hk _ hh).1;have:=hUr.sz;omega
      have U2:=hUr.after (C':=C2) (by rw[hbk];exact b6) hfr (fun k hk=>by
       rcases hk with hk|rfl|rfl|rfl|rfl
       ·exact⟨.inl (.inl hk),hFH k hk⟩
       ·exact⟨.inr (by omega),hnH _ (by omega)⟩
       ·exact⟨.inr (by omega),hnH _ (by omega)⟩
       ·exact⟨.inr (by omega),hnH _ (by omega)⟩
       ·exact⟨.inr (by omega),hnH _ (by omega)⟩) (hy2.trans HY4.symm) (by omega) (fun k hk=>by
       rcases hC' k ((hDi k).2 (.inl hk)) with(h1|h1)|h1
       ·exact .inl h1
       ·exact absurd (h1 ▸ hk) hn2
       ·exact .inr (by omega))
      have hfz:=hfr.size
      have hM2:Marks Wz (D::Ds)/\∀ D'∈D::Ds,w4.heap.size<=D'/\¬ C2 D':=by
       have hsz:=hUr.sz;refine⟨(HMr.1.on fun D' hD'=>?_).cons (fun hm'=>?_) hdef,fun D' hD'=>?_⟩
       ·have hl:=HMr.1.lt D' hD'
        rw[hfr.block D' (by omega) (fun hx=>by
         rcases hx with(hx|rfl)|hx|rfl|rfl|rfl|rfl
         ·exact(HMr.2 D' hD').2 hx
         ·have:=(HMr.2 _ hD').1;have:=(hUr.hk _ hHyF).1;omega
         ·have:=hU0F _ hx;have:=(HMr.2 _ hD').1;have:=(hUr.hk _ hHyF).1;omega
         ·omega
         ·omega
         ·omega
         ·omega),b6.block D' (by omega)]
       ·have:=HMr.1.lt D hm';omega
       ·rcases List.mem_cons.1 hD' with rfl|hD'
        ·exact⟨by omega,fun hx=>hnD ((hDi _).2 (.inl hx))⟩
        ·refine⟨(HMr.2 D' hD').1,fun hx=>?_⟩
         have hl:=HMr.1.lt D' hD'
         rcases hC' D' ((hDi D').2 (.inl hx)) with(h1|h1)|h1
         ·exact(HMr.2 D' hD').2 h1
         ·exact hn2 (h1 ▸ hx)
         ·omega
      exact⟨U2,hM2⟩
     refine(wpIn_wide (n:=0)).1 (tD rfl (enters_of Tryz.func181 (by kernel_rfl) rfl) hit (fun Wz lz o hz hv=>?_) (fun k hk=>?_) (by intro _;rfl) (fun k=>C1 k\/k=y) (fun k hk hg=>?_) (IA J (scQ key (Qd.take m)) y (.cells #[.func (.yield l) #[] #[]] 253)) (fun c pre D Wz=>c=.ret/\IA Jx (scQ key (Qd.take m)) y (.cells #[.func (.yield l) #[] #[]] 253) pre D Wz) (IA.on hJ) (fun c s D A B hh ho=>⟨hh.1,IA.on hJx s D A B hh.2 ho⟩) (IA.lt hlt0J) (fun c s D A hh=>IA.lt hltx s D A hh.2) ⟨C1,fun _=>Iff.rfl,by rw[List.append_nil];exact hJ6,hy6,fun e=>hUr.ch y e hHyF⟩ ?_ ?_ ?_)
     ·obtain⟨r',g1,g2,g3⟩:=hv
      exact⟨r',g1,g2,g3.frm (cV Wz lz o) fun k hk e=>by have:=hT6.lt k hk;omega⟩
     ·rcases hk with hk|rfl|rfl|rfl|rfl
      ·exact hT6.lt k hk
      ·omega
      ·omega
      ·omega
      ·omega
     ·rcases hk with hk|rfl
      ·rcases hg with hg|rfl|rfl|rfl|rfl
       ·exact hUr.cg k hk (.inl hg)
       ·have:=hCbk _ hk;omega
       ·have:=hCbk _ hk;omega
       ·have:=hCbk _ hk;omega
       ·have:=hCbk _ hk;omega
      ·rcases hg with hg|rfl|rfl|rfl|rfl
       ·exact hFH _ hg hHyF
       ·omega
       ·omega
       ·omega
       ·omega
     ·intro l' pre x D Wz hpre hI hD hz hnl hll
      have bE:=aB Wz (.cells #[.int .u64 x.1,.string x.2] 183);have nE:=han Wz (.cells #[.int .u64 x.1,.string x.2] 183);obtain⟨Wa,hWa⟩:∃ Wa,Wz.alloc (.cells #[.int .u64 x.1,.string x.2] 183)=Wa:=⟨_,rfl⟩
      rw[hWa] at bE nE;unfold YT;gi_wp2;try rw[hWa]
      refine⟨bE,fun Wb hfb hIb=>?_⟩;obtain⟨C2,hDi,hjb,hyb,hnb⟩:=hIb
      obtain⟨fn2,tmps2,assign2,body2,hyl2,hRR2⟩:=hR (scQ key (Qd.take m)++pre) x C2 Wb (by
       rw[HSE.o,HQC.2.2,HX1.1,List.append_assoc];exact(List.prefix_append_right_inj _).2 (hpre.trans (List.prefix_append _ _))) hjb
      have cyb:=(aE hyb).1;have eb:Wb.heap[Wz.heap.size]?=some (.cells #[.int .u64 x.1,.string x.2] 183):=(hfb.block _ (zl nE) (by omega)).trans nE;obtain⟨eb0,eb1⟩:=yR eb;unfold YT at hyl2;gi_wp2;refine⟨rfl,?_⟩;refine hRR2.mono ?_;rintro e w8 ⟨C8,ho8,(⟨rfl,hj8⟩|⟨rfl,hj8⟩)⟩
      ·gi_wp2
       exact IA.next hDi hyb hnb ho8 hj8
      ·gi_wp2
       obtain⟨D',hD1,hD2⟩:=IA.next (J':=Jx) hDi hyb hnb ho8 hj8;exact⟨D',hD1,rfl,hD2⟩
     ·intro D C' Wz hDz hI hV hfr hC' hnD hdef
      obtain⟨C2,hDi,hj2,hy2,hn2⟩:=hI;obtain⟨r',g1,g2,hT'⟩:=hV;obtain⟨U2,hM2⟩:=AFT D C' C2 Wz hDz hDi hy2 hn2 hfr hC' hnD hdef;have hbz:BoxF Wz g p dp key b0 b1 b2 b3:=HB4.kept (U2.hk b0 (by rw[HHH.o];exact .inr (.inr (.inr (.inr (.inr (.inl rfl))))))).2 (U2.hk b1 (by rw[HHH.o];exact .inr (.inr (.inr (.inr (.inr (.inr (.inl rfl)))))))).2 (U2.hk b2 (by rw[HHH.o];exact .inr (.inr (.inr (.inr (.inr (.inr (.inr (.inl rfl))))))))).2 (U2.hk b3 (by rw[HHH.o];exact .inr (.inr (.inr (.inr (.inr (.inr (.inr (.inr rfl))))))))).2;have z0:=(aE hbz.v).1
      have z2:Wz.cell? ⟨g,2,none⟩=some (.int .i64 0):=by
       obtain⟨FD,FS,hi,_⟩:=hT';exact(cH hi.v).2.2.1
      have HU2:=Hd U2;have HT2:=Hd hT';have HM2:=Hd hM2;have HJ2:Hid (J (scQ key (Qd.take (m+1))) C2 Wz):=Hd (by rw[HX1.2];exact hj2);have HR2:Hid (r+1<=r'/\r'<=r+1+(kPs (Qd.take (m+1))).length):=Hd (by have:=HRr.o;rw[HK1.2,List.length_append];omega);have e4:IntKind.i64.wrap ((m:Int)+1)=((m+1:Nat):Int):=by rw[show(m:Int)+1=((m+1:Nat):Int) by omega];exact IntWalk.i64_in _ (by have h2:=HNR.c2;have h3:=HNR.c3;have:=HML.o;have h4:=HQL.1;have h5:=HQC.2.1;unfold maxLen at h3;omega)
      clear U2 hT' hM2 hbz hj2 hit hFH hCbk hJ6 hy6 hfr hC' hDi;go_wp2_with fail;refine⟨⟨m+1,C2,r',D::Ds,_,_,_,_,_,_,_,_,_,_,_,_,_,_,_,_,_,_,_,_,_,_,HML.o,rfl,HU2,HT2,HR2,HJ2,HM2⟩,?_⟩;have:=HML.o;simp[intOf];omega
     ·rintro D c pre C' Wz hDz hpre ⟨rfl,hI⟩ hV hfr hC' hnD hdef
      obtain⟨C2,hDi,hj2,hy2,hn2⟩:=hI;obtain⟨r',g1,g2,hT'⟩:=hV;obtain⟨U2,hM2⟩:=AFT D C' C2 Wz hDz hDi hy2 hn2 hfr hC' hnD hdef;refine wpIn_wide.2 ?_;go_wp2_with fail;refine aB4 (P:=Tryz.prog) rfl (fun k hk=>.inl hk) hJ hJx U2 hT' (by have:=HRr.o;omega) (by have:=HRr.o;show r'<=r+((kPs Q).length+1);omega) (D::Ds) hM2.1 (fun D' hD'=>⟨Nat.le_trans U2.zz (hM2.2 D' hD').1,(hM2.2 D' hD').2⟩) (.inr ⟨scQ key (Qd.take m)++pre,?_,hj2⟩) rfl;rw[HSE.o,HQC.2.2,HX1.1];exact(List.prefix_append_right_inj _).2 (hpre.trans (List.prefix_append _ _))
    ·obtain rfl:m=Qd.length:=by omega
     have hli:¬ ((Qd.length:Nat):Int)<(Qd.length:Int):=by omega
     go_wp2_with fail;refine aB4 (P:=Tryz.prog) rfl (fun k hk=>.inl hk) hJ hJx HUr HTr (by have:=HRr.o;omega) (by have h1:=HRr.2;have h2:=CB Q i;rw[HQC.2.2] at h2;rw[List.take_length] at h1;show r1<=r+((kPs Q).length+1);omega) Ds HMr.1 (fun D hD=>⟨Nat.le_trans HUr.zz (HMr.2 D hD).1,(HMr.2 D hD).2⟩) (.inl ?_) hy;have:=HJr.o;rw[List.take_length] at this;rw[HSE.o,HQC.2.2];exact this
attribute [local go_sem] Oper.semAt_some
def PQ (e:Ent):List Value:=[.int .u64 e.1,.string e.2]
def jY (L:List Ent):List Value:=(L.map PQ).flatten
theorem GB (L:List Ent)(x:Ent):jY (L++[x])=jY L++PQ x:=by simp[jY]
theorem IS:∃ i z,Tryz.prog.info? 183=some i/\i.zero=some z/\i.size=2/\i.bytes=24/\z.cells.size=2:=by
 have h:(Tryz.prog.info? 183).bind (fun i=>i.zero.map fun z=>(i.size,i.bytes,z.cells.size))=some (2,24,2):=by kernel_rfl
 cases hq:Tryz.prog.info? 183 with
 | none=>rw[hq] at h;cases h
 | some i=>
  rw[hq] at h
  cases hz:i.zero with
  | none=>simp[hz] at h
  | some z=>simp[hz] at h;exact⟨i,z,rfl,hz,h.1,h.2.1,h.2.2⟩
def ScI (lb mb:Nat)(most:Int)(pre:List Ent)(C:Nat->Prop)(W:World):Prop:=
 ∃ v,W.heap[lb]?=some (.cells #[v] 180)/\W.heap[mb]?=some (.cells #[most] 3)/\W.ownsRow (lb+1) 183 2 v pre.length (jY pre)/\∀ k,C k ↔ k=lb\/k=mb\/v.ownBlock=some k
theorem ScI.on {lb mb:Nat}{most:Int}{pre:List Ent}{C:Nat->Prop}{A B:World}(h:ScI lb mb most pre C A)(ho:OnC C A B):ScI lb mb most pre C B:=by
 obtain⟨v,h1,h2,h3,h4⟩:=h;have lt:∀ {k:Nat} {o:Obj},A.heap[k]?=some o->k<A.heap.size:=fun h=>(zl h)
 refine⟨v,(ho.block _ (lt h1) ((h4 _).2 (.inl rfl))).trans h1,(ho.block _ (lt h2) ((h4 _).2 (.inr (.inl rfl)))).trans h2,⟨h3.1,?_⟩,h4⟩
 rcases h3.2 with hx|⟨g,cap,cur,hv,hbg,hh,r⟩
 ·exact .inl hx
 ·exact .inr ⟨g,cap,cur,hv,hbg,(ho.block g (lt hh) ((h4 g).2 (.inr (.inr (by rw[hv];rfl))))).trans hh,r⟩
theorem ScI.lt {lb mb:Nat}{most:Int}{pre:List Ent}{C:Nat->Prop}{A:World}(h:ScI lb mb most pre C A)(k:Nat)(hk:C k):k<A.heap.size:=by
 obtain⟨v,h1,h2,h3,h4⟩:=h
 rcases(h4 k).1 hk with rfl|rfl|h5
 ·exact(zl h1)
 ·exact(zl h2)
 ·exact(h3.lt k h5).2
theorem vT (key:Int)(E:List Ent):(bD key E).length<=E.length:=List.length_filter_le ..
theorem VH (w:World)(d s:Nat)(dk:DkS)(st:ShS)(F:Nat->Prop)(h:SD w d s dk st F)(G:eY dk st)(root:Int)(E:List Ent)(ht:(root=0/\E=[])\/∃ hh F0 P0,IsT (Rn dk) hh root F0 P0/\bY F0/\aD F0=E/\P0.length<=640)(hE:E.length<=600)(key most:Int) :
  () 141 #[.pointer (some ⟨s,0,none⟩),root,.int .u64 key,most] w fun e w'=>∃ v,e=.returned (.tuple #[v,(0:Int)])/\w'.ownsRow w.heap.size 183 2 v ((bD key E).take most.toNat).length (jY ((bD key E).take most.toNat))/\SD w' d s dk st F/\Frm F w w':=by
 by_cases hz:root=0\/most<1
 ·have e1:(bD key E).take most.toNat=[]:=by
   rcases hz with hz|hz
   ·rcases ht with⟨_,rfl⟩|⟨hh,F0,P0,hi,hs,rfl,hl⟩
    ·simp[bD]
    ·obtain⟨M,PM,m1,_⟩:=hi
     have:=(sH m1).1;omega
   ·rw[show most.toNat=0 by omega];rfl
  have FIN:Hid (∀ w',Below w.heap.size w w'->w'.ownsRow w.heap.size 183 2 (.slice none 0 0) 0 []/\SD w' d s dk st F/\Frm F w w'):=Hd (fun w' hb=>⟨World.ownsRow_nil _ _ _ _,h.below hb,Frm.of_below hb⟩);rw[e1]
  have hr:(root==0)=true\/((root==0)=false/\most<1):=by
   by_cases h0:root=0
   ·exact .inl (by rw[h0];rfl)
   ·exact .inr ⟨beq_eq_false_iff_ne.2 h0,by omega⟩
  have bA:Hid (Below w.heap.size w (w.alloc (.cells #[most] 3))):=Hd (aB _ _);clear h G ht hz e1
  rcases hr with hr|⟨hr,hm⟩
  ·go_enter Tryz.func141,Tryz.ntmps141
   go_wp2_with fail;go_ret2;exact⟨_,rfl,FIN _ bA.o⟩
  ·go_enter Tryz.func141,Tryz.ntmps141
   go_wp2_with fail;go_ret2;exact⟨_,rfl,FIN _ bA.o⟩
 ·rcases ht with⟨rfl,rfl⟩|⟨hh,F0,P0,hi,hs,rfl,hl⟩
  ·exact absurd (.inl rfl) hz
  have h9:=hi.low hE;have hP:P0.length<=640:=hl;have h0':(root==0)=false:=beq_eq_false_iff_ne.2 fun e=>hz (.inl e)
  have hm1:¬ most<1:=fun e=>hz (.inr e)
  have hu:=G.su;obtain⟨n0,hn0⟩:∃ n0,w.heap.size=n0:=⟨_,rfl⟩
  obtain⟨x0,hx0⟩:∃ x0,w.alloc (.cells #[most] 3)=x0:=⟨_,rfl⟩
  have b0:=aB w (.cells #[most] 3);have m0:=han w (.cells #[most] 3);have z0:(w.alloc (.cells #[most] 3)).heap.size=n0+1:=by simp[hn0]
  rw[hx0,hn0] at b0 m0;rw[hx0] at z0;obtain⟨x1,hx1⟩:∃ x1,x0.alloc (jT s 0)=x1:=⟨_,rfl⟩
  have b1:=aB x0 (jT s 0);have T1:=(h.below (by rw[hn0];exact b0)).visit;have z1:(x0.alloc (jT s 0)).heap.size=n0+2:=by simp[z0]
  rw[hx1,z0] at b1 T1;rw[hx1] at z1;obtain⟨x2,hx2⟩:∃ x2,x1.alloc (.cells #[.slice none 0 0] 180)=x2:=⟨_,rfl⟩
  have b2:=aB x1 (.cells #[.slice none 0 0] 180);have l2:=han x1 (.cells #[.slice none 0 0] 180);have z2:(x1.alloc (.cells #[.slice none 0 0] 180)).heap.size=n0+3:=by simp[z1]
  rw[hx2,z1] at b2 l2;rw[hx2] at z2;have T2:=T1.below (by rw[z1];exact b2);have m2:x2.heap[n0]?=some (.cells #[most] 3):=(b2.block _ (by omega)).trans ((b1.block _ (by omega)).trans m0);have bw2:Below n0 w x2:=(b0.trans (b1.mono (by omega))).trans (b2.mono (by omega));have FI:=Hd (MI x2 (n0+1) root 1 key);have hx1':x0.alloc (.cells #[.pointer (some ⟨s,0,none⟩),(0:Int),(0:Int)] 157)=x1:=hx1;clear hx1;refine(callsIn_wide (n:=0)).1 (callsIn_of_wp_marks (F:=Fence.wide) (n:=0) Tryz.func141 rfl trivial (wpIn_wide.2 ?_) rfl)
  simp only[Tryz.ntmps141,List.size_toArray,List.length_cons,List.length_nil,Nat.reduceAdd,Nat.reduceSub,Array.replicate_succ,Array.replicate_zero,List.push_toArray,List.append_toArray,List.nil_append,List.cons_append];have HL:=Hd (And.intro m2 l2);have HT2:=Hd T2;have HB:=Hd (And.intro bw2 z2);have HH:=Hd h;have HI:=Hd (And.intro hi (And.intro hs (And.intro h9 hP)));have HX:=Hd (And.intro hx0 (And.intro hx1' hx2));have HN:=Hd hn0;have HE6:=Hd hE;clear T1 T2 b0 b1 b2 m0 l2 m2 bw2 h hi hs hl hz hE G z0 z1 hx0 hx1' hx2 hn0 h9 hP;go_wp2_with fail
  rw[HX.1,HX.2.1,HX.2.2,HN.o];refine FI.mono ?_;rintro e w6 ⟨rfl,hbx,b6,s6⟩;rw[z2] at hbx b6 s6 |-;simp only[Nat.add_assoc,Nat.reduceAdd] at hbx s6 |-;clear z2 FI;go_wp2_with fail;have hF0:∀ k,F k->k<n0:=fun k hk=>by rw[<-HN.o];exact HH.lt k hk
  have hT6:=HT2.below (by rw[HB.2];exact b6);have hm6:w6.heap[n0]?=some (.cells #[most] 3):=(b6.block _ (by omega)).trans HL.1;have hl6:w6.heap[n0+2]?=some (.cells #[.slice none 0 0] 180):=(b6.block _ (by omega)).trans HL.2;have hb6:Below n0 w w6:=HB.1.trans (b6.mono (by omega))
  have hit:=SF key hh w6 d s (n0+1) dk st 0 (fun k=>F k\/k=n0+1) hT6 hu root F0 P0 HI.1 HI.2.1 1 (by omega) (by have:=HI.2.2.1;omega) (by have:=HI.2.2.2;omega) (n0+3) (n0+4) (n0+5) (n0+6) hbx ⟨fun h=>by rcases h with h|h;(have:=hF0 _ h;omega);omega,fun h=>by rcases h with h|h;(have:=hF0 _ h;omega);omega,fun h=>by rcases h with h|h;(have:=hF0 _ h;omega);omega,fun h=>by rcases h with h|h;(have:=hF0 _ h;omega);omega⟩
  have hGn:∀ k,FF (fun k=>F k\/k=n0+1) (n0+3) (n0+4) (n0+5) (n0+6) k->F k\/k=n0+1\/n0+3<=k:=fun k hk=>by
   rcases hk with(hk|hk)|hk|hk|hk|hk
   ·exact .inl hk
   ·exact .inr (.inl hk)
   all_goals exact .inr (.inr (by omega))
  have FIN:∀ (D:Nat) (v:Value) (L:List Ent) (C':Nat->Prop) (W W':World),w6.heap.size<=D->ScI (n0+2) n0 most L C' W->(∀ k,C' k ↔ k=n0+2\/k=n0\/v.ownBlock=some k)->W.ownsRow (n0+2+1) 183 2 v L.length (jY L)->VP d s (n0+1) dk st 0 (fun k=>F k\/k=n0+1) P0.length W->Frm (fun k=>(k=n0+2\/k=n0)\/FF (fun k=>F k\/k=n0+1) (n0+3) (n0+4) (n0+5) (n0+6) k) w6 W->¬ C' D->Frm (fun k=>k∈[D]) W W'->W'.ownsRow n0 183 2 v L.length (jY L)/\SD W' d s dk st F/\Frm F w W':=by
   intro D v L C' W W' hD hS hC hown hV hfr hnD hm;refine⟨?_,?_⟩
   ·have h1:=gZ hown hm fun k hk hd=>by
     rw[List.mem_singleton] at hd;exact hnD ((hC D).2 (.inr (.inr (hd ▸ hk))))
    refine⟨h1.1,?_⟩
    rcases h1.2 with hx|⟨g,cap,cur,hv,hbg,r⟩
    ·exact .inl hx
    ·exact .inr ⟨g,cap,cur,hv,by omega,r⟩
   ·obtain⟨r',_,_,FD,FS,hti,he⟩:=hV
    have hDn:n0+7<=D:=by omega
    have hSD:SD W d s dk st F:=⟨FD,FS,hti.ds,fun k=>⟨fun hk=>?_,fun hk=>?_⟩⟩
    ·refine⟨hSD.frm hm fun k hk hd=>?_,?_⟩
     ·rw[List.mem_singleton] at hd
      have:=hF0 k hk;omega
     ·refine((Frm.of_below (by rw[HN.o];exact hb6)).trans hfr fun k hk=>?_).trans hm fun k hk=>?_
      ·rw[HN.o]
       rcases hk with(hk|hk)|hk
       ·exact .inr (by omega)
       ·exact .inr (by omega)
       ·rcases hGn k hk with h1|h1|h1
        ·exact .inl h1
        ·exact .inr (by omega)
        ·exact .inr (by omega)
      ·rw[List.mem_singleton] at hk
       rw[HN.o];exact .inr (by omega)
    ·rcases(he k).1 (.inl hk) with h1|h1|h1
     ·exact .inl h1
     ·exact .inr h1
     ·have:=hF0 k hk;omega
    ·rcases(he k).2 (hk.imp id .inl) with h1|h1
     ·exact h1
     ·rw[h1] at hk
      rcases hk with hk|hk
      ·exact absurd hk hti.gd
      ·exact absurd hk hti.gs
  have HFIN:=Hd FIN;clear FIN
  refine(wpIn_wide (n:=0)).1 (tD rfl (enters_of Tryz.func181 (by kernel_rfl) rfl) hit (fun Wz lz o hz hv=>?_) (fun k hk=>?_) (by intro _;rfl) (fun k=>k=n0+2\/k=n0) (fun k hk hg=>?_) (fun pre C W=>ScI (n0+2) n0 most pre C W/\(pre.length:Int)<most) (fun c pre C W=>c=.exit 0/\ScI (n0+2) n0 most pre C W/\(pre.length:Int)=most) (fun s D A B hh ho=>⟨hh.1.on ho,hh.2⟩) (fun c s D A B hh ho=>⟨hh.1,hh.2.1.on ho,hh.2.2⟩) (fun s D A hh=>hh.1.lt) (fun c s D A hh=>hh.2.1.lt) ⟨⟨.slice none 0 0,hl6,hm6,World.ownsRow_nil _ _ _ _,fun k=>by simp[Value.ownBlock]⟩,by simp;omega⟩ ?_ ?_ ?_)
  ·obtain⟨r',g1,g2,g3⟩:=hv
   exact⟨r',g1,g2,g3.frm (cV Wz lz o) fun k hk e=>by have:=hT6.lt k hk;omega⟩
  ·rcases hGn k hk with h1|h1|h1
   ·have:=hF0 k h1;omega
   ·omega
   ·rcases hk with hk|hk|hk|hk|hk
    ·exact hT6.lt k hk
    all_goals omega
  ·rcases hk with rfl|rfl
   ·rcases hGn _ hg with h1|h1|h1
    ·have:=hF0 _ h1;omega
    ·omega
    ·omega
   ·rcases hGn _ hg with h1|h1|h1
    ·have:=hF0 _ h1;omega
    ·omega
    ·omega
  ·intro l pre x C1 Wz hpre hI hD hz hnl hll
   have bE:=aB Wz (.cells #[.int .u64 x.1,.string x.2] 183);have nE:=han Wz (.cells #[.int .u64 x.1,.string x.2] 183);obtain⟨Wa,hWa⟩:∃ Wa,Wz.alloc (.cells #[.int .u64 x.1,.string x.2] 183)=Wa:=⟨_,rfl⟩
   rw[hWa] at bE nE;unfold YT;gi_wp2;try rw[hWa]
   refine⟨bE,fun Wb hfb hIb=>?_⟩;have HI0:=Hd hIb;obtain⟨⟨v,e1,e2,hown,hDi⟩,hlm⟩:=hIb;have eb:Wb.heap[Wz.heap.size]?=some (.cells #[.int .u64 x.1,.string x.2] 183):=(hfb.block _ (zl nE) (by omega)).trans nE;obtain⟨eb0,eb1⟩:=yR eb;obtain⟨cy,cyf⟩:=aE e1;obtain⟨va,vc,rfl,hv1,hv2⟩:=bP hown;obtain⟨i,z,hi,hz0,hz1,hz2,hz3⟩:=IS;have OWN:=Hd hown;have HD:=Hd hDi;have HLT:=Hd hlm;have HB1:=Hd (And.intro e1 e2)
   have hlen:pre.length<=600:=by
    have h1:=hpre.length_le;have h2:=vT key (aD F0);simp at h1;have:=HE6.o;omega
   clear hown hDi hlm e1 e2 hfb eb nE bE hWa
   gi_wp2_with (gi_at_builtin;refine wpListIn_append_own_at _ rfl (.tmp 25) (.tmp 27) 180 rfl (n0+2+1) 183 i z 2 24 Tryz.underlying180 hi hz0 hz1 hz2 hz3 (by decide) _ _ _ rfl (OWN.alloc _) ⟨Wb.heap.size,0,none⟩ 1 1 (PQ x) rfl rfl ?c1 ?c2 ?c3 ?c4 ?c5 ?_)
   case c1=>
    intro j u hj
    match j,hj with
    | 0,hj=>
     injection hj with hj;subst hj;exact(yR (han Wb _)).1
    | 1,hj=>
     injection hj with hj;subst hj;exact(yR (han Wb _)).2
    | j+2,hj=>simp[PQ] at hj
   case c2=>
    intro u hu;simp only[PQ,List.mem_cons,List.not_mem_nil,or_false] at hu
    rcases hu with rfl|rfl <;> rfl
   case c3=>unfold maxLen;omega
   case c4=>omega
   case c5=>
    have:=(HI0.1.lt (n0+2) ((by obtain⟨_,_,_,_,h9⟩:=HI0.1;exact(h9 _).2 (.inl rfl))))
    simp;omega
   intro v' w9 hown' hgrow hnil hat;rw[<-GB] at hown';have olt:∀ k,(Value.slice va pre.length vc).ownBlock=some k->n0+2+1<=k/\k<Wb.heap.size:=fun k hk=>OWN.lt k hk
   have lts:=HI0.1.lt;have lb9:=lts (n0+2) ((HD _).2 (.inl rfl));have lm9:=lts n0 ((HD _).2 (.inr (.inl rfl)));have ks:∀ k,k<n0+3->k<Wb.heap.size->w9.heap[k]?=Wb.heap[k]?:=fun k h1 h2=>(hgrow.block k (by simp;omega) (fun e=>by have:=olt k e.symm;omega)).trans (hao _ _ h2)
   have a1:=(ks _ (by omega) lb9).trans HB1.1;have a2:=(ks _ (by omega) lm9).trans HB1.2;obtain⟨d1,d1f⟩:=aE a1;have d2:=(aE a2).1;obtain⟨va',vc',rfl,_,_⟩:=bP hown'
   have FR:Hid (∀ wf,w9.setCell ⟨n0+2,0,none⟩ (.slice va' (pre.length+1) vc')=wf->Own1 C1 Wb (fun k=>k=n0+2\/k=n0\/(Value.slice va' (pre.length+1) vc').ownBlock=some k) wf/\ScI (n0+2) n0 most (pre++[x]) (fun k=>k=n0+2\/k=n0\/(Value.slice va' (pre.length+1) vc').ownBlock=some k) wf):=Hd (fun wf hwf=>by
    have og:=hown'.lt;refine⟨⟨?_,fun k hk=>?_⟩,?_⟩
    ·rw[<-hwf]
     exact((((Frm.refl _ Wb).alloc _).grown hgrow fun k hk=>.inl ((HD k).2 (.inr (.inr hk)))).setCell _ _ (.inl ((HD _).2 (.inl rfl))))
    ·rcases hk with rfl|rfl|hk
     ·exact .inl ((HD _).2 (.inl rfl))
     ·exact .inl ((HD _).2 (.inr (.inl rfl)))
     ·rcases hat with h1|h1
      ·exact .inl ((HD k).2 (.inr (.inr (h1 ▸ hk))))
      ·rw[h1] at hk;injection hk with hk;exact .inr (by omega)
    ·refine⟨.slice va' (pre.length+1) vc',?_,?_,?_,fun k=>Iff.rfl⟩
     ·rw[<-hwf,hss _ _ 0 _ _ _ a1];rfl
     ·rw[<-hwf,heap_setCell_other _ _ _ _ (by show n0≠n0+2;omega)];exact a2
     ·rw[<-hwf,List.length_append]
      exact ownsRow_setCell_other hown' (fun e=>by have:=(og _ e).1;simp at this) _)
   by_cases hbr:((pre.length+1:Nat):Int)=most
   ·have hbr2:(pre.length:Int)+1=most:=by omega
    have hbr3:((pre.length:Int)+1==most)=true:=beq_iff_eq.2 hbr2;have HBR:=Hd hbr;clear hown' hgrow hnil hat olt ks a1 a2 lts lb9 lm9 HB1 OWN HD hi hz0 hz1 hz2 hz3 hv1 hv2 hbr;gi_wp2;obtain⟨f1,f2⟩:=FR _ rfl;exact⟨_,f1,rfl,f2,by rw[List.length_append];exact HBR.o⟩
   ·have hbr2:¬ (pre.length:Int)+1=most:=by omega
    have hbr3:((pre.length:Int)+1==most)=false:=beq_eq_false_iff_ne.2 hbr2;have HBR:=Hd hbr;clear hown' hgrow hnil hat olt ks a1 a2 lts lb9 lm9 HB1 OWN HD hi hz0 hz1 hz2 hz3 hv1 hv2 hbr;gi_wp2;obtain⟨f1,f2⟩:=FR _ rfl;refine⟨_,f1,f2,?_⟩;have:=HLT.o;rw[List.length_append];simp only[List.length_cons,List.length_nil];omega
  ·intro D C' W hD hI hV hfr hC' hnD hdef
   obtain⟨⟨v,e1,e2,hown,hCC⟩,hlm⟩:=hI;have HE:=Hd (HFIN D v _ C' W · hD ⟨v,e1,e2,hown,hCC⟩ hCC hown hV hfr hnD)
   have z2:W.cell? ⟨n0+1,2,none⟩=some (.int .i64 0):=by
    obtain⟨r',_,_,FD,FS,hti,_⟩:=hV;exact(cH hti.v).2.2.1
   have c1:=(aE e1).1;have HM:Hid (Marks W [D]):=Hd ((Marks.nil W).cons (by simp) hdef);have HT:Hid ((bD key (aD F0)).take most.toNat=bD key (aD F0)):=Hd (List.take_of_length_le (by omega));clear hown hV hfr hdef hit;go_wp2_with fail;refine jG [D] W HM.o fun W' hm=>⟨_,results_tmp2 (fn:=Tryz.f141) rfl _ _ _,?_⟩
   refine⟨v,rfl,?_⟩;rw[HT.o,HN.o];exact HE W' hm
  ·rintro D c pre C' W hD hpre ⟨rfl,hI,hlm⟩ hV hfr hC' hnD hdef
   obtain⟨v,e1,e2,hown,hCC⟩:=hI;have HE:=Hd (HFIN D v _ C' W · hD ⟨v,e1,e2,hown,hCC⟩ hCC hown hV hfr hnD)
   have z2:W.cell? ⟨n0+1,2,none⟩=some (.int .i64 0):=by
    obtain⟨r',_,_,FD,FS,hti,_⟩:=hV;exact(cH hti.v).2.2.1
   have c1:=(aE e1).1;have HM:Hid (Marks W [D]):=Hd ((Marks.nil W).cons (by simp) hdef);have HT:Hid ((bD key (aD F0)).take most.toNat=pre):=Hd (by rw[show most.toNat=pre.length by omega];exact(List.prefix_iff_eq_take.1 hpre).symm);clear hown hV hfr hdef hit;refine wpIn_wide.2 ?_;go_wp2_with fail;refine jG [D] W HM.o fun W' hm=>⟨_,results_tmp2 (fn:=Tryz.f141) rfl _ _ _,?_⟩
   refine⟨v,rfl,?_⟩;rw[HT.o,HN.o];exact HE W' hm
theorem aAR (w:World)(d s:Nat)(dk:DkS)(st:ShS)(F:Nat->Prop)(h:SD w d s dk st F)(G:eY dk st)(root:Int)(E:List Ent)(ht:TreeI dk st root E)(hE:E.length<=600)(key most:Int) :
  () 141 #[s,root,.int .u64 key,most] w fun e w'=>∃ v,e=.returned (.tuple #[v,(0:Int)])/\w'.ownsRow w.heap.size 183 2 v ((bD key E).take most.toNat).length (jY ((bD key E).take most.toNat))/\SD w' d s dk st F/\Frm F w w':=
 VH w d s dk st F h G root E (by
  rcases ht with⟨h1,h2,_⟩|⟨hh,F0,P0,h1,h2,h3,h4⟩
  ·exact .inl ⟨h1,h2⟩
  ·exact .inr ⟨hh,F0,P0,h1,h2,h3,aD4 h4.1 fun x hx=>h4.rng G hx⟩) hE key most
theorem VO:∀ (L:List Ent) (j:Nat) (e:Ent),L[j]?=some e->(jY L)[j*2]?=some (.int .u64 e.1)/\(jY L)[j*2+1]?=some (.string e.2):=by
 intro L
 induction L with
 | nil=>intro j e h;simp at h
 | cons x L ih=>
  intro j e h;have hc:jY (x::L)=.int .u64 x.1::.string x.2::jY L:=by simp[jY,PQ]
  rw[hc]
  cases j with
  | zero=>simp at h;subst h;exact⟨rfl,rfl⟩
  | succ j=>
   have:=ih j e (by simpa using h);rw[show(j+1)*2=j*2+1+1 by omega];exact⟨this.1,this.2⟩
def RowE (w:World)(v:Value)(L:List Ent):Prop:=w.ownsRow 0 183 2 v L.length (jY L)
theorem RowE.shape {w:World}{v:Value}{L:List Ent}(h:RowE w v L):∃ a c,v=.slice a L.length c:=by
 obtain⟨a,c,h1,_,_⟩:=bP h;exact⟨a,c,h1⟩
theorem RowE.at {w:World}{a:Option Addr}{c:Nat}{L:List Ent}(h:RowE w (.slice a L.length c) L){j:Nat}{e:Ent}(he:L[j]?=some e):∃ g,a=some ⟨g,0,none⟩/\g<w.heap.size/\w.cell? ⟨g,j*2,none⟩=some (.int .u64 e.1)/\w.cell? ⟨g,j*2+1,none⟩=some (.string e.2):=by
 have hj:j<L.length:=(List.getElem?_eq_some_iff.1 he).1;obtain⟨r1,r2⟩:=VO L j e he
 rcases h.2 with⟨_,h0⟩|⟨g,cap,cur,hv,_,hh,_⟩
 ·omega
 ·injection hv with h1 h2 h3
  subst h1 h3;exact⟨g,rfl,(zl hh),(h.cellAt (j*2) (by omega)).trans r1,(h.cellAt (j*2+1) (by omega)).trans r2⟩
theorem RowE.kept {w w':World}{v:Value}{L:List Ent}(h:RowE w v L)(hk:∀ k,v.ownBlock=some k->w'.heap[k]?=w.heap[k]?):RowE w' v L:=by
 refine⟨h.1,?_⟩
 rcases h.2 with hx|⟨g,cap,cur,hv,hbg,hh,r⟩
 ·exact .inl hx
 ·exact .inr ⟨g,cap,cur,hv,hbg,(hk g (by rw[hv];rfl)).trans hh,r⟩
