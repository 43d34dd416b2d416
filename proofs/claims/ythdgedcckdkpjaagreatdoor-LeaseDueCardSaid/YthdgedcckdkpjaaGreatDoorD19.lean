import Derived.Test.YthdgedcckdkpjaaGreatDoorD18
import Derived.RangeFuncNested
import Derived.RangeFuncLeaves
import Derived.LoopIn
import Derived.TacticsIn
import Derived.Lib.SlicesS
namespace Go.Proofs.YthdgedcckdkpjaaGreatDoor
set_option maxRecDepth 20000
set_option maxHeartbeats 12800000
set_option linter.unusedVariables false
set_option linter.unusedSimpArgs false
def bB (key:Int)(E:List Ent):List Ent:=E.filter fun e=>decide (key<=e.1)
theorem ZD:∀ (K:List Int) (V:List ByteArray),aC (cX K V)=K.zip V:=by
 intro K
 induction K with
 | nil=>intro V;cases V <;> rfl
 | cons k K ih=>
  intro V
  cases V with
  | nil=>rfl
  | cons v V=>simp only[cX,jC,ih,List.zip_cons_cons]
theorem KX {K:List Int}{V:List ByteArray}{e:Ent}(h:e∈K.zip V):e.1∈K:=(List.of_mem_zip (a:=e.1) (b:=e.2) h).1
theorem OX {R:Int->Option Nod}{N:Nod}{F:List Mk}{P:List Int}(ht:fK R 0 N F P)(hs:bT F)(key:Int) :
  ∃ i fd,bP N key=(i,fd)/\i<=N.K.length/\bB key (aC F)=(N.K.zip N.V).drop i:=by
 have hw:=eR ht;have hr:=gQ ht hs;obtain⟨h1,h2,h3,rfl,rfl⟩:=ht
 have step:∀ i,i<=N.K.length->(∀ x∈N.K.take i,x<key)->(∀ x∈N.K.drop i,key<=x)->bB key (aC (cX N.K N.V))=(N.K.zip N.V).drop i:=by
  intro i hi ha hb
  have hd:N.K.zip N.V=(N.K.take i).zip (N.V.take i)++(N.K.drop i).zip (N.V.drop i):=by
   rw[<-List.zip_append (by simp[h2])];rw[List.take_append_drop,List.take_append_drop]
  rw[ZD]
  conv=>lhs;rw[hd]
  unfold bB;rw[List.filter_append,gN _ _ (fun e he=>decide_eq_false (by have:=ha _ (KX he);omega)),gC _ _ (fun e he=>decide_eq_true (hb _ (KX he))),List.nil_append];exact(List.drop_zipWith (f:=Prod.mk) (l:=N.K) (l':=N.V) (i:=i)).symm
 obtain⟨q,h⟩:=aDP key N.K 0 hr
 rcases h with⟨e1,e2,e3,e4,e5⟩|⟨e1,e2,e3,e4⟩
 ·refine⟨q,true,?_,by omega,step q (by omega) e4 fun x hx=>?_⟩
  ·unfold bP;rw[if_pos hw,h1,e1,Nat.zero_add]
  ·have hq:N.K.drop q=key::N.K.drop (q+1):=by
    rw[List.drop_eq_getElem_cons e2]
    congr 1
    rw[List.getElem?_eq_getElem e2] at e3;exact Option.some.inj e3
   rw[hq] at hx
   rcases List.mem_cons.1 hx with rfl|hx
   ·exact Int.le_refl _
   ·have:=e5 x hx;omega
 ·refine⟨q,false,?_,e2,step q e2 e3 fun x hx=>by have:=e4 x hx;omega⟩
  unfold bP;rw[if_pos hw,h1,e1,Nat.zero_add]
theorem DH:∀ (K:List Int) (Q:List Kid),Q.length=K.length+1->aC (bH K Q)=(Q.map fun q=>aC q.F).flatten:=by
 intro K
 induction K with
 | nil=>
  intro Q h
  match Q,h with
  | [q],_=>simp[bH]
 | cons k K ih=>
  intro Q h
  match Q,h with
  | q::Q,h=>
   show aC (q.F++(k,none)::bH K Q)=_
   rw[aN,iF,ih Q (by simpa using h)]
   rfl
theorem OQ:∀ (K:List Int) (Q:List Kid),Q.length=K.length+1->bT (bH K Q)->∀ q∈Q,bT q.F:=by
 intro K
 induction K with
 | nil=>
  intro Q h hs q hq
  match Q,h with
  | [q0],_=>rw[List.mem_singleton] at hq;subst hq;exact hs
 | cons k K ih=>
  intro Q h hs q hq
  match Q,h with
  | q0::Q,h=>
   obtain⟨s1,s2,s3⟩:=aG.1 (show bT (q0.F++(k,none)::bH K Q) from hs)
   rcases List.mem_cons.1 hq with rfl|hq
   ·exact s1
   ·exact ih Q (by simpa using h) (eM.1 s2).2 q hq
theorem pN (key:Int)(A B:List Ent):bB key (A++B)=bB key A++bB key B:=List.filter_append ..
theorem GI (key:Int)(Q:List Kid):bB key (Q.map fun q=>aC q.F).flatten=(Q.map fun q=>bB key (aC q.F)).flatten:=by
 induction Q with
 | nil=>rfl
 | cons q Q ih=>rw[List.map_cons,List.flatten_cons,pN,ih];rfl
theorem OY (key:Int):∀ (i:Nat) (K:List Int) (Q:List Kid),Q.length=K.length+1->bT (bH K Q)->i<=K.length->(∀ x∈K.take i,x<=key)->bB key (aC (bH K Q))=((Q.drop i).map fun q=>bB key (aC q.F)).flatten:=by
 intro i
 induction i with
 | zero=>intro K Q h _ _ _;rw[DH K Q h,GI];rfl
 | succ i ih=>
  intro K Q h hs hi ha
  match K,Q,h with
  | [],_,_=>exact absurd hi (by simp)
  | k::K,q::Q,h=>
   obtain⟨s1,s2,s3⟩:=aG.1 (show bT (q.F++(k,none)::bH K Q) from hs)
   show bB key (aC (q.F++(k,none)::bH K Q))=_
   rw[aN,iF,pN,ih K Q (by simpa using h) (eM.1 s2).2 (by simpa using hi) (fun x hx=>ha x (by simp[hx]))];have hk:k<=key:=ha k (by simp)
   have:bB key (aC q.F)=[]:=by
    refine gN _ _ fun e he=>decide_eq_false ?_
    obtain⟨m,hm,hme⟩:=List.mem_filterMap.1 he;have:=s3 m hm (k,none) (List.mem_cons_self ..);rw[jA] at this;obtain⟨a,b⟩:=m
    cases b with
    | none=>simp[oY] at hme
    | some b=>simp[oY] at hme;subst hme;rw[fE] at this;show ¬ key<=a;omega
   rw[this];rfl
theorem AN {R:Int->Option Nod}{h:Nat}{N:Nod}{F:List Mk}{P:List Int}(ht:fK R (h+1) N F P)(hs:bT F)(key:Int) :
  ∃ Q i,bP N key=(i,true)/\i<=N.K.length/\N.C=kP Q/\Q.length=N.K.length+1/\(∀ q∈Q,IsT R h q.p q.F q.P/\bT q.F)/\bB key (aC F)=((Q.drop i).map fun q=>bB key (aC q.F)).flatten/\P=kPs Q:=by
 have hw:=eR ht;have hr:=gQ ht hs;obtain⟨h1,h2,Q,h3,h4,h5,rfl,rfl⟩:=cY.1 ht;obtain⟨q,e1,e2,e3,e4⟩:=aDQ key N.K 0 hr;refine⟨Q,q,?_,e2,h3,h4,fun x hx=>⟨h5 x hx,OQ _ _ h4 hs x hx⟩,OY key q N.K Q h4 hs e2 e3,rfl⟩;unfold bP;rw[if_pos hw,h1,e1,Nat.zero_add]
theorem CM (Q:List Kid)(i:Nat):(kPs (Q.drop i)).length<=(kPs Q).length:=by
 conv=>rhs;rw[<-List.take_append_drop i Q,cJ,List.length_append]
 omega
open Go Go.RowKit
structure OnC (C:Nat->Prop)(w w':World):Prop where
 os:w'.os=w.os
 tape:w'.tape=w.tape
 output:w'.output=w.output
 size:w.heap.size<=w'.heap.size
 block:∀ k,k<w.heap.size->C k->w'.heap[k]?=w.heap[k]?
theorem OnC.of_frm {C G:Nat->Prop}{w w':World}(h:Frm G w w')(hd:∀ k,C k->¬ G k):OnC C w w':=⟨h.os,h.tape,h.output,h.size,fun k hk hc=>h.block k hk (hd k hc)⟩
theorem OnC.mono {C D:Nat->Prop}{w w':World}(h:OnC C w w')(hd:∀ k,D k->C k):OnC D w w':=⟨h.os,h.tape,h.output,h.size,fun k hk hc=>h.block k hk (hd k hc)⟩
theorem OnC.trans {C:Nat->Prop}{a b c:World}(h:OnC C a b)(k:OnC C b c):OnC C a c:=⟨k.os.trans h.os,k.tape.trans h.tape,k.output.trans h.output,Nat.le_trans h.size k.size,fun i hi hc=>(k.block i (Nat.lt_of_lt_of_le hi h.size) hc).trans (h.block i hi hc)⟩
theorem OnC.alloc (C:Nat->Prop)(w:World)(o:Obj):OnC C w (w.alloc o):=.of_frm (G:=fun _=>False) ((Frm.refl _ w).alloc o) fun _ _ h=>h
theorem cQ (w:World)(l:Nat)(o:Obj):Frm (fun k=>k=l) w (w.putObj l o):=(Frm.refl _ w).grown (grownBy_putObj' w l o) fun k e=>by cases e;exact .inl rfl
def Own1 (C:Nat->Prop)(w:World)(C':Nat->Prop)(w':World):Prop:=Frm C w w'/\∀ k,C' k->C k\/w.heap.size<=k
theorem Own1.refl (C:Nat->Prop)(w:World):Own1 C w C w:=⟨Frm.refl _ _,fun _ h=>.inl h⟩
def aDG (P:Program)(l:Nat)(args:Array Value)(C:Nat->Prop)(W:World)(Jt Jf:(Nat->Prop)->World->Prop):Prop:=
 YieldAt Fence.wide 0 P l args W fun e W'=>∃ C',Own1 C W C' W'/\((e=.returned (.bool true)/\Jt C' W')\/(e=.returned (.bool false)/\Jf C' W'))
def zJ {α:Type}(P:Program)(gf:Nat)(lb:Array Value)(encs:α->Array Value)(G:Nat->Prop)(V:World->Prop)(Ys:List α)(W0:World):Prop:=
 ∀ (l:Nat) (J Jx:List α->(Nat->Prop)->World->Prop) (W:World) (C:Nat->Prop),Below W0.heap.size W0 W ->
  (∀ s D A B,J s D A->OnC D A B->J s D B)->(∀ s D A B,Jx s D A->OnC D A B->Jx s D B)->(∀ s D A,J s D A->∀ k,D k->k<A.heap.size)->(∀ s D A,Jx s D A->∀ k,D k->k<A.heap.size)->(∀ k,C k->¬ G k) ->
  (∀ pre x C1 W1,(pre++[x]) <+: Ys->J pre C1 W1->aDG P l (encs x) C1 W1 (J (pre++[x])) (Jx (pre++[x]))) ->
  J [] C W ->
  Calls P gf (#[.func (.yield l) #[] #[]]++lb) W fun e W'=>(∃ v,e=.returned v)/\V W' /\
   ∃ C',Own1 (fun k=>C k\/G k) W C' W'/\(∀ k,C' k->C k\/W.heap.size<=k)/\(J Ys C' W'\/∃ pre,pre <+: Ys/\Jx pre C' W')
def aFK {α:Type}(I:List α->(Nat->Prop)->World->Prop)(Ix:Code->List α->(Nat->Prop)->World->Prop)(s:List α)(C:Nat->Prop)(W:World):Exit->Act->World->Prop
 | .normal,_,W'=>∃ C',Own1 C W C' W'/\I s C' W'
 | .ret,_,W'=>∃ C',Own1 C W C' W'/\Ix .ret s C' W'
 | .exit id,_,W'=>∃ C',Own1 C W C' W'/\Ix (.exit id) s C' W'
 | .goto t,_,W'=>∃ C',Own1 C W C' W'/\Ix (.goto t) s C' W'
 | .panic _,_,_=>False
 | .outgrown,_,_=>False
theorem tK {α:Type}{P:Program}{g:Operand}{ps:Array Tmp}{assign body:Code}{Q:Exit->Act->World->Prop}{a:Act}{w:World}{gf:Nat}{lb:Array Value}
  (hg:a.eval g=.func (.func gf) #[] lb)(eg:∀ args w,(callFunc gf args).run P w=.ok (.enter gf args) w)
  {encs:α->Array Value}{G:Nat->Prop}{V:World->Prop}{Ys:List α}(hit:zJ P gf lb encs G V Ys w)(hVp:∀ W l o,w.heap.size<=l->V W->V (W.putObj l o))(hGl:∀ k,G k->k<w.heap.size)(hps:∀ x,(encs x).size=ps.size)
  (C:Nat->Prop)(hCG:∀ k,C k->¬ G k)(I:List α->(Nat->Prop)->World->Prop)(Ix:Code->List α->(Nat->Prop)->World->Prop)
  (hI:∀ s D A B,I s D A->OnC D A B->I s D B)(hIx:∀ c s D A B,Ix c s D A->OnC D A B->Ix c s D B)(hlt:∀ s D A,I s D A->∀ k,D k->k<A.heap.size)(hltx:∀ c s D A,Ix c s D A->∀ k,D k->k<A.heap.size)
  (h0:I [] C w)
  (hround:∀ (l:Nat) (pre:List α) (x:α) (C1:Nat->Prop) (W:World),(pre++[x]) <+: Ys->I pre C1 W->(∀ k,C1 k->C k\/w.heap.size<=k)->w.heap.size<=W.heap.size->¬ C1 l->l<W.heap.size ->
   assign.wpIn (Fence.wide.inRound l) 0 P (Exit.then (fun a' Wa=>Below W.heap.size W Wa/\∀ Wb,Frm (fun k=>k=l) Wa Wb->I pre C1 Wb->body.wpIn (Fence.wide.inRound l) 0 P (aFK I Ix (pre++[x]) C1 Wb) a' Wb) (fun _ _ _=>False)) { tmps:=(ps.zip (encs x)).foldl (fun t (p,v)=>t.setIfInBounds p v) a.tmps,defers:=[] } W)
  (hdone:∀ (D:Nat) (C':Nat->Prop) (W:World),w.heap.size<=D->I Ys C' W->V W->Frm (fun k=>C k\/G k) w W->(∀ k,C' k->C k\/w.heap.size<=k)->¬ C' D->W.heap[D]?=some (.deferred (some []))->Q .normal { a with defers:={ target:=.collected D,args:=#[] }::a.defers } W)
  (hstop:∀ (D:Nat) (c:Code) (pre:List α) (C':Nat->Prop) (W:World),w.heap.size<=D->pre <+: Ys->Ix c pre C' W->V W->Frm (fun k=>C k\/G k) w W->(∀ k,C' k->C k\/w.heap.size<=k)->¬ C' D->W.heap[D]?=some (.deferred (some []))->c.wpIn Fence.wide 0 P Q { a with defers:={ target:=.collected D,args:=#[] }::a.defers } W) :
  (Code.rangeFunc g ps assign body).wpIn Fence.wide 0 P Q a w:=by
 refine wpIn_rangeFunc ?_;intro fn hfn;obtain⟨rec,hrec⟩:∃ rec:LoopState->Option Code->Loop,rec=fun st pe=>{ state:=st,pending:=pe,fn,tmps:=a.tmps,params:=ps,assign,body,defers:=w.heap.size }:=⟨_,rfl⟩
 obtain⟨W1,hW1⟩:∃ W1,(w.alloc (.deferred (some []))).alloc (.loop (rec .ready none))=W1:=⟨_,rfl⟩
 obtain⟨n0,hn0⟩:∃ n0,w.heap.size=n0:=⟨_,rfl⟩
 have hz1:W1.heap.size=n0+2:=by rw[<-hW1];simp;omega
 have hL1:W1.heap[n0+1]?=some (.loop (rec .ready none)):=by
  rw[<-hW1,<-hn0];have:=World.alloc_heap_new (w.alloc (.deferred (some []))) (.loop (rec .ready none));rwa [World.size_alloc] at this
 have hK1:W1.heap[n0]?=some (.deferred (some [])):=by
  rw[<-hW1,<-hn0];exact(Below.heap_alloc _ _ _ (by simp)).trans (World.alloc_heap_new w _)
 have hO1:OnC C w W1:=by rw[<-hW1];exact(OnC.alloc C w _).trans (OnC.alloc C _ _)
 have hF1:Frm (fun _=>False) w W1:=by rw[<-hW1];exact((Frm.refl _ w).alloc _).alloc _
 have hb1:Below w.heap.size w W1:=hF1.below (fun _ h=>h.elim) (Nat.le_refl _);have hI1:I [] C W1:=hI _ _ _ _ h0 hO1;have hC0:∀ k,C k->k<n0:=fun k hk=>by have:=hlt _ _ _ h0 k hk;omega
 refine⟨n0+1,[{ target:=.collected n0,args:=#[] }],W1,{ target:=.fn (.func gf) lb,args:=#[.func (.yield (n0+1)) #[] #[]] },W1,gf,
  #[.func (.yield (n0+1)) #[] #[]]++lb,W1,?_,?_,fun _ _=>trivial,?_,(fun h=>by simp[Fence.wide] at h),?_⟩
 ·rw[<-hW1,hrec,<-hn0];exact run_enterLoop_outer _ _ _ _ _
 ·simp only[resolve,hg]
  simp[go_sem]
 ·simp[invoke,go_sem,eg]
 ·refine callsIn_wide.2 ?_
  obtain⟨X,hX⟩:∃ X:(Nat->Prop)->Nat->Prop,X=fun D k=>D k\/k=n0\/k=n0+1:=⟨_,rfl⟩
  have xD:∀ D k,X D k ↔ D k\/k=n0\/k=n0+1:=fun D k=>by rw[hX]
  obtain⟨JJ,hJJ⟩:∃ JJ:List α->(Nat->Prop)->World->Prop,JJ=fun pre XD W=>∃ D,(∀ k,XD k ↔ X D k)/\I pre D W/\¬ D n0/\¬ D (n0+1)/\W.heap[n0+1]?=some (.loop (rec .ready none))/\W.heap[n0]?=some (.deferred (some []))/\(∀ k,D k->C k\/n0<=k)/\n0<=W.heap.size:=⟨_,rfl⟩
  obtain⟨JX,hJX⟩:∃ JX:List α->(Nat->Prop)->World->Prop,JX=fun pre XD W=>∃ c D,(∀ k,XD k ↔ X D k)/\Ix c pre D W/\¬ D n0/\¬ D (n0+1)/\W.heap[n0+1]?=some (.loop (rec .done (some c)))/\W.heap[n0]?=some (.deferred (some []))/\(∀ k,D k->C k\/n0<=k)/\n0<=W.heap.size:=⟨_,rfl⟩
  have lt_of:∀ {W:World} {k:Nat} {o:Obj},W.heap[k]?=some o->k<W.heap.size:=fun h=>(zl h)
  refine(hit (n0+1) JJ JX W1 (X C) hb1 ?_ ?_ ?_ ?_ ?_ ?_ ?_).mono ?_
  ·intro s D A B h ho
   rw[hJJ] at h |-;obtain⟨E,e1,e2,e3,e4,e5,e6,e7,e8⟩:=h;refine⟨E,e1,hI _ _ _ _ e2 (ho.mono fun k hk=>(e1 k).2 ((xD E k).2 (.inl hk))),e3,e4,?_,?_,e7,Nat.le_trans e8 ho.size⟩
   ·exact(ho.block _ (lt_of e5) ((e1 _).2 ((xD E _).2 (.inr (.inr rfl))))).trans e5
   ·exact(ho.block _ (lt_of e6) ((e1 _).2 ((xD E _).2 (.inr (.inl rfl))))).trans e6
  ·intro s D A B h ho
   rw[hJX] at h |-;obtain⟨c,E,e1,e2,e3,e4,e5,e6,e7,e8⟩:=h;refine⟨c,E,e1,hIx _ _ _ _ _ e2 (ho.mono fun k hk=>(e1 k).2 ((xD E k).2 (.inl hk))),e3,e4,?_,?_,e7,Nat.le_trans e8 ho.size⟩
   ·exact(ho.block _ (lt_of e5) ((e1 _).2 ((xD E _).2 (.inr (.inr rfl))))).trans e5
   ·exact(ho.block _ (lt_of e6) ((e1 _).2 ((xD E _).2 (.inr (.inl rfl))))).trans e6
  ·intro s D A h k hk
   rw[hJJ] at h;obtain⟨E,e1,e2,e3,e4,e5,e6,e7,e8⟩:=h
   rcases(xD E k).1 ((e1 k).1 hk) with h1|rfl|rfl
   ·exact hlt _ _ _ e2 k h1
   ·exact lt_of e6
   ·exact lt_of e5
  ·intro s D A h k hk
   rw[hJX] at h;obtain⟨c,E,e1,e2,e3,e4,e5,e6,e7,e8⟩:=h
   rcases(xD E k).1 ((e1 k).1 hk) with h1|rfl|rfl
   ·exact hltx _ _ _ _ e2 k h1
   ·exact lt_of e6
   ·exact lt_of e5
  ·intro k hk hGk
   rcases(xD C k).1 hk with h1|rfl|rfl
   ·exact hCG k h1 hGk
   ·have:=hGl _ hGk;omega
   ·have:=hGl _ hGk;omega
  ·intro pre x CX W hpre hj
   rw[hJJ] at hj;obtain⟨E,e1,e2,e3,e4,e5,e6,e7,e8⟩:=hj;have hlt5:=lt_of e5;have hy:=run_yield (P:=P) (args:=encs x) e5 (by rw[hrec];exact hps x);rw[hrec] at hy;refine⟨fn,_,assign,body,hy,roundIn_of_wpIn hfn ?_⟩;refine wpIn_mono (hround (n0+1) pre x E W hpre e2 (fun k hk=>by have:=e7 k hk;rw[hn0];exact this) (by omega) e4 hlt5) ?_;rintro e0 a' Wa hp0
   cases e0 with
   | normal=>
    obtain⟨hba,hbody⟩:=hp0;have e5a:=(hba.block _ hlt5).trans e5;have e6a:=(hba.block _ (lt_of e6)).trans e6;have fba:Frm (fun _=>False) W Wa:=Frm.of_below hba;refine⟨_,run_beginRound e5a (by rw[hrec]),?_⟩;obtain⟨Wb,hWb⟩:∃ Wb,Wa.putObj (n0+1) (.loop { rec .ready none with state:=.busy })=Wb:=⟨_,rfl⟩
    rw[hWb];have fab:Frm (fun k=>k=n0+1) Wa Wb:=by rw[<-hWb];exact cQ _ _ _
    have fb:Frm (fun k=>k=n0+1) W Wb:=(fba.mono fun _ h=>h.elim).trans fab fun k hk=>.inl hk
    have hl2:Wb.heap[n0+1]?=some (.loop { rec .ready none with state:=.busy }):=by rw[<-hWb];exact World.putObj_heap_same (lt_of e5a)
    have hk2:Wb.heap[n0]?=some (.deferred (some [])):=(fb.block _ (lt_of e6) (by omega)).trans e6;have hIb:I pre E Wb:=hI _ _ _ _ e2 (.of_frm fb fun k hk e=>e4 (e ▸ hk));refine wpIn_mono (hbody Wb fab hIb) ?_
    have fin:∀ (jump:Option Code) (E':Nat->Prop) (W3:World),Own1 E Wb E' W3->(∀ k,E' k->k<W3.heap.size) ->
      ∃ W4,(Instr.endRound (n0+1) jump).run P W3=.ok (.bool jump.isNone) W4/\Frm (fun k=>k=n0+1) W3 W4/\W4.heap[n0+1]?=some (.loop (rec (if jump.isNone then .ready else .done) jump)) /\
      W4.heap[n0]?=some (.deferred (some []))/\¬ E' n0/\¬ E' (n0+1)/\(∀ k,E' k->C k\/n0<=k)/\n0<=W4.heap.size/\Own1 CX W (X E') W4:=fun jump E' W3 ho hl3'=>by
     have hl3:=(ho.1.block _ (lt_of hl2) e4).trans hl2;have hk3:=(ho.1.block _ (lt_of hk2) e3).trans hk2;have hr:=run_endRound (P:=P) jump hl3;have s1:=fb.size;have s2:=ho.1.size;have n3:¬ E' n0:=fun hx=>(ho.2 _ hx).elim e3 (fun hy=>by omega)
     have n4:¬ E' (n0+1):=fun hx=>(ho.2 _ hx).elim e4 (fun hy=>by omega)
     rw[hrec] at hr |-;refine⟨_,hr,cQ _ _ _,World.putObj_heap_same (lt_of hl3),(World.putObj_heap_other (by omega)).trans hk3,n3,n4,fun k hk=>(ho.2 k hk).elim (e7 k) (fun hy=>.inr (by omega)),?_,?_,?_⟩
     ·exact Nat.le_trans (show n0<=W3.heap.size by omega) (cQ W3 (n0+1) _).size
     ·refine((fb.mono fun k hk=>(e1 k).2 ((xD E k).2 (.inr (.inr hk)))).trans ho.1 fun k hk=>.inl ((e1 k).2 ((xD E k).2 (.inl hk)))).trans (cQ _ _ _) fun k hk=>.inl ((e1 k).2 ((xD E k).2 (.inr (.inr hk))))
     ·intro k hk
      rcases(xD E' k).1 hk with h1|h1|h1
      ·rcases ho.2 k h1 with h2|h2
       ·exact .inl ((e1 k).2 ((xD E k).2 (.inl h2)))
       ·exact .inr (by omega)
      ·exact .inl ((e1 k).2 ((xD E k).2 (.inr (.inl h1))))
      ·exact .inl ((e1 k).2 ((xD E k).2 (.inr (.inr h1))))
    rintro e a3 W3 hp
    cases e with
    | normal=>
     obtain⟨E',ho,hi⟩:=hp;obtain⟨W4,f1,f2,f3,f4,f5,f6,f7,f8,f9⟩:=fin none E' W3 ho (hlt _ _ _ hi);refine⟨_,W4,f1,X E',f9,.inl ⟨rfl,?_⟩⟩;rw[hJJ];exact⟨E',fun _=>Iff.rfl,hI _ _ _ _ hi (.of_frm f2 fun k hk e=>f6 (e ▸ hk)),f5,f6,f3,f4,f7,f8⟩
    | ret=>
     obtain⟨E',ho,hi⟩:=hp;obtain⟨W4,f1,f2,f3,f4,f5,f6,f7,f8,f9⟩:=fin (some .ret) E' W3 ho (hltx _ _ _ _ hi);refine⟨_,W4,f1,X E',f9,.inr ⟨rfl,?_⟩⟩;rw[hJX];exact⟨.ret,E',fun _=>Iff.rfl,hIx _ _ _ _ _ hi (.of_frm f2 fun k hk e=>f6 (e ▸ hk)),f5,f6,f3,f4,f7,f8⟩
    | exit id=>
     obtain⟨E',ho,hi⟩:=hp;obtain⟨W4,f1,f2,f3,f4,f5,f6,f7,f8,f9⟩:=fin (some (.exit id)) E' W3 ho (hltx _ _ _ _ hi);refine⟨_,W4,f1,X E',f9,.inr ⟨rfl,?_⟩⟩;rw[hJX];exact⟨.exit id,E',fun _=>Iff.rfl,hIx _ _ _ _ _ hi (.of_frm f2 fun k hk e=>f6 (e ▸ hk)),f5,f6,f3,f4,f7,f8⟩
    | goto t=>
     obtain⟨E',ho,hi⟩:=hp;obtain⟨W4,f1,f2,f3,f4,f5,f6,f7,f8,f9⟩:=fin (some (.goto t)) E' W3 ho (hltx _ _ _ _ hi);refine⟨_,W4,f1,X E',f9,.inr ⟨rfl,?_⟩⟩;rw[hJX];exact⟨.goto t,E',fun _=>Iff.rfl,hIx _ _ _ _ _ hi (.of_frm f2 fun k hk e=>f6 (e ▸ hk)),f5,f6,f3,f4,f7,f8⟩
    | panic ch=>exact hp.elim
    | outgrown=>exact hp.elim
   | exit id=>exact hp0.elim
   | goto t=>exact hp0.elim
   | ret=>exact hp0.elim
   | panic ch=>exact hp0.elim
   | outgrown=>exact hp0.elim
  ·rw[hJJ]
   refine⟨C,fun _=>Iff.rfl,hI1,fun h=>?_,fun h=>?_,hL1,hK1,fun k hk=>.inl hk,by omega⟩
   ·have:=hC0 _ h;omega
   ·have:=hC0 _ h;omega
  ·rintro e W2 ⟨⟨v,rfl⟩,hV,C',ho,hCn,hend⟩
   have fr:∀ o,Frm (fun k=>C k\/G k) w (W2.putObj (n0+1) o):=fun o=>by
    refine((hF1.mono (G:=fun k=>C k\/G k) fun _ h=>h.elim).trans ho.1 fun k hk=>?_).trans (cQ _ _ _) fun k hk=>.inr (by omega)
    rcases hk with hk|hk
    ·rcases(xD C k).1 hk with h1|h1|h1
     ·exact .inl (.inl h1)
     ·exact .inr (by omega)
     ·exact .inr (by omega)
    ·exact .inl (.inr hk)
   rcases hend with hj|⟨pre,hpre,hj⟩
   ·rw[hJJ] at hj
    obtain⟨E,e1,e2,e3,e4,e5,e6,e7,e8⟩:=hj;refine⟨none,_,by have:=run_endLoop (P:=P) e5 (by rw[hrec];simp);rw[hrec] at this;exact this,?_⟩;exact hdone n0 E _ (by omega) (hI _ _ _ _ e2 (.of_frm (cQ _ _ _) fun k hk e=>e4 (e ▸ hk))) (hVp _ _ _ (by omega) hV) (fr _) (fun k hk=>by have:=e7 k hk;rw[hn0];exact this) e3 ((World.putObj_heap_other (by omega)).trans e6)
   ·rw[hJX] at hj
    obtain⟨c,E,e1,e2,e3,e4,e5,e6,e7,e8⟩:=hj;refine⟨some c,_,by have:=run_endLoop (P:=P) e5 (by rw[hrec];simp);rw[hrec] at this;exact this,?_⟩;exact hstop n0 c pre E _ (by omega) hpre (hIx _ _ _ _ _ e2 (.of_frm (cQ _ _ _) fun k hk e=>e4 (e ▸ hk))) (hVp _ _ _ (by omega) hV) (fr _) (fun k hk=>by have:=e7 k hk;rw[hn0];exact this) e3 ((World.putObj_heap_other (by omega)).trans e6)
def mkD (D:Nat):Deferred:={ target:=.collected D,args:=#[] }
def Marks (w:World)(Ds:List Nat):Prop:=Ds.Nodup/\∀ D∈Ds,w.heap[D]?=some (.deferred (some []))
theorem Marks.nil (w:World):Marks w []:=⟨List.nodup_nil,fun D h=>by cases h⟩
theorem Marks.lt {w:World}{Ds:List Nat}(h:Marks w Ds):∀ D∈Ds,D<w.heap.size:=fun D hD=>(zl (h.2 D hD))
theorem Marks.on {w w':World}{Ds:List Nat}(h:Marks w Ds)(ho:∀ D∈Ds,w'.heap[D]?=w.heap[D]?):Marks w' Ds:=⟨h.1,fun D hD=>(ho D hD).trans (h.2 D hD)⟩
theorem Marks.cons {w:World}{Ds:List Nat}{D:Nat}(h:Marks w Ds)(hn:D ∉ Ds)(hD:w.heap[D]?=some (.deferred (some []))):Marks w (D::Ds):=
 ⟨List.nodup_cons.2 ⟨hn,h.1⟩,fun x hx=>(List.mem_cons.1 hx).elim (fun e=>e ▸ hD) (h.2 x)⟩
theorem jW {P:Program}{fn:Func}{tmps:Array Value}{R:Ending->World->Prop}:∀ (Ds:List Nat) (w:World),Marks w Ds ->
  (∀ w',Frm (fun k=>k∈Ds) w w'->∃ v,(results fn tmps).run P w'=.ok v w'/\R (.returned v) w')->LeavesInM Fence.wide 0 P fn tmps R (Ds.map mkD) .returning w:=by
 intro Ds
 induction Ds with
 | nil=>exact fun w _ h=>h w (Frm.refl _ w)
 | cons D Ds ih=>
  intro w hm h;obtain⟨hn,h2⟩:=hm;obtain⟨n1,n2⟩:=List.nodup_cons.1 hn;refine⟨by simp,.inl ⟨D,_,rfl,run_takeDeferred (h2 D (List.mem_cons_self ..)),?_⟩⟩;have f:=cQ w D (.deferred none);refine ih _ ⟨n2,fun x hx=>(f.block x ((zl (h2 x (List.mem_cons_of_mem _ hx)))) (fun e=>n1 (e ▸ hx))).trans (h2 x (List.mem_cons_of_mem _ hx))⟩ fun w' hw=>?_
  exact h w' ((f.mono fun k hk=>hk ▸ List.mem_cons_self ..).trans hw fun k hk=>.inl (List.mem_cons_of_mem _ hk))
open Go.RowKit
attribute [local go_sem] Oper.semAt_some
theorem aD {w:World}{b:Nat}{v:Value}{T:TypeId}(h:w.heap[b]?=some (.cells #[v] T)):w.cell? ⟨b,0,none⟩=some v/\w.frozen? ⟨b,0,none⟩=false:=⟨kG h,ufb h 0⟩
def VP (d s g:Nat)(dk:DkS)(st:ShS)(r:Nat)(F:Nat->Prop)(n:Nat)(W:World):Prop:=∃ r',r<=r'/\r'<=r+n/\TS W d s g dk st r' F
structure Under (W0:World)(C0 G H:Nat->Prop)(w1:World)(C:Nat->Prop)(w:World):Prop where
 fr:Frm (fun k=>C0 k\/G k) W0 w
 cn:∀ k,C k->C0 k\/W0.heap.size<=k
 cg:∀ k,C k->¬ G k
 ch:∀ k,C k->¬ H k
 hk:∀ k,H k->k<w1.heap.size/\w.heap[k]?=w1.heap[k]?
 sz:w1.heap.size<=w.heap.size
 gl:∀ k,G k->k<W0.heap.size
 zz:W0.heap.size<=w1.heap.size
theorem Under.step {W0 w1 w w':World}{C0 G H C:Nat->Prop}(h:Under W0 C0 G H w1 C w){D:Nat->Prop}(hf:Frm D w w')(hD:∀ k,D k->(G k\/W0.heap.size<=k)/\¬ H k):Under W0 C0 G H w1 C w':=
 ⟨h.fr.trans hf fun k hk=>(hD k hk).1.imp .inr id,h.cn,h.cg,h.ch,fun k hk=>⟨(h.hk k hk).1,(hf.block k (Nat.lt_of_lt_of_le (h.hk k hk).1 h.sz) (fun e=>(hD k e).2 hk)).trans (h.hk k hk).2⟩,Nat.le_trans h.sz hf.size,h.gl,h.zz⟩
theorem Under.round {W0 w1 w w':World}{C0 G H C C':Nat->Prop}(h:Under W0 C0 G H w1 C w)(ho:Own1 C w C' w'):Under W0 C0 G H w1 C' w':=by
 have hs:=h.sz;have hz:=h.zz;refine⟨h.fr.trans ho.1 fun k hk=>(h.cn k hk).imp .inl id,fun k hk=>?_,fun k hk hg=>?_,fun k hk hH=>?_,fun k hk=>⟨(h.hk k hk).1,(ho.1.block k (Nat.lt_of_lt_of_le (h.hk k hk).1 hs) (fun e=>h.ch k e hk)).trans (h.hk k hk).2⟩,Nat.le_trans hs ho.1.size,h.gl,h.zz⟩
 ·rcases ho.2 k hk with h1|h1
  ·exact h.cn k h1
  ·exact .inr (by omega)
 ·rcases ho.2 k hk with h1|h1
  ·exact h.cg k h1 hg
  ·have:=h.gl k hg;omega
 ·rcases ho.2 k hk with h1|h1
  ·exact h.ch k h1 hH
  ·have:=(h.hk k hH).1;omega
theorem Under.on {W0 w1 w w':World}{C0 G H C:Nat->Prop}(h:Under W0 C0 G H w1 C w){D:Nat->Prop}(hf:Frm D w w')(hD:∀ k,D k->¬ C k):OnC C w w':=.of_frm hf fun k hk e=>hD k e hk
theorem Under.after {W0 w1 w w6 w':World}{C0 G H C C' GK:Nat->Prop}{y:Nat}(h:Under W0 C0 G H w1 C w)(h6:Below w.heap.size w w6)(hf:Frm (fun k=>(C k\/k=y)\/GK k) w6 w')(hK:∀ k,GK k->(G k\/w.heap.size<=k)/\¬ H k)(hy:w'.heap[y]?=w1.heap[y]?)(yW:W0.heap.size<=y)(hC:∀ k,C' k->C k\/w.heap.size<=k):Under W0 C0 G H w1 C' w':=by
 have hs:=h.sz;have hz:=h.zz;have h6s:=h6.size;refine⟨(h.fr.trans (G:=fun _=>False) (Frm.of_below h6) fun _ h=>h.elim).trans hf fun k hk=>?_,fun k hk=>?_,fun k hk hg=>?_,fun k hk hH=>?_,fun k hk=>⟨(h.hk k hk).1,?_⟩,Nat.le_trans (Nat.le_trans hs h6s) hf.size,h.gl,h.zz⟩
 ·rcases hk with(hk|rfl)|hk
  ·exact(h.cn k hk).imp .inl id
  ·exact .inr yW
  ·rcases(hK k hk).1 with h1|h1
   ·exact .inl (.inr h1)
   ·exact .inr (by omega)
 ·rcases hC k hk with h1|h1
  ·exact h.cn k h1
  ·exact .inr (by omega)
 ·rcases hC k hk with h1|h1
  ·exact h.cg k h1 hg
  ·have:=h.gl k hg;omega
 ·rcases hC k hk with h1|h1
  ·exact h.ch k h1 hH
  ·have:=(h.hk k hH).1;omega
 ·by_cases e:k=y
  ·rw[e];exact hy
  ·have hl:=(h.hk k hk).1
   rw[hf.block k (by omega) (fun hx=>by
    rcases hx with(hx|hx)|hx
    ·exact h.ch k hx hk
    ·exact e hx
    ·exact(hK k hx).2 hk),h6.block k (by omega)]
   exact(h.hk k hk).2
theorem TS.round {w w':World}{d s g:Nat}{dk:DkS}{st:ShS}{r:Nat}{F C C':Nat->Prop}(h:TS w d s g dk st r F)(ho:Own1 C w C' w')(hd:∀ k,C k->¬ F k):TS w' d s g dk st r F:=h.frm ho.1 fun k hk e=>hd k e hk
theorem jZ {w w':World}{g i:Nat}(h:w'.heap[g]?=w.heap[g]?):w'.cell? ⟨g,i,none⟩=w.cell? ⟨g,i,none⟩:=by
 unfold World.cell?;rw[show(⟨g,i,none⟩:Addr).block=g from rfl,h]
def IA {α:Type}(J:List α->(Nat->Prop)->World->Prop)(pre0:List α)(y:Nat)(o:Obj)(pre:List α)(D:Nat->Prop)(W:World):Prop:=∃ C2:Nat->Prop,(∀ k,D k ↔ C2 k\/k=y)/\J (pre0++pre) C2 W/\W.heap[y]?=some o/\¬ C2 y
theorem IA.on {α:Type}{J:List α->(Nat->Prop)->World->Prop}(hJ:∀ s D A B,J s D A->OnC D A B->J s D B){pre0:List α}{y:Nat}{o:Obj}(s:List α)(D:Nat->Prop)(A B:World)(h:IA J pre0 y o s D A)(ho:OnC D A B):IA J pre0 y o s D B:=by
 obtain⟨C2,h1,h2,h3,h4⟩:=h;exact⟨C2,h1,hJ _ _ _ _ h2 (ho.mono fun k hk=>(h1 k).2 (.inl hk)),(ho.block y (zl h3) ((h1 y).2 (.inr rfl))).trans h3,h4⟩
theorem IA.lt {α:Type}{J:List α->(Nat->Prop)->World->Prop}(hl:∀ s D A,J s D A->∀ k,D k->k<A.heap.size){pre0:List α}{y:Nat}{o:Obj}(s:List α)(D:Nat->Prop)(A:World)(h:IA J pre0 y o s D A)(k:Nat)(hk:D k):k<A.heap.size:=by
 obtain⟨C2,h1,h2,h3,h4⟩:=h
 rcases(h1 k).1 hk with h5|rfl
 ·exact hl _ _ _ h2 k h5
 ·exact(zl h3)
theorem IA.next {α:Type}{J':List α->(Nat->Prop)->World->Prop}{pre0 pre:List α}{y:Nat}{o:Obj}{D C2 C3:Nat->Prop}{w w':World}{x:α}(h1:∀ k,D k ↔ C2 k\/k=y)(hy:w.heap[y]?=some o)(hn:¬ C2 y)(ho:Own1 C2 w C3 w')(hj:J' (pre0++pre++[x]) C3 w'):∃ D',Own1 D w D' w'/\IA J' pre0 y o (pre++[x]) D' w':=by
 have hyl:=(zl hy);refine⟨fun k=>C3 k\/k=y,⟨ho.1.mono fun k hk=>(h1 k).2 (.inl hk),fun k hk=>?_⟩,C3,fun _=>Iff.rfl,by rw[<-List.append_assoc];exact hj,(ho.1.block y hyl hn).trans hy,fun h=>?_⟩
 ·rcases hk with hk|rfl
  ·exact(ho.2 k hk).imp (fun h=>(h1 k).2 (.inl h)) id
  ·exact .inl ((h1 _).2 (.inr rfl))
 ·rcases ho.2 y h with h|h
  ·exact hn h
  ·omega
theorem aEC {Q:List Kid}{m:Nat}{q:Kid}(h:Q[m]?=some q):kPs Q=kPs (Q.take m)++(q.P++kPs (Q.drop (m+1)))/\kPs (Q.take (m+1))=kPs (Q.take m)++q.P:=by
 obtain⟨hm,rfl⟩:=List.getElem?_eq_some_iff.1 h;constructor
 ·conv=>lhs;rw[<-List.take_append_drop m Q,cJ,List.drop_eq_getElem_cons hm,mR]
 ·rw[List.take_succ_eq_append_getElem hm,cJ]
  simp[kPs]
theorem aCM {α:Type}{P:Program}{fn:Func}{tmps:Array Value}(hres:fn.results=#[]){W w w1:World}{C C' G H F:Nat->Prop}{d s g:Nat}{dk:DkS}{st:ShS}{r r' n:Nat}{J Jx:List α->(Nat->Prop)->World->Prop}{Ys:List α}(hGF:∀ k,F k->G k)
  (hJ:∀ s D A B,J s D A->OnC D A B->J s D B)(hJx:∀ s D A B,Jx s D A->OnC D A B->Jx s D B)(hU:Under W C G H w1 C' w)(hT:TS w d s g dk st r' F)(h1:r<=r')(h2:r'<=r+n)(Ds:List Nat)(hm:Marks w Ds)(hD:∀ D∈Ds,W.heap.size<=D/\¬ C' D)(hJJ:J Ys C' w\/∃ pre,pre <+: Ys/\Jx pre C' w){z:Nat}(hz:W.heap.size=z) :
  LeavesInM Fence.wide 0 P fn tmps (fun e W'=>(∃ v,e=.returned v)/\VP d s g dk st r F n W'/\∃ C',Own1 (fun k=>C k\/G k) W C' W'/\(∀ k,C' k->C k\/z<=k)/\(J Ys C' W'\/∃ pre,pre <+: Ys/\Jx pre C' W')) (Ds.map mkD) .returning w:=by
 subst hz;refine jW Ds w hm fun w' hf=>⟨_,results_none hres _ _ _,⟨_,rfl⟩,⟨r',h1,h2,hT.frm hf fun k hk hd=>?_⟩,C',⟨hU.fr.trans hf fun k hk=>.inr (hD k hk).1,fun k hk=>(hU.cn k hk).imp .inl id⟩,hU.cn,?_⟩
 ·have:=(hD k hd).1
  have:=hU.gl k (hGF k hk);omega
 ·have ho:OnC C' w w':=.of_frm hf fun k hk hd=>(hD k hd).2 hk
  rcases hJJ with h|⟨pre,hp,h⟩
  ·exact .inl (hJ _ _ _ _ h ho)
  ·exact .inr ⟨pre,hp,hJx _ _ _ _ h ho⟩
def txC (s:Nat)(root e:Int)(o:Bool):Obj:=.cells #[s,root,e,o] 107
theorem eJ {w:World}{t s:Nat}{root e:Int}{o:Bool}(h:w.heap[t]?=some (txC s root e o)):w.cell? ⟨t,0,none⟩=some (.pointer (some ⟨s,0,none⟩))/\w.cell? ⟨t,1,none⟩=some (.int .i64 root)/\w.cell? ⟨t,2,none⟩=some (.int .i64 e)/\w.cell? ⟨t,3,none⟩=some (.bool o)/\∀ i,w.frozen? ⟨t,i,none⟩=false:=by
 unfold txC at h;refine⟨?_,?_,?_,?_,fun i=>ufb h i⟩ <;> (rw[cob h];rfl)
theorem eT {w:World}{b i:Nat}(v:Value):Frm (fun k=>k=b) w (w.setCell ⟨b,i,none⟩ v):=(Frm.refl _ w).setCell _ _ (.inl rfl)
theorem aEP (w:World)(t s:Nat)(root:Int)(caps:Array Value)(hc:w.heap[t]?=some (txC s root 0 false))(R:Int->World->Prop)
  (HC:Calls Tryz.prog 87 caps w fun e w'=>∃ c,e=.returned (.int .i64 c)/\R c w'/\∃ root',w'.heap[t]?=some (txC s root' 0 false)) :
  () 86 #[t,.func (.func 87) #[] caps] w fun e w'=>∃ c w1,e=.returned (.bool (c==0))/\R c w1/\w1.setCell ⟨t,2,none⟩ (.int .i64 c)=w':=by
 have H:=Hd HC;obtain⟨c0,c1,c2,c3,fz⟩:=eJ hc;clear hc HC fz;go_enter Tryz.func86,Tryz.ntmps86;go_wp2_with fail;refine H.mono ?_;rintro e w1 ⟨c,rfl,hR,root',hc1⟩;have FIN:=Hd hR;obtain⟨d0,d1,d2,d3,g⟩:=eJ hc1;have g2:=g 2;obtain⟨w2,hw2⟩:∃ w2,w1.setCell ⟨t,2,none⟩ (.int .i64 c)=w2:=⟨_,rfl⟩
 have e2:w2.cell? ⟨t,2,none⟩=some (.int .i64 c):=by
  unfold txC at hc1;have h9:=hss w1 t 2 _ _ (.int .i64 c) hc1;rw[hw2] at h9;rw[cob h9];rfl
 have HW:=Hd hw2;clear hR hc1 g c0 c1 c2 c3 H;go_upto_region 4 with fail
 try rw[hw2]
 clear hw2 d0 d1 d2 d3 g2;go_wp2_with fail;go_ret;exact⟨c,w1,rfl,FIN.o,HW.o⟩
theorem aEQ (w:World)(t s:Nat)(root:Int)(caps:Array Value)(hc:w.heap[t]?=some (txC s root 0 false))(R:Int->World->Prop)
  (HC:Calls Tryz.prog 94 caps w fun e w'=>∃ c,e=.returned (.int .i64 c)/\R c w'/\∃ root',w'.heap[t]?=some (txC s root' 0 false)) :
  () 86 #[t,.func (.func 94) #[] caps] w fun e w'=>∃ c w1,e=.returned (.bool (c==0))/\R c w1/\w1.setCell ⟨t,2,none⟩ (.int .i64 c)=w':=by
 have H:=Hd HC;obtain⟨c0,c1,c2,c3,fz⟩:=eJ hc;clear hc HC fz;go_enter Tryz.func86,Tryz.ntmps86;go_wp2_with fail;refine H.mono ?_;rintro e w1 ⟨c,rfl,hR,root',hc1⟩;have FIN:=Hd hR;obtain⟨d0,d1,d2,d3,g⟩:=eJ hc1;have g2:=g 2;obtain⟨w2,hw2⟩:∃ w2,w1.setCell ⟨t,2,none⟩ (.int .i64 c)=w2:=⟨_,rfl⟩
 have e2:w2.cell? ⟨t,2,none⟩=some (.int .i64 c):=by
  unfold txC at hc1;have h9:=hss w1 t 2 _ _ (.int .i64 c) hc1;rw[hw2] at h9;rw[cob h9];rfl
 have HW:=Hd hw2;clear hR hc1 g c0 c1 c2 c3 H;go_upto_region 4 with fail
 try rw[hw2]
 clear hw2 d0 d1 d2 d3 g2;go_wp2_with fail;go_ret;exact⟨c,w1,rfl,FIN.o,HW.o⟩
def PutS (bt bk bv t s:Nat)(root key:Int)(val:ByteArray)(w:World):Prop:=w.heap[bt]?=some (.cells #[t] 24)/\w.heap[bk]?=some (.cells #[.int .u64 key] 82)/\w.heap[bv]?=some (.cells #[val] 9)/\w.heap[t]?=some (txC s root 0 false)
theorem PutS.kept {bt bk bv t s:Nat}{root key:Int}{val:ByteArray}{w w':World}{R:List Nat}(h:PutS bt bk bv t s root key val w)(hm:bt∈R/\bk∈R/\bv∈R/\t∈R)(hK:oK R w w'):PutS bt bk bv t s root key val w':=
 ⟨(hK _ hm.1).trans h.1,(hK _ hm.2.1).trans h.2.1,(hK _ hm.2.2.1).trans h.2.2.1,(hK _ hm.2.2.2).trans h.2.2.2⟩
theorem aBN {w0 w:World}{R:List Nat}{t d s n bt bk bv br:Nat}{root key:Int}{val:ByteArray}{E:List Ent}(h:TrR w0 R w d s n root E)(ps:PutS bt bk bv t s root key val w)(hm:bt∈R/\bk∈R/\bv∈R/\t∈R)(ht0:w0.heap.size<=t)
  (H0:Nat)(h9:H0<=8)(hE:E.length<2 ^ (H0+1))(hn:2*E.length+2*H0+5<=n)(hk:0<=key/\key<=18446744073709551615)(hv:val.size<=40) :
  () 87 #[bt,bk,bv,br] w fun e w'=>e=.returned (.int .i64 0)/\∃ q,TrR w0 R w' d s n q (aY key val E)/\w'.heap[t]?=some (txC s q 0 false)/\∀ k∈R,k≠t->w'.heap[k]?=w.heap[k]?:=by
 have PS:=Hd (show PutS bt bk bv t s root key val w.drew from ps);have PT:=Hd (aFM (h.below Br.drew) H0 h9 hE hn key hk val hv);have HM:=Hd hm;have HT0:=Hd ht0;clear h ps h9 hE hn hk hv ht0;go_enter Tryz.func87,Tryz.ntmps87;go_upto_region 1 with fail
 refine wp_region_held_drew (S:=fun w'=>PutS bt bk bv t s root key val w') (by kernel_rfl) PS (fun hS=>?_);refine Hv 0 8 ?va0x1 hS ?ha0x1 ?_
 case ha0x1=>
  intro w9 s9;have k9:=(aD s9.1).1;clear s9;go_simp;try (with_reducible rfl)
 simp only[SL];refine Hu 1 9 hS ?_;simp only[SL];refine Hu 2 10 hS ?_;simp only[SL];refine Hv 3 11 ?va3x4 hS ?ha3x4 ?_
 case ha3x4=>
  intro w9 s9;obtain⟨k0,k1,_,_,_⟩:=eJ s9.2.2.2;clear s9;go_simp;try (with_reducible rfl)
 simp only[SL];refine Hv 4 12 ?va4x5 hS ?ha4x5 ?_
 case ha4x5=>
  intro w9 s9;have k9:=(aD s9.1).1;clear s9;go_simp;try (with_reducible rfl)
 simp only[SL];refine Hu 5 13 hS ?_;simp only[SL];refine Hu 6 14 hS ?_;simp only[SL];refine Hv 7 15 ?va7x8 hS ?ha7x8 ?_
 case ha7x8=>
  intro w9 s9;obtain⟨k0,k1,_,_,_⟩:=eJ s9.2.2.2;clear s9;go_simp;try (with_reducible rfl)
 simp only[SL];refine Hv 8 16 ?va8x9 hS ?ha8x9 ?_
 case ha8x9=>
  intro w9 s9;have k9:=(aD s9.2.1).1;clear s9;go_simp;try (with_reducible rfl)
 simp only[SL];refine Hv 9 17 ?va9x10 hS ?ha9x10 ?_
 case ha9x10=>
  intro w9 s9;have k9:=(aD s9.2.2.1).1;clear s9;go_simp;try (with_reducible rfl)
 simp only[SL];refine Hs 10 (fun K HK=>?_);go_simp;go_wp2_with fail;refine PT.mono ?_;rintro e w6 ⟨q,rfl,hT,hK⟩;refine HK _ _ ?_ ?_
 ·exact hS.kept hm hK
 clear HK K;try simp only[Act.put,SL]
 have hS':=hS.kept hm hK;clear hS;have hS:=hS';clear hS';refine Hu 11 7 hS ?_;simp only[SL];refine Hu 12 19 hS ?_;simp only[SL];refine Hu 13 20 hS ?_;simp only[SL];refine Hu 14 5 hS ?_;simp only[SL];refine Hu 15 6 hS ?_;simp only[SL];refine wpAnyH_done (by kernel_rfl) ?_ _;have bx:=(aD hS.1).1;obtain⟨d0,d1,d2,d3,g⟩:=eJ hS.2.2.2;have g1:=g 1;obtain⟨w7,hw7⟩:∃ w7,w6.setCell ⟨t,1,none⟩ (.int .i64 q)=w7:=⟨_,rfl⟩
 have FIN:Hid (∃ q,TrR w0 R w7 d s n q (aY key val E)/\w7.heap[t]?=some (txC s q 0 false)/\∀ k∈R,k≠t->w7.heap[k]?=w.heap[k]?):=Hd (by
  have f:Frm (fun k=>k=t) w6 w7:=by rw[<-hw7];exact eT _
  refine⟨q,hT.turn HM.2.2.2 HT0 f,?_,fun k hk hne=>(f.block k (hT.lt k hk) hne).trans (hK k hk)⟩;have h1:=hS.2.2.2;unfold txC at h1;rw[<-hw7,hss _ _ 1 _ _ _ h1]
  rfl)
 clear hS hT hK g hm;go_upto_region 8 with fail
 try rw[hw7]
 clear hw7 bx d0 d1 d2 d3 g1;go_wp2_with fail;go_ret;exact⟨rfl,FIN.o⟩
theorem aEY {w0 w:World}{R:List Nat}{t d s n:Nat}{root key:Int}{val:ByteArray}{E:List Ent}(h:TrR w0 (t::R) w d s n root E)(ht:w.heap[t]?=some (txC s root 0 false))(x4:World)
  (hx:(((w.alloc (.cells #[t] 24)).alloc (.cells #[.int .u64 key] 82)).alloc (.cells #[val] 9)).alloc (.cells #[false] 4)=x4) :
  TrR w0 ((w.heap.size+3)::(w.heap.size+2)::(w.heap.size+1)::w.heap.size::t::R) x4 d s n root E/\PutS w.heap.size (w.heap.size+1) (w.heap.size+2) t s root key val x4/\x4.heap[w.heap.size+3]?=some (.cells #[false] 4)/\oK (t::R) w x4/\t<w.heap.size/\(∀ k∈t::R,k<w.heap.size)/\Below w.heap.size w x4:=by
 obtain⟨x1,hx1⟩:∃ x1,w.alloc (.cells #[t] 24)=x1:=⟨_,rfl⟩
 obtain⟨x2,hx2⟩:∃ x2,x1.alloc (.cells #[.int .u64 key] 82)=x2:=⟨_,rfl⟩
 obtain⟨x3,hx3⟩:∃ x3,x2.alloc (.cells #[val] 9)=x3:=⟨_,rfl⟩
 rw[hx1,hx2,hx3] at hx;have z1:x1.heap.size=w.heap.size+1:=by rw[<-hx1];simp
 have z2:x2.heap.size=w.heap.size+2:=by rw[<-hx2];simp[z1]
 have z3:x3.heap.size=w.heap.size+3:=by rw[<-hx3];simp[z2]
 have z4:x4.heap.size=w.heap.size+4:=by rw[<-hx];simp[z3]
 have b1:Below w.heap.size w x1:=by rw[<-hx1];exact aB _ _
 have b2:Below x1.heap.size x1 x2:=by rw[<-hx2];exact aB _ _
 have b3:Below x2.heap.size x2 x3:=by rw[<-hx3];exact aB _ _
 have b4:Below x3.heap.size x3 x4:=by rw[<-hx];exact aB _ _
 have m1:x1.heap[w.heap.size]?=some (.cells #[t] 24):=by rw[<-hx1];exact han w _
 have m2:x2.heap[w.heap.size+1]?=some (.cells #[.int .u64 key] 82):=by rw[<-hx2,<-z1];exact han x1 _
 have m3:x3.heap[w.heap.size+2]?=some (.cells #[val] 9):=by rw[<-hx3,<-z2];exact han x2 _
 have m4:x4.heap[w.heap.size+3]?=some (.cells #[false] 4):=by rw[<-hx,<-z3];exact han x3 _
 have hlt:=h.lt;have ht':=hlt t (by simp);have bw:Below w.heap.size w x4:=((b1.trans (b2.mono (by omega))).trans (b3.mono (by omega))).trans (b4.mono (by omega));refine⟨(((h.more b1 w.heap.size (Nat.le_refl _) (by omega)).more b2 (w.heap.size+1) (by omega) (by omega)).more b3 (w.heap.size+2) (by omega) (by omega)).more b4 (w.heap.size+3) (by omega) (by omega),⟨?_,?_,?_,?_⟩,m4,fun k hk=>bw.block k (hlt k hk),ht',hlt,bw⟩
 ·exact(b4.block _ (by omega)).trans ((b3.block _ (by omega)).trans ((b2.block _ (by omega)).trans m1))
 ·exact(b4.block _ (by omega)).trans ((b3.block _ (by omega)).trans m2)
 ·exact(b4.block _ (by omega)).trans m3
 ·exact(bw.block t ht').trans ht
theorem aA1 {w1 w2:World}{t s:Nat}{root:Int}(hc:w1.heap[t]?=some (txC s root 0 false))(h:w1.setCell ⟨t,2,none⟩ (.int .i64 0)=w2):w2.heap[t]?=some (txC s root 0 false)/\Frm (fun k=>k=t) w1 w2:=by
 have f:Frm (fun k=>k=t) w1 w2:=by rw[<-h];exact eT _
 refine⟨?_,f⟩;unfold txC at hc |-;rw[<-h,hss _ _ 2 _ _ _ hc]
 rfl
theorem aFL {w0 w:World}{R:List Nat}{t d s n:Nat}{root key:Int}{val:ByteArray}{E:List Ent}(h:TrR w0 (t::R) w d s n root E)(ht:w.heap[t]?=some (txC s root 0 false))(ht0:w0.heap.size<=t)
  (H0:Nat)(h9:H0<=8)(hE:E.length<2 ^ (H0+1))(hn:2*E.length+2*H0+5<=n)(hk:0<=key/\key<=18446744073709551615)(hv:val.size<=40) :
  () 49 #[t,.int .u64 key,val] w fun e w'=>e=.returned (.bool true)/\∃ q,TrR w0 (t::R) w' d s n q (aY key val E)/\w'.heap[t]?=some (txC s q 0 false)/\∀ k∈R,k≠t->w'.heap[k]?=w.heap[k]?:=by
 obtain⟨x4,hx4⟩:∃ x4,(((w.alloc (.cells #[t] 24)).alloc (.cells #[.int .u64 key] 82)).alloc (.cells #[val] 9)).alloc (.cells #[false] 4)=x4:=⟨_,rfl⟩
 obtain⟨hT,hP,hB,hK,htl,hlt,bw⟩:=aEY (key:=key) (val:=val) h ht x4 hx4
 have DO:=Hd (aEP x4 t s root #[.pointer (some ⟨w.heap.size,0,none⟩),.pointer (some ⟨w.heap.size+1,0,none⟩),.pointer (some ⟨w.heap.size+2,0,none⟩),.pointer (some ⟨w.heap.size+3,0,none⟩)] hP.2.2.2
  (fun c w'=>c=0/\∃ q,TrR w0 ((w.heap.size+3)::(w.heap.size+2)::(w.heap.size+1)::w.heap.size::t::R) w' d s n q (aY key val E)/\w'.heap[t]?=some (txC s q 0 false)/\∀ k∈((w.heap.size+3)::(w.heap.size+2)::(w.heap.size+1)::w.heap.size::t::R),k≠t->w'.heap[k]?=x4.heap[k]?)
  ((aBN hT hP (by simp) ht0 H0 h9 hE hn hk hv).mono fun e w' ⟨h1,q,h2,h3,h4⟩=>⟨0,h1,⟨rfl,q,h2,h3,h4⟩,q,h3⟩))
 have HF:=Hd (And.intro hB (And.intro hK (And.intro htl (And.intro hlt ht0))));have bx:=(aD hP.1).1;have HX:=Hd hx4;clear h ht hT hP hB hK htl hlt h9 hE hn hk hv ht0 bw hx4;go_enter Tryz.func49,Tryz.ntmps49;go_upto_region 2 with fail
 try simp only[Nat.add_assoc,Nat.reduceAdd,World.heap_size_alloc]
 rw[HX.o];go_wp2_with fail;refine DO.mono ?_;rintro e w6 ⟨c,w5,rfl,⟨rfl,q,h1,h2,h3⟩,hw6⟩;obtain⟨g1,g2⟩:=aA1 h2 hw6;have hbr:w6.heap[w.heap.size+3]?=some (.cells #[false] 4):=(g2.block _ (h1.lt _ (by simp)) (by have:=HF.2.2.1;omega)).trans ((h3 _ (by simp) (by have:=HF.2.2.1;omega)).trans HF.1);have cbr:=(aD hbr).1
 have FIN:Hid (∃ q,TrR w0 (t::R) w6 d s n q (aY key val E)/\w6.heap[t]?=some (txC s q 0 false)/\∀ k∈R,k≠t->w6.heap[k]?=w.heap[k]?):=Hd (by
  refine⟨q,(h1.turn (by simp) HF.2.2.2.2 g2).sub (fun k hk=>by simp only[List.mem_cons] at hk |-;rcases hk with hk|hk <;> simp[hk]),g1,fun k hk hne=>?_⟩;have hm:k∈((w.heap.size+3)::(w.heap.size+2)::(w.heap.size+1)::w.heap.size::t::R):=by simp[hk]
  exact(g2.block k (h1.lt k hm) hne).trans ((h3 k hm hne).trans (HF.2.1 k (by simp[hk]))))
 clear h1 h2 h3 hw6 g1 g2 hbr bx;go_wp2_with fail;go_ret;exact⟨rfl,FIN.o⟩
theorem aFV {w:World}{t s:Nat}{root e:Int}{o:Bool}(ht:w.heap[t]?=some (txC s root e o)) :
  () 80 #[t] w fun e' w'=>e'=.returned e/\w=w':=by
 obtain⟨c0,c1,c2,c3,_⟩:=eJ ht;go_enter Tryz.func80,Tryz.ntmps80;go_wp2_with fail;go_ret;exact⟨rfl,rfl⟩
def GetS (bt bk t s:Nat)(root key:Int)(w:World):Prop:=w.heap[bt]?=some (.cells #[t] 24)/\w.heap[bk]?=some (.cells #[.int .u64 key] 82)/\w.heap[t]?=some (txC s root 0 false)
theorem GetS.kept {bt bk t s:Nat}{root key:Int}{w w':World}{R:List Nat}(h:GetS bt bk t s root key w)(hm:bt∈R/\bk∈R/\t∈R)(hK:oK R w w'):GetS bt bk t s root key w':=
 ⟨(hK _ hm.1).trans h.1,(hK _ hm.2.1).trans h.2.1,(hK _ hm.2.2).trans h.2.2⟩
theorem GetS.set {bt bk t s b i:Nat}{root key:Int}{v:Value}{w:World}(h:GetS bt bk t s root key w)(hn:bt≠b/\bk≠b/\t≠b):GetS bt bk t s root key (w.setCell ⟨b,i,none⟩ v):=
 ⟨(Below.heap_setCell _ _ _ _ hn.1).trans h.1,(Below.heap_setCell _ _ _ _ hn.2.1).trans h.2.1,(Below.heap_setCell _ _ _ _ hn.2.2).trans h.2.2⟩
theorem aCJ {w0 w:World}{R:List Nat}{t d s n bt bk bw bi:Nat}{root key:Int}{E:List Ent}(h:TrR w0 R w d s n root E)(ps:GetS bt bk t s root key w)(hm:bt∈R/\bk∈R/\t∈R)(hw:bw∈R/\bi∈R)(hl:w0.heap.size<=bw/\w0.heap.size<=bi)(hn:(bt≠bw/\bk≠bw/\t≠bw)/\(bt≠bi/\bk≠bi/\t≠bi)/\bw≠bi)
  (hv:w.heap[bw]?=some (.cells #[.string ⟨#[]⟩] 9)/\w.heap[bi]?=some (.cells #[false] 4))(hE:E.length<=600)(hk:0<=key/\key<=18446744073709551615)(gv:ByteArray)(gb:Bool)(hgv:jJ key E=gv)(hgb:eE key E=gb) :
  () 94 #[bt,bk,bw,bi] w fun e w'=>e=.returned (.int .i64 0)/\TrR w0 R w' d s n root E/\w'.heap[bw]?=some (.cells #[gv] 9)/\w'.heap[bi]?=some (.cells #[gb] 4)/\∀ k∈R,k≠bw->k≠bi->w'.heap[k]?=w.heap[k]?:=by
 have PS:=Hd (show GetS bt bk t s root key w.drew from ps);have TD:=Hd (h.below Br.drew);have PT0:=aFU (h.below Br.drew) hE key hk;rw[hgv,hgb] at PT0;have PT:=Hd PT0;have HN:=Hd hn;have HL:=Hd hl;have HV:=Hd hv;clear h ps hE hk hn hl hv hgv hgb PT0;go_enter Tryz.func94,Tryz.ntmps94;go_upto_region 1 with fail
 refine wp_region_held_drew (S:=fun w'=>GetS bt bk t s root key w') (by kernel_rfl) PS (fun hS=>?_);refine Hv 0 6 ?va0x1 hS ?ha0x1 ?_
 case ha0x1=>
  intro w9 s9;have k9:=(aD s9.1).1;clear s9;go_simp;try (with_reducible rfl)
 simp only[SL];refine Hu 1 7 hS ?_;simp only[SL];refine Hu 2 8 hS ?_;simp only[SL];refine Hv 3 9 ?va3x4 hS ?ha3x4 ?_
 case ha3x4=>
  intro w9 s9;obtain⟨k0,k1,_,_,_⟩:=eJ s9.2.2;clear s9;go_simp;try (with_reducible rfl)
 simp only[SL];refine Hv 4 10 ?va4x5 hS ?ha4x5 ?_
 case ha4x5=>
  intro w9 s9;have k9:=(aD s9.1).1;clear s9;go_simp;try (with_reducible rfl)
 simp only[SL];refine Hu 5 11 hS ?_;simp only[SL];refine Hu 6 12 hS ?_;simp only[SL];refine Hv 7 13 ?va7x8 hS ?ha7x8 ?_
 case ha7x8=>
  intro w9 s9;obtain⟨k0,k1,_,_,_⟩:=eJ s9.2.2;clear s9;go_simp;try (with_reducible rfl)
 simp only[SL];refine Hv 8 14 ?va8x9 hS ?ha8x9 ?_
 case ha8x9=>
  intro w9 s9;have k9:=(aD s9.2.1).1;clear s9;go_simp;try (with_reducible rfl)
 simp only[SL];refine Hs 9 (fun K HK=>?_);go_simp;go_wp2_with fail;refine PT.mono ?_;rintro e w6 ⟨rfl,hb⟩;have hK:oK R w.drew w6:=TD.kept hb;have TD2:=Hd (TD.below hb);clear hb;refine HK _ _ ?_ ?_
 ·exact hS.kept hm hK
 clear HK K;try simp only[Act.put,SL]
 have hS':=hS.kept hm hK;clear hS;have hS:=hS';clear hS';have V0:=(hK bw hw.1).trans HV.1;have I0:=(hK bi hw.2).trans HV.2;obtain⟨u0,u1⟩:=aD V0;refine Hu 10 5 hS ?_;simp only[SL];refine Hu 11 16 hS ?_;simp only[SL];refine Hu 12 17 hS ?_;simp only[SL];refine Hu 13 18 hS ?_;simp only[SL];refine Hs 14 (fun K HK=>?_);go_simp;go_wp2_with fail;refine HK _ _ ?_ ?_
 ·exact hS.set HN.1
 clear HK K;try simp only[Act.put,SL]
 have hS':=hS.set (i:=0) (v:=.string gv) HN.1;clear hS;have hS:=hS';clear hS';obtain⟨w7,hw7⟩:∃ w7,w6.setCell ⟨bw,0,none⟩ (.string gv)=w7:=⟨_,rfl⟩
 rw[hw7] at hS;rw[hw7];have f7:Frm (fun k=>k=bw) w6 w7:=by rw[<-hw7];exact eT _
 have V1:w7.heap[bw]?=some (.cells #[gv] 9):=by rw[<-hw7,hss _ _ 0 _ _ _ V0];rfl
 have I1:=(f7.block bi (TD2.lt bi hw.2) (Ne.symm HN.2.2)).trans I0;have F7:=Hd f7;have V1':=Hd V1;have HK7:=Hd hK;clear u0 u1 V0 I0 hw7 f7 V1 hK;obtain⟨u0,u1⟩:=aD I1;refine Hs 15 (fun K HK=>?_);go_simp;go_wp2_with fail;refine HK _ _ ?_ ?_
 ·exact hS.set HN.2.1
 clear HK K;try simp only[Act.put,SL]
 have hS':=hS.set (i:=0) (v:=.bool gb) HN.2.1;clear hS;have hS:=hS';clear hS';obtain⟨w8,hw8⟩:∃ w8,w7.setCell ⟨bi,0,none⟩ (.bool gb)=w8:=⟨_,rfl⟩
 rw[hw8] at hS;rw[hw8]
 have FIN:Hid (TrR w0 R w8 d s n root E/\w8.heap[bw]?=some (.cells #[gv] 9)/\w8.heap[bi]?=some (.cells #[gb] 4)/\∀ k∈R,k≠bw->k≠bi->w8.heap[k]?=w.heap[k]?):=Hd (by
  have f8:Frm (fun k=>k=bi) w7 w8:=by rw[<-hw8];exact eT _
  have h7:=TD2.turn hw.1 HL.1 F7.o;refine⟨h7.turn hw.2 HL.2 f8,(f8.block bw (h7.lt bw hw.1) HN.2.2).trans V1'.o,?_,fun k hk h1 h2=>(f8.block k (h7.lt k hk) h2).trans ((F7.block k (TD2.lt k hk) h1).trans (HK7 k hk))⟩;rw[<-hw8,hss _ _ 0 _ _ _ I1]
  rfl)
 clear u0 u1 I1 hw8;refine Hu 16 4 hS ?_;simp only[SL];refine wpAnyH_done (by kernel_rfl) ?_ _;clear hS;go_wp2_with fail;go_ret;exact⟨rfl,FIN.o⟩
theorem aEX {w0 w:World}{R:List Nat}{t d s n:Nat}{root:Int}{E:List Ent}(h:TrR w0 (t::R) w d s n root E)(o1 o2 o3 o4:Obj)(x4:World)(hx:(((w.alloc o1).alloc o2).alloc o3).alloc o4=x4) :
  TrR w0 ((w.heap.size+3)::(w.heap.size+2)::(w.heap.size+1)::w.heap.size::t::R) x4 d s n root E/\x4.heap[w.heap.size]?=some o1/\x4.heap[w.heap.size+1]?=some o2/\x4.heap[w.heap.size+2]?=some o3/\x4.heap[w.heap.size+3]?=some o4/\t<w.heap.size/\(∀ k∈t::R,k<w.heap.size)/\Below w.heap.size w x4:=by
 obtain⟨x1,hx1⟩:∃ x1,w.alloc o1=x1:=⟨_,rfl⟩
 obtain⟨x2,hx2⟩:∃ x2,x1.alloc o2=x2:=⟨_,rfl⟩
 obtain⟨x3,hx3⟩:∃ x3,x2.alloc o3=x3:=⟨_,rfl⟩
 rw[hx1,hx2,hx3] at hx;have z1:x1.heap.size=w.heap.size+1:=by rw[<-hx1];simp
 have z2:x2.heap.size=w.heap.size+2:=by rw[<-hx2];simp[z1]
 have z3:x3.heap.size=w.heap.size+3:=by rw[<-hx3];simp[z2]
 have z4:x4.heap.size=w.heap.size+4:=by rw[<-hx];simp[z3]
 have b1:Below w.heap.size w x1:=by rw[<-hx1];exact aB _ _
 have b2:Below x1.heap.size x1 x2:=by rw[<-hx2];exact aB _ _
 have b3:Below x2.heap.size x2 x3:=by rw[<-hx3];exact aB _ _
 have b4:Below x3.heap.size x3 x4:=by rw[<-hx];exact aB _ _
 have m1:x1.heap[w.heap.size]?=some o1:=by rw[<-hx1];exact han w _
 have m2:x2.heap[w.heap.size+1]?=some o2:=by rw[<-hx2,<-z1];exact han x1 _
 have m3:x3.heap[w.heap.size+2]?=some o3:=by rw[<-hx3,<-z2];exact han x2 _
 have m4:x4.heap[w.heap.size+3]?=some o4:=by rw[<-hx,<-z3];exact han x3 _
 have hlt:=h.lt;have bw:Below w.heap.size w x4:=((b1.trans (b2.mono (by omega))).trans (b3.mono (by omega))).trans (b4.mono (by omega))
 exact⟨(((h.more b1 w.heap.size (Nat.le_refl _) (by omega)).more b2 (w.heap.size+1) (by omega) (by omega)).more b3 (w.heap.size+2) (by omega) (by omega)).more b4 (w.heap.size+3) (by omega) (by omega),
  (b4.block _ (by omega)).trans ((b3.block _ (by omega)).trans ((b2.block _ (by omega)).trans m1)),(b4.block _ (by omega)).trans ((b3.block _ (by omega)).trans m2),(b4.block _ (by omega)).trans m3,m4,hlt t (by simp),hlt,bw⟩
theorem aFT {w0 w:World}{R:List Nat}{t d s n:Nat}{root key:Int}{E:List Ent}(h:TrR w0 (t::R) w d s n root E)(ht:w.heap[t]?=some (txC s root 0 false))(ht0:w0.heap.size<=t)(hE:E.length<=600)(hk:0<=key/\key<=18446744073709551615)(gv:ByteArray)(gb:Bool)(hgv:jJ key E=gv)(hgb:eE key E=gb) :
  () 58 #[t,.int .u64 key] w fun e w'=>e=.returned (.tuple #[gv,gb])/\TrR w0 (t::R) w' d s n root E/\w'.heap[t]?=some (txC s root 0 false)/\∀ k∈R,k≠t->w'.heap[k]?=w.heap[k]?:=by
 obtain⟨x4,hx4⟩:∃ x4,(((w.alloc (.cells #[t] 24)).alloc (.cells #[.int .u64 key] 82)).alloc (.cells #[.string ⟨#[]⟩] 9)).alloc (.cells #[false] 4)=x4:=⟨_,rfl⟩
 obtain⟨hT,m1,m2,m3,m4,htl,hlt,bw⟩:=aEX h _ _ _ _ x4 hx4;have ht4:=(bw.block t htl).trans ht;have hs0:=h.size.size
 have DO:=Hd (aEQ x4 t s root #[.pointer (some ⟨w.heap.size,0,none⟩),.pointer (some ⟨w.heap.size+1,0,none⟩),.pointer (some ⟨w.heap.size+2,0,none⟩),.pointer (some ⟨w.heap.size+3,0,none⟩)] ht4
  (fun c w'=>c=0/\TrR w0 ((w.heap.size+3)::(w.heap.size+2)::(w.heap.size+1)::w.heap.size::t::R) w' d s n root E/\w'.heap[w.heap.size+2]?=some (.cells #[gv] 9)/\w'.heap[w.heap.size+3]?=some (.cells #[gb] 4)/\∀ k∈((w.heap.size+3)::(w.heap.size+2)::(w.heap.size+1)::w.heap.size::t::R),k≠w.heap.size+2->k≠w.heap.size+3->w'.heap[k]?=x4.heap[k]?)
  ((aCJ hT ⟨m1,m2,ht4⟩ (by simp) (by simp) ⟨by omega,by omega⟩ ⟨⟨by omega,by omega,by omega⟩,⟨by omega,by omega,by omega⟩,by omega⟩ ⟨m3,m4⟩ hE hk gv gb hgv hgb).mono fun e w' ⟨h1,h2,h3,h4,h5⟩=>⟨0,h1,⟨rfl,h2,h3,h4,h5⟩,root,(h5 t (by simp) (by omega) (by omega)).trans ht4⟩))
 have HF:=Hd (And.intro ht4 (And.intro bw (And.intro htl (And.intro hlt ht0))));have bx:=(aD m1).1;have HX:=Hd hx4;clear h ht hT m1 m2 m3 m4 htl hlt ht0 bw hx4 hE hk hgv hgb ht4 hs0;go_enter Tryz.func58,Tryz.ntmps58;go_upto_region 3 with fail
 try simp only[Nat.add_assoc,Nat.reduceAdd,World.heap_size_alloc]
 rw[HX.o];go_wp2_with fail;refine DO.mono ?_;rintro e w6 ⟨c,w5,rfl,⟨rfl,h1,h2,h3,h4⟩,hw6⟩;have htl:=HF.2.2.1;obtain⟨g1,g2⟩:=aA1 ((h4 t (by simp) (by omega) (by omega)).trans HF.1) hw6;have cv:=(aD ((g2.block _ (h1.lt (w.heap.size+2) (by simp)) (by omega)).trans h2)).1;have ci:=(aD ((g2.block _ (h1.lt (w.heap.size+3) (by simp)) (by omega)).trans h3)).1
 have FIN:Hid (TrR w0 (t::R) w6 d s n root E/\w6.heap[t]?=some (txC s root 0 false)/\∀ k∈R,k≠t->w6.heap[k]?=w.heap[k]?):=Hd (by
  refine⟨(h1.turn (by simp) HF.2.2.2.2 g2).sub (fun k hk=>by simp only[List.mem_cons] at hk |-;rcases hk with hk|hk <;> simp[hk]),g1,fun k hk hne=>?_⟩;have hm:k∈((w.heap.size+3)::(w.heap.size+2)::(w.heap.size+1)::w.heap.size::t::R):=by simp[hk]
  have hkl:=HF.2.2.2.1 k (by simp[hk]);exact(g2.block k (h1.lt k hm) hne).trans ((h4 k hm (by omega) (by omega)).trans (HF.2.1.block k hkl)))
 clear h1 h2 h3 h4 hw6 g1 g2 bx htl;go_wp2_with fail
 go_quiet (fail)
 have F2:Hid (TrR w0 (t::R) (w6.drewN nq) d s n root E/\(w6.drewN nq).heap[t]?=some (txC s root 0 false)/\∀ k∈R,k≠t->(w6.drewN nq).heap[k]?=w.heap[k]?):=Hd (by
  have b:=Below.refl w6.heap.size w6;exact⟨FIN.1.below ⟨b.os,b.tape,b.output,b.size,b.block⟩,FIN.2.1,FIN.2.2⟩)
 clear FIN;go_wp2_with fail;go_ret2;exact⟨rfl,F2.o⟩
theorem aDB {w0 w:World}{d s n:Nat}{dk:DkS}(h:DSL w0 w d s dk (ShS.new eX))(G:eU dk (ShS.new eX))(hT:TreeI dk (ShS.new eX) 0 [])(hl:dk.S.length=n) :
  () 22 #[s] w fun e w'=>∃ t,e=.returned (.pointer (some ⟨t,0,none⟩))/\TrR w0 [t] w' d s n 0 []/\w'.heap[t]?=some (txC s 0 0 false)/\w0.heap.size<=t:=by
 have RB:=Hd (GP h);have RT:=Hd fun wq (hq:DSL w0 wq d s dk (ShS.new eX))=>aD2 hq
 have HG:=Hd (And.intro G (And.intro hT hl));clear h G hT hl;go_enter Tryz.func22,Tryz.ntmps22;go_wp2_with fail;refine RB.mono ?_;rintro e w1 ⟨rfl,hs⟩;have HS1:Hid (DSL w0 w1 d s dk (ShS.new eX)):=Hd hs;clear hs RB;go_wp2_with fail;refine(RT _ HS1.o).mono ?_;rintro e w2 ⟨rfl,rfl⟩;rw[show(ShS.new eX).h.root=0 from rfl]
 have FIN:Hid (TrR w0 [w1.heap.size] (w1.alloc (txC s 0 0 false)) d s n 0 []/\(w1.alloc (txC s 0 0 false)).heap[w1.heap.size]?=some (txC s 0 0 false)/\w0.heap.size<=w1.heap.size):=Hd (by
  obtain⟨FD,FS,h1,h2,h3,h4⟩:=HS1.o;have hq:TrR w0 [] w1 d s n 0 []:=⟨h2,fun k=>FD k\/FS k,⟨dk,_,⟨FD,FS,h1,fun _=>Iff.rfl⟩,HG.1,HG.2.1,HG.2.2,rfl⟩,fun k hk=>hk.elim (h3 k) (h4 k),fun k hk=>by cases hk⟩
  exact⟨hq.more (aB _ _) _ (Nat.le_refl _) (by simp),han _ _,h2.size⟩)
 unfold txC at FIN;clear HS1 RT HG;go_wp2_with fail;go_ret;exact⟨_,rfl,FIN.o⟩
def TxS (w0:World)(R:List Nat)(w:World)(t d s n:Nat)(E:List Ent):Prop:=(∃ root,TrR w0 (t::R) w d s n root E/\w.heap[t]?=some (txC s root 0 false))/\w0.heap.size<=t
def KeptT (R:List Nat)(t:Nat)(w w':World):Prop:=∀ k∈R,k≠t->w'.heap[k]?=w.heap[k]?
theorem KeptT.trans {R:List Nat}{t:Nat}{a b c:World}(h:KeptT R t a b)(k:KeptT R t b c):KeptT R t a c:=fun i hi hn=>(k i hi hn).trans (h i hi hn)
theorem KeptT.refl (R:List Nat)(t:Nat)(w:World):KeptT R t w w:=fun _ _ _=>rfl
theorem KeptT.sub {R R':List Nat}{t:Nat}{a b:World}(h:KeptT R t a b)(hs:∀ k∈R',k∈R):KeptT R' t a b:=fun i hi hn=>h i (hs i hi) hn
section
variable {w0 w w':World} {R R':List Nat} {t d s n:Nat} {E:List Ent}
theorem TxS.lt (h:TxS w0 R w t d s n E):(∀ k∈R,k<w.heap.size)/\t<w.heap.size:=by
 obtain⟨⟨q,h1,h2⟩,_⟩:=h;exact⟨fun k hk=>h1.lt k (List.mem_cons_of_mem _ hk),h1.lt t (List.mem_cons_self ..)⟩
theorem TxS.from (h:TxS w0 R w t d s n E):Below w0.heap.size w0 w:=by
 obtain⟨⟨q,h1,h2⟩,_⟩:=h;exact h1.size
theorem TxS.below (h:TxS w0 R w t d s n E)(hb:Below w.heap.size w w'):TxS w0 R w' t d s n E:=by
 have hl:=h.lt.2;obtain⟨⟨q,h1,h2⟩,h3⟩:=h;exact⟨⟨q,h1.below hb,(hb.block t hl).trans h2⟩,h3⟩
theorem TxS.kept (h:TxS w0 R w t d s n E)(hb:Below w.heap.size w w'):KeptT R t w w':=fun k hk _=>hb.block k (h.lt.1 k hk)
theorem TxS.sub (h:TxS w0 R w t d s n E)(hs:∀ k∈R',k∈R):TxS w0 R' w t d s n E:=by
 obtain⟨⟨q,h1,h2⟩,h3⟩:=h;exact⟨⟨q,h1.sub (fun k hk=>by simp only[List.mem_cons] at hk |-;exact hk.imp id (hs k)),h2⟩,h3⟩
theorem TxS.more (h:TxS w0 R w t d s n E)(hb:Below w.heap.size w w')(k:Nat)(h1:w.heap.size<=k)(h2:k<w'.heap.size):TxS w0 (k::R) w' t d s n E:=by
 have hl:=h.lt.2;obtain⟨⟨q,g1,g2⟩,g3⟩:=h;exact⟨⟨q,(g1.more hb k h1 h2).sub (fun i hi=>by simp only[List.mem_cons] at hi |-;rcases hi with hi|hi|hi <;> simp[hi]),(hb.block t hl).trans g2⟩,g3⟩
theorem TxS.turn (h:TxS w0 R w t d s n E){k:Nat}(hk:k∈R)(hn:k≠t)(h0:w0.heap.size<=k)(hf:Frm (fun x=>x=k) w w'):TxS w0 R w' t d s n E:=by
 have hl:=h.lt.2;obtain⟨⟨q,h1,h2⟩,h3⟩:=h;exact⟨⟨q,h1.turn (List.mem_cons_of_mem _ hk) h0 hf,(hf.block t hl (fun e=>hn e.symm)).trans h2⟩,h3⟩
theorem TxS.box (h:TxS w0 R w t d s n E)(o:Obj):TxS w0 (w.heap.size::R) (w.alloc o) t d s n E/\KeptT R t w (w.alloc o)/\(w.alloc o).heap[w.heap.size]?=some o/\w.heap.size≠t/\(w.alloc o).heap.size=w.heap.size+1/\w0.heap.size<=w.heap.size/\∀ k∈R,k≠w.heap.size:=by
 have hb:=aB w o;have hl:=h.lt;refine⟨h.more hb _ (Nat.le_refl _) (by simp),h.kept hb,han w o,by omega,by simp,h.from.size,fun k hk=>?_⟩;have:=hl.1 k hk;omega
theorem xA (h:TxS w0 R w t d s n E) :
  () 80 #[t] w fun e' w'=>e'=.returned (.int .i64 0)/\w=w':=by
 obtain⟨⟨q,h1,h2⟩,h3⟩:=h;exact aFV h2
theorem pR {key:Int}{val:ByteArray}(h:TxS w0 R w t d s 640 E)(hE:E.length<=300)(hk:0<=key/\key<=18446744073709551615)(hv:val.size<=40) :
  () 49 #[t,.int .u64 key,val] w fun e w'=>e=.returned (.bool true)/\TxS w0 R w' t d s 640 (aY key val E)/\KeptT R t w w':=by
 obtain⟨⟨q,h1,h2⟩,h3⟩:=h;refine(aFL h1 h2 h3 8 (by decide) (by omega) (by omega) hk hv).mono ?_;rintro e w' ⟨rfl,q',g1,g2,g3⟩;exact⟨rfl,⟨⟨q',g1,g2⟩,h3⟩,g3⟩
theorem wW {key:Int}(h:TxS w0 R w t d s n E)(hE:E.length<=600)(hk:0<=key/\key<=18446744073709551615)(gv:ByteArray)(gb:Bool)(hgv:jJ key E=gv)(hgb:eE key E=gb) :
  () 58 #[t,.int .u64 key] w fun e w'=>e=.returned (.tuple #[gv,gb])/\TxS w0 R w' t d s n E/\KeptT R t w w':=by
 obtain⟨⟨q,h1,h2⟩,h3⟩:=h;refine(aFT h1 h2 h3 hE hk gv gb hgv hgb).mono ?_;rintro e w' ⟨rfl,g1,g2,g3⟩;exact⟨rfl,⟨⟨q,g1,g2⟩,h3⟩,g3⟩
end
theorem BL (a:Addr)(w:World):(binOp .eql 24 (.pointer (some a)) (.pointer none)).run Tryz.prog w=.ok (.bool false) w:=by kernel_rfl
theorem mZ {w0 w:World}{R:List Nat}{t d s n k:Nat}{E E':List Ent}{caps:Array Value}{e:Int}{Q:World->Prop}(h:TxS w0 R w t d s n E)(hk:∀ w,(callFunc k caps).run Tryz.prog w=.ok (.enter k caps) w)
  (HC:Calls Tryz.prog k caps w fun e' w'=>e'=.returned e/\TxS w0 R w' t d s n E'/\Q w') :
  () 41 #[t,.func (.func k) #[] caps] w fun e' w'=>e'=.returned e/\TxS w0 R w' t d s n E'/\Q w':=by
 have ER:=Hd (xA h);have H:=Hd HC;clear h HC;go_enter Tryz.func41,Tryz.ntmps41;go_wp2_with fail;refine ER.mono ?_;rintro e' w1 ⟨rfl,rfl⟩;clear ER;go_wp2_with fail;refine H.mono ?_;rintro e' w2 ⟨rfl,h1,h2⟩;have ER:=Hd (xA h1);have FIN:=Hd (And.intro h1 h2);clear h1 h2 H;go_wp2_with fail;refine ER.mono ?_;rintro e' w1 ⟨rfl,rfl⟩;clear ER;go_wp2_with fail;go_ret;exact⟨rfl,FIN.o⟩
theorem YI {w0 w:World}{R:List Nat}{t d s n b c:Nat}{E E':List Ent}{k:Nat}{caps:Array Value}{x e:Int}(h:TxS w0 R w t d s n E)(hb:w.heap[b]?=some (.cells #[.func (.func k) #[] caps] 59))(hc:w.heap[c]?=some (.cells #[(0:Int)] 3))(hcR:c∈R)(hct:c≠t)(hc0:w0.heap.size<=c)
  (hk:∀ w,(callFunc k caps).run Tryz.prog w=.ok (.enter k caps) w)(HC:Calls Tryz.prog k caps w fun e' w'=>e'=.returned (.tuple #[x,e])/\TxS w0 R w' t d s n E'/\KeptT R t w w') :
  () 67 #[b,c] w fun e' w'=>e'=.returned e/\TxS w0 R w' t d s n E'/\w'.heap[c]?=some (.cells #[x] 3)/\∀ k∈R,k≠t->k≠c->w'.heap[k]?=w.heap[k]?:=by
 have cb:=(aD hb).1;have H:=Hd HC;have HX:=Hd (And.intro hc (And.intro hcR (And.intro hct hc0)));clear h hb hc hcR hct hc0 HC;go_enter Tryz.func67,Tryz.ntmps67;go_wp2_with fail;refine H.mono ?_;rintro e' w1 ⟨rfl,h1,h2⟩;have hc1:=(h2 c HX.2.1 HX.2.2.1).trans HX.1;obtain⟨c1,g1⟩:=aD hc1
 have FIN:Hid (TxS w0 R (w1.setCell ⟨c,0,none⟩ (.int .i64 x)) t d s n E'/\(w1.setCell ⟨c,0,none⟩ (.int .i64 x)).heap[c]?=some (.cells #[x] 3)/\∀ k∈R,k≠t->k≠c->(w1.setCell ⟨c,0,none⟩ (.int .i64 x)).heap[k]?=w.heap[k]?):=Hd (by
  have f:=eT (w:=w1) (b:=c) (i:=0) (.int .i64 x);refine⟨h1.turn HX.2.1 HX.2.2.1 HX.2.2.2 f,?_,fun k hk hn hnc=>(f.block k (h1.lt.1 k hk) hnc).trans (h2 k hk hn)⟩;rw[hss _ _ 0 _ _ _ hc1];rfl)
 clear h1 h2 hc1 cb;go_wp2_with fail;go_ret;exact⟨rfl,FIN.o⟩
theorem wV {w0 w:World}{R:List Nat}{t d s n:Nat}{E E':List Ent}{k:Nat}{caps:Array Value}{x e y:Int}(h:TxS w0 R w t d s n E)(he:(e=0/\y=x)\/(e≠0/\y=0))
  (hk:∀ w,(callFunc k caps).run Tryz.prog w=.ok (.enter k caps) w)(HC:∀ R' wa,(∀ k∈R,k∈R')->TxS w0 R' wa t d s n E->KeptT R t w wa->Calls Tryz.prog k caps wa fun e' w'=>e'=.returned (.tuple #[x,e])/\TxS w0 R' w' t d s n E'/\KeptT R' t wa w') :
  () 23 #[t,.func (.func k) #[] caps] w fun e' w'=>e'=.returned (.tuple #[y,e])/\TxS w0 R w' t d s n E'/\KeptT R t w w':=by
 obtain⟨a1,a2,a3,a4,a5,a6,a7⟩:=h.box (.cells #[.func (.func k) #[] caps] 59);obtain⟨x1,hx1⟩:∃ x1,w.alloc (.cells #[.func (.func k) #[] caps] 59)=x1:=⟨_,rfl⟩
 rw[hx1] at a1 a2 a3 a5;obtain⟨b1,b2,b3,b4,b5,b6,b7⟩:=a1.box (.cells #[(0:Int)] 3);obtain⟨x2,hx2⟩:∃ x2,x1.alloc (.cells #[(0:Int)] 3)=x2:=⟨_,rfl⟩
 rw[hx2] at b1 b2 b3 b5;rw[a5] at b1 b3 b4 b5 b6 b7;have hbk:=(b2 w.heap.size (by simp) a4).trans a3;have HK:=HC ((w.heap.size+1)::w.heap.size::R) x2 (fun k hk=>by simp[hk]) b1 (a2.trans (b2.sub (fun k hk=>by simp[hk])));have V1:=Hd (mZ b1 (fun w=>by kernel_rfl) (YI b1 hbk b3 (by simp) b4 b6 hk HK));have KP:=Hd (And.intro a2 (And.intro b2 (And.intro a7 b7)));have HE:=Hd he;have X1:=Hd hx1;have X2:=Hd hx2;clear h he HC a1 a2 a3 a4 a6 a7 b1 b2 b3 b4 b5 b6 b7 hbk HK hx1 hx2;have A5:=Hd a5;clear a5;go_enter Tryz.func23,Tryz.ntmps23
 go_upto_region 2 with fail
 try simp only[Nat.add_assoc,Nat.reduceAdd,World.heap_size_alloc]
 rw[X1.o,X2.o];go_wp2_with fail;refine V1.mono ?_;rintro e' w4 ⟨rfl,h1,h2,h3⟩;have c2:=(aD h2).1;have FIN:Hid (TxS w0 R w4 t d s n E'/\KeptT R t w w4):=Hd ⟨h1.sub (fun k hk=>by simp[hk]),fun k hk hn=>(h3 k (by simp[hk]) hn (KP.2.2.2 k (by simp[hk]))).trans ((KP.2.1 k (by simp[hk]) hn).trans (KP.1 k hk hn))⟩;clear h1 h2 h3 V1
 rcases HE.o with⟨rfl,rfl⟩|⟨hne,rfl⟩
 ·go_wp2_with fail
  go_ret2;exact⟨rfl,FIN.o⟩
 ·have hn1:(e==0)=false:=by simpa using hne
  have hn2:(e != 0)=true:=by simp[hne]
  clear hne;go_wp2_with fail;go_ret2;exact⟨rfl,FIN.o⟩
def bS (k a b:Int):Bool:=decide (0<=k/\k<=15)&&decide (0<=a/\a<=268435455)&&decide (0<=b/\b<=4294967295)
def aE (k a b:Int):Int:=if bS k a b=true then k*1152921504606846976+a*4294967296+b else 0
def spK (key:Int):Int:=key / 1152921504606846976
def spA (key:Int):Int:=key / 4294967296 % 268435456
def spB (key:Int):Int:=key % 4294967296
def lK:Int:=18446744073709551615
def jH (key:Int):Bool:=decide (key<lK)
def pY (key:Int):Int:=if key<lK then key+1 else 0
theorem XO (i x y:Nat)(hx:x % 2 ^ i=0)(hy:y<2 ^ i)(h1:x<18446744073709551616)(h2:y<18446744073709551616):bits BinOp.or IntKind.u64 (x:Int) (y:Int)=((x+y:Nat):Int):=by
 rw[u64_or_nat x y h1 h2,nat_join i x y hx hy]
theorem aD6 (k a b:Int)(k0:0<=k)(k1:k<=15)(a0:0<=a)(a1:a<=268435455)(b0:0<=b)(b1:b<=4294967295) :
  bits BinOp.or IntKind.u64 (bits BinOp.or IntKind.u64 (k*1152921504606846976) (a*4294967296)) b=k*1152921504606846976+a*4294967296+b:=by
 obtain⟨k,rfl⟩:=Int.eq_ofNat_of_zero_le k0;obtain⟨a,rfl⟩:=Int.eq_ofNat_of_zero_le a0;obtain⟨b,rfl⟩:=Int.eq_ofNat_of_zero_le b0;have e1:((k:Int)*1152921504606846976)=((k*1152921504606846976:Nat):Int):=by omega
 have e2:((a:Int)*4294967296)=((a*4294967296:Nat):Int):=by omega
 rw[e1,e2,XO 60 (k*1152921504606846976) (a*4294967296) (by simp) (by simp;omega) (by omega) (by omega),
  XO 32 (k*1152921504606846976+a*4294967296) b (by simp;omega) (by simp;omega) (by omega) (by omega)]
 omega
theorem zG (i:Nat)(x:Int)(m:Int)(hm:m=((2 ^ i-1:Nat):Int))(hi:2 ^ i<=18446744073709551616)(h0:0<=x)(h1:x<18446744073709551616):bits BinOp.and IntKind.u64 x m=x % ((2 ^ i:Nat):Int):=by
 obtain⟨x,rfl⟩:=Int.eq_ofNat_of_zero_le h0;have hp:0<2 ^ i:=Nat.pow_pos (by decide);rw[hm,u64_and_nat x (2 ^ i-1) (by omega) (by omega),Nat.and_two_pow_sub_one_eq_mod];simp
theorem aF3 (key:Int)(k0:0<=key)(k1:key<=18446744073709551615):wrap64 (bits BinOp.and IntKind.u64 (key / 1152921504606846976) 15)=spK key:=by
 rw[zG 4 _ 15 (by decide) (by decide) (by omega) (by omega),spK];rw[IntWalk.wrap64_in] <;> simp <;> omega
theorem aF5 (key:Int)(k0:0<=key)(k1:key<=18446744073709551615):wrap64 (bits BinOp.and IntKind.u64 (key / 4294967296) 268435455)=spA key:=by
 rw[zG 28 _ 268435455 (by simp) (by simp) (by omega) (by omega),spA];rw[IntWalk.wrap64_in] <;> simp <;> omega
theorem aF4 (key:Int)(k0:0<=key)(k1:key<=18446744073709551615):wrap64 (bits BinOp.and IntKind.u64 key 4294967295)=spB key:=by
 rw[zG 32 _ 4294967295 (by simp) (by simp) (by omega) (by omega),spB];rw[IntWalk.wrap64_in] <;> simp <;> omega
theorem cG (k a b:Int):0<=aE k a b/\aE k a b<=18446744073709551615:=by
 unfold aE
 cases h:bS k a b
 ·simp
 ·simp only[bS,Bool.and_eq_true,decide_eq_true_eq] at h
  simp only[if_true];omega
theorem dM (n last:Int)(v:Bool)(w:World)(hv:(decide (0<=n)&&decide (n<=last))=v) :
  () 117 #[n,last] w fun e w'=>e=.returned (.bool v)/\w=w':=by
 have H:=Hd hv;clear hv
 by_cases h:n<0
 ·go_enter Tryz.func117,Tryz.ntmps117
  go_wp2
  go_ret;refine⟨?_,rfl⟩;rw[<-H.o];exact aS (by simp;omega)
 ·go_enter Tryz.func117,Tryz.ntmps117
  go_wp2
  go_ret;refine⟨?_,rfl⟩;rw[<-H.o];exact aS (by simp;omega)
theorem aEA (k a b:Int)(w:World)(k0:0<=k)(k1:k<=15)(a0:0<=a)(a1:a<=268435455)(b0:0<=b)(b1:b<=4294967295) :
  () 89 #[k,a,b] w fun e w'=>e=.returned (.tuple #[.int .u64 (k*1152921504606846976+a*4294967296+b),true])/\w=w':=by
 have FIN:=Hd (aD6 k a b k0 k1 a0 a1 b0 b1);go_enter Tryz.func89,Tryz.ntmps89;go_wp2_with fail;refine(dM _ _ true _ (by simp;omega)).mono ?_;rintro e w1 ⟨rfl,rfl⟩;go_wp2_with fail;refine(dM _ _ true _ (by simp;omega)).mono ?_;rintro e w1 ⟨rfl,rfl⟩;go_wp2_with fail;refine(dM _ _ true _ (by simp;omega)).mono ?_;rintro e w1 ⟨rfl,rfl⟩;go_wp2_with fail;rw[FIN.o];go_ret2;exact⟨rfl,rfl⟩
theorem aFQ (k a b:Int)(w:World)(h:(decide (0<=k)&&decide (k<=15))=false) :
  () 89 #[k,a,b] w fun e w'=>e=.returned (.tuple #[.int .u64 0,false])/\w=w':=by
 have H:=Hd h;clear h;go_enter Tryz.func89,Tryz.ntmps89;go_wp2_with fail;refine(dM _ _ false _ H.o).mono ?_;rintro e w1 ⟨rfl,rfl⟩;go_wp2_with fail;go_ret2;exact⟨rfl,rfl⟩
theorem aFS (k a b:Int)(w:World)(k0:0<=k)(k1:k<=15)(h:(decide (0<=a)&&decide (a<=268435455))=false) :
  () 89 #[k,a,b] w fun e w'=>e=.returned (.tuple #[.int .u64 0,false])/\w=w':=by
 have H:=Hd h;clear h;go_enter Tryz.func89,Tryz.ntmps89;go_wp2_with fail;refine(dM _ _ true _ (by simp;omega)).mono ?_;rintro e w1 ⟨rfl,rfl⟩;go_wp2_with fail;refine(dM _ _ false _ H.o).mono ?_;rintro e w1 ⟨rfl,rfl⟩;go_wp2_with fail;go_ret2;exact⟨rfl,rfl⟩
theorem aFR (k a b:Int)(w:World)(k0:0<=k)(k1:k<=15)(a0:0<=a)(a1:a<=268435455)(h:(decide (0<=b)&&decide (b<=4294967295))=false) :
  () 89 #[k,a,b] w fun e w'=>e=.returned (.tuple #[.int .u64 0,false])/\w=w':=by
 have H:=Hd h;clear h;go_enter Tryz.func89,Tryz.ntmps89;go_wp2_with fail;refine(dM _ _ true _ (by simp;omega)).mono ?_;rintro e w1 ⟨rfl,rfl⟩;go_wp2_with fail;refine(dM _ _ true _ (by simp;omega)).mono ?_;rintro e w1 ⟨rfl,rfl⟩;go_wp2_with fail;refine(dM _ _ false _ H.o).mono ?_;rintro e w1 ⟨rfl,rfl⟩;go_wp2_with fail;go_ret2;exact⟨rfl,rfl⟩
theorem nZ (k a b:Int)(w:World) :
  () 89 #[k,a,b] w fun e w'=>e=.returned (.tuple #[.int .u64 (aE k a b),.bool (bS k a b)])/\w=w':=by
 by_cases hk:0<=k/\k<=15
 ·by_cases ha:0<=a/\a<=268435455
  ·by_cases hb:0<=b/\b<=4294967295
   ·have ho:bS k a b=true:=by simp[bS,hk,ha,hb]
    simpa[aE,ho] using aEA k a b w hk.1 hk.2 ha.1 ha.2 hb.1 hb.2
   ·have ho:bS k a b=false:=by simp only[bS,hb,decide_false,Bool.and_false]
    simpa[aE,ho] using aFR k a b w hk.1 hk.2 ha.1 ha.2 (by rw[<-Bool.decide_and];simp only[hb,decide_false])
  ·have ho:bS k a b=false:=by simp only[bS,ha,decide_false,Bool.and_false,Bool.false_and]
   simpa[aE,ho] using aFS k a b w hk.1 hk.2 (by rw[<-Bool.decide_and];simp only[ha,decide_false])
 ·have ho:bS k a b=false:=by simp only[bS,hk,decide_false,Bool.false_and]
  simpa[aE,ho] using aFQ k a b w (by rw[<-Bool.decide_and];simp only[hk,decide_false])
theorem qS (key:Int)(w:World)(k0:0<=key)(k1:key<=18446744073709551615)  :
  () 55 #[.int .u64 key] w fun e w'=>e=.returned (.tuple #[.int .i64 (spK key),.int .i64 (spA key),.int .i64 (spB key)])/\w=w':=by
 have F1:=Hd (aF3 key k0 k1);have F2:=Hd (aF5 key k0 k1);have F3:=Hd (aF4 key k0 k1);go_enter Tryz.func55,Tryz.ntmps55
 go_wp2
 rw[F1.o,F2.o,F3.o];go_ret3;exact⟨rfl,rfl⟩
def EP (key:Int)(w:World)(e:Ending)(w':World):Prop:=e=.returned (.tuple #[.int .u64 (pY key),.bool (jH key)])/\w=w'
theorem QW (key:Int)(w:World)(k0:0<=key)(k1:key<=18446744073709551615) :
  () 93 #[.int .u64 key] w (EP key w):=by
 by_cases h:key<18446744073709551615
 ·have F:Hid (pY key=key+1/\jH key=true):=⟨by unfold pY lK;rw[if_pos h],by unfold jH lK;simp[h]⟩
  go_enter Tryz.func93,Tryz.ntmps93
  go_wp2
  all_goals go_ret2
  refine⟨?_,rfl⟩;rw[F.1,F.2]
  rfl
 ·have F:Hid (pY key=0/\jH key=false):=⟨by unfold pY lK;rw[if_neg h],by unfold jH lK;simp;omega⟩
  go_enter Tryz.func93,Tryz.ntmps93
  go_wp2
  all_goals go_ret2
  refine⟨?_,rfl⟩;rw[F.1,F.2]
  rfl
theorem XX (key:Int)(w:World)(k0:0<=key)(k1:key<=18446744073709551615) :
  () 93 #[.int .u64 key] w fun e w'=>e=.returned (.tuple #[.int .u64 (pY key),.bool (jH key)])/\w=w':=QW key w k0 k1
theorem SO (k:Int)(w:World) :
  () 54 #[k] w fun e w'=>e=.returned (.int .u64 (aE k 0 0))/\w=w':=by
 go_enter Tryz.func54,Tryz.ntmps54;go_wp2_with fail;refine(nZ _ _ _ _).mono ?_;rintro e w1 ⟨rfl,rfl⟩;go_wp2_with fail;go_ret;exact⟨rfl,rfl⟩
def mT (key k a:Int):Bool:=(spK key==k)&&(spA key==a)
theorem aEE (key k a:Int)(w:World)(k0:0<=key)(k1:key<=18446744073709551615) :
  () 106 #[.int .u64 key,k,a] w fun e w'=>e=.returned (.bool (mT key k a))/\w=w':=by
 have F:Hid (∀ v,v=mT key k a->Ending.returned (.bool v)=Ending.returned (.bool (mT key k a))):=fun v h=>by rw[h]
 by_cases h:spK key=k
 all_goals
  go_enter Tryz.func106,Tryz.ntmps106;go_wp2_with fail;refine(qS _ _ k0 k1).mono ?_;rintro e w1 ⟨rfl,rfl⟩;go_wp2_with fail;go_ret;refine⟨F _ ?_,rfl⟩;simp[mT,h]
def NumE (E:List Ent)(q n:Int):Prop:=(eE q E=false/\n=0)\/(eE q E=true/\jJ q E=Str (aK n 3)/\0<=n/\n<=16777215)
theorem NumE.range {E:List Ent}{q n:Int}(h:NumE E q n):0<=n/\n<=16777215:=by
 rcases h with⟨_,rfl⟩|⟨_,_,h⟩
 ·decide
 ·exact h
theorem BV {n:Int}(h0:0<=n)(h1:n<=16777215):aT (Str (aK n 3)) 3=n/\aA (Str (aK n 3)) 3=⟨#[]⟩/\dE (Str (aK n 3)) 3=0/\(Str (aK n 3)).size=3:=by
 have hp:cU n 3=true:=by
  obtain⟨m,rfl⟩:=Int.eq_ofNat_of_zero_le h0;exact(fC m 3).2 ⟨by decide,by decide,by show m<16777216;omega⟩
 have h2:=mO (n:=n) (k:=3) ⟨#[]⟩ h0 hp;rw[fJ] at h2;have h3:=cW hp;refine⟨h2.1,h2.2,?_,by omega⟩;have hk:dA (Str (aK n 3)) 3=true:=by unfold dA;simp;omega
 unfold dE;rw[if_pos hk]
theorem aCY {w0 w:World}{R:List Nat}{t d s n:Nat}{E E':List Ent}{m:Int}{x e y:Int}(h:TxS w0 R w t d s n E)(he:(e=0/\y=x)\/(e≠0/\y=0))
  (HC:∀ (R':List Nat) (wa:World) (b0 b1:Nat),TxS w0 R' wa t d s n E->(wa.heap[b0]?=some (.cells #[t] 24))->(wa.heap[b1]?=some (.cells #[m] 3))->((b0∈R'/\b0≠t)/\(b1∈R'/\b1≠t))->() 110 #[b1,b0] wa fun e' w'=>e'=.returned (.tuple #[x,e])/\TxS w0 R' w' t d s n E'/\KeptT R' t wa w') :
  () 74 #[t,m] w fun e' w'=>e'=.returned (.tuple #[y,e])/\TxS w0 R w' t d s n E'/\KeptT R t w w':=by
 obtain⟨a1,a2,a3,a4,a5,a6,a7⟩:=h.box (.cells #[t] 24);obtain⟨x1,hx1⟩:∃ x1,w.alloc (.cells #[t] 24)=x1:=⟨_,rfl⟩
 rw[hx1] at a1 a2 a3 a5;obtain⟨b1,b2,b3,b4,b5,b6,b7⟩:=a1.box (.cells #[m] 3);obtain⟨x2,hx2⟩:∃ x2,x1.alloc (.cells #[m] 3)=x2:=⟨_,rfl⟩
 rw[hx2] at b1 b2 b3 b5;rw[a5] at b1 b3 b4 b5 b6 b7;have hkw:KeptT R t w x2:=a2.trans (b2.sub (fun k hk=>by simp[hk]))
 have VC:=Hd (wV (hk:=fun w=>by kernel_rfl) (n:=n) (E':=E') (x:=x) (e:=e) (y:=y) (caps:=#[.pointer (some ⟨w.heap.size+1,0,none⟩),.pointer (some ⟨w.heap.size,0,none⟩)]) b1 he (fun R' wa hs hT hK=>HC R' wa (w.heap.size) (w.heap.size+1) hT ((hK (w.heap.size) (by simp) a4).trans ((b2 (w.heap.size) (by simp) a4).trans (a3))) ((hK (w.heap.size+1) (by simp) b4).trans (b3)) ⟨⟨hs (w.heap.size) (by simp),a4⟩,⟨hs (w.heap.size+1) (by simp),b4⟩⟩));have KP:=Hd hkw;have bx:=(aD ((b2 (w.heap.size) (by simp) a4).trans (a3))).1;have X1:=Hd (And.intro hx1 hx2)
 clear h he HC hkw a1 a2 a3 a4 a5 a6 a7 b1 b2 b3 b4 b5 b6 b7 hx1 hx2;go_enter Tryz.func74,Tryz.ntmps74;go_upto_region 1 with fail
 try simp only[World.heap_size_alloc]
 rw[X1.1,X1.2];go_wp2_with fail;refine VC.mono ?_;rintro e' w2 ⟨rfl,h1,h2⟩;have FIN:Hid (TxS w0 R w2 t d s n E'/\KeptT R t w w2):=Hd ⟨h1.sub (fun k hk=>by simp[hk]),KP.trans (h2.sub (fun k hk=>by simp[hk]))⟩;clear h1 h2 VC bx;go_wp2_with fail;go_ret2;exact⟨rfl,FIN.o⟩
theorem yA {w0 w:World}{R:List Nat}{t d s n:Nat}{E:List Ent}{bn bt:Nat}{m q:Int}(h:TxS w0 R w t d s n E)(hn:w.heap[bn]?=some (.cells #[m] 3))(hb:w.heap[bt]?=some (.cells #[t] 24))(hm:(bn∈R/\bn≠t)/\(bt∈R/\bt≠t))(hE:E.length<=600)(hq:aE 9 0 m=q/\bS 9 0 m=true)(hg:eE q E=false) :
  () 110 #[bn,bt] w fun e w'=>e=.returned (.tuple #[(0:Int),(0:Int)])/\TxS w0 R w' t d s n E/\KeptT R t w w':=by
 have hqr:=cG 9 0 m;rw[hq.1] at hqr;have GE:=Hd (wW (key:=q) h hE hqr ⟨#[]⟩ false (by unfold jJ eE at *;revert hg;cases cP q E <;> simp) hg);clear hg;have KY:=Hd (fun w=>by have:=nZ 9 0 m w;rw[hq.1,hq.2] at this;exact this);have c0:=(aD hn).1;have c1:=(aD hb).1;clear h hn hb hm hE hq hqr;go_enter Tryz.func110,Tryz.ntmps110;go_wp2_with fail;refine(KY _).mono ?_;rintro e w1 ⟨rfl,rfl⟩;go_wp2_with fail;refine GE.mono ?_;rintro e w2 ⟨rfl,h1,h2⟩;have FIN:=Hd (And.intro h1 h2);clear h1 h2 GE c0 c1;go_wp2_with fail;go_ret2
 exact⟨rfl,FIN.o⟩
theorem xZ {w0 w:World}{R:List Nat}{t d s n:Nat}{E:List Ent}{bn bt:Nat}{m q:Int}(h:TxS w0 R w t d s n E)(hn:w.heap[bn]?=some (.cells #[m] 3))(hb:w.heap[bt]?=some (.cells #[t] 24))(hm:(bn∈R/\bn≠t)/\(bt∈R/\bt≠t))(hE:E.length<=600)(hq:aE 9 0 m=q/\bS 9 0 m=true){v:Int}(hg:eE q E=true)(hv:jJ q E=Str (aK v 3))(h0:0<=v)(h1:v<=16777215) :
  () 110 #[bn,bt] w fun e w'=>e=.returned (.tuple #[v,(0:Int)])/\TxS w0 R w' t d s n E/\KeptT R t w w':=by
 have hqr:=cG 9 0 m;rw[hq.1] at hqr;obtain⟨q1,q2,q3,q4⟩:=BV h0 h1;obtain⟨X,hX⟩:∃ X,Str (aK v 3)=X:=⟨_,rfl⟩
 rw[hX] at q1 q2 q3 hv;have TA:=Hd (fun w=>by have:=mI X 3 w;rw[q1,q2,q3] at this;exact this);have GE:=Hd (wW (key:=q) h hE hqr X true hv hg);have hw1:IntKind.i64.wrap v=v:=IntWalk.i64_in _ (by omega);clear hg hv h0 h1 q1 q2 q3 q4 hX;have KY:=Hd (fun w=>by have:=nZ 9 0 m w;rw[hq.1,hq.2] at this;exact this);have c0:=(aD hn).1;have c1:=(aD hb).1;clear h hn hb hm hE hq hqr;go_enter Tryz.func110,Tryz.ntmps110;go_wp2_with fail;refine(KY _).mono ?_;rintro e w1 ⟨rfl,rfl⟩;go_wp2_with fail;refine GE.mono ?_;rintro e w2 ⟨rfl,h1,h2⟩
 have FIN:=Hd (And.intro h1 h2);clear h1 h2 GE c0 c1;go_wp2_with fail;refine(TA _).mono ?_;rintro e w8 ⟨rfl,b8⟩;have F8:=Hd (And.intro (FIN.1.below b8) (FIN.2.trans (FIN.1.kept b8)));clear b8 FIN;go_wp2_with fail;go_ret2;exact⟨rfl,F8.o⟩
theorem aCZ {w0 w:World}{R:List Nat}{t d s n:Nat}{E:List Ent}{m q v:Int}(h:TxS w0 R w t d s n E)(hE:E.length<=600)(hq:aE 9 0 m=q/\bS 9 0 m=true)(hn:NumE E q v) :
  () 74 #[t,m] w fun e w'=>e=.returned (.tuple #[v,(0:Int)])/\TxS w0 R w' t d s n E/\KeptT R t w w':=
 aCY h (.inl ⟨rfl,rfl⟩) fun R' wa b0 b1 hT g0 g1 gm=>by
  rcases hn with⟨k1,rfl⟩|⟨k1,k2,k3,k4⟩
  ·exact yA hT g1 g0 ⟨gm.2,gm.1⟩ hE hq k1
  ·exact xZ hT g1 g0 ⟨gm.2,gm.1⟩ hE hq k1 k2 k3 k4
structure bG where
 pa:Int
 ob:Int
 ow:Int
 ri:Int
 ba:Int
 de:Int
 ex:Int
 cu:Int
 rv:Bool
def dH (c:bG):ByteArray:=qL c.pa c.ob c.ow c.ri c.ba c.de c.ex c.cu c.rv
def fV (id:Int)(c:bG):Prop:=capOk id c.pa c.ob c.ow c.ri c.ba c.de c.ex c.cu=true
theorem ZV {id:Int}{c:bG}(h:fV id c):sY id (dH c)=true/\vX (dH c)=c.pa/\vW (dH c)=c.ob/\vV (dH c)=c.ow/\vU (dH c)=c.ri/\vT (dH c)=c.ba/\vS (dH c)=c.de/\vR (dH c)=c.ex/\vQ (dH c)=c.cu/\(vP (dH c)==1)=c.rv:=by
 obtain⟨a0,a1,a2,a3,a4,a5,a6,a7,a8⟩:=EA (rv:=c.rv) ⟨#[]⟩ h (dH c) (fJ _);refine⟨zE c.rv h,a0,a1,a2,a3,a4,a5,a6,a7,?_⟩;rw[a8];exact zL c.rv
theorem xG {id:Int}{c:bG}(h:fV id c):(dH c).size=24:=TY c.rv h
theorem ON (id:Int)(c:bG)(w:World)(h:fV id c) :
  () 83 #[id,.string (dH c)] w fun e w'=>e=.returned (.tuple #[.agg #[id,c.pa,c.ob,c.ow,c.ri,c.ba,c.de,c.ex,c.cu,c.rv],(0:Int)])/\Below w.heap.size w w':=by
 obtain⟨h0,a0,a1,a2,a3,a4,a5,a6,a7,a8⟩:=ZV h;have:=GD id (dH c) w h0;rw[a0,a1,a2,a3,a4,a5,a6,a7,a8] at this;exact this
theorem BJ (id:Int)(c:bG)(w:World)(h:fV id c) :
  () 48 #[.agg #[id,c.pa,c.ob,c.ow,c.ri,c.ba,c.de,c.ex,c.cu,c.rv]] w fun e w'=>e=.returned (.tuple #[.string (dH c),(0:Int)])/\Below w.heap.size w w':=by
 exact QF id c.pa c.ob c.ow c.ri c.ba c.de c.ex c.cu c.rv w h
structure dU where
 nm:ByteArray
 li:Int
 ha:Int
def fZ (o:dU):ByteArray:=gR o.nm o.li o.ha
def gX (id:Int)(o:dU):Prop:=dN id o.nm o.li o.ha=true
theorem XM {id:Int}{o:dU}(h:gX id o):mG id (fZ o)=true/\nN (fZ o)=o.li/\nM (fZ o)=o.ha/\nL (fZ o)=o.nm:=by
 obtain⟨a0,a1,a2⟩:=tN ⟨#[]⟩ h (fZ o) (fJ _);exact⟨tO h,a0,a1,a2⟩
theorem qX {id:Int}{o:dU}(h:gX id o):(fZ o).size<=37/\o.nm.size<=32:=by
 have:=BS h;unfold fZ;omega
theorem OM (id:Int)(o:dU)(w:World)(h:gX id o) :
  () 73 #[id,.string (fZ o)] w fun e w'=>e=.returned (.tuple #[.agg #[id,o.nm,o.li,o.ha],(0:Int)])/\Below w.heap.size w w':=by
 obtain⟨h0,a0,a1,a2⟩:=XM h;have:=xT id (fZ o) w (by have:=(qX h).1;omega) h0;rw[a0,a1,a2] at this;exact this
theorem WS (id:Int)(o:dU)(w:World)(h:gX id o) :
  () 76 #[.agg #[id,o.nm,o.li,o.ha]] w fun e w'=>e=.returned (.tuple #[.string (fZ o),(0:Int)])/\Below w.heap.size w w':=by
 exact BE id o.nm o.li o.ha w (by have:=(qX h).2;omega) h
theorem ED {id:Int}{c:bG}(h:fV id c):1<=id/\id<=16777215:=by
 unfold fV capOk at h;simp only[Bool.and_eq_true,iL] at h;omega
structure CapR (id:Int)(c:bG):Prop where
 id0:1<=id/\id<=16777215
 pa:0<=c.pa/\c.pa<=16777215
 np:c.pa≠id
 ob:1<=c.ob/\c.ob<=16777215
 ow:1<=c.ow/\c.ow<=16777215
 ri:0<=c.ri/\c.ri<=65535
 ba:0<=c.ba/\c.ba<=4294967295
 de:1<=c.de/\c.de<=8
 pd:c.pa=0 ↔ c.de=1
 ex:0<=c.ex/\c.ex<=268435455
 cu:0<=c.cu/\c.cu<=16777215
theorem gO {id:Int}{c:bG}:fV id c ↔ CapR id c:=by
 unfold fV capOk;simp only[Bool.and_eq_true,iL,nU,bne_iff_ne,beq_iff_eq];constructor
 ·rintro⟨⟨⟨⟨⟨⟨⟨⟨⟨⟨h0,h1⟩,h2⟩,h3⟩,h4⟩,h5⟩,h6⟩,h7⟩,h8⟩,h9⟩,h10⟩
  refine⟨h0,h1,h2,h3,h4,h5,h6,h7,?_,h9,h10⟩;rw[Bool.eq_iff_iff] at h8
  simpa using h8
 ·rintro⟨h0,h1,h2,h3,h4,h5,h6,h7,h8,h9,h10⟩
  refine⟨⟨⟨⟨⟨⟨⟨⟨⟨⟨h0,h1⟩,h2⟩,h3⟩,h4⟩,h5⟩,h6⟩,h7⟩,?_⟩,h9⟩,h10⟩;rw[Bool.eq_iff_iff]
  simpa using h8
theorem tQ {id:Int}{o:dU}(h:gX id o):1<=id/\id<=16777215:=by
 unfold gX dN at h;simp only[Bool.and_eq_true,iL] at h;omega
theorem kO {id:Int}{o:dU}:gX id o ↔ ((1<=id/\id<=16777215)/\cT o.nm=true/\gM o.nm=o.nm/\(0<=o.li/\o.li<=1000)/\0<=o.ha/\o.ha<=o.li):=by
 unfold gX dN;simp only[Bool.and_eq_true,iL,beq_iff_eq];constructor
 ·rintro⟨⟨⟨⟨h0,h1⟩,h2⟩,h3⟩,h4⟩
  exact⟨h0,h1,(Lib.bytes_beq_iff _ _).1 (by simpa using h2),h3,h4⟩
 ·rintro⟨h0,h1,h2,h3,h4⟩
  exact⟨⟨⟨⟨h0,h1⟩,by rw[h2]⟩,h3⟩,h4⟩
def EQ (E:List Ent)(id:Int)(c:bG):Prop:=cP (aE 1 0 id) E=some (dH c)/\fV id c
def aFB (E:List Ent)(id:Int)(o:dU):Prop:=cP (aE 3 0 id) E=some (fZ o)/\gX id o
theorem fG {k a b:Int}:bS k a b=true ↔ (0<=k/\k<=15)/\(0<=a/\a<=268435455)/\0<=b/\b<=4294967295:=by
 unfold bS;simp only[Bool.and_eq_true,decide_eq_true_eq];constructor
 ·rintro⟨⟨h1,h2⟩,h3⟩;exact⟨h1,h2,h3⟩
 ·rintro⟨h1,h2,h3⟩;exact⟨⟨h1,h2⟩,h3⟩
theorem sI {k a b:Int}(h:bS k a b=true):spK (aE k a b)=k/\spA (aE k a b)=a/\spB (aE k a b)=b:=by
 have h':=fG.1 h;unfold aE spK spA spB;rw[if_pos h];omega
theorem aCC {q k a b:Int}(h0:0<=q)(h1:q<=18446744073709551615)(hk:spK q=k)(ha:spA q=a)(hb:spB q=b):aE k a b=q/\bS k a b=true:=by
 unfold spK at hk;unfold spA at ha;unfold spB at hb;have h:bS k a b=true:=fG.2 ⟨by omega,by omega,by omega⟩;refine⟨?_,h⟩;unfold aE;rw[if_pos h];omega
theorem qD {k a b k' a' b':Int}(h:bS k a b=true)(h':bS k' a' b'=true):aE k a b=aE k' a' b' ↔ k=k'/\a=a'/\b=b':=by
 constructor
 ·intro e
  have h1:=sI h;have h2:=sI h';rw[e] at h1;exact⟨h1.1.symm.trans h2.1,h1.2.1.symm.trans h2.2.1,h1.2.2.symm.trans h2.2.2⟩
 ·rintro⟨rfl,rfl,rfl⟩;rfl
theorem vM {α:Type}(p:α->Bool):∀ (l:List α),l.Pairwise (fun a b=>p b=true->p a=true)->l.takeWhile p=l.filter p
 | [],_=>rfl
 | x::l,h=>by
  rw[List.pairwise_cons] at h
  cases hx:p x with
  | true=>rw[List.takeWhile_cons_of_pos hx,List.filter_cons_of_pos hx,vM p l h.2]
  | false=>
   rw[List.takeWhile_cons_of_neg (by simp[hx]),List.filter_cons_of_neg (by simp[hx])];refine(List.filter_eq_nil_iff.2 fun y hy hp=>?_).symm;have:=h.1 y hy hp;rw[hx] at this;cases this
def lI (E:List Ent):Prop:=kB E/\∀ e∈E,0<=e.1/\e.1<=18446744073709551615
theorem aA5 {E:List Ent}(h:lI E)(q:Int)(p:Ent->Bool)(hp:∀ a b:Ent,q<=a.1->a.1<b.1->0<=a.1->b.1<=18446744073709551615->p b=true->p a=true):(bB q E).takeWhile p=E.filter fun e=>decide (q<=e.1)&&p e:=by
 have hs:(bB q E).Pairwise (fun a b=>p b=true->p a=true):=by
  unfold bB;refine(List.Pairwise.and_mem.1 (List.Pairwise.filter _ h.1)).imp ?_;rintro a b ⟨ha,hb,hab⟩ hpb;rw[List.mem_filter] at ha hb;exact hp a b (by simpa using ha.2) hab (h.2 a ha.1).1 (h.2 b hb.1).2 hpb
 rw[vM p _ hs];unfold bB;rw[List.filter_filter];refine List.filter_congr fun e _=>?_
 rw[Bool.and_comm]
theorem CZ (p:Int->Bool)(E:List Ent)(x:Int):cP x (E.filter fun e=>p e.1)=if p x=true then cP x E else none:=by
 unfold cP;rw[jX]
 by_cases h:p x=true
 ·rw[if_pos h,if_pos h]
 ·rw[if_neg h,if_neg h];rfl
theorem iE {E:List Ent}(h:lI E){k:Int}(v:ByteArray)(hk:0<=k/\k<=18446744073709551615):lI (aY k v E):=by
 refine⟨OR h.1 k v,fun e he=>?_⟩;unfold aY at he
 rcases List.mem_append.1 he with he|he
 ·exact h.2 e (List.mem_filter.1 he).1
 ·rcases List.mem_cons.1 he with rfl|he
  ·exact hk
  ·exact h.2 e (List.mem_filter.1 he).1
theorem RM {E:List Ent}(h:lI E)(k:Int):lI (iP k E):=⟨OT h.1 k,fun e he=>h.2 e (List.mem_filter.1 he).1⟩
theorem uA:lI []:=⟨List.Pairwise.nil,fun e he=>by cases he⟩
