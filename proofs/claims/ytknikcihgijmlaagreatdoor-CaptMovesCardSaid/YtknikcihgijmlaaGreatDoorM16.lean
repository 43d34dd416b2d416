import Derived.Test.YtknikcihgijmlaaGreatDoorM15
namespace Go.Proofs.YtknikcihgijmlaaGreatDoor
open Go.RowKit
set_option maxRecDepth 20000
set_option maxHeartbeats 12800000
set_option linter.unusedVariables false
set_option linter.unusedSimpArgs false
theorem StepA.frm2 {w w':World}{x:StepV}{M:Nod}{Z G:Nat->Prop}(h:StepA w x M Z)(hf:Frm G w w')(hk:∀ y,x.ak=some y->¬ G y.block)(hc:∀ y,x.ac=some y->¬ G y.block)(hv:M.V=[]):StepA w' x M Z:=
 { h with
  a:={ h.a with r:={ h.a.r with
   k:=h.a.r.k.frm hf fun y hy _=>hk y hy
   v:=by rw[hv];exact .inl rfl
   c:=h.a.r.c.frm hf fun y hy _=>hc y hy } }
  uk:=h.uk.frm hf hk
  uc:=h.uc.frm hf hc }
theorem StepsA.above {w w':World}{Z G:Nat->Prop}(hf:Frm G w w'):∀ (xs:List StepV) (fs:List aL) (hi:Nat),(∀ k,G k->hi<=k)->(∀ f∈fs,f.N.V=[])->StepsA w Z xs fs hi->StepsA w' Z xs fs hi:=by
 intro xs
 induction xs with
 | nil=>intro fs hi _ _ h;cases fs with|nil=>trivial|cons f fs=>exact h.elim
 | cons x xs ih=>
  intro fs hi hG hV h
  cases fs with
  | nil=>exact h.elim
  | cons f fs=>
   obtain⟨lo,h1,h2,h3,h4,h5,h6,h7⟩:=h;exact⟨lo,h1.frm2 hf (fun y hy hg=>by have:=hG _ hg;have:=(h4 y hy).2;omega) (fun y hy hg=>by have:=hG _ hg;have:=(h5 y hy).2;omega) (hV f (by simp)),h2,h3,h4,h5,h6,ih fs lo (fun k hk=>Nat.le_trans h6 (hG k hk)) (fun f' hf'=>hV f' (by simp[hf'])) h7⟩
theorem Ctx.noV {R:Int->Option Nod}:∀ (fs:List aL) {h:Nat} {FL FR:List Mk} {PC:List Int},Ctx R fs h FL FR PC->∀ f∈fs,f.N.V=[]:=by
 intro fs
 induction fs with
 | nil=>intro h FL FR PC _ f hf;cases hf
 | cons a fs ih=>
  intro h FL FR PC hc f hf;obtain⟨h1,_,_,_,h2,_⟩:=hc
  rcases List.mem_cons.1 hf with rfl|hf
  ·exact h1.v
  ·exact ih h2 f hf
def aX (M:Nod)(i:Nat)(v:Int):Nod:={ leaf:=M.leaf,K:=M.K,V:=M.V,C:=M.C.set i v }
theorem Rd.setOther {w:World}{a:Option Addr}{L:List Value}(h:Rd w a L)(b o:Nat)(v old:Value)(ho:w.cell? ⟨b,o,none⟩=some old)(hne:∀ u∈L,u≠old):Rd (w.setCell ⟨b,o,none⟩ v) a L:=by
 rcases h with h|⟨c,off,h1,h2,h3⟩
 ·exact .inl h
 ·refine .inr ⟨c,off,h1,by simp[World.setCell];exact h2,fun i u hu=>?_⟩
  have h4:=h3 i u hu;rw[<-h4];refine World.cell?_setCell_other _ _ _ _ (fun e=>?_);rw[<-e,ho] at h4;injection h4 with h4;exact hne u (List.mem_of_getElem? hu) h4.symm
theorem Rd.setSame {w:World}{b off:Nat}{L:List Value}(h:Rd w (some ⟨b,off,none⟩) L)(i:Nat)(hi:i<L.length)(v:Value):Rd (w.setCell ⟨b,off+i,none⟩ v) (some ⟨b,off,none⟩) (L.set i v):=by
 rcases h with h|⟨c,o,h1,h2,h3⟩
 ·rw[h] at hi;cases hi
 ·injection h1 with h1
  injection h1 with e1 e2;subst e1 e2;refine .inr ⟨b,off,rfl,by simp[World.setCell];exact h2,fun j u hu=>?_⟩
  by_cases hj:j=i
  ·subst hj
   rw[List.getElem?_set_self hi] at hu;injection hu with hu;subst hu;exact World.cell?_setCell_same _ _ _ (h3 j _ (List.getElem?_eq_getElem hi))
  ·rw[List.getElem?_set_ne (Ne.symm hj)] at hu
   rw[<-h3 j u hu];refine World.cell?_setCell_other _ _ _ _ (fun e=>?_);injection e with _ e;omega
theorem rW {w:World}{M:Nod}{av:Option Addr}{ak:Option Addr}{b off ck cv cc i:Nat}{Z:Nat->Prop}(h:RowsA w M ak av (some ⟨b,off,none⟩) ck cv cc Z)(hv:M.V=[])(hi:i<M.C.length)(v:Int)(hvb:-9223372036854775808<=v/\v<=9223372036854775807) :
  RowsA (w.setCell ⟨b,off+i,none⟩ (.int .i64 v)) (aX M i v) ak av (some ⟨b,off,none⟩) ck cv cc Z:=by
 have hc:=h.r.c;obtain⟨b',off',e1,e2,e3⟩:=hc.at i (by simpa using hi);injection e1 with e1;injection e1 with e1 e4;subst e1 e4;refine⟨⟨h.r.k.setOther b (off+i) _ _ e3 (fun u hu=>?_),by show Rd _ _ (M.V.map _);rw[hv];exact .inl rfl,?_,h.r.k2,h.r.k3,h.r.v2,h.r.v3,by show(M.C.set i v).length<=_;rw[List.length_set];exact h.r.c2,h.r.c3,?_⟩,h.zk,h.zv,fun x hx hL=>h.zc x hx (fun e=>hL (by show M.C.set i v=[];rw[e];rfl))⟩
 ·obtain⟨k,_,rfl⟩:=List.mem_map.1 hu
  rw[List.getElem_map];intro e;cases e
 ·show Rd _ _ ((M.C.set i v).map dT)
  rw[List.map_set];exact hc.setSame i (by simpa using hi) _
 ·have ho:=h.r.ok
  refine⟨ho.k1,ho.v1,by show(M.C.set i v).length<=_;rw[List.length_set];exact ho.c1,ho.kb,ho.vb,fun c hc=>?_⟩
  rcases List.mem_or_eq_of_mem_set hc with hc|rfl
  ·exact ho.cb c hc
  ·exact hvb
def upN (f:aL)(KM:List Int)(Q:List Int):Nod:={ leaf:=false,K:=f.KA++KM++f.KB,V:=[],C:=kP f.A++Q++kP f.B }
theorem UE {R:Int->Option Nod}{h:Nat}{f:aL}(hf:FrameOk R h f)(g:Int):aX f.N f.KA.length g=upN f [] [g]:=by
 obtain⟨c,hc⟩:=hf.c;unfold aX upN;rw[hf.lf,hf.v,hf.k,hc,List.append_nil]
 congr 1
 have:(kP f.A).length=f.KA.length:=by rw[cQ,hf.a]
 rw[List.append_assoc,List.append_assoc,List.set_append_right _ _ (by omega),this,Nat.sub_self]
 rfl
theorem aDD {R:Int->Option Nod}{h:Nat}{f:aL}(hf:FrameOk R h f)(g1 mid g2:Int):oG (upN f [] [g1]) (f.KA.length:Int) mid g2=upN f [mid] [g1,g2]:=by
 have la:(kP f.A).length=f.KA.length:=by rw[cQ,hf.a]
 have lb:(kP f.B).length=f.KB.length:=by rw[cQ,hf.b]
 unfold oG upN;rw[if_pos (by simp[bH,la,lb];omega)];simp only[List.append_nil,Int.toNat_natCast,Nod.mk.injEq,true_and];constructor
 ·rw[List.take_left' rfl,List.drop_left' rfl]
 ·have e1:(kP f.A++[g1]++kP f.B).take (f.KA.length+1)=kP f.A++[g1]:=List.take_left' (by simp[la])
  have e2:(kP f.A++[g1]++kP f.B).drop (f.KA.length+1)=kP f.B:=List.drop_left' (by simp[la]);rw[e1,e2];simp
theorem UpI.heads {dk:DkS}{st:ShS}{fs:List aL}{h:Nat}{KM:List Int}{QM:List Kid}{E:List Ent}(hu:UpI dk st fs h KM QM E)(g:eY dk st):∀ c∈kP QM,2<=c/\c<640:=by
 obtain⟨FL,FR,PC,h1,h2,h3,h4,h5,h6⟩:=hu;intro c hc;obtain⟨q,hq,rfl⟩:=List.mem_map.1 hc;obtain⟨M,PM,_,_,_,e⟩:=h3 q hq;refine h6.rng g (List.mem_append_right _ (kB.2 ⟨q,hq,by rw[e];simp⟩))
theorem UpI.frame {dk:DkS}{st:ShS}{f:aL}{fs:List aL}{h:Nat}{KM:List Int}{QM:List Kid}{E:List Ent}(hu:UpI dk st (f::fs) h KM QM E):FrameOk (Rn dk) h f:=by
 obtain⟨FL,FR,PC,⟨h1,_⟩,_⟩:=hu;exact h1
theorem aC2 {dk:DkS}{st:ShS}{f:aL}{fs:List aL}{h:Nat}{KM:List Int}{QM:List Kid}{E:List Ent}(hu:UpI dk st (f::fs) h KM QM E)(g:eY dk st)(hl:KM.length<=1):NB (upN f KM (kP QM)) 320/\(upN f KM (kP QM)).K≠[]/\AtI dk st fs (h+1) f.page (upN f KM (kP QM)) E:=by
 have hf:=hu.frame;have hh:=hu.heads g;have ha:=aAA hu (upN f KM (kP QM)) rfl rfl rfl rfl;have hn:=NB.of_right hf.r;obtain⟨c,hc⟩:=hf.c;obtain⟨_,_,_,_,h2,_⟩:=hu;refine⟨⟨fun v hv=>(by cases hv),fun x hx=>?_,?_⟩,?_,ha⟩
 ·simp only[upN,List.mem_append] at hx
  rcases hx with(hx|hx)|hx
  ·exact hn.2.1 x (by rw[hc];simp[hx])
  ·exact hh x hx
  ·exact hn.2.1 x (by rw[hc];simp[hx])
 ·have hz:=hn.2.2
  unfold aI at hz |-;rw[hf.lf,hf.k,hc] at hz;simp only[upN,Bool.false_eq_true,if_false,List.length_append,cQ,List.length_singleton] at hz |-;omega
 ·intro e
  have e1:=congrArg List.length e;simp only[upN,List.length_append,List.length_nil] at e1;have:=List.length_pos_iff.2 hf.k0;rw[hf.k,List.length_append] at this;omega
def rU (w:World)(d s g:Nat)(dk:DkS)(st:ShS)(F:Nat->Prop)(E:List Ent)(m:Nat)(e:Ending)(w':World):Prop:=
 ∃ q dk' st' r',e=.returned (.tuple #[.int .i64 q,(0:Int)])/\TSPost w d s g dk' st' r' F w'/\TreeI dk' st' q E/\To dk st dk' st'/\∀ k,Room dk st (k+m)->Room dk' st' k
theorem UA (w:World)(d s g:Nat)(dk:DkS)(st:ShS)(r:Nat)(F:Nat->Prop)(h:TS w d s g dk st r F)(G:eY dk st)(hroom:Room dk st 1)(hl:LiveL st [])(key:Int)(hk:0<=key/\key<=18446744073709551615)(v:ByteArray)(hv:v.size<=40) :
  () 116 #[g,(0:Int),.int .u64 key,v] w (rU w d s g dk st F (bF key v []) 1):=by
 have hn0:NodR w ⟨true,[],[],[]⟩ none none none 0 0 0:=⟨.inl rfl,.inl rfl,.inl rfl,Nat.le_refl _,Nat.zero_le _,Nat.le_refl _,Nat.zero_le _,Nat.le_refl _,Nat.zero_le _,⟨Nat.zero_le _,Nat.zero_le _,Nat.zero_le _,by simp,by simp,by simp⟩⟩
 have PT:=Hd (WA ⟨true,[],[],[]⟩ none none none 0 0 0 w hn0 key v rfl rfl (by simp) hk (by omega));have hN:fN ⟨true,[],[],[]⟩ key v=⟨true,[key],[v],[]⟩:=rfl;rw[hN] at PT;have hr:cC ⟨true,[key],[v],[]⟩=true:=(dV _).2 ⟨(dX _).2 ⟨fun i hi=>by simp at hi,by simpa using hv,by simp⟩,rfl,fun _=>by simp,by simp[aI,bK];omega⟩
 have PL:Hid (∀ w1 ak av ac ck cv cc,Below w.heap.size w w1->NodR w1 ⟨true,[key],[v],[]⟩ ak av ac ck cv cc->LoR w.heap.size ak av ac->() 136 #[g,aJ ⟨true,[key],[v],[]⟩ ak av ac ck cv cc] w1 (rU w d s g dk st F (bF key v []) 1)):=Hd (fun w1 ak av ac ck cv cc b hn hlo=>by
  refine(nG w1 d s g dk st r F (h.below b) G hroom _ hr ak av ac ck cv cc (RowsA.new hn hlo.1 hlo.2.1 hlo.2.2 h.lt)).mono ?_;rintro e w2 ⟨q,dk',st',rfl,hp,hpl,hrm⟩;refine⟨q,dk',st',r,rfl,TSPost.chain b hp,.inr ⟨0,[(key,some v)],[q],⟨_,[],hpl.rd,by simp,⟨rfl,rfl,rfl,rfl,rfl⟩,rfl⟩,List.pairwise_singleton _ _,rfl,(hpl.lv [] hl).1⟩,hpl.tt,hrm⟩)
 clear h hroom hl hn0 hr hN G;unfold aJ at *;go_enter Tryz.func116,Tryz.ntmps116;go_wp2_with fail;refine PT.mono ?_;rintro e w1 ⟨⟨ak,av,ac,ck,cv,cc,rfl,hR,q1,q2,q3⟩,b1⟩;have P1:=Hd (PL w1 ak av ac ck cv cc b1 hR ⟨q1,q2,q3⟩);unfold aJ;clear hR q1 q2 q3 b1;go_wp2_with fail;refine P1.mono ?_;rintro e w2 ⟨q,dk',st',r',rfl,z2,z3,z4,z5⟩;have FIN:Hid (rU w d s g dk st F (bF key v []) 1 (.returned (.tuple #[.int .i64 q,(0:Int)])) w2):=Hd ⟨q,dk',st',r',rfl,z2,z3,z4,z5⟩;clear z2 z3 z4 z5;go_wp2_with fail;go_ret2;exact FIN.o
structure ZR (w:World)(d s g:Nat)(dk:DkS)(st:ShS)(r:Nat)(F:Nat->Prop)(E:List Ent)(bw bx m:Nat)(wr:World)(fs:List aL)(xs:List StepV)(hh:Nat)(dk':DkS)(st':ShS)(F' FW:Nat->Prop)(KM:List Int)(QM:List Kid)(g1 g2 g3:Int)(hi:Nat):Prop where
 ts:TS wr d s g dk' st' r F'
 fr:Frm F w wr
 fn:∀ k,F' k->F k\/w.heap.size<=k
 way:Way wr bw xs.reverse FW
 ap:∀ k,FW k->¬ F' k
 wl:∀ k,FW k->w.heap.size<=k
 gb:wr.heap[bx]?=some (grO g1 g2 g3)
 bxF:¬ F' bx
 bxW:¬ FW bx
 bxl:w.heap.size<=bx
 sts:StepsA wr (fun k=>F' k\/FW k\/k=bx) xs fs hi
 rl:∀ x∈xs,(∀ y,x.ak=some y->w.heap.size<=y.block)/\∀ y,x.ac=some y->w.heap.size<=y.block
 hib:hi<=wr.heap.size
 up:UpI dk' st' fs hh KM QM E
 gr:GR g1 g2 g3 KM QM
 g3:0<=g3/\g3<=18446744073709551615
 tt:To dk st dk' st'
 rm:∀ k,Room dk st (k+m)->Room dk' st' (k+2*fs.length+1)
def ZY (b:Nat)(w:World):Nat:=match w.cell? ⟨b,0,none⟩ with|some (.slice _ n _)=>n|_=>0
theorem jV {w:World}{b:Nat}{L:List StepV}{F:Nat->Prop}(h:Way w b L F):ZY b w=L.length:=by
 obtain⟨v,hi,_⟩:=h;obtain⟨a,c,rfl,_⟩:=bP hi.own;unfold ZY;rw[kJ hi.box]
structure aEP (w:World)(d s g:Nat)(dk:DkS)(st:ShS)(r:Nat)(F:Nat->Prop)(w4:World)(bw bs:Nat)(v:Value)(fs:List aL)(xs:List StepV)(x:StepV)(M:Nod)(hi:Nat):Prop where
 ts:TS w4 d s g dk st r F
 fr:Frm F w w4
 fl:∀ k,F k->k<w.heap.size
 way:Way w4 bw xs.reverse (WF bw v)
 wl:∀ k,WF bw v k->w.heap.size<=k/\k<bs
 st:StepsA w4 (fun k=>F k\/WF bw v k) xs fs hi
 rl:∀ x∈xs,(∀ y,x.ak=some y->w.heap.size<=y.block)/\∀ y,x.ac=some y->w.heap.size<=y.block
 hi:hi<=bs
 lf:StepA w4 x M (fun k=>F k\/WF bw v k)
 box:w4.heap[bs]?=some (.cells #[.int .i64 x.p,.int .i64 x.i,.bool x.fd,.bool x.lf,.slice x.ak x.lk x.ck,.slice x.av x.lv x.cv,.slice x.ac x.lc x.cc] 168)
 bs0:w.heap.size<=bs
 bs1:w4.heap.size=bs+1
theorem LG {w:World}{d s g:Nat}{dk:DkS}{st:ShS}{r:Nat}{F:Nat->Prop}{F0:List Mk}{P0:List Int}{key:Int}{H:Nat}{v:Value}{w1 w3:World}{fs:List aL}{xs:List StepV}{x:StepV}{M:Nod}{i:Nat}{fd:Bool}{FL FR Fh:List Mk}{PC:List Int}{hi:Nat}
  (hL:∀ k,F k->k<w.heap.size)(hF:F g)(hD:aFS w d s g dk st r F F0 P0 key H v w1 fs xs x M i fd FL FR Fh PC hi)(hw3:Way w3 w1.heap.size xs.reverse (WF w1.heap.size v))(hf3:Frm (fun k=>k=w1.heap.size) (w1.alloc (.cells #[v] 160)) w3) :
  aEP w d s g dk st (r+H+1) F (w3.alloc (.cells #[.int .i64 x.p,x.i,x.fd,x.lf,x.ak x.lk x.ck,x.av x.lv x.cv,x.ac x.lc x.cc] 168)) w1.heap.size w3.heap.size v fs xs x M hi:=by
 have s1:=hD.fr.size;have s3:w1.heap.size+1<=w3.heap.size:=by have:=hf3.size;rw[World.size_alloc] at this;exact this
 have f13:Frm (fun k=>k=w1.heap.size) w1 w3:=((Frm.refl _ w1).alloc _).trans hf3 (fun k hk=>.inl hk);have f14:Frm (fun k=>k=w1.heap.size) w1 (w3.alloc (.cells #[.int .i64 x.p,x.i,x.fd,x.lf,x.ak x.lk x.ck,x.av x.lv x.cv,x.ac x.lc x.cc] 168)):=f13.alloc _;have b34:Below w3.heap.size w3 (w3.alloc (.cells #[.int .i64 x.p,x.i,x.fd,x.lf,x.ak x.lk x.ck,x.av x.lv x.cv,x.ac x.lc x.cc] 168)):=(Below.refl _ w3).alloc (Nat.le_refl _) _
 have hown:∀ k,v.ownBlock=some k->k<w1.heap.size:=fun k hk=>(hD.own.lt k hk).2
 have grw:∀ k,(F k\/WF w1.heap.size v k)->(F k\/v.ownBlock=some k)\/w1.heap.size<=k:=by
  rintro k (hk|hk|hk)
  ·exact .inl (.inl hk)
  ·exact .inr (by omega)
  ·exact .inl (.inr hk)
 refine⟨?_,?_,hL,hw3.below b34,?_,?_,hD.rl,?_,?_,han w3 _,by omega,by simp⟩
 ·exact hD.ts.frm f14 (fun k hk e=>by have:=hL k hk;omega)
 ·exact(hD.fr.mono (fun k hk=>hk ▸ hF)).trans f14 (fun k hk=>.inr (by omega))
 ·rintro k (hk|hk)
  ·omega
  ·have:=hown k hk;have:=hD.lo k hk;omega
 ·exact StepsA.frm f14 (fun k hk=>.inr (.inl hk)) xs fs hi (StepsA.grow grw xs fs hi hD.st)
 ·have:=hD.hi;omega
 ·exact(hD.lf.grow grw).frm f14 (fun k hk=>.inr (.inl hk))
theorem oN {w:World}{d s g:Nat}{dk dk':DkS}{st st':ShS}{r:Nat}{F F':Nat->Prop}{w4 wg wh we:World}{bw bs bx hh m:Nat}{v:Value}{fs:List aL}{xs:List StepV}{x:StepV}{M:Nod}{hi:Nat}{E:List Ent}{KM:List Int}{QM:List Kid}{g1 g2 g3:Int}
  (hP:aEP w d s g dk st r F w4 bw bs v fs xs x M hi)(b4:Below w4.heap.size w4 wg)(t1:TS wh d s g dk' st' r F')(t2:Frm F wg wh)(t3:∀ k,F' k->F k\/wg.heap.size<=k)(nb:¬ F' bx)(hb4:w4.heap.size<=bx)(fe:Frm (fun k=>k=bx) wh we)(hbx:we.heap[bx]?=some (grO g1 g2 g3))
  (hu:UpI dk' st' fs hh KM QM E)(hg:GR g1 g2 g3 KM QM)(hg3:0<=g3/\g3<=18446744073709551615)(tt:To dk st dk' st')(rm:∀ k,Room dk st (k+m)->Room dk' st' (k+2*fs.length+1)) :
  ZR w d s g dk st r F E bw bx m we fs xs hh dk' st' F' (WF bw v) KM QM g1 g2 g3 hi:=by
 have s4:=b4.size;have sg:=t2.size;have f4h:Frm F w4 wh:=(Frm.of_below b4:Frm F w4 wg).trans t2 (fun k hk=>.inl hk)
 have grw:∀ k,(F k\/F' k\/WF bw v k\/k=bx)->(F k\/WF bw v k)\/w4.heap.size<=k:=by
  rintro k (hk|hk|hk|hk)
  ·exact .inl (.inl hk)
  ·rcases t3 k hk with h|h
   ·exact .inl (.inl h)
   ·exact .inr (by omega)
  ·exact .inl (.inr hk)
  ·exact .inr (by omega)
 have hbs:=hP.bs1;refine⟨t1.frm fe (fun k hk e=>nb (e ▸ hk)),?_,fun k hk=>?_,?_,?_,fun k hk=>(hP.wl k hk).1,hbx,nb,fun hk=>?_,by have:=hP.bs0;omega,?_,hP.rl,?_,hu,hg,hg3,tt,rm⟩
 ·exact(hP.fr.trans f4h (fun k hk=>.inl hk)).trans fe (fun k hk=>.inr (by have:=hP.bs0;omega))
 ·rcases t3 k hk with h|h
  ·exact .inl h
  ·exact .inr (by have:=hP.bs0;omega)
 ·refine Way.frm (Way.frm hP.way f4h (fun k hk hf=>?_)) fe (fun k hk e=>?_)
  ·have:=(hP.wl k hk).1;have:=hP.fl k hf;omega
  ·have:=(hP.wl k hk).2;omega
 ·intro k hk hf
  rcases t3 k hf with h|h
  ·have:=(hP.wl k hk).1;have:=hP.fl k h;omega
  ·have:=(hP.wl k hk).2;omega
 ·have:=(hP.wl _ hk).2;omega
 ·have e1:=StepsA.grow grw xs fs hi hP.st
  have e2:=StepsA.frm f4h (fun k hk=>.inl hk) xs fs hi e1;have e3:=StepsA.frm fe (fun k hk=>.inr (.inr (.inr hk))) xs fs hi e2;exact StepsA.mono (fun k hk=>.inr hk) xs fs hi e3
 ·have:=hP.hi;have:=fe.size;omega
structure RoundS (w:World)(d s g:Nat)(dk:DkS)(st:ShS)(r:Nat)(F:Nat->Prop)(E:List Ent)(bw bx bs m:Nat)(wz:World)(fs:List aL)(xs:List StepV)(hh:Nat)(dk':DkS)(st':ShS)(F' FW:Nat->Prop)(g1 g2 g3:Int)(hi:Nat)(p:Int)(N:Nod)(rm2:Nat):Prop where
 ts:TS wz d s g dk' st' r F'
 fr:Frm F w wz
 fn:∀ k,F' k->F k\/w.heap.size<=k
 way:Way wz bw xs.reverse FW
 ap:∀ k,FW k->¬ F' k
 wl:∀ k,FW k->w.heap.size<=k
 gb:wz.heap[bx]?=some (grO g1 g2 g3)
 bxF:¬ F' bx
 bxW:¬ FW bx
 bxl:w.heap.size<=bx
 bsF:¬ F' bs
 bsW:¬ FW bs
 bsX:bs≠bx
 bsl:w.heap.size<=bs
 bsz:bs<wz.heap.size
 hbs:hi<=bs
 sts:StepsA wz (fun k=>F' k\/FW k\/k=bx) xs fs hi
 rl:∀ x∈xs,(∀ y,x.ak=some y->w.heap.size<=y.block)/\∀ y,x.ac=some y->w.heap.size<=y.block
 nv:∀ f∈fs,f.N.V=[]
 at_:AtI dk' st' fs hh p N E
 nb:NB N 320
 nk:N.K≠[]
 tt:To dk st dk' st'
 rm:∀ k,Room dk st (k+m)->Room dk' st' (k+2*fs.length+3)
theorem RoundS.below {w:World}{d s g:Nat}{dk:DkS}{st:ShS}{r:Nat}{F:Nat->Prop}{E:List Ent}{bw bx bs m:Nat}{wz wy:World}{fs:List aL}{xs:List StepV}{hh:Nat}{dk':DkS}{st':ShS}{F' FW:Nat->Prop}{g1 g2 g3:Int}{hi:Nat}{p:Int}{N:Nod}{rm2:Nat}
  (h:RoundS w d s g dk st r F E bw bx bs m wz fs xs hh dk' st' F' FW g1 g2 g3 hi p N rm2)(hf:Frm (fun k=>k=bs) wz wy):RoundS w d s g dk st r F E bw bx bs m wy fs xs hh dk' st' F' FW g1 g2 g3 hi p N rm2:=
 { h with
  ts:=h.ts.frm hf (fun k hk e=>h.bsF (e ▸ hk))
  fr:=h.fr.trans hf (fun k hk=>.inr (by subst hk;exact h.bsl))
  way:=h.way.frm hf (fun k hk e=>h.bsW (e ▸ hk))
  gb:=(hf.block bx (zl h.gb) (fun e=>h.bsX e.symm)).trans h.gb
  bsz:=Nat.lt_of_lt_of_le h.bsz hf.size
  sts:=StepsA.above hf xs fs hi (fun k hk=>by subst hk;exact h.hbs) h.nv h.sts }
theorem AI {w:World}{d s g:Nat}{dk:DkS}{st:ShS}{r:Nat}{F:Nat->Prop}{E:List Ent}{bw bx m:Nat}{wr w2:World}{f:aL}{fs:List aL}{x:StepV}{xs:List StepV}{hh:Nat}{dk':DkS}{st':ShS}{F' FW:Nat->Prop}{KM:List Int}{QM:List Kid}{g1 g2 g3:Int}{hi:Nat}
  (hF:∀ k,F k->k<w.heap.size)(hJ:ZR w d s g dk st r F E bw bx m wr (f::fs) (x::xs) hh dk' st' F' FW KM QM g1 g2 g3 hi)(hl:KM.length<=1)(hw2:Way w2 bw xs.reverse FW)(hf2:Frm (fun k=>k=bw) wr w2)(hbw:FW bw) :
  ∃ (cb off:Nat),x.ac=some ⟨cb,off,none⟩/\x.i=(f.KA.length:Int)/\f.KA.length<x.lc/\x.lc=f.N.C.length/\cb<w2.heap.size /\
   (∃ c,w2.cell? ⟨cb,off+f.KA.length,none⟩=some (.int .i64 c))/\w2.frozen? ⟨cb,off+f.KA.length,none⟩=false/\cb≠bx/\w2.heap[bx]?=some (grO g1 g2 g3) /\
   ∀ w3,w3=(w2.alloc (.cells #[.int .i64 x.p,x.i,x.fd,x.lf,x.ak x.lk x.ck,x.av x.lv x.cv,x.ac x.lc x.cc] 168))->∀ w4,w4=w3.setCell ⟨cb,off+f.KA.length,none⟩ (.int .i64 g1) ->
    ∃ lo,RoundS w d s g dk st r F E bw bx w2.heap.size m w4 fs xs (hh+1) dk' st' F' FW g1 g2 g3 lo f.page (upN f KM (kP QM)) 0/\RowsA w4 (aX f.N f.KA.length g1) x.ak x.av x.ac x.ck x.cv x.cc F'/\x.p=f.page /\
     w4.heap[w2.heap.size]?=some (.cells #[.int .i64 x.p,x.i,x.fd,x.lf,x.ak x.lk x.ck,x.av x.lv x.cv,x.ac x.lc x.cc] 168)/\x.lf=f.N.leaf/\x.lk=f.N.K.length/\x.lv=f.N.V.length:=by
 obtain⟨lo,sA,sp,si,sk,sc,slo,srest⟩:=hJ.sts;have hfr:=hJ.up.frame;obtain⟨c,hc⟩:=hfr.c
 have hclen:f.KA.length<f.N.C.length:=by
  rw[hc];simp only[List.length_append,cQ,List.length_singleton];have:=hfr.a;omega
 have hCne:f.N.C≠[]:=fun e=>by rw[e] at hclen;exact absurd hclen (Nat.not_lt_zero _)
 have sA2:StepA w2 x f.N (fun k=>F' k\/FW k\/k=bx):=sA.frm hf2 (fun k hk=>.inr (.inl (hk ▸ hbw)));obtain⟨cb,off,e1,e2,e3⟩:=sA2.a.r.c.at f.KA.length (by simpa using hclen);have hucb:=sA2.uc _ e1;have hzcb:=sA2.zc _ e1;have hscb:=sc _ e1;have hbx2:w2.heap[bx]?=some (grO g1 g2 g3):=(hf2.block bx (zl hJ.gb) (fun e=>hJ.bxW (e ▸ hbw))).trans hJ.gb
 have hg1b:2<=g1/\g1<640:=by
  have hh:=hJ.up.heads hJ.tt.g
  rcases hJ.gr with⟨q,_,hQ,h1,_⟩|⟨q1,q2,_,hQ,h1,_⟩
  ·exact hh g1 (by rw[hQ,h1];simp[kP])
  ·exact hh g1 (by rw[hQ,h1];simp[kP])
 refine⟨cb,off,e1,si,by rw[sA.lc];exact hclen,sA.lc,e2,⟨_,by rw[e3,List.getElem_map];rfl⟩,hucb.2 _,fun e=>hzcb (.inr (.inr e)),hbx2,fun w3 hw3 w4 hw4=>?_⟩;have b3:Below w2.heap.size w2 w3:=by rw[hw3];exact(Below.refl _ w2).alloc (Nat.le_refl _) _
 have z3:w3.heap.size=w2.heap.size+1:=by rw[hw3];simp
 have x3:w3.heap[w2.heap.size]?=some (.cells #[.int .i64 x.p,x.i,x.fd,x.lf,x.ak x.lk x.ck,x.av x.lv x.cv,x.ac x.lc x.cc] 168):=by rw[hw3];exact han w2 _
 have f4:Frm (fun k=>k=cb) w3 w4:=by rw[hw4];exact(Frm.refl _ w3).setCell _ _ (.inl rfl)
 have f24:Frm (fun k=>k=cb) w2 w4:=(Frm.of_below b3:Frm (fun k=>k=cb) w2 w3).trans f4 (fun k hk=>.inl hk);have fr4:Frm (fun k=>k=bw\/k=cb) wr w4:=(hf2.mono (fun k hk=>.inl hk)).trans f24 (fun k hk=>.inl (.inr hk));have s2:=hf2.size;have hib:=hJ.hib;have Flt:∀ k,F' k->k<wr.heap.size:=hJ.ts.lt;have Wlt:∀ k,FW k->k<wr.heap.size:=hJ.way.lt;have hcblo:w.heap.size<=cb\/True:=.inr trivial;have nocb:∀ k,F' k->k≠cb:=fun k hk e=>hzcb (.inl (e ▸ hk))
 have nocbW:∀ k,FW k->k≠cb:=fun k hk e=>hzcb (.inr (.inl (e ▸ hk)))
 obtain⟨hnb,hnk,hat⟩:=aC2 hJ.up hJ.tt.g hl
 have hV:∀ f'∈fs,f'.N.V=[]:=by
  obtain⟨_,_,_,hctx,_⟩:=hJ.up;exact fun f' hf'=>Ctx.noV (f::fs) hctx f' (List.mem_cons_of_mem _ hf')
 have rA3:RowsA w3 f.N x.ak x.av x.ac x.ck x.cv x.cc F':=(sA2.a.mono (fun k hk=>.inl hk)).below b3
 have rA4:RowsA w4 (aX f.N f.KA.length g1) x.ak x.av x.ac x.ck x.cv x.cc F':=by
  rw[hw4];rw[e1] at rA3 |-;exact rW rA3 hfr.v hclen g1 (by omega)
 refine⟨lo,⟨?_,?_,hJ.fn,?_,hJ.ap,hJ.wl,?_,hJ.bxF,hJ.bxW,hJ.bxl,fun hk=>by have:=Flt _ hk;omega,fun hk=>by have:=Wlt _ hk;omega,fun e=>?_,?_,by have:=f4.size;omega,by omega,?_,fun y hy=>hJ.rl y (List.mem_cons_of_mem _ hy),hV,hat,hnb,hnk,hJ.tt,fun k hk=>(hJ.rm k hk).le (by rw[List.length_cons];omega)⟩,rA4,sp,?_,sA.lf,sA.lk,sA.lv⟩
 ·exact(hJ.ts.frm fr4 (fun k hk hx=>by
   rcases hx with hx|hx
   ·exact hJ.ap _ (hx ▸ hbw) (hx ▸ hk)
   ·exact nocb k hk hx))
 ·refine hJ.fr.trans fr4 (fun k hk=>?_)
  rcases hk with hk|hk
  ·exact .inr (hk ▸ hJ.wl bw hbw)
  ·have:=(hJ.rl x (List.mem_cons_self ..)).2 _ e1
   exact .inr (by subst hk;exact this)
 ·exact hw2.frm f24 (fun k hk e=>nocbW k hk e)
 ·refine(f24.block bx (zl hbx2) (fun e=>?_)).trans hbx2
  exact hzcb (.inr (.inr e.symm))
 ·have:=(zl hbx2);omega
 ·have:=hJ.fr.size;omega
 ·have e5:=StepsA.frm hf2 (fun k hk=>.inr (.inl (hk ▸ hbw))) xs fs lo srest
  exact StepsA.above f24 xs fs lo (fun k hk=>by subst hk;exact hscb.1) hV e5
 ·refine(f4.block _ (by omega) (fun e=>?_)).trans x3
  omega
theorem tA {w:World}{d s g:Nat}{dk:DkS}{st:ShS}{r:Nat}{F:Nat->Prop}{E:List Ent}{bw bx bs m:Nat}{wg wh we:World}{fs:List aL}{xs:List StepV}{hh:Nat}{dk' dk2:DkS}{st' st2:ShS}{F' F2 FW:Nat->Prop}{KM:List Int}{QM:List Kid}{g1 g2 g3 k1 k2 k3:Int}{hi:Nat}{p:Int}{N:Nod}{rm2:Nat}
  (h:RoundS w d s g dk st r F E bw bx bs m wg fs xs hh dk' st' F' FW g1 g2 g3 hi p N rm2)(t1:TS wh d s g dk2 st2 r F2)(t2:Frm F' wg wh)(t3:∀ k,F2 k->F' k\/wg.heap.size<=k)(fe:Frm (fun k=>k=bx) wh we)(hbx:we.heap[bx]?=some (grO k1 k2 k3))
  (hu:UpI dk2 st2 fs hh KM QM E)(hg:GR k1 k2 k3 KM QM)(hg3:0<=k3/\k3<=18446744073709551615)(tt:To dk' st' dk2 st2)(rm:∀ k,Room dk' st' (k+2)->Room dk2 st2 k) :
  ZR w d s g dk st r F E bw bx m we fs xs hh dk2 st2 F2 FW KM QM k1 k2 k3 hi:=by
 have Wlt:∀ k,FW k->k<wg.heap.size:=h.way.lt;have bxl:=(zl h.gb)
 have nbx:¬ F2 bx:=fun hk=>by
  rcases t3 _ hk with hx|hx
  ·exact h.bxF hx
  ·omega
 have s1:=t2.size
 have grw:∀ k,(F' k\/F2 k\/FW k\/k=bx)->(F' k\/FW k\/k=bx)\/wg.heap.size<=k:=by
  rintro k (hk|hk|hk|hk)
  ·exact .inl (.inl hk)
  ·exact(t3 k hk).imp .inl id
  ·exact .inl (.inr (.inl hk))
  ·exact .inl (.inr (.inr hk))
 refine⟨t1.frm fe (fun k hk e=>nbx (e ▸ hk)),?_,fun k hk=>?_,?_,fun k hk hf=>?_,h.wl,hbx,nbx,h.bxW,h.bxl,?_,h.rl,by have:=h.hbs;have:=h.bsz;have:=fe.size;omega,hu,hg,hg3,h.tt.trans tt,fun k hk=>rm _ ((h.rm k hk).le (by omega))⟩
 ·exact(h.fr.trans t2 (fun k hk=>h.fn k hk)).trans fe (fun k hk=>.inr (by subst hk;exact h.bxl))
 ·rcases t3 k hk with hx|hx
  ·exact h.fn k hx
  ·exact .inr (by have:=h.fr.size;omega)
 ·exact(h.way.frm t2 (fun k hk hf=>h.ap k hk hf)).frm fe (fun k hk e=>h.bxW (e ▸ hk))
 ·rcases t3 k hf with hx|hx
  ·exact h.ap k hk hx
  ·have:=Wlt k hk;omega
 ·have e1:=StepsA.grow grw xs fs hi h.sts
  have e2:=StepsA.frm t2 (fun k hk=>.inl hk) xs fs hi e1;have e3:=StepsA.frm fe (fun k hk=>.inr (.inr (.inr hk))) xs fs hi e2;exact StepsA.mono (fun k hk=>.inr hk) xs fs hi e3
def WE (w:World)(b:Nat)(v3 v4 v5 v6:Value):World:=(((w.setCell ⟨b,3,none⟩ v3).setCell ⟨b,4,none⟩ v4).setCell ⟨b,5,none⟩ v5).setCell ⟨b,6,none⟩ v6
theorem oM {w:World}{b:Nat}{a0 a1 a2 a3 a4 a5 a6:Value}{T:TypeId}(h:w.heap[b]?=some (.cells #[a0,a1,a2,a3,a4,a5,a6] T))(v3 v4 v5 v6:Value):(WE w b v3 v4 v5 v6).heap[b]?=some (.cells #[a0,a1,a2,v3,v4,v5,v6] T):=by
 unfold WE;rw[hss _ _ 6 _ _ _ (hss _ _ 5 _ _ _ (hss _ _ 4 _ _ _ (hss _ _ 3 _ _ _ h)))]
 rfl
theorem tH {F:Nat->Prop}{w w1:World}(h:Frm F w w1)(b:Nat)(v3 v4 v5 v6:Value)(hb:F b\/w.heap.size<=b):Frm F w (WE w1 b v3 v4 v5 v6):=(((h.setCell _ _ hb).setCell _ _ hb).setCell _ _ hb).setCell _ _ hb
theorem aDE (g1 g2 g3:Int)(h1:2<=g1/\g1<640)(h2:2<=g2/\g2<640)(h3:0<=g3/\g3<=18446744073709551615):dD ⟨false,[g3],[],[g1,g2]⟩:=by
 refine⟨by simp,by simp,by simp,fun x hx=>?_,fun x hx=>(by cases hx),fun x hx=>?_⟩
 ·rw[List.mem_singleton] at hx;subst hx;exact h3
 ·simp only[List.mem_cons,List.not_mem_nil,or_false] at hx
  rcases hx with rfl|rfl <;> omega
theorem OD (g1 g2 g3:Int)(h1:2<=g1/\g1<640)(h2:2<=g2/\g2<640):cC ⟨false,[g3],[],[g1,g2]⟩=true:=by
 refine(dV _).2 ⟨(dX _).2 ⟨fun i hi=>by simp at hi,fun x hx=>(by cases hx),fun x hx=>?_⟩,rfl,fun hx=>(by cases hx),by simp[aI]⟩;simp only[List.mem_cons,List.not_mem_nil,or_false] at hx
 rcases hx with rfl|rfl
 ·exact h1
 ·exact h2
theorem NT (w:World)(d s g:Nat)(dk:DkS)(st:ShS)(r:Nat)(F:Nat->Prop)(h:TS w d s g dk st r F)(G:eY dk st)(root:Int)(h0:root≠0)(H:Nat)(F0:List Mk)(P0:List Int)(ht:IsT (Rn dk) H root F0 P0)(hs:bY F0)(hl:LiveL st P0)(hH:H<=9)(hr:r+H+1<=640)(hroom:Room dk st (2*H+3))(key:Int)(hk:0<=key/\key<=18446744073709551615)(val:ByteArray)(hv:val.size<=40) :
  () 116 #[g,root,.int .u64 key,val] w (rU w d s g dk st F (bF key val (aD F0)) (2*H+3)):=by
 have HL:=Hd h.lt;have hg:F g:=by obtain⟨_,_,_,he⟩:=h;exact(he g).2 (.inr (.inr rfl))
 have DN:=Hd (yG w d s g dk st r F h G root H F0 P0 ht hs hH hr key hk);have h0':(root==0)=false:=by rw[beq_eq_false_iff_ne];exact h0
 have HG:=Hd G;have HS:=Hd hs;have HLV:=Hd hl;have HRM:=Hd hroom;have HV:=Hd hv;have HKB:=Hd hk;clear h G h0 ht hs hl hr hroom hv hk;go_enter Tryz.func116,Tryz.ntmps116;go_wp2_with fail;refine DN.mono ?_;rintro e w1 ⟨v,fs,xs,x,M,i,fd,FL,FR,Fh,PC,hi,rfl,hD⟩;obtain⟨va,vc,rfl,_,_⟩:=bP hD.own;obtain⟨vn,hvn⟩:∃ vn,(xs.reverse++[x]).length=vn:=⟨_,rfl⟩
 have W2:Way (w1.alloc (.cells #[.slice va (xs.reverse++[x]).length vc] 160)) w1.heap.size (xs.reverse++[x]) (WF w1.heap.size (.slice va (xs.reverse++[x]).length vc)):=
  ⟨_,⟨han w1 _,gZ (F:=fun _=>False) hD.own ((Frm.refl _ w1).alloc _) (fun _ _ hx=>hx),fun e=>by have:=(hD.own.lt _ e).2;omega⟩,fun _=>Iff.rfl⟩
 have hxl:xs.length=H:=by rw[StepsA.len _ _ _ hD.st];exact hD.ln
 have PO:=Hd (pA _ w1.heap.size xs.reverse x _ W2);have HD:=Hd hD;rw[hvn] at PO HD |-;clear hD W2 hvn hxl;go_wp2_with fail;refine PO.mono ?_;rintro e w3 ⟨rfl,hw3,hf3⟩;have hP:=LG HL hg HD hw3 hf3;unfold StepV.val;go_upto_region 7 with fail
 rename_i KK hKK;obtain⟨w4,hw4⟩:∃ w4,w3.alloc (.cells #[.int .i64 x.p,x.i,.bool x.fd,.bool x.lf,.slice x.ak x.lk x.ck,.slice x.av x.lv x.cv,.slice x.ac x.lc x.cc] 168)=w4:=⟨_,rfl⟩
 obtain⟨bs,hbs⟩:∃ bs,w3.heap.size=bs:=⟨_,rfl⟩
 obtain⟨bw,hbw⟩:∃ bw,w1.heap.size=bw:=⟨_,rfl⟩
 rw[hw4,hbs,hbw] at hP;rw[hw4,hbs,hbw];have hD:=HD.o;have hM:=hD.nt;have hmk:M.K.length<=1000:=hP.lf.a.r.ok.k1;have hpa:=hP.lf.a.r.ok
 have nodx:aJ M x.ak x.av x.ac x.ck x.cv x.cc=.agg #[.bool x.lf,.slice x.ak x.lk x.ck,.slice x.av x.lv x.cv,.slice x.ac x.lc x.cc]:=by
  unfold aJ;rw[hP.lf.lf,hP.lf.lk,hP.lf.lv,hP.lf.lc]
 have hsort:bY (FL++Fh++FR):=by rw[hD.eF];exact HS.o
 have hlive:LiveL st (x.p::(PC++[])):=by rw[List.append_nil];exact HLV.perm hD.eP.symm
 have hAt:=aDN key val hD.ctx hD.nt hsort hD.bL hD.bR hlive;rw[hD.eF] at hAt;have hMr:=mY hD.xp;have hMN:=NB.of_right hMr.1;have hwh:=eU hD.nt;have hlf:M.leaf=true:=by rw[pY hD.nt];rfl
 have hmk9:M.K.length<=900:=by
  have:=hMN.2.2;unfold aI at this;rw[hlf] at this;simp only[if_true] at this;omega
 have hcost:=WB M key val hlf hwh
 have hNB:NB (fN M key val) 320:=by
  refine⟨fun u hu=>?_,fun c hc=>?_,?_⟩
  ·unfold fN at hu
   split at hu
   ·simp only[List.mem_append,List.mem_singleton] at hu
    rcases hu with(hu|rfl)|hu
    ·exact hMN.1 u (List.mem_of_mem_take hu)
    ·exact HV.o
    ·exact hMN.1 u (List.mem_of_mem_drop hu)
   ·exact hMN.1 u hu
  ·unfold fN at hc
   split at hc
   ·cases hc
   ·exact hMN.2.1 c hc
  ·have h1:=hMN.2.2
   have h2:=HV.o
   split at hcost <;> omega
 have hKne:(fN M key val).K≠[]:=by
  unfold fN;rw[if_pos (by rw[hlf,hwh];rfl)];intro e;have:=congrArg List.length e;simp at this
 have PT:Hid (∀ wy,Frm F w4 wy->() 137 #[.agg #[.bool x.lf,.slice x.ak x.lk x.ck,.slice x.av x.lv x.cv,.slice x.ac x.lc x.cc],.int .u64 key,val] wy fun e w'=>fG wy.heap.size (fN M key val) e w'/\Below wy.heap.size wy w'):=Hd (fun wy hf=>by
  rw[<-nodx];exact WA M x.ak x.av x.ac x.ck x.cv x.cc wy (hP.lf.a.frm hf (fun k hk=>.inl hk)).r key val hlf hwh hmk9 HKB (by have:=HV.o;omega))
 have GW:Hid (∀ wg bk bv bc dk0 dv dc,Below w4.heap.size w4 wg->NodR wg (fN M key val) bk bv bc dk0 dv dc->LoR w4.heap.size bk bv bc->() 138 #[g,.int .i64 x.p,aJ (fN M key val) bk bv bc dk0 dv dc] wg (wZ wg d s g dk st (r+H+1) F fs 0 (bF key val (aD F0)))):=Hd (fun wg bk bv bc dk0 dv dc b hn hlo=>by
  have hlt:∀ k,F k->k<w4.heap.size:=hP.ts.lt;exact sM wg d s g dk st (r+H+1) F (hP.ts.below b) HG (HRM.le (by omega)) fs 0 x.p (fN M key val) _ hAt hNB hKne bk bv bc dk0 dv dc (RowsA.new hn hlo.1 hlo.2.1 hlo.2.2 hlt))
 simp only[aJ] at GW;have HPS:=Hd hP;have HSB:=Hd hP.box;have HSL:Hid (bs<w4.heap.size):=Hd (by rw[hP.bs1];omega);have HSF:Hid (¬ F bs):=Hd (fun hx=>by have:=HL _ hx;have:=hP.bs0;omega);have HBK:Hid (Below w4.heap.size w4 w4.drew):=Hd Br.drew;have HSZ4:Hid (w4.drew.heap.size=w4.heap.size):=Hd rfl;have HFL:Hid (fs.length=H):=Hd hD.ln;clear hP hw4 hbs hbw hD hM hmk hpa nodx hsort hlive hAt hMr hMN hwh hlf hmk9 hcost hNB hKne hw3 hf3 PO DN
 have REST:Hid (∀ (t1 t2 t3 t4 t5 t6 t7 t12 t14 t15 t16 t17 t18 t19 t20 t21 t22 t23 t24 t25 t26 t27 t28 t29 t30 t31 t32 t33 t34 t35 t36 t37 t38 t39 t40 t41 t42 t43 t44 t45 t46 t47:Value) (we:World) (bx:Nat) (dk':DkS) (st':ShS) (F':Nat->Prop) (KM:List Int) (QM:List Kid) (g1 g2 g3:Int),ZR w d s g dk st (r+H+1) F (bF key val (aD F0)) bw bx (2*H+3) we fs xs 0 dk' st' F' (WF bw (.slice va vn vc)) KM QM g1 g2 g3 hi->KK { tmps:=#[.pointer (some ⟨g,0,none⟩),t1,t2,t3,t4,t5,t6,t7,.int .i64 0,.int .i64 0,.pointer (some ⟨bw,0,none⟩),.int .i64 0,t12,.pointer (some ⟨bx,0,none⟩),t14,t15,t16,t17,t18,t19,t20,t21,t22,t23,t24,t25,t26,t27,t28,t29,t30,t31,t32,t33,t34,t35,t36,t37,t38,t39,t40,t41,t42,t43,t44,t45,t46,t47,undef,undef,undef,undef,undef,undef,undef,undef,undef,undef,undef,undef,undef,undef,undef,undef,undef,undef,undef,undef,undef,undef,undef,undef,undef,undef,undef,undef,undef,undef,undef,undef,undef,undef,undef,undef,undef,undef,undef,undef,undef,undef,undef,undef,undef,undef,undef,undef,undef,undef,undef,undef,undef,undef,undef,undef,undef,undef,undef,undef],defers:=[] } we):=Hd (by
  intro t1 t2 t3 t4 t5 t6 t7 t12 t14 t15 t16 t17 t18 t19 t20 t21 t22 t23 t24 t25 t26 t27 t28 t29 t30 t31 t32 t33 t34 t35 t36 t37 t38 t39 t40 t41 t42 t43 t44 t45 t46 t47 we bx dk' st' F' KM QM g1 g2 g3 hJ;refine hKK _ _ ?_;have HJ0:=Hd hJ;clear hJ PT GW HSB HSL HSF HBK HSZ4 HPS
  
  go_wp2_with fail
  go_loopw [11] (fun p wr=>∃ fs' xs' hh dk' st' F' FW KM QM g1 g2 g3 hi',p=.int .i64 0/\ZR w d s g dk st (r+H+1) F (bF key val (aD F0)) bw bx (2*H+3) wr fs' xs' hh dk' st' F' FW KM QM g1 g2 g3 hi') (fun _ wr=>ZY bw wr)
  case atStart=>exact⟨fs,xs,0,dk',st',F',_,KM,QM,g1,g2,g3,hi,rfl,HJ0.o⟩
  case round=>
   obtain⟨fs',xs',hh,dk',st',F',FW,KM,QM,g1,g2,g3,hi',rfl,hJ⟩:=hrel;have hlen:=StepsA.len _ _ _ hJ.sts;have HJ:=Hd hJ;obtain⟨c0,c1,c2,f0,f1,f2⟩:=cU hJ.gb;have WD:=Hd (nD wr bw xs'.reverse FW hJ.way);clear HJ0
   cases xs' with
   | nil=>
    have hfs:fs'=[]:=List.length_eq_zero_iff.1 (by rw[<-hlen];rfl);subst hfs;have hup:=hJ.up;have hgr:=hJ.gr;have hts:=hJ.ts;rw[show([]:List StepV).reverse.length=0 from rfl] at WD
    rcases hgr with⟨q,hKM,hQM,hg1,hg2⟩|⟨q1,q2,hKM,hQM,hg1,hg2,hg22⟩
    ·have hT:=aA6 (by rw[<-hKM];exact hup) g1 g2 g3 (.inl ⟨q,rfl,hQM,hg1,hg2⟩)
     have FIN:Hid (rU w d s g dk st F (bF key val (aD F0)) (2*H+3) (.returned (.tuple #[.int .i64 g1,(0:Int)])) wr):=Hd ⟨g1,dk',st',r+H+1,rfl,⟨F',hJ.ts,hJ.fr,hJ.fn⟩,hT,hJ.tt,fun k hk=>(hJ.rm k hk).le (by omega)⟩;subst hg2;clear hT hJ hup hg1 hQM hKM hts;go_wp2_with fail;refine WD.mono ?_;rintro e w9 ⟨rfl,rfl⟩;go_wp2_with fail;go_ret2;exact FIN.o
    ·obtain⟨wm,hwm⟩:∃ wm,wr.alloc (.cells #[.int .u64 g3] 80)=wm:=⟨_,rfl⟩
     have hym:wm.heap[bx]?=some (grO g1 g2 g3):=by rw[<-hwm];exact(hao wr _ (zl hJ.gb)).trans hJ.gb
     obtain⟨m0,m1,m2,_⟩:=cU hym;have zm:wm.heap.size=wr.heap.size+1:=by rw[<-hwm];simp
     obtain⟨w9,hw9⟩:∃ w9,wm.alloc (.cells #[.int .i64 g1,.int .i64 g2] 3)=w9:=⟨_,rfl⟩
     have bm:Below wr.heap.size wr wm:=by rw[<-hwm];exact(Below.refl _ wr).alloc (Nat.le_refl _) _
     have b9:Below wr.heap.size wr w9:=by rw[<-hw9];exact bm.alloc bm.size _
     have z9:w9.heap.size=wr.heap.size+2:=by rw[<-hw9];simp[zm]
     have xa9:w9.heap[wr.heap.size]?=some (.cells #[.int .u64 g3] 80):=by rw[<-hw9];refine(hao wm _ (by omega)).trans ?_;rw[<-hwm];exact han wr _
     have xb9:w9.heap[wr.heap.size+1]?=some (.cells #[.int .i64 g1,.int .i64 g2] 3):=by rw[<-hw9,<-zm];exact han wm _
     have hheads:=hup.heads hJ.tt.g;rw[hQM] at hheads;have h1b:=hheads g1 (by rw[hg1];simp[kP]);have h2b:=hheads g2 (by rw[hg2];simp[kP]);have hnok:=aDE g1 g2 g3 h1b h2b hJ.g3
     have hnr:NodR w9 ⟨false,[g3],[],[g1,g2]⟩ (some ⟨wr.heap.size,0,none⟩) none (some ⟨wr.heap.size+1,0,none⟩) 1 0 2:=by
      refine⟨.inr ⟨_,0,rfl,by omega,fun j u hu=>?_⟩,.inl rfl,.inr ⟨_,0,rfl,by omega,fun j u hu=>?_⟩,by simp,by simp[maxLen],by simp,by simp,by simp,by simp[maxLen],hnok⟩
      ·match j with
       | 0=>injection hu with hu;subst hu;rw[cob xa9];rfl
       | j+1=>simp at hu
      ·match j with
       | 0=>injection hu with hu;subst hu;rw[cob xb9];rfl
       | 1=>injection hu with hu;subst hu;rw[cob xb9];rfl
       | j+2=>simp at hu
     have hright:=OD g1 g2 g3 h1b h2b;have hFlt:∀ k,F' k->k<wr.heap.size:=hts.lt
     have PL:Hid (() 136 #[g,.agg #[false,.slice (some ⟨wr.heap.size,0,none⟩) 1 1,.slice none 0 0,.slice (some ⟨wr.heap.size+1,0,none⟩) 2 2]] w9 (rU w d s g dk st F (bF key val (aD F0)) (2*H+3))):=Hd (by
      refine(nG w9 d s g dk' st' (r+H+1) F' (hts.below b9) hJ.tt.g (hJ.rm 0 (by rw[Nat.zero_add];exact HRM.o)) _ hright _ _ _ 1 0 2 (RowsA.new (lo:=wr.heap.size) hnr (fun x hx=>by injection hx with hx;subst hx;exact Nat.le_refl _) (fun x hx=>by cases hx) (fun x hx=>by injection hx with hx;subst hx;exact Nat.le_succ _) hFlt)).mono ?_;rintro e w10 ⟨q,dk2,st2,rfl,⟨F2,t1,t2,t3⟩,hpl,hrm⟩;have hT:=aA5 (by rw[<-hKM];exact hup) (.inr ⟨q1,q2,rfl,hQM,hg1,hg2,hg22⟩) rfl rfl rfl rfl hpl
      refine⟨q,dk2,st2,r+H+1,rfl,⟨F2,t1,?_,fun k hk=>?_⟩,hT,hJ.tt.trans hpl.tt,fun k hk=>hrm k ((hJ.rm k hk).le (by simp))⟩
      ·have f9:Frm F w w9:=hJ.fr.trans (G:=fun _=>False) (Frm.of_below b9) (fun _ hx=>hx.elim)
       exact f9.trans t2 (fun k hk=>hJ.fn k hk)
      ·rcases t3 k hk with h1|h1
       ·exact hJ.fn k h1
       ·exact .inr (by have:=hJ.fr.size;omega))
     have hg20:(g2==0)=false:=by rw[beq_eq_false_iff_ne];omega
     clear hJ hup hg1 hg2 hg22 hQM hKM hts b9 z9 hym bm xa9 xb9 hheads h1b h2b hnok hnr hright hFlt;go_wp2_with fail;refine WD.mono ?_;rintro e w8 ⟨rfl,rfl⟩;go_wp2_with fail;refine PL.mono ?_;rintro e w10 ⟨q,dk2,st2,r2,rfl,z2,z3,z4,z5⟩;have FIN:Hid (rU w d s g dk st F (bF key val (aD F0)) (2*H+3) (.returned (.tuple #[.int .i64 q,(0:Int)])) w10):=Hd ⟨q,dk2,st2,r2,rfl,z2,z3,z4,z5⟩;clear z2 z3 z4 z5;go_wp2_with fail;go_ret2;exact FIN.o
   | cons x xs'=>
    cases fs' with
    | nil=>exact absurd hlen (by simp)
    | cons f fs'=>
     have hkl:KM.length<=1:=by
      rcases hJ.gr with⟨_,h,_⟩|⟨_,_,h,_⟩ <;> rw[h] <;> simp
     have PO:=Hd (pA wr bw xs'.reverse x FW (by have:=hJ.way;rwa [List.reverse_cons] at this));have hbw:FW bw:=by obtain⟨v,hi,he⟩:=hJ.way;exact(he bw).2 (.inl rfl)
     obtain⟨n,hn⟩:∃ n,xs'.length=n:=⟨_,rfl⟩
     have hrl:(x::xs').reverse.length=n+1:=by rw[List.length_reverse,List.length_cons,hn]
     rw[hrl] at WD;have hn0:(0:Int)<(n:Int)+1:=by omega
     have HN:=Hd hn;clear hJ hlen hn hrl;go_wp2_with fail;refine WD.mono ?_;rintro e w8 ⟨rfl,rfl⟩;go_wp2_with fail;refine PO.mono ?_;rintro e w2 ⟨rfl,hw2,hf2⟩;obtain⟨cb,off,e1,e2,e3,e4,e5,⟨c,e6⟩,e7,e8,e9,hready⟩:=AI HL HJ hkl hw2 hf2 hbw;have HRY:=Hd hready;have E4:=Hd e4;have E8:=Hd e8;have HGR:=Hd HJ.gr;have HW2:=Hd hw2;unfold StepV.val;have EE:=Hd (And.intro e1 e2);clear hready hw2 hf2 hbw e1 e2 e4 e8 c0 c1 c2 f0 f1 f2;go_upto_region 10 with fail
     obtain⟨w3,hw3⟩:∃ w3,w2.alloc (.cells #[.int .i64 x.p,x.i,.bool x.fd,.bool x.lf,.slice x.ak x.lk x.ck,.slice x.av x.lv x.cv,.slice x.ac x.lc x.cc] 168)=w3:=⟨_,rfl⟩
     have b3:Below w2.heap.size w2 w3:=by rw[<-hw3];exact(Below.refl _ w2).alloc (Nat.le_refl _) _
     have X3:w3.heap[w2.heap.size]?=some (.cells #[.int .i64 x.p,x.i,.bool x.fd,.bool x.lf,.slice x.ak x.lk x.ck,.slice x.av x.lv x.cv,.slice x.ac x.lc x.cc] 168):=by rw[<-hw3];exact han w2 _
     rw[EE.1,EE.2] at X3;obtain⟨_,b1,_,_,_,_,b6⟩:=aM X3;obtain⟨c0,c1,c2,_⟩:=cU (kept e9 b3);have q6:=(b3.cell (p:=⟨cb,off+f.KA.length,none⟩) e5).trans e6
     have q7:w3.frozen? ⟨cb,off+f.KA.length,none⟩=false:=by
      have h7:=e7;unfold World.frozen? at h7 |-;rw[show w3.heap[(⟨cb,off+f.KA.length,none⟩:Addr).block]?=w2.heap[(⟨cb,off+f.KA.length,none⟩:Addr).block]? from b3.block cb e5];exact h7
     have q8:(f.KA.length:Int)<(x.lc:Int):=by omega
     have HRY4:=Hd (HRY w3 hw3.symm);rw[hw3];clear hw3 X3 b3 e3 e5 e6 e7 e9 HRY;go_upto_region 11 with fail
     obtain⟨w4,hw4⟩:∃ w4,w3.setCell ⟨cb,off+f.KA.length,none⟩ (.int .i64 g1)=w4:=⟨_,rfl⟩
     obtain⟨lo,hRS,rA,ep,box4,l1,l2,l3⟩:=HRY4 w4 hw4.symm;obtain⟨bs,hbs⟩:∃ bs,w2.heap.size=bs:=⟨_,rfl⟩
     rw[hbs] at hRS box4;rw[hw4,hbs];clear hw4 hbs HRY4 b1 b6 c0 c1 c2 q6 q7 q8;have l4:=E4.o
     have nodx:aJ (aX f.N f.KA.length g1) x.ak x.av x.ac x.ck x.cv x.cc=.agg #[.bool x.lf,.slice x.ak x.lk x.ck,.slice x.av x.lv x.cv,.slice x.ac x.lc x.cc]:=by
      unfold aJ aX
      dsimp only
      rw[List.length_set,l1,l2,l3,l4]
     have hfok:=HJ.up.frame;have hone:=UE hfok g1;have HRM4:Hid (Room dk' st' 2):=Hd ((HJ.rm 0 (by rw[Nat.zero_add];exact HRM.o)).le (by simp;omega));obtain⟨d0,_,_,d3,d4,d5,d6⟩:=aM box4;rw[ep] at d0;obtain⟨c0,c1,c2,f0,f1,f2⟩:=cU hRS.gb;have F'lt:∀ k,F' k->k<w4.heap.size:=hRS.ts.lt
     rcases HGR.o with⟨q,hKM,hQM,hg1,hg2⟩|⟨q1,q2,hKM,hQM,hg1,hg2,hg22⟩
     ·have eN:upN f KM (kP QM)=aX f.N f.KA.length g1:=by rw[hone,hKM,hQM,hg1];rfl
      have GW:Hid (() 138 #[g,f.page,.agg #[.bool x.lf,.slice x.ak x.lk x.ck,.slice x.av x.lv x.cv,.slice x.ac x.lc x.cc]] w4 (wZ w4 d s g dk' st' (r+H+1) F' fs' (hh+1) (bF key val (aD F0)))):=Hd (by
       rw[<-nodx,<-eN];rw[<-eN] at rA;exact sM w4 d s g dk' st' (r+H+1) F' hRS.ts hRS.tt.g HRM4 fs' (hh+1) f.page _ _ hRS.at_ hRS.nb hRS.nk _ _ _ _ _ _ rA)
      have HRS:=Hd hRS;subst hg2;clear hRS rA box4 l1 l2 l3 l4 nodx hone eN hKM hQM hg1 hfok F'lt;go_wp2_with fail;refine GW.mono ?_;rintro e w7 ⟨k1,k2,k3,KM2,QM2,dk2,st2,rfl,⟨F2,t1,t2,t3⟩,u1,u2,u3,u4,u5,u6⟩;have hy7:w7.heap[bx]?=some (grO g1 0 g3):=(t2.block bx (zl HRS.gb) HRS.bxF).trans HRS.gb;have hJn:=tA HRS t1 t2 t3 (eH (Frm.refl (fun k=>k=bx) w7) bx k1 k2 k3 (.inl rfl)) (gD (x:=k1) (y:=k2) (z:=k3) hy7) u1 u2 ⟨u5,u6⟩ u3 u4;have FIN:=Hd hJn;have WN1:=Hd (jV hJn.way)
      have WN2:=Hd (jV HJ.way);have HL2:=HN.o;obtain⟨c0,c1,c2,f0,f1,f2⟩:=cU hy7;clear hJn t1 t2 t3 u1 u2 u3 u4 u5 u6 hy7;unfold rS at FIN WN1;go_wp2_with fail;go_roundw
      case rel=>exact⟨fs',xs',hh+1,dk2,st2,F2,FW,KM2,QM2,k1,k2,k3,lo,rfl,FIN.o⟩
      case measure=>
       rw[WN1.o,WN2.o];simp only[List.length_reverse,List.length_cons];omega
     ·have eN:oG (aX f.N f.KA.length g1) (f.KA.length:Int) g3 g2=upN f KM (kP QM):=by rw[hone,aDD hfok,hKM,hQM,hg1,hg2];rfl
      have hkn:f.KA.length<=(aX f.N f.KA.length g1).K.length:=by rw[hone];simp[upN]
      have hwn:bH (aX f.N f.KA.length g1)=true:=by
       have h0:=(aQ hfok.lf).1 ((dV _).1 hfok.r).2.1;exact(aQ (n:=aX f.N f.KA.length g1) hfok.lf).2 ⟨by unfold aX;dsimp only;rw[List.length_set];exact h0.1,h0.2⟩
      have hk8:(aX f.N f.KA.length g1).K.length<=800:=by
       have h0:=((dV _).1 hfok.r).2.2.2;unfold aI at h0;rw[hfok.lf] at h0;simp only[Bool.false_eq_true,if_false] at h0
       show f.N.K.length<=800
       omega
      have hg2b:=HJ.up.heads HJ.tt.g g2 (by rw[hQM,hg2];simp[kP])
      have HGC:Hid (() 139 #[.agg #[.bool x.lf,.slice x.ak x.lk x.ck,.slice x.av x.lv x.cv,.slice x.ac x.lc x.cc],x.i,.int .u64 g3,.int .i64 g2] w4 fun e w'=>fG w4.heap.size (upN f KM (kP QM)) e w'/\Below w4.heap.size w4 w'):=Hd (by
       rw[<-nodx,<-eN,EE.2];exact aB0 (aX f.N f.KA.length g1) x.ak x.av x.ac x.ck x.cv x.cc w4 rA.r f.KA.length g3 g2 hfok.lf hwn hkn hk8 HJ.g3 (by omega))
      have hg20:(g2 != 0)=true:=by rw[bne_iff_ne];omega
      have d1:=(aM box4).2.1;have HRS:=Hd hRS;have HBX4:=Hd box4;have HFL4:=Hd F'lt;clear hRS rA box4 l1 l2 l3 l4 nodx hone eN hKM hQM hg1 hg2 hg22 hfok hkn hwn hk8 hg2b F'lt;go_wp2_with fail;refine HGC.mono ?_;rintro e w5 ⟨⟨bk,bv,bc,dk0,dv,dc,rfl,hRN,r1,r2,r3⟩,b5⟩;have X5:=kept HBX4 b5;obtain⟨y0,y1,y2,y3,y4,y5,y6⟩:=aM X5;have k3:=ufb X5 3;have k4:=ufb X5 4;have k5:=ufb X5 5;have k6:=ufb X5 6;obtain⟨N',hN'⟩:∃ N',upN f KM (kP QM)=N':=⟨_,rfl⟩
      rw[hN'] at hRN HRS |-;have HRN:=Hd hRN;have HR3:=Hd (And.intro r1 (And.intro r2 r3));have HB5:=Hd b5;have HX5:=Hd X5;simp only[aJ];clear hRN r1 r2 r3 b5 X5 d0 d1 d3 d4 d5 d6 c0 c1 c2 f0 f1 f2 hN' HGC;go_upto_region 13 with fail
      obtain⟨w6,hw6⟩:∃ w6,(((w5.setCell ⟨bs,3,none⟩ (.bool N'.leaf)).setCell ⟨bs,4,none⟩ (.slice bk N'.K.length dk0)).setCell ⟨bs,5,none⟩ (.slice bv N'.V.length dv)).setCell ⟨bs,6,none⟩ (.slice bc N'.C.length dc)=w6:=⟨_,rfl⟩
      have F56:Frm (fun k=>k=bs) w5 w6:=hw6 ▸ tH (Frm.refl _ w5) bs (.bool N'.leaf) (.slice bk N'.K.length dk0) (.slice bv N'.V.length dv) (.slice bc N'.C.length dc) (.inl rfl);have X6:w6.heap[bs]?=some (.cells #[.int .i64 x.p,x.i,.bool x.fd,.bool N'.leaf,.slice bk N'.K.length dk0,.slice bv N'.V.length dv,.slice bc N'.C.length dc] 168):=hw6 ▸ oM HX5 (.bool N'.leaf) (.slice bk N'.K.length dk0) (.slice bv N'.V.length dv) (.slice bc N'.C.length dc);rw[ep] at X6
      have hRS6:=HRS.below ((Frm.of_below HB5.o:Frm (fun k=>k=bs) w4 w5).trans F56 (fun k hk=>.inl hk))
      have rA6:RowsA w6 N' bk bv bc dk0 dv dc F':=by
       have hlt4:=HRS.bsz
       have r0:RowsA w5 N' bk bv bc dk0 dv dc (fun k=>F' k\/k=bs):=RowsA.new (lo:=w4.heap.size) HRN HR3.1 HR3.2.1 HR3.2.2 (fun k hk=>by
        rcases hk with hk|hk
        ·exact HFL4 k hk
        ·omega)
       exact(r0.frm F56 (fun k hk=>.inr hk)).mono (fun k hk=>.inl hk)
      have GW:Hid (() 138 #[g,f.page,.agg #[.bool N'.leaf,.slice bk N'.K.length dk0,.slice bv N'.V.length dv,.slice bc N'.C.length dc]] w6 (wZ w6 d s g dk' st' (r+H+1) F' fs' (hh+1) (bF key val (aD F0)))):=Hd (by
       exact sM w6 d s g dk' st' (r+H+1) F' hRS6.ts hRS6.tt.g HRM4 fs' (hh+1) f.page N' _ hRS6.at_ hRS6.nb hRS6.nk _ _ _ _ _ _ rA6)
      obtain⟨d0,d1,d2,d3,d4,d5,d6⟩:=aM X6;obtain⟨c0,c1,c2,f0,f1,f2⟩:=cU hRS6.gb;clear HRS;have HRS:=Hd hRS6;rw[hw6];clear hw6 X6 F56 rA6 hRS6 y0 y1 y2 y3 y4 y5 y6 k3 k4 k5 k6 HRN HR3 HB5 HX5;go_wp2_with fail;refine GW.mono ?_;rintro e w7 ⟨k1,k2,k3,KM2,QM2,dk2,st2,rfl,⟨F2,t1,t2,t3⟩,u1,u2,u3,u4,u5,u6⟩;have hy7:w7.heap[bx]?=some (grO g1 g2 g3):=(t2.block bx (zl HRS.gb) HRS.bxF).trans HRS.gb
      have hJn:=tA HRS t1 t2 t3 (eH (Frm.refl (fun k=>k=bx) w7) bx k1 k2 k3 (.inl rfl)) (gD (x:=k1) (y:=k2) (z:=k3) hy7) u1 u2 ⟨u5,u6⟩ u3 u4;have FIN:=Hd hJn;have WN1:=Hd (jV hJn.way);have WN2:=Hd (jV HJ.way);have HL2:=HN.o;obtain⟨c0,c1,c2,f0,f1,f2⟩:=cU hy7;clear hJn t1 t2 t3 u1 u2 u3 u4 u5 u6 hy7;unfold rS at FIN WN1;go_wp2_with fail;go_roundw
      case rel=>exact⟨fs',xs',hh+1,dk2,st2,F2,FW,KM2,QM2,k1,k2,k3,lo,rfl,FIN.o⟩
      case measure=>
       rw[WN1.o,WN2.o];simp only[List.length_reverse,List.length_cons];omega)
 refine wp_region_held_drew (S:=fun wz=>Frm F w4 wz) (by kernel_rfl) ((Frm.refl F w4).drew) (fun hS=>?_);refine Hu 0 37 hS ?_;simp only[SL];refine Hu 1 38 hS ?_;simp only[SL];refine Hv 2 39 ?v2x3 hS ?h2x3 ?_
 case h2x3=>
  intro w9 s9;have cN0:=cl ((s9.block bs HSL HSF.o).trans HSB.o) 0 rfl;clear s9;go_simp;try (with_reducible rfl)
 simp only[SL];refine Hu 3 40 hS ?_;simp only[SL];refine Hv 4 41 ?v4x5 hS ?h4x5 ?_
 case h4x5=>
  intro w9 s9;have cN3:=cl ((s9.block bs HSL HSF.o).trans HSB.o) 3 rfl;have cN4:=cl ((s9.block bs HSL HSF.o).trans HSB.o) 4 rfl;have cN5:=cl ((s9.block bs HSL HSF.o).trans HSB.o) 5 rfl;have cN6:=cl ((s9.block bs HSL HSF.o).trans HSB.o) 6 rfl;clear s9;go_simp;try (with_reducible rfl)
 simp only[SL];refine Hu 5 42 hS ?_;simp only[SL];refine Hu 6 43 hS ?_;simp only[SL];refine Hk 7 12 (fun K HK=>?_) (fun K HK=>?_)
 ·go_simp
  go_wp2_with fail;refine(PT _ hS).mono ?_;rintro e wp ⟨⟨bk,bv,bc,dk0,dv,dc,rfl,hR,q1,q2,q3⟩,b7⟩;simp only[aJ];refine HK _ _ ?_ ?_
  ·exact hS.trans (G:=fun _=>False) (Frm.of_below b7) (fun _ hx=>hx.elim)
  clear HK K;try simp only[Act.put,SL]
  have hS9:=hS.trans (G:=fun _=>False) (Frm.of_below b7) (fun _ hx=>hx.elim);clear hS;have hS:=hS9;clear hS9;have HBK7:=Hd (HBK.trans (b7.mono HBK.size));have HR7:=Hd hR;have Q7:Hid ((∀ y,bk=some y->w4.heap.size<=y.block)/\(∀ y,bv=some y->w4.heap.size<=y.block)/\∀ y,bc=some y->w4.heap.size<=y.block):=Hd ⟨fun y hy=>Nat.le_trans HBK.size (q1 y hy),fun y hy=>Nat.le_trans HBK.size (q2 y hy),fun y hy=>Nat.le_trans HBK.size (q3 y hy)⟩;clear HBK;have HBK:=HBK7;clear HBK7 hR q1 q2 q3 b7;refine Hk 8 12 (fun K HK=>?_) (fun K HK=>?_)
  ·go_simp
   go_wp2_with fail;refine(GW _ bk bv bc dk0 dv dc HBK HR7 ⟨Q7.1,Q7.2.1,Q7.2.2⟩).mono ?_;rintro e wh ⟨g1,g2,g3,KM,QM,dk',st',rfl,⟨F',t1,t2,t3⟩,u1,u2,u3,u4,u5,u6⟩;refine HK _ _ ?_ ?_
   ·exact hS.trans t2 (fun k hk=>.inl hk)
   clear HK K;try simp only[Act.put,SL]
   have hS9:=hS.trans t2 (fun k hk=>.inl hk);clear hS;have hS:=hS9;clear hS9;have GR8:=Hd (And.intro t1 (And.intro t2 (And.intro t3 (And.intro u1 (And.intro u2 (And.intro u3 (And.intro u4 (And.intro u5 u6))))))));have FH:Hid (Frm (fun k=>k=wh.heap.size) wh wh):=Hd (Frm.refl _ _);clear t1 t2 t3 u1 u2 u3 u4 u5 u6 FH;refine Hu 9 36 hS ?_;simp only[SL];refine Hu 10 46 hS ?_;simp only[SL];refine Hu 11 47 hS ?_;simp only[SL];refine Hs 12 (fun K HK=>?_);go_simp;refine HK _ _ ?_ ?_
   ·exact hS.alloc _
   clear HK K;try simp only[Act.put,SL]
   have hsz0:=hS.size;have hS9:=hS.alloc (.cells #[(0:Int),(0:Int),.int .u64 0] 207);clear hS;obtain⟨wa,hwa⟩:∃ wa,wh.alloc (.cells #[(0:Int),(0:Int),.int .u64 0] 207)=wa:=⟨_,rfl⟩
   obtain⟨bx,hbx⟩:∃ bx,wh.heap.size=bx:=⟨_,rfl⟩
   have HBX:Hid (wa.heap[bx]?=some (grO 0 0 0)):=Hd (by rw[<-hwa,<-hbx];exact han _ _);have BXL:Hid (w4.heap.size<=bx):=Hd (by rw[<-hbx];exact hsz0);have BXR:Hid (bx<wa.heap.size):=Hd (by rw[<-hwa,<-hbx];simp);have NB8:Hid (¬ F' bx):=Hd (fun hx=>by have:=GR8.1.lt _ hx;omega);have FE:Hid (Frm (fun k=>k=bx) wh wa):=Hd (by rw[<-hwa];exact(Frm.refl _ wh).alloc _);rw[hwa] at hS9;rw[hwa,hbx];have hS:=hS9;clear hS9 hwa hbx;obtain⟨a0,a1,a2,f0,f1,f2⟩:=cU HBX.o;refine Hs 13 (fun K HK=>?_);go_simp;refine HK _ _ ?_ ?_
   ·exact eH hS _ _ _ _ (.inr BXL.o)
   clear HK K;try simp only[Act.put,SL]
   have hS9:=eH hS bx g1 g2 g3 (.inr BXL.o);clear hS;unfold rS at hS9;have hS:=hS9;clear hS9 a0 a1 a2 f0 f1 f2;refine Hu 14 11 hS ?_;simp only[SL];refine wpAnyH_done (by kernel_rfl) ?_ _;have g8:=GR8.o
   exact REST _ _ _ _ _ _ _ _ _ _ _ _ _ _ _ _ _ _ _ _ _ _ _ _ _ _ _ _ _ _ _ _ _ _ _ _ _ _ _ _ _ _ _ _ _ _ _ _ _ _ _ _ (oN HPS HBK g8.1 g8.2.1 g8.2.2.1 NB8 BXL (eH FE bx g1 g2 g3 (.inl rfl)) (gD HBX.o) g8.2.2.2.1 g8.2.2.2.2.1 ⟨g8.2.2.2.2.2.2.2.1,g8.2.2.2.2.2.2.2.2⟩ g8.2.2.2.2.2.1 (fun k hk=>g8.2.2.2.2.2.2.1 (k+2*fs.length+1) (by rw[HFL.o];exact hk.le (by omega))))
  ·go_simp
   refine HK _ _ ?_ ?_
   ·exact hS.alloc _
   clear HK K;try simp only[Act.put,SL]
   have hsz0:=hS.size;have hS9:=hS.alloc (.cells #[(0:Int),(0:Int),.int .u64 0] 207);clear hS;obtain⟨wa,hwa⟩:∃ wa,wp.alloc (.cells #[(0:Int),(0:Int),.int .u64 0] 207)=wa:=⟨_,rfl⟩
   obtain⟨bx,hbx⟩:∃ bx,wp.heap.size=bx:=⟨_,rfl⟩
   have HBX:Hid (wa.heap[bx]?=some (grO 0 0 0)):=Hd (by rw[<-hwa,<-hbx];exact han _ _);have BXL:Hid (w4.heap.size<=bx):=Hd (by rw[<-hbx];exact hsz0);have BXR:Hid (bx<wa.heap.size):=Hd (by rw[<-hwa,<-hbx];simp);have HBK9:Hid (Below w4.heap.size w4 wa):=Hd (by rw[<-hwa];exact HBK.alloc HBK.size _);clear HBK;have HBK:=HBK9;clear HBK9;have HR9:=Hd (HR7.below (show Below wp.heap.size wp wa from by rw[<-hwa];exact(Below.refl _ wp).alloc (Nat.le_refl _) _));clear HR7;have HR7:=HR9;clear HR9;rw[hwa] at hS9;rw[hwa,hbx];have hS:=hS9
   clear hS9 hwa hbx;refine Hs 8 (fun K HK=>?_);go_simp;go_wp2_with fail;refine(GW _ bk bv bc dk0 dv dc HBK HR7 ⟨Q7.1,Q7.2.1,Q7.2.2⟩).mono ?_;rintro e wh ⟨g1,g2,g3,KM,QM,dk',st',rfl,⟨F',t1,t2,t3⟩,u1,u2,u3,u4,u5,u6⟩;refine HK _ _ ?_ ?_
   ·exact hS.trans t2 (fun k hk=>.inl hk)
   clear HK K;try simp only[Act.put,SL]
   have hS9:=hS.trans t2 (fun k hk=>.inl hk);clear hS;have hS:=hS9;clear hS9;have GR8:=Hd (And.intro t1 (And.intro t2 (And.intro t3 (And.intro u1 (And.intro u2 (And.intro u3 (And.intro u4 (And.intro u5 u6))))))));have FH:Hid (Frm (fun k=>k=wh.heap.size) wh wh):=Hd (Frm.refl _ _)
   have nb8:¬ F' bx:=fun hx=>by
    rcases t3 _ hx with h1|h1
    ·have:=HL _ h1;have:=BXL.o;have:=HPS.fr.size;omega
    ·have:=BXR.o;omega
   have NB8:=Hd nb8;have HBX8:=Hd ((t2.block bx BXR (fun hx=>by have:=HL _ hx;have:=BXL.o;have:=HPS.fr.size;omega)).trans HBX.o);clear HBX nb8;have HBX:=HBX8;clear HBX8;have FE:Hid (Frm (fun k=>k=bx) wh wh):=Hd (Frm.refl _ _);obtain⟨a0,a1,a2,f0,f1,f2⟩:=cU HBX.o;clear t1 t2 t3 u1 u2 u3 u4 u5 u6 FH;refine Hu 9 36 hS ?_;simp only[SL];refine Hu 10 46 hS ?_;simp only[SL];refine Hu 11 47 hS ?_;simp only[SL];refine Hs 13 (fun K HK=>?_);go_simp;refine HK _ _ ?_ ?_
   ·exact eH hS _ _ _ _ (.inr BXL.o)
   clear HK K;try simp only[Act.put,SL]
   have hS9:=eH hS bx g1 g2 g3 (.inr BXL.o);clear hS;unfold rS at hS9;have hS:=hS9;clear hS9 a0 a1 a2 f0 f1 f2;refine Hu 14 11 hS ?_;simp only[SL];refine wpAnyH_done (by kernel_rfl) ?_ _;have g8:=GR8.o
   exact REST _ _ _ _ _ _ _ _ _ _ _ _ _ _ _ _ _ _ _ _ _ _ _ _ _ _ _ _ _ _ _ _ _ _ _ _ _ _ _ _ _ _ _ _ _ _ _ _ _ _ _ _ (oN HPS HBK g8.1 g8.2.1 g8.2.2.1 NB8 BXL (eH FE bx g1 g2 g3 (.inl rfl)) (gD HBX.o) g8.2.2.2.1 g8.2.2.2.2.1 ⟨g8.2.2.2.2.2.2.2.1,g8.2.2.2.2.2.2.2.2⟩ g8.2.2.2.2.2.1 (fun k hk=>g8.2.2.2.2.2.2.1 (k+2*fs.length+1) (by rw[HFL.o];exact hk.le (by omega))))
 ·go_simp
  refine HK _ _ ?_ ?_
  ·exact hS.alloc _
  clear HK K;try simp only[Act.put,SL]
  have hsz0:=hS.size;have hS9:Frm F w4 (w4.alloc (.cells #[(0:Int),(0:Int),.int .u64 0] 207)).drew:=hS.alloc (.cells #[(0:Int),(0:Int),.int .u64 0] 207);clear hS;obtain⟨wa,hwa⟩:∃ wa,(w4.alloc (.cells #[(0:Int),(0:Int),.int .u64 0] 207)).drew=wa:=⟨_,rfl⟩
  obtain⟨bx,hbx⟩:∃ bx,w4.heap.size=bx:=⟨_,rfl⟩
  have HBX:Hid (wa.heap[bx]?=some (grO 0 0 0)):=Hd (by rw[<-hwa,<-hbx];exact han w4 _);have BXL:Hid (w4.heap.size<=bx):=Hd (by rw[<-hbx];exact Nat.le_refl _);have BXR:Hid (bx<wa.heap.size):=Hd (by rw[<-hwa,<-hbx];show w4.heap.size<(w4.alloc _).heap.size;simp);have HBK9:Hid (Below w4.heap.size w4 wa):=Hd (by rw[<-hwa];exact((Below.refl _ w4).alloc (Nat.le_refl _) _).drew);clear HBK;have HBK:=HBK9;clear HBK9;rw[hwa] at hS9;rw[hwa,hbx];have hS:=hS9;clear hS9 hwa hbx;refine Hs 7 (fun K HK=>?_);go_simp;go_wp2_with fail
  refine(PT _ hS).mono ?_;rintro e wp ⟨⟨bk,bv,bc,dk0,dv,dc,rfl,hR,q1,q2,q3⟩,b7⟩;simp only[aJ];refine HK _ _ ?_ ?_
  ·exact hS.trans (G:=fun _=>False) (Frm.of_below b7) (fun _ hx=>hx.elim)
  clear HK K;try simp only[Act.put,SL]
  have hS9:=hS.trans (G:=fun _=>False) (Frm.of_below b7) (fun _ hx=>hx.elim);clear hS;have hS:=hS9;clear hS9;have HBK7:=Hd (HBK.trans (b7.mono HBK.size));have HR7:=Hd hR;have Q7:Hid ((∀ y,bk=some y->w4.heap.size<=y.block)/\(∀ y,bv=some y->w4.heap.size<=y.block)/\∀ y,bc=some y->w4.heap.size<=y.block):=Hd ⟨fun y hy=>Nat.le_trans HBK.size (q1 y hy),fun y hy=>Nat.le_trans HBK.size (q2 y hy),fun y hy=>Nat.le_trans HBK.size (q3 y hy)⟩;have HBX7:=Hd (kept HBX b7);clear HBX;have HBX:=HBX7;clear HBX7
  have BXR7:Hid (bx<wp.heap.size):=Hd (Nat.lt_of_lt_of_le BXR b7.size);clear BXR;have BXR:=BXR7;clear BXR7;clear HBK;have HBK:=HBK7;clear HBK7 hR q1 q2 q3 b7;refine Hs 8 (fun K HK=>?_);go_simp;go_wp2_with fail;refine(GW _ bk bv bc dk0 dv dc HBK HR7 ⟨Q7.1,Q7.2.1,Q7.2.2⟩).mono ?_;rintro e wh ⟨g1,g2,g3,KM,QM,dk',st',rfl,⟨F',t1,t2,t3⟩,u1,u2,u3,u4,u5,u6⟩;refine HK _ _ ?_ ?_
  ·exact hS.trans t2 (fun k hk=>.inl hk)
  clear HK K;try simp only[Act.put,SL]
  have hS9:=hS.trans t2 (fun k hk=>.inl hk);clear hS;have hS:=hS9;clear hS9;have GR8:=Hd (And.intro t1 (And.intro t2 (And.intro t3 (And.intro u1 (And.intro u2 (And.intro u3 (And.intro u4 (And.intro u5 u6))))))));have FH:Hid (Frm (fun k=>k=wh.heap.size) wh wh):=Hd (Frm.refl _ _)
  have nb8:¬ F' bx:=fun hx=>by
   rcases t3 _ hx with h1|h1
   ·have:=HL _ h1;have:=BXL.o;have:=HPS.fr.size;omega
   ·have:=BXR.o;omega
  have NB8:=Hd nb8;have HBX8:=Hd ((t2.block bx BXR (fun hx=>by have:=HL _ hx;have:=BXL.o;have:=HPS.fr.size;omega)).trans HBX.o);clear HBX nb8;have HBX:=HBX8;clear HBX8;have FE:Hid (Frm (fun k=>k=bx) wh wh):=Hd (Frm.refl _ _);obtain⟨a0,a1,a2,f0,f1,f2⟩:=cU HBX.o;clear t1 t2 t3 u1 u2 u3 u4 u5 u6 FH;refine Hu 9 36 hS ?_;simp only[SL];refine Hu 10 46 hS ?_;simp only[SL];refine Hu 11 47 hS ?_;simp only[SL];refine Hs 13 (fun K HK=>?_);go_simp;refine HK _ _ ?_ ?_
  ·exact eH hS _ _ _ _ (.inr BXL.o)
  clear HK K;try simp only[Act.put,SL]
  have hS9:=eH hS bx g1 g2 g3 (.inr BXL.o);clear hS;unfold rS at hS9;have hS:=hS9;clear hS9 a0 a1 a2 f0 f1 f2;refine Hu 14 11 hS ?_;simp only[SL];refine wpAnyH_done (by kernel_rfl) ?_ _;have g8:=GR8.o
  exact REST _ _ _ _ _ _ _ _ _ _ _ _ _ _ _ _ _ _ _ _ _ _ _ _ _ _ _ _ _ _ _ _ _ _ _ _ _ _ _ _ _ _ _ _ _ _ _ _ _ _ _ _ (oN HPS HBK g8.1 g8.2.1 g8.2.2.1 NB8 BXL (eH FE bx g1 g2 g3 (.inl rfl)) (gD HBX.o) g8.2.2.2.1 g8.2.2.2.2.1 ⟨g8.2.2.2.2.2.2.2.1,g8.2.2.2.2.2.2.2.2⟩ g8.2.2.2.2.2.1 (fun k hk=>g8.2.2.2.2.2.2.1 (k+2*fs.length+1) (by rw[HFL.o];exact hk.le (by omega))))
def SD (w:World)(d s:Nat)(dk:DkS)(st:ShS)(F:Nat->Prop):Prop:=∃ FD FS,DS w d s dk st FD FS/\∀ k,F k ↔ FD k\/FS k
def rC (w:World)(d s:Nat)(dk:DkS)(st:ShS)(F:Nat->Prop)(w':World):Prop:=∃ F',SD w' d s dk st F'/\Frm F w w'/\∀ k,F' k->F k\/w.heap.size<=k
theorem SD.lt {w:World}{d s:Nat}{dk:DkS}{st:ShS}{F:Nat->Prop}(h:SD w d s dk st F)(k:Nat)(hk:F k):k<w.heap.size:=by
 obtain⟨FD,FS,hd,he⟩:=h
 rcases(he k).1 hk with h1|h1
 ·obtain⟨a,b,c,h2,h3⟩:=hd.dk
  exact h2.lt k ((h3 k).1 h1)
 ·exact hd.sto.lt k h1
theorem SD.frm {w w':World}{d s:Nat}{dk:DkS}{st:ShS}{F G:Nat->Prop}(h:SD w d s dk st F)(hf:Frm G w w')(hd:∀ k,F k->¬ G k):SD w' d s dk st F:=by
 obtain⟨FD,FS,hi,he⟩:=h;exact⟨FD,FS,⟨hi.dk.frm hf fun k hk=>hd k ((he k).2 (.inl hk)),hi.sto.frm hf fun k hk=>hd k ((he k).2 (.inr hk)),hi.apart⟩,he⟩
theorem SD.below {w w':World}{d s:Nat}{dk:DkS}{st:ShS}{F:Nat->Prop}(h:SD w d s dk st F)(hb:Below w.heap.size w w'):SD w' d s dk st F:=h.frm (G:=fun _=>False) (Frm.of_below hb) fun _ _ hx=>hx
theorem SD.visit {w:World}{d s:Nat}{dk:DkS}{st:ShS}{F:Nat->Prop}(h:SD w d s dk st F):TS (w.alloc (jT s 0)) d s w.heap.size dk st 0 (fun k=>F k\/k=w.heap.size):=by
 have hl:=h.lt;obtain⟨FD,FS,hi,he⟩:=h.below ((Below.refl _ w).alloc (Nat.le_refl _) (jT s 0));refine⟨FD,FS,⟨hi,han w _,fun hk=>?_,fun hk=>?_⟩,fun k=>?_⟩
 ·have:=hl _ ((he _).2 (.inl hk));omega
 ·have:=hl _ ((he _).2 (.inr hk));omega
 ·show(F k\/k=w.heap.size) ↔ _
  rw[he,or_assoc]
theorem TSPost.ends {w w':World}{d s r:Nat}{dk dk':DkS}{st st':ShS}{F:Nat->Prop}(hp:TSPost (w.alloc (jT s 0)) d s w.heap.size dk' st' r (fun k=>F k\/k=w.heap.size) w'):rC w d s dk' st' F w':=by
 obtain⟨F',⟨FD,FS,hi,he⟩,h2,h3⟩:=hp;have hz:(w.alloc (jT s 0)).heap.size=w.heap.size+1:=by simp
 refine⟨fun k=>FD k\/FS k,⟨FD,FS,hi.ds,fun _=>Iff.rfl⟩,?_,fun k hk=>?_⟩
 ·exact((Frm.refl F w).alloc (jT s 0)).trans h2 (fun k hk=>hk.imp id (fun e=>by omega))
 ·have hk':F' k:=(he k).2 (hk.elim .inl fun h=>.inr (.inl h))
  rcases h3 k hk' with(h1|h1)|h1
  ·exact .inl h1
  ·exact .inr (by omega)
  ·exact .inr (by omega)
theorem zL {α:Type}(p q:α->Bool)(h:∀ x,p x=true->q x=false)(m:List α):(m.filter p).length+(m.filter q).length<=m.length:=by
 induction m with
 | nil=>simp
 | cons a m ih=>
  rw[List.filter_cons,List.filter_cons,List.length_cons]
  cases hp:p a with
  | true=>
   rw[if_pos rfl,h a hp,if_neg (by decide),List.length_cons];omega
  | false=>
   rw[if_neg (by decide)]
   split
   ·rw[List.length_cons];omega
   ·omega
theorem bQ (k:Int)(v:ByteArray)(m:List Ent):(bF k v m).length<=m.length+1:=by
 unfold bF;rw[List.length_append,List.length_cons];have:=zL (fun e:Ent=>decide (e.1<k)) (fun e=>decide (k<e.1)) (fun x hx=>decide_eq_false (by have:=of_decide_eq_true hx;omega)) m;exact Nat.succ_le_succ this
theorem FQ:∀ (L M:List Int),L.Nodup->(∀ x∈L,x∈M)->L.length<=M.length:=by
 intro L
 induction L with
 | nil=>intro M _ _;simp
 | cons a L ih=>
  intro M hn hs;obtain⟨h1,h2⟩:=List.nodup_cons.1 hn;have ha:=hs a (by simp);have:=ih (M.erase a) h2 (fun x hx=>(List.mem_erase_of_ne (fun(e:x=a)=>h1 (e ▸ hx))).2 (hs x (by simp[hx])));rw[List.length_erase_of_mem ha] at this;have hM:0<M.length:=List.length_pos_of_mem ha;rw[List.length_cons];omega
theorem TreeI.room {dk:DkS}{st:ShS}{root:Int}{E:List Ent}(h:TreeI dk st root E)(g:eY dk st)(k:Nat)(hu:mF st dk.S.length+2*E.length+2+k<=dk.S.length):Room dk st k:=by
 have key:∀ P,LiveL st P->P.length<=2*E.length->Room dk st k:=by
  intro P hl hp;have:=FQ st.fresh P g.fn (fun x hx=>(hl.2 x).2 (.inl hx));unfold Room;omega
 rcases h with⟨_,rfl,hl⟩|⟨hh,F,P,ht,hs,rfl,hl⟩
 ·exact key [] hl (by simp)
 ·exact key P hl (by have:=(oA ht).1;omega)
theorem TreeI.root0 {dk:DkS}{st:ShS}{root:Int}{E:List Ent}(h:TreeI dk st root E)(h0:root=0):E=[]/\LiveL st []:=by
 rcases h with⟨_,h1,h2⟩|⟨hh,F,P,⟨M,PM,m1,_⟩,_⟩
 ·exact⟨h1,h2⟩
 ·have:=(sH m1).1;omega
theorem TreeI.rootN {dk:DkS}{st:ShS}{root:Int}{E:List Ent}(h:TreeI dk st root E)(h0:root≠0)(hE:E.length<=600):∃ hh F P,IsT (Rn dk) hh root F P/\bY F/\aD F=E/\LiveL st P/\hh<=9:=by
 rcases h with⟨h1,_⟩|⟨hh,F,P,ht,hs,he,hl⟩
 ·exact absurd h1 h0
 ·refine⟨hh,F,P,ht,hs,he,hl,?_⟩
  have:=(oA ht).2;rw[he] at this;apply Decidable.byContradiction;intro hx;have h10:2 ^ 10<=2 ^ hh:=Nat.pow_le_pow_right (by decide) (by omega);omega
def aFQ (w:World)(d s:Nat)(dk:DkS)(st:ShS)(F:Nat->Prop)(E:List Ent)(e:Ending)(w':World):Prop:=
 ∃ q dk' st',e=.returned (.tuple #[.int .i64 q,(0:Int)])/\rC w d s dk' st' F w'/\TreeI dk' st' q E/\To dk st dk' st'
theorem ZZ (w:World)(d s g:Nat)(dk:DkS)(st:ShS)(r:Nat)(F:Nat->Prop)(h:TS w d s g dk st r F)(G:eY dk st)(p i:Int)(fd:Bool)(hh:Nat)(N:Nod)(E:List Ent)(ha:AtI dk st [] hh p N E)(hb:NB N 240)(ak av ac:Option Addr)(ck cv cc:Nat)(hN:RowsA w N ak av ac ck cv cc F)(hroom:Room dk st 1) :
  () 114 #[g,.agg #[p,i,fd,N.leaf,ak N.K.length ck,av N.V.length cv,ac N.C.length cc]] w (rU w d s g dk st F E 1):=by
 obtain⟨w1,hw1⟩:∃ w1,w.alloc (.cells #[p,i,fd,N.leaf,ak N.K.length ck,av N.V.length cv,ac N.C.length cc] 168)=w1:=⟨_,rfl⟩
 have B1:Below w.heap.size w w1:=by rw[<-hw1];exact(Below.refl _ w).alloc (Nat.le_refl _) _
 have X1:w1.heap[w.heap.size]?=some (.cells #[p,i,fd,N.leaf,ak N.K.length ck,av N.V.length cv,ac N.C.length cc] 168):=by rw[<-hw1];exact han w _
 have HLT:=Hd h.lt;have T1:=h.below B1;obtain⟨b0,b1,b2,b3,b4,b5,b6⟩:=aM X1;have hlive:=ha.live
 by_cases hk:N.K=[]
 ·have hk0:¬ (0:Int)<(N.K.length:Int):=by rw[hk];simp
  obtain⟨q1,q2,q3⟩:=tT G p hlive
  have hp64:p<9223372036854775808/\(gI st.h.used p=true->2<=p/\p<640):=by
   have:=G.few
   rcases hlive with hx|hx
   ·have:=G.fb p hx;exact⟨by omega,fun h1=>by rw[(G.fb p hx).2.2] at h1;cases h1⟩
   ·have:=G.ub p hx.1;exact⟨by omega,fun _=>by omega⟩
  have GV:Hid (() 135 #[s,p] w1.drew fun e w'=>e=.returned (.int .i64 0)/\Frm F w1 w'/\w'.cell? ⟨g,0,none⟩=some (.pointer (some ⟨s,0,none⟩))/\TSPost w d s g dk (st.give p).1 r F w'/\RowsA w' N ak av ac ck cv cc F):=Hd (by
   have bd:Below w.heap.size w w1.drew:=B1.drew;obtain⟨FD2,FS2,hi2,he2⟩:=h.below bd;refine(xZ w1.drew s d st FS2 hi2.ds.sto p hp64.1 hp64.2).mono fun e w' ⟨r1,r2,r3⟩=>?_
   have hp:=TSPost.ofDS hi2 he2 (DSPost.store hi2.ds r3 r2);have hfr:Frm F w1 w':=((Frm.refl F w1).drew).trans (r3.mono (fun k hk=>(he2 k).2 (.inr (.inl hk)))) (fun k hk=>.inl hk);refine⟨by rw[r1,q2],hfr,?_,TSPost.chain bd hp,(hN.below bd).frm r3 (fun k hk=>(he2 k).2 (.inr (.inl hk)))⟩;obtain⟨F',⟨_,_,hi3,_⟩,_⟩:=hp;exact(cH hi3.v).1)
  have L1:Hid (w.heap.size<w1.heap.size):=Hd (zl X1);have LF:Hid (¬ F w.heap.size):=Hd (fun hx=>by have:=HLT _ hx;omega)
  have v0:w1.drew.cell? ⟨g,0,none⟩=some (.pointer (some ⟨s,0,none⟩)):=by
   obtain⟨_,_,hi2,_⟩:=T1;exact(cH hi2.v).1
  have HX:=Hd X1
  cases hlf:N.leaf with
  | true=>
   have FINP:=UJ ha hk hlf q1;have FINQ:Hid (∀ w3,TSPost w d s g dk (st.give p).1 r F w3->rU w d s g dk st F E 1 (.returned (.tuple #[(0:Int),(0:Int)])) w3):=Hd (fun w3 h3=>⟨0,dk,_,r,rfl,h3,FINP,q1.tt,fun k hk=>(q3 _ hk).le (by omega)⟩);rw[hlf] at HX b3;clear h G ha hb hN hroom B1 T1 hlive hp64 q1 q2 q3 FINP hk X1;go_enter Tryz.func114,Tryz.ntmps114;rw[hlf] at hw1;go_upto_region 3 with fail
   try rw[hw1]
   clear hw1;refine wp_region_held_drew (S:=fun wz=>Frm F w1 wz/\wz.cell? ⟨g,0,none⟩=some (.pointer (some ⟨s,0,none⟩))) (by kernel_rfl) ⟨(Frm.refl F w1).drew,v0⟩ (fun hS=>?_);refine Hu 0 20 hS ?_;simp only[SL];refine Hu 1 21 hS ?_;simp only[SL];refine Hu 2 22 hS ?_;simp only[SL];refine Hv 3 23 ?va3x4 hS ?ha3x4 ?_
   case ha3x4=>
    intro w9 s9;have c:=s9.2;clear s9;go_simp;try (with_reducible rfl)
   simp only[SL];refine Hu 4 24 hS ?_;simp only[SL];refine Hv 5 25 ?va5x6 hS ?ha5x6 ?_
   case ha5x6=>
    intro w9 s9;have c:=cl ((s9.1.block _ L1 LF.o).trans HX.o) 0 rfl;clear s9;go_simp;try (with_reducible rfl)
   simp only[SL];refine Hs 6 (fun K HK=>?_);go_simp;go_wp2_with fail;refine GV.mono ?_;rintro e w3 ⟨rfl,h3⟩;have H3:=Hd h3;refine HK _ _ ?_ ?_
   ·exact⟨Frm.trans (F:=F) (Frm.refl F w1) h3.1 (fun _ hx=>.inl hx),h3.2.1⟩
   clear HK K;try simp only[Act.put,SL]
   clear hS;have hS:=And.intro h3.1 h3.2.1;clear h3;refine Hu 7 6 hS ?_;simp only[SL];refine wpAnyH_done (by kernel_rfl) ?_ _;clear hS;have X3:=(H3.1.block w.heap.size L1 LF.o).trans HX.o;obtain⟨_,_,_,c3,_⟩:=aM X3;have HF:=Hd (FINQ _ H3.2.2.1);clear X3 b0 b1 b2 b3 b4 b5 b6 v0;go_wp2_with fail;go_ret2;exact HF.o
  | false=>
   obtain⟨q,hC,FINP⟩:=aAE ha hk hlf q1;have FINQ:Hid (∀ w3,TSPost w d s g dk (st.give p).1 r F w3->rU w d s g dk st F E 1 (.returned (.tuple #[.int .i64 q,(0:Int)])) w3):=Hd (fun w3 h3=>⟨q,dk,_,r,rfl,h3,FINP,q1.tt,fun k hk=>(q3 _ hk).le (by omega)⟩)
   have KID:Hid (∀ w3,RowsA w3 N ak av ac ck cv cc F->∃ cb off,ac=some ⟨cb,off,none⟩/\w3.cell? ⟨cb,off,none⟩=some (.int .i64 q)):=Hd (fun w3 h3=>by
    have hc:=h3.r.c;rw[hC] at hc;obtain⟨cb,off,e1,_,e2⟩:=hc.at 0 (by simp);exact⟨cb,off,e1,e2⟩)
   have hcl:N.C.length=1:=by rw[hC];rfl
   rw[hlf] at HX b3;obtain⟨cb,off,rfl,_⟩:=KID _ hN;rw[hcl] at HX b6 hw1;clear h G ha hb hN hroom B1 T1 hlive hp64 q1 q2 q3 FINP hk X1 hC;rw[hcl];have HCL:=Hd hcl;clear hcl;go_enter Tryz.func114,Tryz.ntmps114;rw[hlf] at hw1;go_upto_region 3 with fail
   try rw[hw1]
   clear hw1;refine wp_region_held_drew (S:=fun wz=>Frm F w1 wz/\wz.cell? ⟨g,0,none⟩=some (.pointer (some ⟨s,0,none⟩))) (by kernel_rfl) ⟨(Frm.refl F w1).drew,v0⟩ (fun hS=>?_);refine Hu 0 20 hS ?_;simp only[SL];refine Hu 1 21 hS ?_;simp only[SL];refine Hu 2 22 hS ?_;simp only[SL];refine Hv 3 23 ?vb3x4 hS ?hb3x4 ?_
   case hb3x4=>
    intro w9 s9;have c:=s9.2;clear s9;go_simp;try (with_reducible rfl)
   simp only[SL];refine Hu 4 24 hS ?_;simp only[SL];refine Hv 5 25 ?vb5x6 hS ?hb5x6 ?_
   case hb5x6=>
    intro w9 s9;have c:=cl ((s9.1.block _ L1 LF.o).trans HX.o) 0 rfl;clear s9;go_simp;try (with_reducible rfl)
   simp only[SL];refine Hs 6 (fun K HK=>?_);go_simp;go_wp2_with fail;refine GV.mono ?_;rintro e w3 ⟨rfl,h3⟩;have H3:=Hd h3;refine HK _ _ ?_ ?_
   ·exact⟨Frm.trans (F:=F) (Frm.refl F w1) h3.1 (fun _ hx=>.inl hx),h3.2.1⟩
   clear HK K;try simp only[Act.put,SL]
   clear hS;have hS:=And.intro h3.1 h3.2.1;clear h3;refine Hu 7 6 hS ?_;simp only[SL];refine wpAnyH_done (by kernel_rfl) ?_ _;clear hS;have X3:=(H3.1.block w.heap.size L1 LF.o).trans HX.o;obtain⟨_,_,_,c3,_,_,c6⟩:=aM X3;obtain⟨cb',off',e1,e2⟩:=KID _ H3.2.2.2;injection e1 with e1;injection e1 with ea eb;subst ea eb;have HF:=Hd (FINQ _ H3.2.2.1);clear X3 b0 b1 b2 b3 b4 b5 b6 v0;go_wp2_with fail;go_ret2;exact HF.o
 ·have hk0:(0:Int)<(N.K.length:Int):=by have:=List.length_pos_iff.2 hk;omega
  have hr:=ha.right hb hk
  have LY:Hid (() 133 #[g,p,aJ N ak av ac ck cv cc] w1 (rU w d s g dk st F E 1)):=Hd (by
   refine(lG w1 d s g dk st r F T1 G p hlive hroom N hr ak av ac ck cv cc (hN.below B1)).mono ?_;rintro e w' ⟨q,dk',st',rfl,h1,h2,h3⟩;exact⟨q,dk',st',r,rfl,TSPost.chain B1 h1,aAD ha hk h2,h2.tt,h3⟩)
  clear h G ha hb hN hroom B1 T1 X1 hlive hr hk;unfold aJ at LY;go_enter Tryz.func114,Tryz.ntmps114;go_wp2_with fail;refine LY.mono ?_;rintro e w2 ⟨q,dk',st',r',rfl,z2,z3,z4,z5⟩;have FIN:Hid (rU w d s g dk st F E 1 (.returned (.tuple #[.int .i64 q,(0:Int)])) w2):=Hd ⟨q,dk',st',r',rfl,z2,z3,z4,z5⟩;clear z2 z3 z4 z5;go_wp2_with fail;go_ret2;exact FIN.o
