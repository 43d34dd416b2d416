import Derived.Test.YthdgedcckdkpjaaGreatDoorD17
namespace Go.Proofs.YthdgedcckdkpjaaGreatDoor
open Go.RowKit
set_option maxRecDepth 20000
set_option maxHeartbeats 12800000
set_option linter.unusedVariables false
set_option linter.unusedSimpArgs false
theorem KO (w:World)(a b c:Obj):(((w.alloc a).alloc b).alloc c).heap[w.heap.size]?=some a/\(((w.alloc a).alloc b).alloc c).heap[w.heap.size+1]?=some b/\(((w.alloc a).alloc b).alloc c).heap[w.heap.size+2]?=some c/\(((w.alloc a).alloc b).alloc c).heap.size=w.heap.size+3/\Below w.heap.size w (((w.alloc a).alloc b).alloc c):=by
 have s1:(w.alloc a).heap.size=w.heap.size+1:=by simp
 have s2:((w.alloc a).alloc b).heap.size=w.heap.size+2:=by simp
 refine⟨?_,?_,?_,by simp,(((Below.refl _ w).alloc (Nat.le_refl _) a).alloc (by omega) b).alloc (by omega) c⟩
 ·exact(hao _ _ (by omega)).trans ((hao _ _ (by omega)).trans (han w a))
 ·have:=han (w.alloc a) b
  rw[s1] at this;exact(hao _ _ (by omega)).trans this
 ·have:=han ((w.alloc a).alloc b) c
  rw[s2] at this;exact this
theorem ShrS.boxedF {w wg w5 we:World}{d s g:Nat}{dk dk':DkS}{st st':ShS}{F F':Nat->Prop}{x:StepV}{p:Int}{fs:List aL}{h m r' b:Nat}{E:List Ent}{N:Nod}{bk bv bc:Option Addr}{jk jv jc:Nat}
  (hs:ShrS wg d s g dk st F x p fs h E m w5 N bk bv bc jk jv jc dk' st' r' F')(hb:Frm F w wg)(h0:w.heap.size<=b)(h1:b<wg.heap.size)(hX:∀ k,XB x k->k<w.heap.size)(hF:∀ k,F k->k<w.heap.size)(hf:Frm (fun k=>k=b) w5 we):ShrS w d s g dk st F x p fs h E m we N bk bv bc jk jv jc dk' st' r' F':=by
 have nb:¬ F' b:=fun hx=>by
  rcases hs.fn _ hx with h2|h2
  ·have:=hF _ h2;omega
  ·omega
 have nk:∀ y:Addr,(XB x y.block\/wg.heap.size<=y.block)->¬ y.block=b:=fun y hy e=>by
  rcases hy with h2|h2
  ·have:=hX _ h2;omega
  ·omega
 exact{ hs with
  ts:=hs.ts.frm hf (fun k hk e=>nb (e ▸ hk))
  fr:=((hb.mono (fun k hk=>(.inl hk:F k\/XB x k))).trans hs.fr (fun k hk=>.inl hk)).trans hf (fun k hk=>.inr (by subst hk;exact h0))
  fn:=fun k hk=>(hs.fn k hk).imp id (fun h2=>Nat.le_trans hb.size h2)
  rows:=hs.rows.frm2 hf hs.nv (fun y hy=>nk y (hs.ka y hy)) (fun y hy=>nk y (hs.kc y hy))
  ka:=fun y hy=>(hs.ka y hy).imp id (fun h2=>Nat.le_trans hb.size h2)
  kc:=fun y hy=>(hs.kc y hy).imp id (fun h2=>Nat.le_trans hb.size h2) }
theorem ZZ {N:Nod}(hw:bD N=true)(hz:80<=aH N):N.K≠[]:=by
 intro e
 cases hl:N.leaf with
 | true=>
  have h1:=(bC hl).1 hw;rw[e] at h1;have hv:N.V=[]:=List.length_eq_zero_iff.1 (by have:=h1.1;have:=h1.2;simp only[List.length_nil] at *;omega);unfold aH at hz;rw[hl,e,hv] at hz;simp[bI] at hz
 | false=>
  have h1:=(aQ hl).1 hw;unfold aH at hz;rw[hl,e] at hz;rw[e] at h1;have:=h1.1;simp only[List.length_nil,Bool.false_eq_true,if_false] at *;omega
theorem AtI.frame {dk:DkS}{st:ShS}{f:aL}{fs:List aL}{h:Nat}{p:Int}{N:Nod}{E:List Ent}(ha:AtI dk st (f::fs) h p N E):FrameOk (Rn dk) h f:=by
 obtain⟨FL,FR,PC,F,P,⟨h1,_⟩,_⟩:=ha;exact h1
theorem aCA {dk dk':DkS}{st st':ShS}{f:aL}{fs:List aL}{h:Nat}{p q:Int}{N:Nod}{E:List Ent}(ha:AtI dk st (f::fs) h p N E)(hk:N.K≠[])(hl:jM dk st p N dk' st' q) :
  AtI dk' st' fs (h+1) f.page (aW f.N f.KA.length q) E/\NB (aW f.N f.KA.length q) 240:=by
 obtain⟨QM,u1,u2⟩:=MA ha hk hl;have hf:=ha.frame
 rcases u2 with⟨q',_,hQ,h1,_⟩|⟨_,_,e,_⟩
 ·obtain⟨_,_,h3⟩:=aDK u1 hl.tt.g (by simp)
  have e:upN f [] (kP QM)=aW f.N f.KA.length q:=by rw[UN hf,hQ,h1];rfl
  rw[e] at h3;refine⟨h3,?_⟩;have hn:=NB.of_right hf.r;refine⟨fun v hv=>hn.1 v hv,fun c hc=>?_,?_⟩
  ·rcases List.mem_or_eq_of_mem_set hc with hc|rfl
   ·exact hn.2.1 c hc
   ·exact⟨hl.lo,hl.hi⟩
  ·have:=hn.2.2
   unfold aH aW at *
   dsimp only at *
   rw[List.length_set];exact this
 ·cases e
theorem Frm.cell0 {G:Nat->Prop}{w w':World}(h:Frm G w w'){p:Addr}(hb:p.block<w.heap.size)(hn:¬ G p.block):w'.cell? p=w.cell? p:=by
 unfold World.cell?;rw[h.block p.block hb hn]
theorem zR (w:World)(d s g:Nat)(dk:DkS)(st:ShS)(r:Nat)(F:Nat->Prop)(h:TS w d s g dk st r F)(G:eU dk st)(x:StepV)(f:aL)(fs:List aL)(hX:StepA w x f.N F)(hxp:x.p=f.page)(hxi:x.i=(f.KA.length:Int))(hh:Nat)(p:Int)(N:Nod)(E:List Ent)(ha:AtI dk st (f::fs) hh p N E)(hb:NB N 240)(hz:80<=aH N)(ki:Int)(kf:Bool)(ak av ac:Option Addr)(ck cv cc:Nat)(hN:RowsA w N ak av ac ck cv cc F)(dp:Int)(hroom:Room dk st 2)(hdp:dp<=10)(hr:r<640) :
  () 129 #[g,x.val,.agg #[p,ki,kf,N.leaf,ak N.K.length ck,av N.V.length cv,ac N.C.length cc],dp] w (fR w d s g dk st F x x.p fs (hh+1) E 2 (fun r'=>r'<=r+1)):=by
 have hk:=ZZ ha.whole hz;have hrt:=ha.right hb hk;have hf:=ha.frame;have hlive:=ha.live;have hw:=ha.whole;obtain⟨c,hc⟩:=hf.c
 have hcl:f.KA.length<f.N.C.length/\f.N.C.length=f.KA.length+f.KB.length+1:=by
  rw[hc];simp only[List.length_append,cL,List.length_singleton,hf.a,hf.b];omega
 have hkk:0<f.KA.length+f.KB.length:=by
  have:=List.length_pos_iff.2 hf.k0;rw[hf.k,List.length_append] at this;exact this
 obtain⟨cb,off,ec,zc,cbl,_⟩:=gJ (q1:=2) (i:=f.KA.length) hX hf.v hcl.1 (by omega);have HLT:=Hd h.lt
 have XBL:Hid (∀ k,XB x k->k<w.heap.size):=Hd (fun k hk=>by
  rcases hk with⟨y,hy,rfl⟩|⟨y,hy,rfl⟩
  ·exact(hX.uk y hy).1
  ·exact(hX.uc y hy).1)
 obtain⟨j,hj⟩:∃ j,f.KA.length=j:=⟨_,rfl⟩
 obtain⟨w1,hw1⟩:∃ w1,((w.alloc (.cells #[.int .i64 x.p,(j:Int),x.fd,x.lf,x.ak x.lk x.ck,x.av x.lv x.cv,.slice (some ⟨cb,off,none⟩) x.lc x.cc] 172)).alloc (.cells #[p,ki,kf,N.leaf,ak N.K.length ck,av N.V.length cv,ac N.C.length cc] 172)).alloc (.cells #[(0:Int),(0:Int),false,false,.slice none 0 0,.slice none 0 0,.slice none 0 0] 172)=w1:=⟨_,rfl⟩
 obtain⟨x1,x2,x3,z1,B1⟩:=KO w (.cells #[.int .i64 x.p,(j:Int),x.fd,x.lf,x.ak x.lk x.ck,x.av x.lv x.cv,.slice (some ⟨cb,off,none⟩) x.lc x.cc] 172) (.cells #[p,ki,kf,N.leaf,ak N.K.length ck,av N.V.length cv,ac N.C.length cc] 172) (.cells #[(0:Int),(0:Int),false,false,.slice none 0 0,.slice none 0 0,.slice none 0 0] 172);rw[hw1] at x1 x2 x3 z1 B1;have XU:=Hd x1;have XK:=Hd x2;have XZ:=Hd x3;have Z1:=Hd z1;have B01:=Hd B1
 have HV:Hid (x.val=.agg #[.int .i64 x.p,(j:Int),x.fd,x.lf,x.ak x.lk x.ck,x.av x.lv x.cv,.slice (some ⟨cb,off,none⟩) x.lc x.cc]):=Hd (by unfold StepV.val;rw[ec,hxi,hj]);obtain⟨z,hzz⟩:∃ z,aH N=z:=⟨_,rfl⟩
 have SZ:=Hd (iW N ak av ac ck cv cc w1 (hN.r.below B1) z (Hd hzz) hw)
 have LY:Hid (∀ wz,Below w1.heap.size w1 wz->() 150 #[g,p,aI N ak av ac ck cv cc] wz (rV wz d s g dk st r F (jM dk st p N) 1)):=Hd (fun wz bz=>by
  have b0:=B1.trans (bz.mono B1.size);exact lJ wz d s g dk st r F (h.below b0) G p hlive (hroom.le (by omega)) N hrt ak av ac ck cv cc (hN.below b0))
 have LU:Hid (∀ dk' st' q,jM dk st p N dk' st' q->AtI dk' st' fs (hh+1) x.p (aW f.N j q) E/\NB (aW f.N j q) 240):=Hd (fun dk' st' q hl=>by rw[hxp,<-hj];exact aCA ha hk hl);have HX:=Hd hX;have HFV:=Hd hf.v;have HCL:Hid (j<f.N.C.length/\x.lc=f.N.C.length):=Hd ⟨by rw[<-hj];exact hcl.1,hX.lc⟩
 have HLN:Hid (∀ q,(aW f.N j q).leaf=x.lf/\(aW f.N j q).K.length=x.lk/\(aW f.N j q).V.length=x.lv/\(aW f.N j q).C.length=x.lc):=Hd (fun q=>⟨hX.lf.symm,hX.lk.symm,hX.lv.symm,by unfold aW;dsimp only;rw[List.length_set,hX.lc]⟩);have EC:=Hd ec;have EI:Hid (x.i=(j:Int)):=Hd (by rw[hxi,hj]);have CBL:=Hd cbl;have ltj:(j:Int)<(x.lc:Int):=by have:=HCL.1;have:=HCL.2;omega
 have hz':(80:Int)<=(z:Int):=by omega
 rw[HV.o];clear h G hX hxp hxi ha hb hz hN hroom hdp hr hk hrt hf hlive hw hc hcl hkk ec zc cbl hj x1 x2 x3 z1 B1 HV hzz;unfold aI at *;obtain⟨b0,b1,b2,b3,b4,b5,b6⟩:=aM XK.o;go_enter Tryz.func129,Tryz.ntmps129;go_wp2_with fail;refine SZ.mono ?_;rintro e wg ⟨rfl,bg⟩;have Bg:=Hd bg;have LYg:=Hd (LY wg bg);clear b0 b1 b2 b3 b4 b5 b6;obtain⟨b0,b1,b2,b3,b4,b5,b6⟩:=aM (kept XK bg);clear bg;go_wp2_with fail;refine LYg.mono ?_;rintro e w5 ⟨q,dk1,st1,rfl,⟨F1,t1,t2,t3⟩,hl,hrm⟩
 have S5:Hid (w.heap.size+3<=wg.heap.size/\wg.heap.size<=w5.heap.size):=Hd ⟨by have:=Bg.size;have:=Z1.o;omega,t2.size⟩;have XU5:=(t2.block w.heap.size (by have:=S5.o;omega) (fun hx=>by have:=HLT _ hx;omega)).trans (kept XU Bg.o);have XZ5:=(t2.block (w.heap.size+2) (by have:=S5.o;omega) (fun hx=>by have:=HLT _ hx;omega)).trans (kept XZ Bg.o);have f05:Frm F w w5:=(Frm.of_below (B01.trans (Bg.mono B01.size)):Frm F w wg).trans t2 (fun k hk=>.inl hk)
 have X5:StepA w5 x f.N (fun k=>F k\/F1 k\/k=w.heap.size\/k=w.heap.size+2):=(HX.grow (fun k hk=>by
  rcases hk with hk|hk|hk|hk
  ·exact .inl hk
  ·exact(t3 k hk).imp id (fun h1=>by have:=S5.o;omega)
  ·exact .inr (by omega)
  ·exact .inr (by omega))).frm f05 (fun k hk=>.inl hk)
 obtain⟨cb',off',e1,zc,zl,⟨c',e2⟩,e3,hry⟩:=gJ (q1:=q) (i:=j) X5 HFV HCL.1 ⟨hl.lo,hl.hi⟩;rw[EC.o] at e1;injection e1 with e1;injection e1 with ea eb;subst ea eb;have RY:=Hd hry;have ONE:=Hd (LU _ _ _ hl);have TG:=Hd (And.intro hl.tt hrm);have T1:=Hd t1;have F05:=Hd f05;have FN:Hid (∀ k,F1 k->F k\/wg.heap.size<=k):=Hd t3;have HX5:=Hd XU5;have HZ5:=Hd XZ5;have ZC:Hid (¬ F1 cb):=Hd (fun hx=>zc (.inr (.inl hx)));clear b0 b1 b2 b3 b4 b5 b6 hl hrm t1 t2 t3 f05 X5 hry XZ5 zc zl;obtain⟨d0,d1,d2,d3,d4,d5,d6⟩:=aM XU5
 clear XU5;go_upto_region 4 with fail
 obtain⟨w6,hw6⟩:∃ w6,w5.setCell ⟨cb,off+j,none⟩ (.int .i64 q)=w6:=⟨_,rfl⟩
 obtain⟨f6,r6⟩:=RY w6 hw6;have XU6:=(f6.block w.heap.size (by have:=S5.o;omega) (by have:=CBL.o;show ¬ w.heap.size=cb;omega)).trans HX5.o;have XZ6:=(f6.block (w.heap.size+2) (by have:=S5.o;omega) (by have:=CBL.o;show ¬ w.heap.size+2=cb;omega)).trans HZ5.o;have Z:=Hd (aM (dG XZ6 x));have Fe:Frm (fun k=>k=cb\/k=w.heap.size+2) w5 (fT w6 (w.heap.size+2) x):=cC (f6.mono (fun k hk=>.inl hk)) _ _ (.inl (.inr rfl))
 have F6e:Frm (fun k=>k=w.heap.size+2) w6 (fT w6 (w.heap.size+2) x):=cC (Frm.refl _ w6) _ _ (.inl rfl)
 have END:Hid (fR w d s g dk st F x x.p fs (hh+1) E 2 (fun r'=>r'<=r+1) (.returned (.tuple #[.agg #[.int .i64 x.p,x.i,x.fd,x.lf,x.ak x.lk x.ck,x.av x.lv x.cv,x.ac x.lc x.cc],(0:Int)])) (fT w6 (w.heap.size+2) x)):=Hd (by
  refine⟨x.i,x.fd,aW f.N j q,x.ak,x.av,x.ac,x.ck,x.cv,x.cc,dk1,st1,r,F1,?_,Nat.le_succ r,?_⟩
  ·rw[(HLN q).1,(HLN q).2.1,(HLN q).2.2.1,(HLN q).2.2.2]
  ·refine{ ts:=T1.frm Fe (fun k hk hx=>?_),fr:=(F05.mono (fun _ hk=>.inl hk)).trans Fe (fun k hk=>?_),fn:=fun k hk=>(FN k hk).imp id (fun h1=>by have:=S5.o;omega),rows:=(r6.frm F6e (fun k hk=>.inr (.inr (.inr hk)))).mono (fun k hk=>.inr (.inl hk)),nv:=HFV.o,ka:=fun y hy=>.inl (.inl ⟨y,hy,rfl⟩),kc:=fun y hy=>.inl (.inr ⟨y,hy,rfl⟩),at_:=ONE.1,nb:=ONE.2,tt:=TG.1,rm:=fun k hk=>TG.2 k (hk.le (by omega)) }
   ·rcases hx with hx|hx
    ·exact ZC (hx ▸ hk)
    ·rcases FN k hk with h1|h1
     ·have:=HLT _ h1;omega
     ·have:=S5.o;omega
   ·rcases hk with hk|hk
    ·exact .inl (.inr (.inr ⟨_,EC.o,hk.symm⟩))
    ·exact .inr (by omega))
 have g0:=ufb XZ6 0;have g1:=ufb XZ6 1;have g2:=ufb XZ6 2;have g3:=ufb XZ6 3;have g4:=ufb XZ6 4;have g5:=ufb XZ6 5;have g6:=ufb XZ6 6;rw[hw6];clear hw6 f6 r6 Fe F6e d0 d1 d2 d3 d4 d5 d6 e2 e3;obtain⟨i0,i1,i2,i3,i4,i5,i6⟩:=aM XZ6;obtain⟨d0,d1,d2,d3,d4,d5,d6⟩:=aM XU6;unfold fT at Z END;rw[EC.o,EI.o] at Z END;clear XU6 XZ6;go_wp2_with fail
 exact bodyPost_ret (v:=.tuple #[.agg #[.int .i64 x.p,(j:Int),x.fd,x.lf,x.ak x.lk x.ck,x.av x.lv x.cv,.slice (some ⟨cb,off,none⟩) x.lc x.cc],(0:Int)]) (by simp[results,Tryz.results129,go_sem,Z.1,Z.2.1,Z.2.2.1,Z.2.2.2.1,Z.2.2.2.2.1,Z.2.2.2.2.2.1,Z.2.2.2.2.2.2]) rfl END.o
theorem xS (w:World)(d s g:Nat)(dk:DkS)(st:ShS)(r:Nat)(F:Nat->Prop)(h:TS w d s g dk st r F)(G:eU dk st)(x:StepV)(f:aL)(fs:List aL)(hX:StepA w x f.N F)(hxp:x.p=f.page)(hxi:x.i=(f.KA.length:Int))(hh:Nat)(p:Int)(N:Nod)(E:List Ent)(ha:AtI dk st (f::fs) hh p N E)(hb:NB N 240)(hz:aH N<80)(hKA:f.KA≠[])(ki:Int)(kf:Bool)(ak av ac:Option Addr)(ck cv cc:Nat)(hN:RowsA w N ak av ac ck cv cc F)(dp:Int)(hroom:Room dk st 2)(hdp:dp<=10)(hr:r<640) :
  () 129 #[g,x.val,.agg #[p,ki,kf,N.leaf,ak N.K.length ck,av N.V.length cv,ac N.C.length cc],dp] w (fR w d s g dk st F x x.p fs (hh+1) E 2 (fun r'=>r'<=r+1)):=by
 have hf:=ha.frame;have hlive:=ha.live;have hw:=ha.whole;obtain⟨c,hc⟩:=hf.c
 have hcl:f.KA.length<f.N.C.length/\f.N.C.length=f.KA.length+f.KB.length+1:=by
  rw[hc];simp only[List.length_append,cL,List.length_singleton,hf.a,hf.b];omega
 have hkk:0<f.KA.length+f.KB.length:=by
  have:=List.length_pos_iff.2 hf.k0;rw[hf.k,List.length_append] at this;exact this
 obtain⟨cb,off,ec,zc,cbl,_⟩:=gJ (q1:=2) (i:=f.KA.length) hX hf.v hcl.1 (by omega);have HLT:=Hd h.lt
 have XBL:Hid (∀ k,XB x k->k<w.heap.size):=Hd (fun k hk=>by
  rcases hk with⟨y,hy,rfl⟩|⟨y,hy,rfl⟩
  ·exact(hX.uk y hy).1
  ·exact(hX.uc y hy).1)
 obtain⟨j,hj⟩:∃ j,f.KA.length=j:=⟨_,rfl⟩
 obtain⟨w1,hw1⟩:∃ w1,((w.alloc (.cells #[.int .i64 x.p,(j:Int),x.fd,x.lf,x.ak x.lk x.ck,x.av x.lv x.cv,.slice (some ⟨cb,off,none⟩) x.lc x.cc] 172)).alloc (.cells #[p,ki,kf,N.leaf,ak N.K.length ck,av N.V.length cv,ac N.C.length cc] 172)).alloc (.cells #[(0:Int),(0:Int),false,false,.slice none 0 0,.slice none 0 0,.slice none 0 0] 172)=w1:=⟨_,rfl⟩
 obtain⟨x1,x2,x3,z1,B1⟩:=KO w (.cells #[.int .i64 x.p,(j:Int),x.fd,x.lf,x.ak x.lk x.ck,x.av x.lv x.cv,.slice (some ⟨cb,off,none⟩) x.lc x.cc] 172) (.cells #[p,ki,kf,N.leaf,ak N.K.length ck,av N.V.length cv,ac N.C.length cc] 172) (.cells #[(0:Int),(0:Int),false,false,.slice none 0 0,.slice none 0 0,.slice none 0 0] 172);rw[hw1] at x1 x2 x3 z1 B1;have XU:=Hd x1;have XK:=Hd x2;have XZ:=Hd x3;have Z1:=Hd z1;have B01:=Hd B1
 have HV:Hid (x.val=.agg #[.int .i64 x.p,(j:Int),x.fd,x.lf,x.ak x.lk x.ck,x.av x.lv x.cv,.slice (some ⟨cb,off,none⟩) x.lc x.cc]):=Hd (by unfold StepV.val;rw[ec,hxi,hj]);obtain⟨z,hzz⟩:∃ z,aH N=z:=⟨_,rfl⟩
 have SZ:=Hd (iW N ak av ac ck cv cc w1 (hN.r.below B1) z (Hd hzz) hw);obtain⟨KA,k,hka⟩:∃ KA k,f.KA=KA++[k]:=⟨_,_,(List.dropLast_concat_getLast hKA).symm⟩
 have hAne:f.A≠[]:=fun e=>hKA (List.length_eq_zero_iff.1 (by rw[<-hf.a,e];rfl))
 obtain⟨A,a,haa⟩:∃ A a,f.A=A++[a]:=⟨_,_,(List.dropLast_concat_getLast hAne).symm⟩
 obtain⟨M,hM,hMk,hP⟩:=QO ha hka haa;have hU:UpS f.N KA k f.KB A a.p c f.B:=⟨hf.lf,hf.v,by rw[hf.k,hka],by rw[hc,haa];simp[kP],by have:=hf.a;rw[haa,hka] at this;simpa using this,hf.b⟩
 obtain⟨po,hpo⟩:∃ po,a.p=po:=⟨_,rfl⟩
 obtain⟨b,hbb⟩:∃ b,KA.length=b:=⟨_,rfl⟩
 have hjb:j=b+1:=by rw[<-hj,hka,List.length_append,hbb];rfl
 rw[<-hxp,hpo] at hP;rw[hpo] at hU hM;have hM240:=NB.of_right (nC hM).1
 have hC:f.N.C[b]?=some po:=by
  rw[hU.c];rw[List.append_assoc,List.getElem?_append_right (by rw[cL,hU.a,hbb];exact Nat.le_refl _),cL,hU.a,hbb,Nat.sub_self];rfl
 have hBl:b<f.N.C.length:=(List.getElem?_eq_some_iff.1 hC).1
 have KC0:cb<w.heap.size/\w.cell? ⟨cb,off+b,none⟩=some (.int .i64 po):=by
  obtain⟨cb',off',e1,e2,e3⟩:=hX.a.r.c.at b (by rw[List.length_map];exact hBl);rw[ec] at e1;injection e1 with e1;injection e1 with ea eb;subst ea eb;refine⟨e2,?_⟩;rw[e3,List.getElem_map];have:=List.getElem?_eq_getElem hBl;rw[hC] at this;injection this with this;rw[<-this];rfl
 have HKC:=Hd KC0;have ZCF:Hid (¬ F cb):=Hd zc;have hgF:F g:=by obtain⟨_,_,_,he⟩:=h;exact(he g).2 (.inr (.inr rfl))
 have ND:Hid (∀ wz,Below w1.heap.size w1 wz->() 139 #[g,.int .i64 po,dp] wz fun e w'=>nI wz.heap.size M e w'/\TS w' d s g dk st (r+1) F/\Frm (fun k=>k=g) wz w'):=Hd (fun wz bz=>pD wz d s g dk st r F (h.below (B1.trans (bz.mono B1.size))) G.su hr po dp hdp M hM)
 have MR:Hid (∀ w5 bk bv bc dk0 dv dc,Frm F w w5->TS w5 d s g dk st (r+1) F->NodR w5 M bk bv bc dk0 dv dc->() 151 #[g,.agg #[.int .i64 x.p,(j:Int),x.fd,x.lf,x.ak x.lk x.ck,x.av x.lv x.cv,.slice (some ⟨cb,off,none⟩) x.lc x.cc],(b:Int),.agg #[.int .i64 po,(0:Int),false,M.leaf,.slice bk M.K.length dk0,.slice bv M.V.length dv,.slice bc M.C.length dc],.agg #[p,ki,kf,N.leaf,ak N.K.length ck,av N.V.length cv,ac N.C.length cc]] w5 (fR w5 d s g dk st F x x.p fs (hh+1) E 2 (fun r'=>r'=r+1))):=Hd (fun w5 bk bv bc dk0 dv dc f5 t5 hm=>by
  have:=vL w5 d s g dk st (r+1) F t5 G x f.N (hX.frm f5 (fun _ hk=>hk)) fs hh KA f.KB k po p po c A f.B M N E hP hU (NB.of_right hf.r) hM240 hb (.inr hz) (.inl hMk) bk bv bc ak av ac dk0 dv dc ck cv cc 0 ki false kf hm (hN.frm f5 (fun _ hk=>hk)).r hroom;rw[HV.o] at this;rw[hbb] at this;exact this)
 have hz':¬ (80:Int)<=(z:Int):=by omega
 have hlc1:((x.lc:Int)==1)=false:=by rw[beq_eq_false_iff_ne];have:=hX.lc;omega
 have hblt:(b:Int)<(x.lc:Int):=by have:=hX.lc;omega
 have hj0:((j:Int)==0)=false:=by rw[beq_eq_false_iff_ne];omega
 have hwr:IntKind.i64.wrap ((j:Int)-1)=(b:Int):=by rw[IntWalk.i64_in _ (by have:=hX.a.r.ok.c1;omega)];omega
 have hbj:(b:Int)<(j:Int):=by omega
 rw[HV.o];have HN:=Hd hN;have HGF:=Hd hgF;clear h G hX hxp hxi ha hb hz hN hroom hdp hr hf hlive hw hc hcl hkk ec zc cbl hj x1 x2 x3 z1 B1 HV hzz hKA hka hAne haa hbb hjb hP hU hM hMk hM240 hC hBl KC0 hpo hgF;unfold aI at *;obtain⟨b0,b1,b2,b3,b4,b5,b6⟩:=aM XK.o;go_enter Tryz.func129,Tryz.ntmps129;go_wp2_with fail;refine SZ.mono ?_;rintro e wg ⟨rfl,bg⟩;have Bg:=Hd bg;have NDg:=Hd (ND wg bg);clear b0 b1 b2 b3 b4 b5 b6;obtain⟨d0,d1,d2,d3,d4,d5,d6⟩:=aM (kept XU bg);have B0g:=Hd (B01.trans (bg.mono B01.size))
 have kc:=(B0g.cell (p:=⟨cb,off+b,none⟩) HKC.1).trans HKC.2;clear bg;go_wp2_with fail;refine NDg.mono ?_;rintro e w2 ⟨⟨bk,bv,bc,dk0,dv,dc,rfl,hR,q1,q2,q3,_,_⟩,t2,f2⟩;unfold aI;have S2:Hid (w.heap.size+3<=wg.heap.size/\wg.heap.size<=w2.heap.size):=Hd ⟨by have:=Bg.size;have:=Z1.o;omega,f2.size⟩;have F02:Hid (Frm F w w2):=Hd ((Frm.of_below B0g.o:Frm F w wg).trans f2 (fun k hk=>.inl (hk ▸ HGF.o)));have NG:∀ b,w.heap.size<=b->¬ b=g:=fun b hb e=>by have:=HLT _ HGF.o;omega
 have XU2:=(f2.block w.heap.size (by have:=S2.o;omega) (NG _ (by omega))).trans (kept XU Bg.o);have XK2:=(f2.block (w.heap.size+1) (by have:=S2.o;omega) (NG _ (by omega))).trans (kept XK Bg.o);have XZ2:=(f2.block (w.heap.size+2) (by have:=S2.o;omega) (NG _ (by omega))).trans (kept XZ Bg.o);have T2:=Hd t2;have R2:=Hd hR;have C2:∀ y,Frm F w y->cb<y.heap.size->True:=fun _ _ _=>trivial
 clear t2 f2 hR q1 q2 q3 NG C2 kc d0 d1 d2 d3 d4 d5 d6;go_upto_region 9 with fail
 obtain⟨w3,hw3⟩:∃ w3,w2.alloc (.cells #[M.leaf,.slice bk M.K.length dk0,.slice bv M.V.length dv,.slice bc M.C.length dc] 170)=w3:=⟨_,rfl⟩
 obtain⟨bx,hbx⟩:∃ bx,w2.heap.size=bx:=⟨_,rfl⟩
 have B23:Below w2.heap.size w2 w3:=by rw[<-hw3];exact(Below.refl _ w2).alloc (Nat.le_refl _) _
 have XM3:Hid (w3.heap[bx]?=some (.cells #[M.leaf,.slice bk M.K.length dk0,.slice bv M.V.length dv,.slice bc M.C.length dc] 170)):=Hd (by rw[<-hw3,<-hbx];exact han w2 _);have XU3:=Hd (kept XU2 B23);have XK3:=Hd (kept XK2 B23);have XZ3:=Hd (kept XZ2 B23);have XU3L:Hid (w.heap.size<w3.heap.size):=Hd (zl XU3.o);have XM3L:Hid (bx<w3.heap.size):=Hd (zl XM3.o);have S3:Hid (w.heap.size+3<=w3.heap.size):=Hd (by have:=S2.o;have:=B23.size;omega)
 have F03:Hid (Frm F w w3):=Hd (F02.trans (G:=fun _=>False) (Frm.of_below B23) (fun _ hx=>hx.elim));have T3:=Hd (T2.below B23);have R3:=Hd (R2.below B23);have CB3:Hid (cb<w3.heap.size/\w3.cell? ⟨cb,off+b,none⟩=some (.int .i64 po)):=Hd ⟨by have:=HKC.1;have:=S3.o;omega,(F03.cell0 (p:=⟨cb,off+b,none⟩) HKC.1 ZCF.o).trans HKC.2⟩;rw[hw3,hbx];clear hw3 hbx B23 XU2 XK2 XZ2;go_upto_region 11 with fail
 refine wp_region_held_drew (S:=fun wz=>Frm (fun _=>False) w3 wz) (by kernel_rfl) ((Frm.refl (fun _=>False) w3).drew) (fun hS=>?_);refine Hu 0 67 hS ?_;simp only[SL];refine Hu 1 68 hS ?_;simp only[SL];refine Hv 2 69 ?vsl2x3 hS ?hsl2x3 ?_
 case hsl2x3=>
  intro w9 s9;have cN6:=cl ((s9.block _ XU3L (fun h=>h)).trans XU3.o) 6 rfl;clear s9;go_simp;try (with_reducible rfl)
 simp only[SL];refine Hu 3 70 hS ?_;simp only[SL];refine Hu 4 71 hS ?_;simp only[SL];refine Hv 5 72 ?vsl5x6 hS ?hsl5x6 ?_
 case hsl5x6=>
  intro w9 s9;have c5:=(s9.cell0 (p:=⟨cb,off+b,none⟩) CB3.1 (fun h=>h)).trans CB3.2;clear s9;go_simp;try (with_reducible rfl)
 simp only[SL];refine Hv 6 73 ?vsl6x7 hS ?hsl6x7 ?_
 case hsl6x7=>
  intro w9 s9;have cN0:=cl ((s9.block _ XM3L (fun h=>h)).trans XM3.o) 0 rfl;have cN1:=cl ((s9.block _ XM3L (fun h=>h)).trans XM3.o) 1 rfl;have cN2:=cl ((s9.block _ XM3L (fun h=>h)).trans XM3.o) 2 rfl;have cN3:=cl ((s9.block _ XM3L (fun h=>h)).trans XM3.o) 3 rfl;clear s9;go_simp;try (with_reducible rfl)
 simp only[SL];refine Hu 7 74 hS ?_;simp only[SL];refine Hs 8 (fun K HK=>?_);go_simp;refine HK _ _ ?_ ?_
 ·exact hS.alloc _
 clear HK K;try simp only[Act.put,SL]
 have hS9:Frm (fun _=>False) w3 (w3.alloc (.cells #[(0:Int),(0:Int),false,false,.slice none 0 0,.slice none 0 0,.slice none 0 0] 172)).drew:=hS.alloc _;clear hS;obtain⟨w4,hw4⟩:∃ w4,(w3.alloc (.cells #[(0:Int),(0:Int),false,false,.slice none 0 0,.slice none 0 0,.slice none 0 0] 172)).drew=w4:=⟨_,rfl⟩
 obtain⟨bo,hbo⟩:∃ bo,w3.heap.size=bo:=⟨_,rfl⟩
 have XO4:w4.heap[bo]?=some (.cells #[(0:Int),(0:Int),false,false,.slice none 0 0,.slice none 0 0,.slice none 0 0] 172):=by rw[<-hw4,<-hbo];exact han w3 _
 have BO3:Hid (w3.heap.size<=bo):=Hd (by rw[<-hbo];exact Nat.le_refl _);have BO4:Hid (bo<w4.heap.size):=Hd ((zl XO4));rw[hw4] at hS9;rw[hw4,hbo];have hS:=hS9;have g0:=ufb XO4 0;have g1:=ufb XO4 1;have g2:=ufb XO4 2;have g3:=ufb XO4 3;have g4:=ufb XO4 4;have g5:=ufb XO4 5;have g6:=ufb XO4 6;obtain⟨i0,i1,i2,i3,i4,i5,i6⟩:=aM XO4;have HO4:=Hd XO4;have F34:=Hd hS;clear hS9 hw4 hbo XO4;refine Hs 9 (fun K HK=>?_);go_simp;refine HK _ _ ?_ ?_
 ·exact cC hS _ (eH po 0 false M bk bv bc dk0 dv dc) (.inr BO3.o)
 clear HK K;try simp only[Act.put,SL]
 clear hS g0 g1 g2 g3 g4 g5 g6 i0 i1 i2 i3 i4 i5 i6;refine wpAnyH_done (by kernel_rfl) ?_ _
 skip
 obtain⟨w5,hw5⟩:∃ w5,((((((w4.setCell ⟨bo,0,none⟩ (.int .i64 po)).setCell ⟨bo,1,none⟩ (.int .i64 0)).setCell ⟨bo,2,none⟩ (.bool false)).setCell ⟨bo,3,none⟩ (.bool M.leaf)).setCell ⟨bo,4,none⟩ (.slice bk M.K.length dk0)).setCell ⟨bo,5,none⟩ (.slice bv M.V.length dv)).setCell ⟨bo,6,none⟩ (.slice bc M.C.length dc)=w5:=⟨_,rfl⟩
 have F45:Frm (fun k=>k=bo) w4 w5:=hw5 ▸ cC (Frm.refl _ w4) bo (eH po 0 false M bk bv bc dk0 dv dc) (.inl rfl);have X5:w5.heap[bo]?=some (.cells #[.int .i64 po,(0:Int),false,M.leaf,.slice bk M.K.length dk0,.slice bv M.V.length dv,.slice bc M.C.length dc] 172):=hw5 ▸ dG HO4 (eH po 0 false M bk bv bc dk0 dv dc);have F35:Frm (fun _=>False) w3 w5:=F34.trans F45 (fun k hk=>.inr (by subst hk;exact BO3.o));have XU5:=(F35.block _ XU3L (fun h=>h)).trans XU3.o
 have XK5:=(F35.block _ (by have:=S3.o;omega) (fun h=>h)).trans XK3.o;have XZ5:=(F35.block _ (by have:=S3.o;omega) (fun h=>h)).trans XZ3.o;have F05:Frm F w w5:=F03.trans F35 (fun _ hx=>hx.elim);have T5:=T3.frm F35 (fun _ _ hx=>hx);have R5:NodR w5 M bk bv bc dk0 dv dc:=((RowsA.new (lo:=0) (Z:=fun _=>False) R3 (fun _ _=>Nat.zero_le _) (fun _ _=>Nat.zero_le _) (fun _ _=>Nat.zero_le _) (fun _ hk=>hk.elim)).frm F35 (fun _ hx=>hx)).r;have MC5:=Hd (MR w5 bk bv bc dk0 dv dc F05 T5 R5);have HF5:=Hd F05;have HZ5:=Hd XZ5
 have S5:Hid (w.heap.size+3<=w5.heap.size):=Hd (by have:=S3.o;have:=F35.size;omega);rw[hw5];clear hw5 F45 F35 F05 T5 R5 XZ5;obtain⟨d0,d1,d2,d3,d4,d5,d6⟩:=aM XU5;obtain⟨b0,b1,b2,b3,b4,b5,b6⟩:=aM XK5;obtain⟨o0,o1,o2,o3,o4,o5,o6⟩:=aM X5;clear XU5 XK5 X5;go_wp2_with fail;refine MC5.mono ?_;rintro e w6 ⟨i',fd',N',bk',bv',bc',jk',jv',jc',dk',st',r',F',rfl,hr',hs⟩
 have XZ6:=(hs.fr.block (w.heap.size+2) (by have:=S5.o;omega) (fun hx=>by
  rcases hx with hx|hx
  ·have:=HLT _ hx;omega
  ·have:=XBL _ hx;omega)).trans HZ5.o
 have Z:=Hd (aM (dG XZ6 ⟨x.p,i',fd',N'.leaf,bk',N'.K.length,jk',bv',N'.V.length,jv',bc',N'.C.length,jc'⟩))
 have END:Hid (fR w d s g dk st F x x.p fs (hh+1) E 2 (fun r'=>r'<=r+1) (.returned (.tuple #[.agg #[.int .i64 x.p,.int .i64 i',fd',N'.leaf,bk' N'.K.length jk',bv' N'.V.length jv',bc' N'.C.length jc'],(0:Int)])) (fT w6 (w.heap.size+2) ⟨x.p,i',fd',N'.leaf,bk',N'.K.length,jk',bv',N'.V.length,jv',bc',N'.C.length,jc'⟩)):=Hd ⟨i',fd',N',bk',bv',bc',jk',jv',jc',dk',st',r',F',rfl,Nat.le_of_eq hr',hs.boxedF HF5 (by omega) (by have:=S5.o;omega) XBL HLT (cC (Frm.refl _ w6) _ _ (.inl rfl))⟩
 have g0:=ufb XZ6 0;have g1:=ufb XZ6 1;have g2:=ufb XZ6 2;have g3:=ufb XZ6 3;have g4:=ufb XZ6 4;have g5:=ufb XZ6 5;have g6:=ufb XZ6 6;obtain⟨i0,i1,i2,i3,i4,i5,i6⟩:=aM XZ6;unfold fT at Z END;clear hs hr' XZ6 b0 b1 b2 b3 b4 b5 b6 d0 d1 d2 d3 d4 d5 d6 o0 o1 o2 o3 o4 o5 o6 MC5;go_wp2_with fail
 exact bodyPost_ret (v:=.tuple #[.agg #[.int .i64 x.p,.int .i64 i',fd',N'.leaf,bk' N'.K.length jk',bv' N'.V.length jv',bc' N'.C.length jc'],(0:Int)]) (by simp[results,Tryz.results129,go_sem,Z.1,Z.2.1,Z.2.2.1,Z.2.2.2.1,Z.2.2.2.2.1,Z.2.2.2.2.2.1,Z.2.2.2.2.2.2]) rfl END.o
theorem uV (w:World)(d s g:Nat)(dk:DkS)(st:ShS)(r:Nat)(F:Nat->Prop)(h:TS w d s g dk st r F)(G:eU dk st)(x:StepV)(f:aL)(fs:List aL)(hX:StepA w x f.N F)(hxp:x.p=f.page)(hxi:x.i=(f.KA.length:Int))(hh:Nat)(p:Int)(N:Nod)(E:List Ent)(ha:AtI dk st (f::fs) hh p N E)(hb:NB N 240)(hz:aH N<80)(hKA:f.KA=[])(ki:Int)(kf:Bool)(ak av ac:Option Addr)(ck cv cc:Nat)(hN:RowsA w N ak av ac ck cv cc F)(dp:Int)(hroom:Room dk st 2)(hdp:dp<=10)(hr:r<640) :
  () 129 #[g,x.val,.agg #[p,ki,kf,N.leaf,ak N.K.length ck,av N.V.length cv,ac N.C.length cc],dp] w (fR w d s g dk st F x x.p fs (hh+1) E 2 (fun r'=>r'<=r+1)):=by
 have hf:=ha.frame;have hlive:=ha.live;have hw:=ha.whole;obtain⟨c,hc⟩:=hf.c
 have hcl:f.KA.length<f.N.C.length/\f.N.C.length=f.KA.length+f.KB.length+1:=by
  rw[hc];simp only[List.length_append,cL,List.length_singleton,hf.a,hf.b];omega
 have hkk:0<f.KA.length+f.KB.length:=by
  have:=List.length_pos_iff.2 hf.k0;rw[hf.k,List.length_append] at this;exact this
 obtain⟨cb,off,ec,zc,cbl,_⟩:=gJ (q1:=2) (i:=f.KA.length) hX hf.v hcl.1 (by omega);have HLT:=Hd h.lt
 have XBL:Hid (∀ k,XB x k->k<w.heap.size):=Hd (fun k hk=>by
  rcases hk with⟨y,hy,rfl⟩|⟨y,hy,rfl⟩
  ·exact(hX.uk y hy).1
  ·exact(hX.uc y hy).1)
 have hj:f.KA.length=0:=by rw[hKA];rfl
 obtain⟨w1,hw1⟩:∃ w1,((w.alloc (.cells #[.int .i64 x.p,(0:Int),x.fd,x.lf,x.ak x.lk x.ck,x.av x.lv x.cv,.slice (some ⟨cb,off,none⟩) x.lc x.cc] 172)).alloc (.cells #[p,ki,kf,N.leaf,ak N.K.length ck,av N.V.length cv,ac N.C.length cc] 172)).alloc (.cells #[(0:Int),(0:Int),false,false,.slice none 0 0,.slice none 0 0,.slice none 0 0] 172)=w1:=⟨_,rfl⟩
 obtain⟨x1,x2,x3,z1,B1⟩:=KO w (.cells #[.int .i64 x.p,(0:Int),x.fd,x.lf,x.ak x.lk x.ck,x.av x.lv x.cv,.slice (some ⟨cb,off,none⟩) x.lc x.cc] 172) (.cells #[p,ki,kf,N.leaf,ak N.K.length ck,av N.V.length cv,ac N.C.length cc] 172) (.cells #[(0:Int),(0:Int),false,false,.slice none 0 0,.slice none 0 0,.slice none 0 0] 172);rw[hw1] at x1 x2 x3 z1 B1;have XU:=Hd x1;have XK:=Hd x2;have XZ:=Hd x3;have Z1:=Hd z1;have B01:=Hd B1
 have HV:Hid (x.val=.agg #[.int .i64 x.p,(0:Int),x.fd,x.lf,x.ak x.lk x.ck,x.av x.lv x.cv,.slice (some ⟨cb,off,none⟩) x.lc x.cc]):=Hd (by unfold StepV.val;rw[ec,hxi,hj];rfl);obtain⟨z,hzz⟩:∃ z,aH N=z:=⟨_,rfl⟩
 have SZ:=Hd (iW N ak av ac ck cv cc w1 (hN.r.below B1) z (Hd hzz) hw);have hKBne:f.KB≠[]:=fun e=>by rw[hKA,e] at hkk;simp at hkk
 obtain⟨k,KB,hkb⟩:=List.exists_cons_of_ne_nil hKBne;have hBne:f.B≠[]:=fun e=>hKBne (List.length_eq_zero_iff.1 (by rw[<-hf.b,e];rfl))
 obtain⟨a,Bt,hbe⟩:=List.exists_cons_of_ne_nil hBne;obtain⟨M,hM,hMk,hP⟩:=IF ha hkb hbe;have hA0:f.A=[]:=List.length_eq_zero_iff.1 (by rw[hf.a,hKA];rfl);have hU:UpS f.N f.KA k KB f.A c a.p Bt:=⟨hf.lf,hf.v,by rw[hf.k,hkb];simp,by rw[hc,hbe];simp[kP],hf.a,by have:=hf.b;rw[hbe,hkb] at this;simpa using this⟩
 obtain⟨po,hpo⟩:∃ po,a.p=po:=⟨_,rfl⟩
 rw[<-hxp,hpo] at hP;rw[hpo] at hU hM;have hM240:=NB.of_right (nC hM).1
 have hC:f.N.C[1]?=some po:=by
  rw[hU.c];rw[hA0];rfl
 have hBl:1<f.N.C.length:=(List.getElem?_eq_some_iff.1 hC).1
 have KC0:cb<w.heap.size/\w.cell? ⟨cb,off+1,none⟩=some (.int .i64 po):=by
  obtain⟨cb',off',e1,e2,e3⟩:=hX.a.r.c.at 1 (by rw[List.length_map];exact hBl);rw[ec] at e1;injection e1 with e1;injection e1 with ea eb;subst ea eb;refine⟨e2,?_⟩;rw[e3,List.getElem_map];have:=List.getElem?_eq_getElem hBl;rw[hC] at this;injection this with this;rw[<-this];rfl
 have HKC:=Hd KC0;have ZCF:Hid (¬ F cb):=Hd zc;have hgF:F g:=by obtain⟨_,_,_,he⟩:=h;exact(he g).2 (.inr (.inr rfl))
 have ND:Hid (∀ wz,Below w1.heap.size w1 wz->() 139 #[g,.int .i64 po,dp] wz fun e w'=>nI wz.heap.size M e w'/\TS w' d s g dk st (r+1) F/\Frm (fun k=>k=g) wz w'):=Hd (fun wz bz=>pD wz d s g dk st r F (h.below (B1.trans (bz.mono B1.size))) G.su hr po dp hdp M hM)
 have MR:Hid (∀ w5 bk bv bc dk0 dv dc,Frm F w w5->TS w5 d s g dk st (r+1) F->NodR w5 M bk bv bc dk0 dv dc->() 151 #[g,.agg #[.int .i64 x.p,(0:Int),x.fd,x.lf,x.ak x.lk x.ck,x.av x.lv x.cv,.slice (some ⟨cb,off,none⟩) x.lc x.cc],(0:Int),.agg #[p,ki,kf,N.leaf,ak N.K.length ck,av N.V.length cv,ac N.C.length cc],.agg #[.int .i64 po,(0:Int),false,M.leaf,.slice bk M.K.length dk0,.slice bv M.V.length dv,.slice bc M.C.length dc]] w5 (fR w5 d s g dk st F x x.p fs (hh+1) E 2 (fun r'=>r'=r+1))):=Hd (fun w5 bk bv bc dk0 dv dc f5 t5 hm=>by
  have:=vL w5 d s g dk st (r+1) F t5 G x f.N (hX.frm f5 (fun _ hk=>hk)) fs hh f.KA KB k p po c po f.A Bt N M E hP hU (NB.of_right hf.r) hb hM240 (.inl hz) (.inr hMk) ak av ac bk bv bc ck cv cc dk0 dv dc ki 0 kf false (hN.frm f5 (fun _ hk=>hk)).r hm hroom;rw[HV.o] at this;rw[hj] at this;exact this)
 have hz':¬ (80:Int)<=(z:Int):=by omega
 have hlc1:((x.lc:Int)==1)=false:=by rw[beq_eq_false_iff_ne];have:=hX.lc;omega
 have hblt:(1:Int)<(x.lc:Int):=by have:=hX.lc;omega
 have hdum:True:=trivial;rw[HV.o];have HN:=Hd hN;have HGF:=Hd hgF;clear h G hX hxp hxi ha hb hz hN hroom hdp hr hf hlive hw hc hcl hkk ec zc cbl hj x1 x2 x3 z1 B1 HV hzz hKA hdum hKBne hkb hBne hbe hA0 hP hU hM hMk hM240 hC hBl KC0 hpo hgF;unfold aI at *;obtain⟨b0,b1,b2,b3,b4,b5,b6⟩:=aM XK.o;go_enter Tryz.func129,Tryz.ntmps129;go_wp2_with fail;refine SZ.mono ?_;rintro e wg ⟨rfl,bg⟩;have Bg:=Hd bg;have NDg:=Hd (ND wg bg);clear b0 b1 b2 b3 b4 b5 b6;obtain⟨d0,d1,d2,d3,d4,d5,d6⟩:=aM (kept XU bg)
 have B0g:=Hd (B01.trans (bg.mono B01.size));have kc:=(B0g.cell (p:=⟨cb,off+1,none⟩) HKC.1).trans HKC.2;clear bg;go_wp2_with fail;refine NDg.mono ?_;rintro e w2 ⟨⟨bk,bv,bc,dk0,dv,dc,rfl,hR,q1,q2,q3,_,_⟩,t2,f2⟩;unfold aI;have S2:Hid (w.heap.size+3<=wg.heap.size/\wg.heap.size<=w2.heap.size):=Hd ⟨by have:=Bg.size;have:=Z1.o;omega,f2.size⟩;have F02:Hid (Frm F w w2):=Hd ((Frm.of_below B0g.o:Frm F w wg).trans f2 (fun k hk=>.inl (hk ▸ HGF.o)))
 have NG:∀ b,w.heap.size<=b->¬ b=g:=fun b hb e=>by have:=HLT _ HGF.o;omega
 have XU2:=(f2.block w.heap.size (by have:=S2.o;omega) (NG _ (by omega))).trans (kept XU Bg.o);have XK2:=(f2.block (w.heap.size+1) (by have:=S2.o;omega) (NG _ (by omega))).trans (kept XK Bg.o);have XZ2:=(f2.block (w.heap.size+2) (by have:=S2.o;omega) (NG _ (by omega))).trans (kept XZ Bg.o);have T2:=Hd t2;have R2:=Hd hR;have C2:∀ y,Frm F w y->cb<y.heap.size->True:=fun _ _ _=>trivial
 clear t2 f2 hR q1 q2 q3 NG C2 kc d0 d1 d2 d3 d4 d5 d6;go_upto_region 9 with fail
 obtain⟨w3,hw3⟩:∃ w3,w2.alloc (.cells #[M.leaf,.slice bk M.K.length dk0,.slice bv M.V.length dv,.slice bc M.C.length dc] 170)=w3:=⟨_,rfl⟩
 obtain⟨bx,hbx⟩:∃ bx,w2.heap.size=bx:=⟨_,rfl⟩
 have B23:Below w2.heap.size w2 w3:=by rw[<-hw3];exact(Below.refl _ w2).alloc (Nat.le_refl _) _
 have XM3:Hid (w3.heap[bx]?=some (.cells #[M.leaf,.slice bk M.K.length dk0,.slice bv M.V.length dv,.slice bc M.C.length dc] 170)):=Hd (by rw[<-hw3,<-hbx];exact han w2 _);have XU3:=Hd (kept XU2 B23);have XK3:=Hd (kept XK2 B23);have XZ3:=Hd (kept XZ2 B23);have XU3L:Hid (w.heap.size<w3.heap.size):=Hd (zl XU3.o);have XM3L:Hid (bx<w3.heap.size):=Hd (zl XM3.o);have S3:Hid (w.heap.size+3<=w3.heap.size):=Hd (by have:=S2.o;have:=B23.size;omega)
 have F03:Hid (Frm F w w3):=Hd (F02.trans (G:=fun _=>False) (Frm.of_below B23) (fun _ hx=>hx.elim));have T3:=Hd (T2.below B23);have R3:=Hd (R2.below B23);have CB3:Hid (cb<w3.heap.size/\w3.cell? ⟨cb,off+1,none⟩=some (.int .i64 po)):=Hd ⟨by have:=HKC.1;have:=S3.o;omega,(F03.cell0 (p:=⟨cb,off+1,none⟩) HKC.1 ZCF.o).trans HKC.2⟩;rw[hw3,hbx];clear hw3 hbx B23 XU2 XK2 XZ2;go_upto_region 11 with fail
 refine wp_region_held_drew (S:=fun wz=>Frm (fun _=>False) w3 wz) (by kernel_rfl) ((Frm.refl (fun _=>False) w3).drew) (fun hS=>?_);refine Hu 0 67 hS ?_;simp only[SL];refine Hu 1 68 hS ?_;simp only[SL];refine Hv 2 69 ?vsr2x3 hS ?hsr2x3 ?_
 case hsr2x3=>
  intro w9 s9;have cN6:=cl ((s9.block _ XU3L (fun h=>h)).trans XU3.o) 6 rfl;clear s9;go_simp;try (with_reducible rfl)
 simp only[SL];refine Hu 3 70 hS ?_;simp only[SL];refine Hu 4 71 hS ?_;simp only[SL];refine Hv 5 72 ?vsr5x6 hS ?hsr5x6 ?_
 case hsr5x6=>
  intro w9 s9;have c5:=(s9.cell0 (p:=⟨cb,off+1,none⟩) CB3.1 (fun h=>h)).trans CB3.2;clear s9;go_simp;try (with_reducible rfl)
 simp only[SL];refine Hv 6 73 ?vsr6x7 hS ?hsr6x7 ?_
 case hsr6x7=>
  intro w9 s9;have cN0:=cl ((s9.block _ XM3L (fun h=>h)).trans XM3.o) 0 rfl;have cN1:=cl ((s9.block _ XM3L (fun h=>h)).trans XM3.o) 1 rfl;have cN2:=cl ((s9.block _ XM3L (fun h=>h)).trans XM3.o) 2 rfl;have cN3:=cl ((s9.block _ XM3L (fun h=>h)).trans XM3.o) 3 rfl;clear s9;go_simp;try (with_reducible rfl)
 simp only[SL];refine Hu 7 74 hS ?_;simp only[SL];refine Hs 8 (fun K HK=>?_);go_simp;refine HK _ _ ?_ ?_
 ·exact hS.alloc _
 clear HK K;try simp only[Act.put,SL]
 have hS9:Frm (fun _=>False) w3 (w3.alloc (.cells #[(0:Int),(0:Int),false,false,.slice none 0 0,.slice none 0 0,.slice none 0 0] 172)).drew:=hS.alloc _;clear hS;obtain⟨w4,hw4⟩:∃ w4,(w3.alloc (.cells #[(0:Int),(0:Int),false,false,.slice none 0 0,.slice none 0 0,.slice none 0 0] 172)).drew=w4:=⟨_,rfl⟩
 obtain⟨bo,hbo⟩:∃ bo,w3.heap.size=bo:=⟨_,rfl⟩
 have XO4:w4.heap[bo]?=some (.cells #[(0:Int),(0:Int),false,false,.slice none 0 0,.slice none 0 0,.slice none 0 0] 172):=by rw[<-hw4,<-hbo];exact han w3 _
 have BO3:Hid (w3.heap.size<=bo):=Hd (by rw[<-hbo];exact Nat.le_refl _);have BO4:Hid (bo<w4.heap.size):=Hd ((zl XO4));rw[hw4] at hS9;rw[hw4,hbo];have hS:=hS9;have g0:=ufb XO4 0;have g1:=ufb XO4 1;have g2:=ufb XO4 2;have g3:=ufb XO4 3;have g4:=ufb XO4 4;have g5:=ufb XO4 5;have g6:=ufb XO4 6;obtain⟨i0,i1,i2,i3,i4,i5,i6⟩:=aM XO4;have HO4:=Hd XO4;have F34:=Hd hS;clear hS9 hw4 hbo XO4;refine Hs 9 (fun K HK=>?_);go_simp;refine HK _ _ ?_ ?_
 ·exact cC hS _ (eH po 0 false M bk bv bc dk0 dv dc) (.inr BO3.o)
 clear HK K;try simp only[Act.put,SL]
 clear hS g0 g1 g2 g3 g4 g5 g6 i0 i1 i2 i3 i4 i5 i6;refine wpAnyH_done (by kernel_rfl) ?_ _
 skip
 obtain⟨w5,hw5⟩:∃ w5,((((((w4.setCell ⟨bo,0,none⟩ (.int .i64 po)).setCell ⟨bo,1,none⟩ (.int .i64 0)).setCell ⟨bo,2,none⟩ (.bool false)).setCell ⟨bo,3,none⟩ (.bool M.leaf)).setCell ⟨bo,4,none⟩ (.slice bk M.K.length dk0)).setCell ⟨bo,5,none⟩ (.slice bv M.V.length dv)).setCell ⟨bo,6,none⟩ (.slice bc M.C.length dc)=w5:=⟨_,rfl⟩
 have F45:Frm (fun k=>k=bo) w4 w5:=hw5 ▸ cC (Frm.refl _ w4) bo (eH po 0 false M bk bv bc dk0 dv dc) (.inl rfl);have X5:w5.heap[bo]?=some (.cells #[.int .i64 po,(0:Int),false,M.leaf,.slice bk M.K.length dk0,.slice bv M.V.length dv,.slice bc M.C.length dc] 172):=hw5 ▸ dG HO4 (eH po 0 false M bk bv bc dk0 dv dc);have F35:Frm (fun _=>False) w3 w5:=F34.trans F45 (fun k hk=>.inr (by subst hk;exact BO3.o));have XU5:=(F35.block _ XU3L (fun h=>h)).trans XU3.o
 have XK5:=(F35.block _ (by have:=S3.o;omega) (fun h=>h)).trans XK3.o;have XZ5:=(F35.block _ (by have:=S3.o;omega) (fun h=>h)).trans XZ3.o;have F05:Frm F w w5:=F03.trans F35 (fun _ hx=>hx.elim);have T5:=T3.frm F35 (fun _ _ hx=>hx);have R5:NodR w5 M bk bv bc dk0 dv dc:=((RowsA.new (lo:=0) (Z:=fun _=>False) R3 (fun _ _=>Nat.zero_le _) (fun _ _=>Nat.zero_le _) (fun _ _=>Nat.zero_le _) (fun _ hk=>hk.elim)).frm F35 (fun _ hx=>hx)).r;have MC5:=Hd (MR w5 bk bv bc dk0 dv dc F05 T5 R5);have HF5:=Hd F05;have HZ5:=Hd XZ5
 have S5:Hid (w.heap.size+3<=w5.heap.size):=Hd (by have:=S3.o;have:=F35.size;omega);rw[hw5];clear hw5 F45 F35 F05 T5 R5 XZ5;obtain⟨d0,d1,d2,d3,d4,d5,d6⟩:=aM XU5;obtain⟨b0,b1,b2,b3,b4,b5,b6⟩:=aM XK5;obtain⟨o0,o1,o2,o3,o4,o5,o6⟩:=aM X5;clear XU5 XK5 X5;go_wp2_with fail;refine MC5.mono ?_;rintro e w6 ⟨i',fd',N',bk',bv',bc',jk',jv',jc',dk',st',r',F',rfl,hr',hs⟩
 have XZ6:=(hs.fr.block (w.heap.size+2) (by have:=S5.o;omega) (fun hx=>by
  rcases hx with hx|hx
  ·have:=HLT _ hx;omega
  ·have:=XBL _ hx;omega)).trans HZ5.o
 have Z:=Hd (aM (dG XZ6 ⟨x.p,i',fd',N'.leaf,bk',N'.K.length,jk',bv',N'.V.length,jv',bc',N'.C.length,jc'⟩))
 have END:Hid (fR w d s g dk st F x x.p fs (hh+1) E 2 (fun r'=>r'<=r+1) (.returned (.tuple #[.agg #[.int .i64 x.p,.int .i64 i',fd',N'.leaf,bk' N'.K.length jk',bv' N'.V.length jv',bc' N'.C.length jc'],(0:Int)])) (fT w6 (w.heap.size+2) ⟨x.p,i',fd',N'.leaf,bk',N'.K.length,jk',bv',N'.V.length,jv',bc',N'.C.length,jc'⟩)):=Hd ⟨i',fd',N',bk',bv',bc',jk',jv',jc',dk',st',r',F',rfl,Nat.le_of_eq hr',hs.boxedF HF5 (by omega) (by have:=S5.o;omega) XBL HLT (cC (Frm.refl _ w6) _ _ (.inl rfl))⟩
 have g0:=ufb XZ6 0;have g1:=ufb XZ6 1;have g2:=ufb XZ6 2;have g3:=ufb XZ6 3;have g4:=ufb XZ6 4;have g5:=ufb XZ6 5;have g6:=ufb XZ6 6;obtain⟨i0,i1,i2,i3,i4,i5,i6⟩:=aM XZ6;unfold fT at Z END;clear hs hr' XZ6 b0 b1 b2 b3 b4 b5 b6 d0 d1 d2 d3 d4 d5 d6 o0 o1 o2 o3 o4 o5 o6 MC5;go_wp2_with fail
 exact bodyPost_ret (v:=.tuple #[.agg #[.int .i64 x.p,.int .i64 i',fd',N'.leaf,bk' N'.K.length jk',bv' N'.V.length jv',bc' N'.C.length jc'],(0:Int)]) (by simp[results,Tryz.results129,go_sem,Z.1,Z.2.1,Z.2.2.1,Z.2.2.2.1,Z.2.2.2.2.1,Z.2.2.2.2.2.1,Z.2.2.2.2.2.2]) rfl END.o
def aDR (dk:DkS)(root:Int)(E:List Ent):Prop:=(root=0/\E=[])\/∃ h F P,IsT (Rn dk) h root F P/\bT F/\aC F=E
theorem TreeI.reads {dk:DkS}{st:ShS}{root:Int}{E:List Ent}(h:TreeI dk st root E):aDR dk root E:=by
 rcases h with⟨h1,h2,_⟩|⟨hh,F,P,ht,hs,he,_⟩
 ·exact .inl ⟨h1,h2⟩
 ·exact .inr ⟨hh,F,P,ht,hs,he⟩
theorem IsT.low {dk:DkS}{h:Nat}{root:Int}{F:List Mk}{P:List Int}(ht:IsT (Rn dk) h root F P)(hE:(aC F).length<=600):h<=9:=by
 have:=(oD ht).2;apply Decidable.byContradiction;intro hx;have h10:2 ^ 10<=2 ^ h:=Nat.pow_le_pow_right (by decide) (by omega);omega
def jJ (key:Int)(E:List Ent):ByteArray:=match cP key E with|some v=>v|none=>⟨#[]⟩
def eE (key:Int)(E:List Ent):Bool:=(cP key E).isSome
theorem CY {dk:DkS}{M:Nod}{FL FR Fh:List Mk}{key:Int}{i:Nat}{fd:Bool}(ht:fK (Rn dk) 0 M Fh [])(hs:bT (FL++Fh++FR))(hL:∀ m∈FL,dI m<2*key+1)(hR:∀ m∈FR,2*key+1<dI m)(hf:bP M key=(i,fd)) :
  (fd=true/\∃ v,M.V[i]?=some v/\cP key (aC (FL++Fh++FR))=some v)\/(fd=false/\cP key (aC (FL++Fh++FR))=none):=by
 obtain⟨s1,s2,s3⟩:=aG.1 hs;obtain⟨j,X,Y,hX,hY,hh⟩:=oU ht (aG.1 s1).2.1 key
 have side:∀ (Z:List Mk),(∀ m∈Z,dI m≠2*key+1)->∀ e∈aC Z,e.1≠key:=by
  intro Z hZ e he;obtain⟨m,hm,hme⟩:=List.mem_filterMap.1 he;have:=hZ m hm;obtain⟨a,b⟩:=m
  cases b with
  | none=>simp[oY] at hme
  | some b=>simp[oY] at hme;subst hme;rw[fE] at this;show a≠key;omega
 have small:∀ e∈aC (FL++X),e.1<key:=by
  intro e he;obtain⟨m,hm,hme⟩:=List.mem_filterMap.1 he;have:dI m<2*key+1:=(List.mem_append.1 hm).elim (hL m) (hX m);obtain⟨a,b⟩:=m
  cases b with
  | none=>simp[oY] at hme
  | some b=>simp[oY] at hme;subst hme;rw[fE] at this;show a<key;omega
 rcases hh with⟨old,e0,e00,ev,e1,_⟩|⟨e0,e1,_⟩
 ·rw[hf] at e0
  injection e0 with e0 e2;subst e0 e2;refine .inl ⟨rfl,old,ev,?_⟩;have:aC (FL++Fh++FR)=aC (FL++X)++(key,old)::aC (Y++FR):=by rw[e1];simp[aN,jC]
  rw[this];exact YQ _ _ _ _ small
 ·rw[hf] at e0
  injection e0 with e0 e2;subst e0 e2;refine .inr ⟨rfl,SE _ _ (side _ (fun m hm=>?_))⟩;rw[e1] at hm;simp only[List.mem_append] at hm
  rcases hm with(hm|hm|hm)|hm
  ·have:=hL m hm;omega
  ·have:=hX m hm;omega
  ·have:=hY m hm;omega
  ·have:=hR m hm;omega
theorem aAU (w:World)(d s:Nat)(dk:DkS)(st:ShS)(F:Nat->Prop)(h:SD w d s dk st F)(G:eU dk st)(root:Int)(E:List Ent)(ht:aDR dk root E)(hE:E.length<=600)(key:Int)(hk:0<=key/\key<=18446744073709551615) :
  () 95 #[s,root,.int .u64 key] w fun e w'=>e=.returned (.tuple #[.string (jJ key E),.bool (eE key E),(0:Int)])/\Below w.heap.size w w':=by
 rcases ht with⟨rfl,rfl⟩|⟨hh,F0,P0,hi,hs,rfl⟩
 ·clear h G
  have e1:jJ key []=⟨#[]⟩:=rfl;have e2:eE key []=false:=rfl;rw[e1,e2];go_enter Tryz.func95,Tryz.ntmps95;go_wp2_with fail;go_ret3;exact⟨rfl,Br⟩
 ·have h9:=hi.low hE
  have h0:root≠0:=by
   obtain⟨M,PM,m1,_⟩:=hi;have:=(sN m1).1;omega
  have h0':(root==0)=false:=by rw[beq_eq_false_iff_ne];exact h0
  have DN:=Hd (yT (w.alloc (jN s 0)) d s w.heap.size dk st 0 _ h.visit G root hh F0 P0 hi hs h9 (by omega) key hk);have HS:=Hd hs;unfold jN at DN;clear h G hi hs h9 h0 hk;go_enter Tryz.func95,Tryz.ntmps95;go_wp2_with fail;refine DN.mono ?_;rintro e w1 ⟨v,fs,xs,x,M,i,fd,FL,FR,Fh,PC,hi,rfl,hD⟩;obtain⟨va,vc,rfl,_,_⟩:=bK hD.own;obtain⟨vn,hvn⟩:∃ vn,(xs.reverse++[x]).length=vn:=⟨_,rfl⟩
  have W2:Way (w1.alloc (.cells #[.slice va (xs.reverse++[x]).length vc] 164)) w1.heap.size (xs.reverse++[x]) (WF w1.heap.size (.slice va (xs.reverse++[x]).length vc)):=
   ⟨_,⟨han w1 _,gT (F:=fun _=>False) hD.own ((Frm.refl _ w1).alloc _) (fun _ _ hx=>hx),fun e=>by have:=(hD.own.lt _ e).2;omega⟩,fun _=>Iff.rfl⟩
  have PO:=Hd (pC _ w1.heap.size xs.reverse x _ W2);have s01:w.heap.size+1<=w1.heap.size:=by have:=hD.fr.size;rw[World.size_alloc] at this;exact this
  have gl:=CY hD.nt (by rw[hD.eF];exact HS.o) hD.bL hD.bR hD.fn;rw[hD.eF] at gl;have HD:=Hd hD;have xf:=hD.xf;have xi:=hD.xi;have HB1:Hid (Below w.heap.size w w1):=Hd (((Frm.refl (fun k=>k=w.heap.size) w).alloc _).trans hD.fr (fun k hk=>.inl hk) |>.below (fun k hk=>by omega) (Nat.le_refl _));rw[hvn] at PO HD |-;clear hD W2 hvn;go_wp2_with fail;refine PO.mono ?_;rintro e w3 ⟨rfl,hw3,hf3⟩;unfold StepV.val
  have HB3:Hid (Below w.heap.size w w3):=Hd ((HB1.alloc (by omega) _).trans (hf3.below (fun k hk=>by subst hk;omega) (by rw[World.size_alloc];omega)));have B4:=HB3.alloc HB3.size (.cells #[.int .i64 x.p,x.i,x.fd,x.lf,x.ak x.lk x.ck,x.av x.lv x.cv,x.ac x.lc x.cc] 172);have FIN:=Hd B4;have f13:Frm (fun k=>k=w1.heap.size) w1 w3:=((Frm.refl _ w1).alloc _).trans hf3 (fun k hk=>.inl hk)
  have SA:StepA w3 x M (fun k=>k=w1.heap.size):=(HD.lf.grow (Z':=fun k=>k=w1.heap.size) (fun k hk=>.inr (by omega))).frm f13 (fun k hk=>hk)
  rcases gl with⟨rfl,val,hv,hg⟩|⟨rfl,hg⟩
  ·have e1:jJ key (aC F0)=val:=by unfold jJ;rw[hg]
   have e2:eE key (aC F0)=true:=by unfold eE;rw[hg];rfl
   have E12:=Hd (And.intro e1 e2);obtain⟨hvl,hvi⟩:=List.getElem?_eq_some_iff.1 hv;obtain⟨cb,off,a1,a2,a3⟩:=SA.a.r.v.at i (by simpa using hvl);have a4:w3.cell? ⟨cb,off+i,none⟩=some (.string val):=by rw[a3];simp[hvi]
   have hil:(i:Int)<(x.lv:Int):=by rw[SA.lv];omega
   obtain⟨w4,hw4⟩:∃ w4,w3.alloc (.cells #[.int .i64 x.p,x.i,x.fd,x.lf,x.ak x.lk x.ck,x.av x.lv x.cv,x.ac x.lc x.cc] 172)=w4:=⟨_,rfl⟩
   have b4:Below w3.heap.size w3 w4:=by rw[<-hw4];exact(Below.refl _ w3).alloc (Nat.le_refl _) _
   have X4:w4.heap[w3.heap.size]?=some (.cells #[.int .i64 x.p,x.i,x.fd,x.lf,x.ak x.lk x.ck,x.av x.lv x.cv,x.ac x.lc x.cc] 172):=by rw[<-hw4];exact han w3 _
   have a5:=(b4.cell (p:=⟨cb,off+i,none⟩) a2).trans a4;rw[xi,xf,a1] at X4;obtain⟨d0,d1,d2,d3,d4,d5,d6⟩:=aM X4;rw[hw4] at FIN;have HXI:=Hd (And.intro xi (And.intro xf a1));have FIN2:Hid (Ending.returned (.tuple #[val,true,(0:Int)])=Ending.returned (.tuple #[.string (jJ key (aC F0)),.bool (eE key (aC F0)),(0:Int)])/\Below w.heap.size w w4):=Hd ⟨by rw[e1,e2],FIN.o⟩;clear SA X4 b4 a4 a3 a2 hv hvl hvi hg e1 e2 hf3 f13 B4 hw3 HB3 HB1 s01 xi xf a1;go_upto_region 8 with fail
   try rw[hw4]
   clear hw4;go_wp2_with fail;go_ret3;exact FIN2.o
  ·have e1:jJ key (aC F0)=⟨#[]⟩:=by unfold jJ;rw[hg]
   have e2:eE key (aC F0)=false:=by unfold eE;rw[hg];rfl
   have E12:=Hd (And.intro e1 e2);obtain⟨w4,hw4⟩:∃ w4,w3.alloc (.cells #[.int .i64 x.p,x.i,x.fd,x.lf,x.ak x.lk x.ck,x.av x.lv x.cv,x.ac x.lc x.cc] 172)=w4:=⟨_,rfl⟩
   have X4:w4.heap[w3.heap.size]?=some (.cells #[.int .i64 x.p,x.i,x.fd,x.lf,x.ak x.lk x.ck,x.av x.lv x.cv,x.ac x.lc x.cc] 172):=by rw[<-hw4];exact han w3 _
   rw[xf] at X4;obtain⟨d0,d1,d2,d3,d4,d5,d6⟩:=aM X4;rw[hw4] at FIN;have FIN2:Hid (Ending.returned (.tuple #[.string ⟨#[]⟩,false,(0:Int)])=Ending.returned (.tuple #[.string (jJ key (aC F0)),.bool (eE key (aC F0)),(0:Int)])/\Below w.heap.size w w4):=Hd ⟨by rw[e1,e2],FIN.o⟩;clear SA X4 hg e1 e2 hf3 f13 B4 hw3 HB3 HB1 s01 xi xf;go_upto_region 8 with fail
   try rw[hw4]
   clear hw4;go_wp2_with fail;go_ret3;exact FIN2.o
theorem FQ (w:World)(d s g:Nat)(dk:DkS)(st:ShS)(r:Nat)(F:Nat->Prop)(h:TS w d s g dk st r F)(G:eU dk st)(x:StepV)(f:aL)(fs:List aL)(hX:StepA w x f.N F)(hxp:x.p=f.page)(hxi:x.i=(f.KA.length:Int))(hh:Nat)(p:Int)(N:Nod)(E:List Ent)(ha:AtI dk st (f::fs) hh p N E)(hb:NB N 240)(ki:Int)(kf:Bool)(ak av ac:Option Addr)(ck cv cc:Nat)(hN:RowsA w N ak av ac ck cv cc F)(dp:Int)(hroom:Room dk st 2)(hdp:dp<=10)(hr:r<640) :
  () 129 #[g,x.val,.agg #[p,ki,kf,N.leaf,ak N.K.length ck,av N.V.length cv,ac N.C.length cc],dp] w (fR w d s g dk st F x x.p fs (hh+1) E 2 (fun r'=>r'<=r+1)):=by
 by_cases hz:80<=aH N
 ·exact zR w d s g dk st r F h G x f fs hX hxp hxi hh p N E ha hb hz ki kf ak av ac ck cv cc hN dp hroom hdp hr
 ·by_cases hk:f.KA=[]
  ·exact uV w d s g dk st r F h G x f fs hX hxp hxi hh p N E ha hb (by omega) hk ki kf ak av ac ck cv cc hN dp hroom hdp hr
  ·exact xS w d s g dk st r F h G x f fs hX hxp hxi hh p N E ha hb (by omega) hk ki kf ak av ac ck cv cc hN dp hroom hdp hr
theorem StepsA.mixed {w w':World}{Z G:Nat->Prop}(hf:Frm G w w'):∀ (xs:List StepV) (fs:List aL) (hi:Nat),(∀ k,G k->Z k\/hi<=k)->(∀ f∈fs,f.N.V=[])->StepsA w Z xs fs hi->StepsA w' Z xs fs hi:=by
 intro xs
 induction xs with
 | nil=>intro fs hi _ _ h;cases fs with|nil=>trivial|cons f fs=>exact h.elim
 | cons x xs ih=>
  intro fs hi hG hV h
  cases fs with
  | nil=>exact h.elim
  | cons f fs=>
   obtain⟨lo,h1,h2,h3,h4,h5,h6,h7⟩:=h;exact⟨lo,h1.frm2 hf (fun y hy hg=>(hG _ hg).elim (h1.zk y hy) (fun h8=>by have:=(h4 y hy).2;omega)) (fun y hy hg=>(hG _ hg).elim (h1.zc y hy) (fun h8=>by have:=(h5 y hy).2;omega)) (hV f (by simp)),h2,h3,h4,h5,h6,ih fs lo (fun k hk=>(hG k hk).imp id (fun h8=>Nat.le_trans h6 h8)) (fun f' hf'=>hV f' (by simp[hf'])) h7⟩
def stO (p i:Int)(fd:Bool)(N:Nod)(ak av ac:Option Addr)(ck cv cc:Nat):Obj:=.cells #[p,i,fd,N.leaf,ak N.K.length ck,av N.V.length cv,ac N.C.length cc] 172
structure aAK (w:World)(d s g:Nat)(dk:DkS)(st:ShS)(F:Nat->Prop)(E:List Ent)(bw bs m:Nat)(wr:World)(fs:List aL)(xs:List StepV)(hh:Nat)(dk':DkS)(st':ShS)(r':Nat)(F' FW:Nat->Prop)(p i:Int)(fd:Bool)(N:Nod)(ak av ac:Option Addr)(ck cv cc:Nat)(hi:Nat):Prop where
 ts:TS wr d s g dk' st' r' F'
 fr:Frm F w wr
 fn:∀ k,F' k->F k\/w.heap.size<=k
 way:Way wr bw xs.reverse FW
 ap:∀ k,FW k->¬ F' k
 wl:∀ k,FW k->w.heap.size<=k
 box:wr.heap[bs]?=some (stO p i fd N ak av ac ck cv cc)
 bsF:¬ F' bs
 bsW:¬ FW bs
 bsl:w.heap.size<=bs
 hbs:hi<=bs
 rows:RowsA wr N ak av ac ck cv cc (fun k=>F' k\/FW k\/k=bs)
 sts:StepsA wr (fun k=>F' k\/FW k) xs fs hi
 rl:∀ x∈xs,(∀ y,x.ak=some y->w.heap.size<=y.block)/\∀ y,x.ac=some y->w.heap.size<=y.block
 at_:AtI dk' st' fs hh p N E
 nb:NB N 240
 tt:To dk st dk' st'
 rm:∀ k,Room dk st (k+m)->Room dk' st' (k+2*fs.length+1)
 rr:r'+fs.length<=639
section
variable {w wr w2 w3:World} {d s g:Nat} {dk dk':DkS} {st st':ShS} {F F' FW:Nat->Prop} {E:List Ent} {bw bs m hh r' hi:Nat} {f:aL} {fs:List aL} {x:StepV} {xs:List StepV} {p i:Int} {fd:Bool} {N:Nod} {ak av ac:Option Addr} {ck cv cc:Nat}
theorem JW {r:Nat}{w4 w5 w6:World}{v:Value}{M:Nod}(hP:aE8 w d s g dk st r F w4 bw bs v fs xs x M hi)(b5:Below w4.heap.size w4 w5)(hN:NodR w5 N ak av ac ck cv cc)(q1:∀ y,ak=some y->w4.heap.size<=y.block)(q2:∀ y,av=some y->w4.heap.size<=y.block)(q3:∀ y,ac=some y->w4.heap.size<=y.block)(fe:Frm (fun k=>k=bs) w5 w6)(hbox:w6.heap[bs]?=some (stO p i fd N ak av ac ck cv cc))
  (G:eU dk st)(hat:AtI dk st fs hh p N E)(hnb:NB N 240)(hm:2*fs.length+1<=m)(hr:r+fs.length<=639):aAK w d s g dk st F E bw bs m w6 fs xs hh dk st r F (WF bw v) p i fd N ak av ac ck cv cc hi:=by
 have b0:=hP.bs0;have b1:=hP.bs1;have f45:Frm (fun k=>k=bs) w4 w6:=(Frm.of_below b5:Frm (fun k=>k=bs) w4 w5).trans fe (fun k hk=>.inl hk)
 have nV:∀ f∈fs,f.N.V=[]:=by
  obtain⟨_,_,_,_,_,hc,_⟩:=hat;exact Ctx.noV fs hc
 have nF:∀ k,F k->k≠bs:=fun k hk e=>by have:=hP.fl k hk;omega
 have nW:∀ k,WF bw v k->k≠bs:=fun k hk e=>by have:=(hP.wl k hk).2;omega
 refine⟨hP.ts.frm f45 (fun k hk e=>nF k hk e),hP.fr.trans f45 (fun k hk=>.inr (by subst hk;exact b0)),fun k hk=>.inl hk,hP.way.frm f45 (fun k hk e=>nW k hk e),fun k hk hf=>?_,fun k hk=>(hP.wl k hk).1,hbox,fun hk=>nF _ hk rfl,fun hk=>nW _ hk rfl,b0,hP.hi,?_,?_,hP.rl,hat,hnb,To.refl G,fun k hk=>hk.le (by omega),hr⟩
 ·have:=(hP.wl k hk).1;have:=hP.fl k hf;omega
 ·refine(RowsA.new (lo:=w4.heap.size) hN q1 q2 q3 (fun k hk=>?_)).frm fe (fun k hk=>.inr (.inr hk))
  rcases hk with hk|hk|hk
  ·have:=hP.fl k hk;omega
  ·have:=(hP.wl k hk).2;omega
  ·omega
 ·exact StepsA.mixed f45 xs fs hi (fun k hk=>.inr (by subst hk;exact hP.hi)) nV hP.st
theorem TI (hJ:aAK w d s g dk st F E bw bs m wr (f::fs) (x::xs) hh dk' st' r' F' FW p i fd N ak av ac ck cv cc hi)(hf2:Frm (fun k=>k=bw) wr w2)(hbw:FW bw)(b3:Below w2.heap.size w2 w3) :
  TS w3 d s g dk' st' r' F'/\StepA w3 x f.N F'/\x.p=f.page/\x.i=(f.KA.length:Int)/\RowsA w3 N ak av ac ck cv cc F'/\w3.heap[bs]?=some (stO p i fd N ak av ac ck cv cc):=by
 obtain⟨lo,sA,sp,si,sk,sc,slo,srest⟩:=hJ.sts;refine⟨(hJ.ts.frm hf2 (fun k hk e=>hJ.ap _ (e ▸ hbw) hk)).below b3,?_,sp,si,?_,?_⟩
 ·exact((sA.frm hf2 (fun k hk=>.inr (hk ▸ hbw))).grow (Z':=F') (fun k hk=>.inl (.inl hk))).frm (G:=fun _=>False) (Frm.of_below b3) (fun _ hx=>hx.elim)
 ·exact((hJ.rows.frm hf2 (fun k hk=>.inr (.inl (hk ▸ hbw)))).mono (fun k hk=>.inl hk)).below b3
 ·refine kept ?_ b3
  exact(hf2.block bs (zl hJ.box) (fun e=>hJ.bsW (e ▸ hbw))).trans hJ.box
theorem DL {w5 we:World}{dk2:DkS}{st2:ShS}{r2:Nat}{F2:Nat->Prop}{N2:Nod}{bk bv bc:Option Addr}{jk jv jc:Nat}{i2:Int}{fd2:Bool}(hJ:aAK w d s g dk st F E bw bs m wr (f::fs) (x::xs) hh dk' st' r' F' FW p i fd N ak av ac ck cv cc hi)(hw2:Way w2 bw xs.reverse FW)(hf2:Frm (fun k=>k=bw) wr w2)(hbw:FW bw)(b3:Below w2.heap.size w2 w3)
  (hs:ShrS w3 d s g dk' st' F' x x.p fs (hh+1) E 2 w5 N2 bk bv bc jk jv jc dk2 st2 r2 F2)(hr2:r2<=r'+1)(fe:Frm (fun k=>k=bs) w5 we)(hbox:we.heap[bs]?=some (stO x.p i2 fd2 N2 bk bv bc jk jv jc)) :
  ∃ lo,aAK w d s g dk st F E bw bs m we fs xs (hh+1) dk2 st2 r2 F2 FW x.p i2 fd2 N2 bk bv bc jk jv jc lo:=by
 obtain⟨lo,sA,sp,si,sk,sc,slo,srest⟩:=hJ.sts;have bsr:bs<wr.heap.size:=(zl hJ.box);have s2:=hf2.size;have s3:=b3.size
 have xr:∀ k,XB x k->(lo<=k/\k<hi)/\¬ (F' k\/FW k)/\w.heap.size<=k:=fun k hk=>by
  have hr:=hJ.rl x (List.mem_cons_self ..)
  rcases hk with⟨y,hy,rfl⟩|⟨y,hy,rfl⟩
  ·exact⟨sk y hy,sA.zk y hy,hr.1 y hy⟩
  ·exact⟨sc y hy,sA.zc y hy,hr.2 y hy⟩
 have Wlt:∀ k,FW k->k<w2.heap.size:=hw2.lt;have hbs:=hJ.hbs;have f03:Frm F w w3:=(hJ.fr.trans hf2 (fun k hk=>.inr (hk ▸ hJ.wl bw hbw))).trans (G:=fun _=>False) (Frm.of_below b3) (fun _ hx=>hx.elim);have s03:=f03.size
 have nb2:¬ F2 bs:=fun hx=>by
  rcases hs.fn _ hx with h1|h1
  ·exact hJ.bsF h1
  ·omega
 have nV:∀ f'∈fs,f'.N.V=[]:=by
  obtain⟨_,_,_,_,_,hc,_⟩:=hJ.at_;exact fun f' hf'=>Ctx.noV (f::fs) hc f' (List.mem_cons_of_mem _ hf')
 have off:∀ y:Addr,(XB x y.block\/w3.heap.size<=y.block)->¬ FW y.block/\y.block≠bs:=fun y hy=>by
  rcases hy with h1|h1
  ·exact⟨fun h2=>(xr _ h1).2.1 (.inr h2),by have:=(xr _ h1).1;omega⟩
  ·exact⟨fun h2=>by have:=Wlt _ h2;omega,by omega⟩
 refine⟨lo,hs.ts.frm fe (fun k hk e=>nb2 (e ▸ hk)),?_,fun k hk=>?_,?_,fun k hk hf=>?_,hJ.wl,hbox,nb2,hJ.bsW,hJ.bsl,by omega,?_,?_,fun y hy=>hJ.rl y (List.mem_cons_of_mem _ hy),hs.at_,hs.nb,hJ.tt.trans hs.tt,fun k hk=>hs.rm _ ((hJ.rm k hk).le (by rw[List.length_cons];omega)),by have:=hJ.rr;rw[List.length_cons] at this;omega⟩
 ·refine(f03.trans hs.fr (fun k hk=>?_)).trans fe (fun k hk=>.inr (by subst hk;exact hJ.bsl))
  rcases hk with hk|hk
  ·exact hJ.fn k hk
  ·exact .inr (xr k hk).2.2
 ·rcases hs.fn k hk with h1|h1
  ·exact hJ.fn k h1
  ·exact .inr (by omega)
 ·refine((hw2.below b3).frm hs.fr (fun k hk hg=>?_)).frm fe (fun k hk e=>hJ.bsW (e ▸ hk))
  rcases hg with h1|h1
  ·exact hJ.ap k hk h1
  ·exact(xr k h1).2.1 (.inr hk)
 ·rcases hs.fn k hf with h1|h1
  ·exact hJ.ap k hk h1
  ·have:=Wlt k hk;omega
 ·have h1:=hs.rows.frm2 fe hs.nv (fun y hy=>(off y (hs.ka y hy)).2) (fun y hy=>(off y (hs.kc y hy)).2)
  refine⟨h1.r,fun y hy hL hz=>?_,fun y hy hL=>absurd hs.nv hL,fun y hy hL hz=>?_⟩
  ·rcases hz with hz|hz|hz
   ·exact h1.zk y hy hL hz
   ·exact(off y (hs.ka y hy)).1 hz
   ·exact(off y (hs.ka y hy)).2 hz
  ·rcases hz with hz|hz|hz
   ·exact h1.zc y hy hL hz
   ·exact(off y (hs.kc y hy)).1 hz
   ·exact(off y (hs.kc y hy)).2 hz
 ·have e1:=StepsA.frm hf2 (fun k hk=>.inr (hk ▸ hbw)) xs fs lo srest
  have e2:=StepsA.mixed (G:=fun _=>False) (Frm.of_below b3) xs fs lo (fun _ hx=>hx.elim) nV e1
  have e3:=StepsA.grow (Z':=fun k=>F' k\/F2 k\/FW k) (fun k hk=>by
   rcases hk with hk|hk|hk
   ·exact .inl (.inl hk)
   ·exact(hs.fn k hk).imp .inl id
   ·exact .inl (.inr hk)) xs fs lo e2
  have e4:=StepsA.mixed hs.fr xs fs lo (fun k hk=>by
   rcases hk with hk|hk
   ·exact .inl (.inl hk)
   ·exact .inr (xr k hk).1.1) nV e3
  have e5:=StepsA.mixed fe xs fs lo (fun k hk=>.inr (by subst hk;omega)) nV e4;exact StepsA.mono (fun k hk=>.inr hk) xs fs lo e5
end

theorem EU (k:Nat)(i:Int):gB (Str (List.replicate k 0)) i=false:=by
 unfold gB aDA;rw[aX]
 split
 ·rw[List.getElem_replicate]
  simp
 ·simp
theorem uG (x:Int):gB eX.used x=false:=EU 80 x
theorem YY (dk:DkS)(hu:dk.up=true)(hf:dk.fuse=-1)(h8:8<=dk.S.length)(h6:dk.S.length<=640) :
  (fN dk eX).2=0/\eU (fN dk eX).1 (ShS.new eX)/\TreeI (fN dk eX).1 (ShS.new eX) 0 []/\(fN dk eX).1.S.length=dk.S.length:=by
 obtain⟨e1,e2⟩:=NF dk eX hu (by omega) h8 (by decide +kernel) (by decide)
 have hl:(fN dk eX).1.S.length=dk.S.length:=by
  rw[e2];unfold DkS.wrote DkS.loosened;dsimp only;split <;> simp
 refine⟨e1,⟨?_,?_,by rw[hl];exact h6,by rw[hl];exact h8,rfl,fun x hx=>(by cases hx),List.nodup_nil,fun x hx=>?_,fun x hx=>(by cases hx)⟩,.inl ⟨rfl,rfl,List.nodup_nil,fun x=>⟨fun hx=>(by cases hx),fun hx=>?_⟩⟩,hl⟩
 ·rw[e2];unfold DkS.wrote DkS.loosened;dsimp only;split <;> exact hu
 ·rw[e2];unfold DkS.wrote DkS.loosened;dsimp only;rw[hf];split <;> rfl
 ·rw[show(ShS.new eX).h.used=eX.used from rfl,uG] at hx;cases hx
 ·rcases hx with hx|hx
  ·cases hx
  ·have:=hx.1
   rw[show(ShS.new eX).h.used=eX.used from rfl,uG] at this;cases this
theorem EY (M:Nod)(i:Nat)(h:NB M 240)(hl:M.leaf=true):NB (dD M i) 240:=by
 have hb:∀ (L:List ByteArray) (i:Nat),bI (L.take i++L.drop (i+1))<=bI L:=by
  intro L
  induction L with
  | nil=>intro i;simp[bI]
  | cons a L ih=>
   intro i
   cases i with
   | zero=>simp[bI]
   | succ i=>
    have:=ih i;simp only[List.take_succ_cons,List.drop_succ_cons,List.cons_append,bI];omega
 refine⟨fun v hv=>?_,fun c hc=>(by cases hc),?_⟩
 ·have hv':v∈M.V.take i++M.V.drop (i+1):=hv
  rcases List.mem_append.1 hv' with h1|h1
  ·exact h.1 v (List.mem_of_mem_take h1)
  ·exact h.1 v (List.mem_of_mem_drop h1)
 ·have h2:=h.2.2
  unfold aH at h2 |-;rw[hl] at h2;simp only[dD,if_true] at h2 |-;have h3:=qA M.K i (i+1) (by omega);have h4:=hb M.V i;omega
def aFE (w:World)(d s:Nat)(dk:DkS)(st:ShS)(F:Nat->Prop)(key:Int)(E:List Ent)(e:Ending)(w':World):Prop:=
 ∃ q dk' st',e=.returned (.tuple #[.int .i64 q,.bool (eE key E),(0:Int)])/\rJ w d s dk' st' F w'/\TreeI dk' st' q (if eE key E then iP key E else E)/\To dk st dk' st'
theorem OH (w:World)(d s:Nat)(dk:DkS)(st:ShS)(F:Nat->Prop)(h:SD w d s dk st F)(G:eU dk st)(root:Int)(h0:root≠0)(H:Nat)(F0:List Mk)(P0:List Int)(ht:IsT (Rn dk) H root F0 P0)(hs:bT F0)(hl:LiveL st P0)(h9:H<=9)(hroom:Room dk st (2*H+3))(key:Int)(hk:0<=key/\key<=18446744073709551615) :
  () 114 #[s,root,.int .u64 key] w (aFE w d s dk st F key (aC F0)):=by
 have h0':(root==0)=false:=by rw[beq_eq_false_iff_ne];exact h0
 obtain⟨FV,hFV⟩:∃ FV,FV=(fun k=>F k\/k=w.heap.size):=⟨_,rfl⟩
 have hvis:TS (w.alloc (jN s 0)) d s w.heap.size dk st 0 FV:=by rw[hFV];exact h.visit
 have HL:=Hd hvis.lt;have DN:=Hd (yT (w.alloc (jN s 0)) d s w.heap.size dk st 0 FV hvis G root H F0 P0 ht hs h9 (by omega) key hk);have HG:=Hd G;have HSS:=Hd hs;have HLV:=Hd hl;have HRM:=Hd hroom;have HH9:=Hd h9;have HTI:Hid (TreeI dk st root (aC F0)):=Hd (.inr ⟨H,F0,P0,ht,hs,rfl,hl⟩);have HENDS:Hid (∀ dk' st' r' w',TSPost (w.alloc (jN s 0)) d s w.heap.size dk' st' r' FV w'->rJ w d s dk' st' F w'):=Hd (fun dk' st' r' w' hp=>by rw[hFV] at hp;exact TSPost.ends (dk:=dk) (st:=st) hp);obtain⟨w0,hw0⟩:∃ w0,w.alloc (jN s 0)=w0:=⟨_,rfl⟩
 obtain⟨g,hg⟩:∃ g,w.heap.size=g:=⟨_,rfl⟩
 have hgF:FV g:=by rw[hFV,<-hg];exact .inr rfl
 rw[hw0] at HL DN HENDS;rw[hg] at DN HENDS;have HGF:=Hd hgF;clear h G ht hs hl hroom h9 h0 hk hFV hgF hvis;have hw9:w.alloc (.cells #[s,(0:Int),(0:Int)] 158)=w0:=hw0;have HW9:=Hd hw9;have HG9:=Hd hg;clear hw0 hw9 hg;go_enter Tryz.func114,Tryz.ntmps114;go_upto_region 4 with fail
 rw[HW9.o,HG9.o];clear HW9 HG9;go_wp2_with fail;refine DN.mono ?_;rintro e w1 ⟨v,fs,xs,x,M,i,fd,FL,FR,Fh,PC,hi,rfl,hD⟩;obtain⟨va,vc,rfl,_,_⟩:=bK hD.own;obtain⟨vn,hvn⟩:∃ vn,(xs.reverse++[x]).length=vn:=⟨_,rfl⟩
 have W2:Way (w1.alloc (.cells #[.slice va (xs.reverse++[x]).length vc] 164)) w1.heap.size (xs.reverse++[x]) (WF w1.heap.size (.slice va (xs.reverse++[x]).length vc)):=
  ⟨_,⟨han w1 _,gT (F:=fun _=>False) hD.own ((Frm.refl _ w1).alloc _) (fun _ _ hx=>hx),fun e=>by have:=(hD.own.lt _ e).2;omega⟩,fun _=>Iff.rfl⟩
 have PO:=Hd (pC _ w1.heap.size xs.reverse x _ W2);have gl:=CY hD.nt (by rw[hD.eF];exact HSS.o) hD.bL hD.bR hD.fn;rw[hD.eF] at gl;have GL:=Hd gl;have HD:=Hd hD;have XF:=Hd hD.xf;have XI:=Hd hD.xi;rw[hvn] at PO HD |-;clear hD W2 hvn gl;go_wp2_with fail;refine PO.mono ?_;rintro e w3 ⟨rfl,hw3,hf3⟩;have hP:=LT HL HGF HD hw3 hf3;unfold StepV.val;go_upto_region 8 with fail
 obtain⟨w4,hw4⟩:∃ w4,w3.alloc (.cells #[.int .i64 x.p,x.i,x.fd,x.lf,x.ak x.lk x.ck,x.av x.lv x.cv,x.ac x.lc x.cc] 172)=w4:=⟨_,rfl⟩
 obtain⟨bs,hbs⟩:∃ bs,w3.heap.size=bs:=⟨_,rfl⟩
 obtain⟨bw,hbw⟩:∃ bw,w1.heap.size=bw:=⟨_,rfl⟩
 rw[hw4,hbs,hbw] at hP;try rw[hw4]
 try rw[hbs]
 try rw[hbw]
 have X4:=hP.box;have HP:=Hd hP;rw[XF.o,XI.o] at X4;clear hw4 hbs hbw hw3 hf3 PO DN hP XF XI
 rcases GL.o with⟨rfl,val,hv,hget⟩|⟨rfl,hget⟩
 ·have e2:eE key (aC F0)=true:=by unfold eE;rw[hget];rfl
  have HE2:=Hd e2;have hD:=HD.o;have hsort:bT (FL++Fh++FR):=by rw[hD.eF];exact HSS.o
  have hlive:LiveL st (x.p::(PC++[])):=by rw[List.append_nil];exact HLV.perm hD.eP.symm
  obtain⟨hAt,hik⟩:=aES key i hD.ctx hD.nt hsort hD.bL hD.bR hlive hD.fn;rw[hD.eF] at hAt;have hMr:=nC hD.xp;have hMN:=NB.of_right hMr.1;have hwh:=eR hD.nt;have hlf:M.leaf=true:=by rw[qB hD.nt];rfl
  have nodx:aI M x.ak x.av x.ac x.ck x.cv x.cc=.agg #[x.lf,x.ak x.lk x.ck,x.av x.lv x.cv,x.ac x.lc x.cc]:=by
   unfold aI;rw[HP.lf.lf,HP.lf.lk,HP.lf.lv,HP.lf.lc]
  have hNB:NB (dD M i) 240:=EY M i hMN hlf
  have WT:Hid (() 127 #[.agg #[x.lf,x.ak x.lk x.ck,x.av x.lv x.cv,x.ac x.lc x.cc],(i:Int)] w4 fun e w'=>eZ w4.heap.size (dD M i) e w'/\Below w4.heap.size w4 w'):=Hd (by
   rw[<-nodx];exact EZ M x.ak x.av x.ac x.ck x.cv x.cc w4 HP.lf.a.r i hlf hwh (by omega))
  have HAT:=Hd hAt;have HNB:=Hd hNB;have HFL:Hid (fs.length=H):=Hd hD.ln;clear hD hsort hlive hAt hik hMr hMN hwh hlf nodx hNB hget hv e2;obtain⟨N,hN⟩:∃ N,dD M i=N:=⟨_,rfl⟩
  rw[hN] at WT HAT HNB;have HX4:=Hd X4;obtain⟨d0,d1,d2,d3,d4,d5,d6⟩:=aM X4;clear X4 hN;go_wp2_with fail;refine WT.mono ?_;rintro e w5 ⟨⟨bk,bv,bc,jk,jv,jc,rfl,hRN,r1,r2,r3⟩,b5⟩;have X5:=kept HX4 b5;have k3:=ufb X5 3;have k4:=ufb X5 4;have k5:=ufb X5 5;have k6:=ufb X5 6;clear d0 d1 d2 d3 d4 d5 d6;obtain⟨d0,d1,d2,d3,d4,d5,d6⟩:=aM X5;simp only[aI];have HX5:=Hd X5;have HRN:=Hd hRN;have HR3:=Hd (And.intro r1 (And.intro r2 r3));have HB5:=Hd b5;clear X5 hRN r1 r2 r3 b5;go_upto_region 11 with fail
  obtain⟨w6,hw6⟩:∃ w6,(((w5.setCell ⟨bs,3,none⟩ (.bool N.leaf)).setCell ⟨bs,4,none⟩ (.slice bk N.K.length jk)).setCell ⟨bs,5,none⟩ (.slice bv N.V.length jv)).setCell ⟨bs,6,none⟩ (.slice bc N.C.length jc)=w6:=⟨_,rfl⟩
  have F56:Frm (fun k=>k=bs) w5 w6:=hw6 ▸ tM (Frm.refl _ w5) bs (.bool N.leaf) (.slice bk N.K.length jk) (.slice bv N.V.length jv) (.slice bc N.C.length jc) (.inl rfl);have X6:w6.heap[bs]?=some (stO x.p (i:Int) true N bk bv bc jk jv jc):=hw6 ▸ oO HX5 (.bool N.leaf) (.slice bk N.K.length jk) (.slice bv N.V.length jv) (.slice bc N.C.length jc);have hJ0:=JW (m:=2*H+1) HP HB5 HRN HR3.1 HR3.2.1 HR3.2.2 F56 X6 HG HAT HNB (by rw[HFL.o];exact Nat.le_refl _) (by have:=HFL.o;have:=HH9.o;omega)
  have HJ0:=Hd hJ0;rw[hw6];clear hw6 F56 X6 hJ0 k3 k4 k5 k6 d0 d1 d2 d3 d4 d5 d6 HRN HR3 HB5 HX5 HX4 HP HD WT;go_wp2_with fail
  go_loopw [8] (fun p wr=>∃ fs' ys hh dk' st' r' F' FW p' i fd N ak av ac ck cv cc hi',p=.int .i64 0/\fs'.length<=H/\aAK w0 d s g dk st FV (iP key (aC F0)) bw bs (2*H+1) wr fs' ys hh dk' st' r' F' FW p' i fd N ak av ac ck cv cc hi') (fun _ wr=>aAN bw wr)
  case atStart=>exact⟨fs,xs,0,dk,st,_,FV,_,x.p,_,true,N,bk,bv,bc,jk,jv,jc,hi,rfl,Nat.le_of_eq HFL.o,HJ0.o⟩
  case round=>
   obtain⟨fs',ys,hh,dk',st',r',F',FW,p,i,fd,N,ak,av,ac,ck,cv,cc,hi',rfl,hfl,hJ⟩:=hrel;have HFH:=Hd hfl;clear hfl;have hlen:=StepsA.len _ _ _ hJ.sts;have HJ:=Hd hJ;have XB0:=hJ.box;unfold stO at XB0;have WD:=Hd (nJ wr bw ys.reverse FW hJ.way);clear HJ0
   cases ys with
   | nil=>
    have hfs:fs'=[]:=List.length_eq_zero_iff.1 (by rw[<-hlen];rfl);subst hfs;rw[show([]:List StepV).reverse.length=0 from rfl] at WD
    have TP:Hid (() 130 #[.pointer (some ⟨g,0,none⟩),.agg #[.int .i64 p,.int .i64 i,.bool fd,.bool N.leaf,.slice ak N.K.length ck,.slice av N.V.length cv,.slice ac N.C.length cc]] wr fun e w'=>∃ q,e=.returned (.tuple #[.int .i64 q,(0:Int)])/\aFE w d s dk st F key (aC F0) (.returned (.tuple #[.int .i64 q,true,(0:Int)])) w'):=Hd (by
     refine(aAO wr d s g dk' st' r' F' hJ.ts hJ.tt.g p i fd hh N _ hJ.at_ hJ.nb ak av ac ck cv cc (hJ.rows.mono (fun k hk=>.inl hk)) ((hJ.rm 0 (HRM.le (by omega))).le (by simp))).mono ?_;rintro e w' ⟨q,dk2,st2,r2,rfl,⟨F2,t1,t2,t3⟩,hT,hto,_⟩;refine⟨q,rfl,q,dk2,st2,by rw[HE2.o],HENDS dk2 st2 r2 w' ⟨F2,t1,hJ.fr.trans t2 hJ.fn,fun k hk=>?_⟩,by rw[HE2.o];exact hT,hJ.tt.trans hto⟩
     rcases t3 k hk with h1|h1
     ·exact hJ.fn k h1
     ·exact .inr (Nat.le_trans hJ.fr.size h1))
    obtain⟨d0,d1,d2,d3,d4,d5,d6⟩:=aM XB0;clear hJ XB0 hlen;go_wp2_with fail;refine WD.mono ?_;rintro e w9 ⟨rfl,rfl⟩;go_wp2_with fail;refine TP.mono ?_;rintro e w9 ⟨q,rfl,hq⟩;have FIN:=Hd hq;clear hq;go_wp2_with fail;go_ret3;exact FIN.o
   | cons y ys'=>
    cases fs' with
    | nil=>exact absurd hlen (by simp)
    | cons f fs'=>
     have PO:=Hd (pC wr bw ys'.reverse y FW (by have:=hJ.way;rwa [List.reverse_cons] at this));have hbw:FW bw:=by obtain⟨v,hi,he⟩:=hJ.way;exact(he bw).2 (.inl rfl)
     have HBW:=Hd hbw;obtain⟨n,hn⟩:∃ n,ys'.length=n:=⟨_,rfl⟩
     have hrl:(y::ys').reverse.length=n+1:=by rw[List.length_reverse,List.length_cons,hn]
     rw[hrl] at WD;have hn0:(0:Int)<(n:Int)+1:=by omega
     have HN:=Hd hn;have hfn:fs'.length=n:=by simp only[List.length_cons] at hlen;omega
     have HFN:=Hd hfn;have hRR:=hJ.rr;clear hJ hlen hn hrl hbw hfn XB0;go_wp2_with fail;refine WD.mono ?_;rintro e w8 ⟨rfl,rfl⟩;go_wp2_with fail;refine PO.mono ?_;rintro e w2 ⟨rfl,hw2,hf2⟩;unfold StepV.val;go_upto_region 13 with fail
     obtain⟨w3,hw3⟩:∃ w3,w2.alloc (.cells #[.int .i64 y.p,y.i,y.fd,y.lf,y.ak y.lk y.ck,y.av y.lv y.cv,y.ac y.lc y.cc] 172)=w3:=⟨_,rfl⟩
     obtain⟨bu,hbu⟩:∃ bu,w2.heap.size=bu:=⟨_,rfl⟩
     have B3:Below w2.heap.size w2 w3:=by rw[<-hw3];exact(Below.refl _ w2).alloc (Nat.le_refl _) _
     have BUX:Hid (w3.heap[bu]?=some (.cells #[.int .i64 y.p,y.i,y.fd,y.lf,y.ak y.lk y.ck,y.av y.lv y.cv,y.ac y.lc y.cc] 172)):=Hd (by rw[<-hw3,<-hbu];exact han w2 _);have hRD:=TI HJ hf2 HBW B3;obtain⟨t3,sx3,sp3,si3,ra3,bx3⟩:=hRD;have BUL:Hid (bu<w3.heap.size):=Hd (zl BUX.o);have F'lt:∀ k,F' k->k<wr.heap.size:=HJ.ts.lt;have bsr:bs<wr.heap.size:=(zl HJ.box);have s2:=hf2.size
     have xbl:∀ k,XB y k->k<bs:=fun k hk=>by
      obtain⟨lo,_,_,_,sk,sc,_,_⟩:=HJ.sts;have:=HJ.hbs
      rcases hk with⟨z,hz,rfl⟩|⟨z,hz,rfl⟩
      ·have:=sk z hz;omega
      ·have:=sc z hz;omega
     have BUN:Hid (¬ (F' bu\/XB y bu\/bu=bs)):=Hd (by
      rintro(h1|h1|h1)
      ·have:=F'lt _ h1;omega
      ·have:=xbl _ h1;omega
      ·omega)
     have BSN:Hid (¬ (F' bs\/XB y bs)):=Hd (by
      rintro(h1|h1)
      ·exact HJ.bsF h1
      ·have:=xbl _ h1;omega)
     have BSL:Hid (bs<w3.heap.size):=Hd (by have:=B3.size;omega);have BSX:=Hd bx3
     have WD3:Hid (() 128 #[.pointer (some ⟨bw,0,none⟩)] w3.drew fun e w'=>e=.returned (.int .i64 (n:Int))/\w3.drew=w'):=Hd (by
      have:=nJ w3.drew bw ys'.reverse FW ((hw2.below B3).below Br.drew);rw[List.length_reverse,HN.o] at this;exact this)
     have SK:Hid (() 129 #[.pointer (some ⟨g,0,none⟩),.agg #[.int .i64 y.p,y.i,y.fd,y.lf,y.ak y.lk y.ck,y.av y.lv y.cv,y.ac y.lc y.cc],.agg #[.int .i64 p,.int .i64 i,.bool fd,.bool N.leaf,.slice ak N.K.length ck,.slice av N.V.length cv,.slice ac N.C.length cc],.int .i64 ((n:Int)+2)] w3.drew (fR w3 d s g dk' st' F' y y.p fs' (hh+1) (iP key (aC F0)) 2 (fun q=>q<=r'+1))):=Hd (by
      have bd:Below w3.heap.size w3 w3.drew:=Br.drew;have hn10:n<=8:=by have h1:=HFH.o;have h2:=HFN.o;have:=HH9.o;simp only[List.length_cons] at h1;omega
      refine(FQ w3.drew d s g dk' st' r' F' (t3.below bd) HJ.tt.g y f fs' (sx3.frm (G:=fun _=>False) (Frm.of_below bd) (fun _ hx=>hx.elim)) sp3 si3 hh p N _ HJ.at_ HJ.nb i fd ak av ac ck cv cc (ra3.below bd) ((n:Int)+2) ((HJ.rm 0 (HRM.le (by omega))).le (by simp;omega)) (by omega) (by have:=HJ.rr;omega)).mono ?_;rintro e w5 ⟨i2,fd2,N2,bk,bv,bc,jk,jv,jc,dk2,st2,r2,F2,q1,q2,q3⟩
      exact⟨i2,fd2,N2,bk,bv,bc,jk,jv,jc,dk2,st2,r2,F2,q1,q2,{ q3 with fr:=((Frm.refl (fun k=>F' k\/XB y k) w3).drew).trans q3.fr (fun _ hk=>.inl hk) }⟩)
     unfold stO at bx3;have hwr2:IntKind.i64.wrap ((n:Int)+2)=(n:Int)+2:=IntWalk.i64_in _ (by have:=HFN.o;have:=HJ.rr;simp only[List.length_cons] at this;omega);have HW2:=Hd hw2;have HF2:=Hd hf2;have HB3:=Hd B3;obtain⟨b0,b1,b2,b3,b4,b5,b6⟩:=aM bx3;try rw[hw3]
     try rw[hbu]
     clear hw3 hbu B3 t3 sx3 sp3 si3 ra3 bx3 F'lt bsr s2 xbl hw2 hf2;refine wp_region_held_drew (S:=fun wz=>Frm (fun k=>F' k\/XB y k\/k=bs) w3 wz) (by kernel_rfl) ((Frm.refl (fun k=>F' k\/XB y k\/k=bs) w3).drew) (fun hS=>?_);refine Hv 0 41 ?v0x1 hS ?h0x1 ?_
     case h0x1=>
      intro w9 s9;have cN0:=cl ((s9.block bu BUL BUN.o).trans BUX.o) 0 rfl;have cN1:=cl ((s9.block bu BUL BUN.o).trans BUX.o) 1 rfl;have cN2:=cl ((s9.block bu BUL BUN.o).trans BUX.o) 2 rfl;have cN3:=cl ((s9.block bu BUL BUN.o).trans BUX.o) 3 rfl;have cN4:=cl ((s9.block bu BUL BUN.o).trans BUX.o) 4 rfl;have cN5:=cl ((s9.block bu BUL BUN.o).trans BUX.o) 5 rfl;have cN6:=cl ((s9.block bu BUL BUN.o).trans BUX.o) 6 rfl;clear s9;go_simp;try (with_reducible rfl)
     simp only[SL];refine Hk 1 2 (fun K HK=>?_) (fun K HK=>?_)
     ·go_simp
      refine HK _ _ ?_ ?_
      ·exact hS
      clear HK K;try simp only[Act.put,SL]
      refine Hs 2 (fun K HK=>?_);go_simp;go_wp2_with fail;refine WD3.mono ?_;rintro e w8 ⟨rfl,rfl⟩;refine HK _ _ ?_ ?_
      ·exact hS
      clear HK K;try simp only[Act.put,SL]
      refine Hu 3 44 hS ?_;simp only[SL];refine Hs 4 (fun K HK=>?_);go_simp;go_wp2_with fail;refine SK.mono ?_;rintro e w5 ⟨i2,fd2,N2,bk,bv,bc,jk,jv,jc,dk2,st2,r2,F2,rfl,hr2,hs⟩;have HS:=Hd hs;have HR2:=Hd hr2;refine HK _ _ ?_ ?_
      ·exact(Frm.refl _ w3).trans (hs.fr.mono (fun k hk=>hk.imp id .inl)) (fun _ hk=>.inl hk)
      clear HK K;try simp only[Act.put,SL]
      clear hS;have hS:Frm (fun k=>F' k\/XB y k\/k=bs) w3 w5:=(Frm.refl _ w3).trans (hs.fr.mono (fun k hk=>hk.imp id .inl)) (fun _ hk=>.inl hk);have X5:w5.heap[bs]?=some (stO p i fd N ak av ac ck cv cc):=(hs.fr.block bs BSL BSN.o).trans BSX.o;unfold stO at X5;have g0:=ufb X5 0;have g1:=ufb X5 1;have g2:=ufb X5 2;have g3:=ufb X5 3;have g4:=ufb X5 4;have g5:=ufb X5 5;have g6:=ufb X5 6;clear b0 b1 b2 b3 b4 b5 b6;obtain⟨i0,i1,i2',i3,i4,i5,i6⟩:=aM X5;have HX5:=Hd X5;clear X5 hs hr2;refine Hu 5 40 hS ?_;simp only[SL]
      refine Hu 6 46 hS ?_;simp only[SL];refine Hu 7 47 hS ?_;simp only[SL];refine Hs 8 (fun K HK=>?_);go_simp;refine HK _ _ ?_ ?_
      ·exact cC hS bs ⟨y.p,i2,fd2,N2.leaf,bk,N2.K.length,jk,bv,N2.V.length,jv,bc,N2.C.length,jc⟩ (.inl (.inr (.inr rfl)))
      clear HK K;try simp only[Act.put,SL]
      have hS9:=cC hS bs ⟨y.p,i2,fd2,N2.leaf,bk,N2.K.length,jk,bv,N2.V.length,jv,bc,N2.C.length,jc⟩ (.inl (.inr (.inr rfl)));clear hS;unfold fT at hS9;have hS:=hS9;clear hS9 g0 g1 g2 g3 g4 g5 g6 i0 i1 i2' i3 i4 i5 i6;refine Hu 9 8 hS ?_;simp only[SL];refine wpAnyH_done (by kernel_rfl) ?_ _;have FE:Frm (fun k=>k=bs) w5 (fT w5 bs ⟨y.p,i2,fd2,N2.leaf,bk,N2.K.length,jk,bv,N2.V.length,jv,bc,N2.C.length,jc⟩):=cC (Frm.refl _ w5) _ _ (.inl rfl)
      have XE:=dG HX5 ⟨y.p,i2,fd2,N2.leaf,bk,N2.K.length,jk,bv,N2.V.length,jv,bc,N2.C.length,jc⟩;obtain⟨lo,hJn⟩:=DL HJ HW2 HF2 HBW HB3 HS HR2 FE XE;have FIN:=Hd hJn;have WN1:=Hd (jP hJn.way);have WN2:=Hd (jP HJ.way);clear hS FE XE hJn;unfold fT at FIN WN1;go_wp2_with fail;go_roundw
      case rel=>exact⟨fs',ys',hh+1,dk2,st2,r2,F2,FW,y.p,i2,fd2,N2,bk,bv,bc,jk,jv,jc,lo,rfl,Nat.le_of_succ_le HFH.o,FIN.o⟩
      case measure=>
       rw[WN1.o,WN2.o];simp only[List.length_reverse,List.length_cons];omega
     ·go_simp
      go_wp2_with fail;refine WD3.mono ?_;rintro e w8 ⟨rfl,rfl⟩;refine HK _ _ ?_ ?_
      ·exact hS
      clear HK K;try simp only[Act.put,SL]
      refine Hu 3 44 hS ?_;simp only[SL];refine Hs 1 (fun K HK=>?_);go_simp;refine HK _ _ ?_ ?_
      ·exact hS
      clear HK K;try simp only[Act.put,SL]
      refine Hs 4 (fun K HK=>?_);go_simp;go_wp2_with fail;refine SK.mono ?_;rintro e w5 ⟨i2,fd2,N2,bk,bv,bc,jk,jv,jc,dk2,st2,r2,F2,rfl,hr2,hs⟩;have HS:=Hd hs;have HR2:=Hd hr2;refine HK _ _ ?_ ?_
      ·exact(Frm.refl _ w3).trans (hs.fr.mono (fun k hk=>hk.imp id .inl)) (fun _ hk=>.inl hk)
      clear HK K;try simp only[Act.put,SL]
      clear hS;have hS:Frm (fun k=>F' k\/XB y k\/k=bs) w3 w5:=(Frm.refl _ w3).trans (hs.fr.mono (fun k hk=>hk.imp id .inl)) (fun _ hk=>.inl hk);have X5:w5.heap[bs]?=some (stO p i fd N ak av ac ck cv cc):=(hs.fr.block bs BSL BSN.o).trans BSX.o;unfold stO at X5;have g0:=ufb X5 0;have g1:=ufb X5 1;have g2:=ufb X5 2;have g3:=ufb X5 3;have g4:=ufb X5 4;have g5:=ufb X5 5;have g6:=ufb X5 6;clear b0 b1 b2 b3 b4 b5 b6;obtain⟨i0,i1,i2',i3,i4,i5,i6⟩:=aM X5;have HX5:=Hd X5;clear X5 hs hr2;refine Hu 5 40 hS ?_;simp only[SL]
      refine Hu 6 46 hS ?_;simp only[SL];refine Hu 7 47 hS ?_;simp only[SL];refine Hs 8 (fun K HK=>?_);go_simp;refine HK _ _ ?_ ?_
      ·exact cC hS bs ⟨y.p,i2,fd2,N2.leaf,bk,N2.K.length,jk,bv,N2.V.length,jv,bc,N2.C.length,jc⟩ (.inl (.inr (.inr rfl)))
      clear HK K;try simp only[Act.put,SL]
      have hS9:=cC hS bs ⟨y.p,i2,fd2,N2.leaf,bk,N2.K.length,jk,bv,N2.V.length,jv,bc,N2.C.length,jc⟩ (.inl (.inr (.inr rfl)));clear hS;unfold fT at hS9;have hS:=hS9;clear hS9 g0 g1 g2 g3 g4 g5 g6 i0 i1 i2' i3 i4 i5 i6;refine Hu 9 8 hS ?_;simp only[SL];refine wpAnyH_done (by kernel_rfl) ?_ _;have FE:Frm (fun k=>k=bs) w5 (fT w5 bs ⟨y.p,i2,fd2,N2.leaf,bk,N2.K.length,jk,bv,N2.V.length,jv,bc,N2.C.length,jc⟩):=cC (Frm.refl _ w5) _ _ (.inl rfl)
      have XE:=dG HX5 ⟨y.p,i2,fd2,N2.leaf,bk,N2.K.length,jk,bv,N2.V.length,jv,bc,N2.C.length,jc⟩;obtain⟨lo,hJn⟩:=DL HJ HW2 HF2 HBW HB3 HS HR2 FE XE;have FIN:=Hd hJn;have WN1:=Hd (jP hJn.way);have WN2:=Hd (jP HJ.way);clear hS FE XE hJn;unfold fT at FIN WN1;go_wp2_with fail;go_roundw
      case rel=>exact⟨fs',ys',hh+1,dk2,st2,r2,F2,FW,y.p,i2,fd2,N2,bk,bv,bc,jk,jv,jc,lo,rfl,Nat.le_of_succ_le HFH.o,FIN.o⟩
      case measure=>
       rw[WN1.o,WN2.o];simp only[List.length_reverse,List.length_cons];omega
 ·have e2:eE key (aC F0)=false:=by unfold eE;rw[hget];rfl
  have FIN:Hid (aFE w d s dk st F key (aC F0) (.returned (.tuple #[root,false,(0:Int)])) w4):=Hd ⟨root,dk,st,by rw[e2],HENDS dk st _ w4 ⟨FV,HP.ts,HP.fr,fun k hk=>.inl hk⟩,by rw[e2];exact HTI.o,To.refl HG.o⟩;obtain⟨d0,d1,d2,d3,d4,d5,d6⟩:=aM X4;clear X4 hget e2;go_wp2_with fail;go_ret3;exact FIN.o
theorem UY (w:World)(s:Nat)(key:Int) :
  () 114 #[s,(0:Int),.int .u64 key] w fun e w'=>e=.returned (.tuple #[(0:Int),false,(0:Int)])/\Below w.heap.size w w':=by
 go_enter Tryz.func114,Tryz.ntmps114;go_wp2_with fail;go_ret3;exact⟨rfl,Br⟩
theorem ZJ (key:Int)(E:List Ent)(h:eE key E=false):iP key E=E:=by
 unfold iP;refine List.filter_eq_self.2 fun e he=>decide_eq_true fun e1=>?_
 unfold eE cP at h;have:(E.find? fun e=>decide (e.1=key)).isSome=true:=List.find?_isSome.2 ⟨e,he,decide_eq_true e1⟩;rw[Option.isSome_map,this] at h
 cases h
def DelT (w:World)(d s:Nat)(dk:DkS)(st:ShS)(F:Nat->Prop)(key:Int)(E:List Ent)(e:Ending)(w':World):Prop:=
 ∃ q dk' st',e=.returned (.tuple #[.int .i64 q,.bool (eE key E),(0:Int)])/\rJ w d s dk' st' F w'/\TreeI dk' st' q (iP key E)/\To dk st dk' st'
theorem NO (st:ShS)(h:st.h=eX)(size k:Nat):lY st size k=0:=by
 induction k with
 | zero=>rfl
 | succ k ih=>unfold lY;rw[ih,h];simp[uG]
theorem ZK (k:Int)(E:List Ent):(iP k E).length<=E.length:=List.length_filter_le _ _
theorem jX (k:Int)(q:Int->Bool)(E:List Ent):((E.filter fun e=>q e.1).find? fun e=>decide (e.1=k))=if q k=true then E.find? (fun e=>decide (e.1=k)) else none:=by
 induction E with
 | nil=>simp
 | cons e E ih=>
  rw[List.filter_cons]
  by_cases hq:q e.1=true
  ·rw[if_pos hq,List.find?_cons,List.find?_cons,ih]
   by_cases he:e.1=k
   ·have hk:q k=true:=he ▸ hq
    simp only[he,hk,decide_true,if_true]
   ·simp only[he,decide_false]
  ·rw[if_neg hq,List.find?_cons,ih]
   by_cases he:e.1=k
   ·have hk:¬ q k=true:=he ▸ hq
    rw[if_neg hk,if_neg hk]
   ·simp only[he,decide_false]
theorem uD (k:Int)(v:ByteArray)(E:List Ent)(x:Int):cP x (aY k v E)=if x=k then some v else cP x E:=by
 unfold cP aY;rw[List.find?_append];have h1:=jX x (fun y=>decide (y<k)) E;have h2:=jX x (fun y=>decide (k<y)) E;rw[h1,List.find?_cons]
 by_cases hx:x=k
 ·subst hx
  simp
 ·rw[show decide (k=x)=false from decide_eq_false (Ne.symm hx)]
  dsimp only
  rw[h2,if_neg hx]
  by_cases h:x<k
  ·rw[if_pos (decide_eq_true h),if_neg (by simp;omega)]
   simp
  ·rw[if_neg (by simpa using h),if_pos (decide_eq_true (by omega))]
   simp
theorem YR (k:Int)(E:List Ent)(x:Int):cP x (iP k E)=if x=k then none else cP x E:=by
 unfold cP iP;have h1:=jX x (fun y=>decide (y≠k)) E;rw[h1]
 by_cases hx:x=k
 ·rw[if_neg (by simp[hx]),if_pos hx];rfl
 ·rw[if_pos (decide_eq_true hx),if_neg hx]
theorem OR {E:List Ent}(h:kB E)(k:Int)(v:ByteArray):kB (aY k v E):=by
 unfold aY kB;rw[List.pairwise_append];refine⟨List.Pairwise.filter _ h,?_,fun a ha b hb=>?_⟩
 ·rw[List.pairwise_cons]
  refine⟨fun b hb=>?_,List.Pairwise.filter _ h⟩;exact of_decide_eq_true (List.mem_filter.1 hb).2
 ·have h1:a.1<k:=of_decide_eq_true (List.mem_filter.1 ha).2
  rcases List.mem_cons.1 hb with rfl|hb
  ·exact h1
  ·have:k<b.1:=of_decide_eq_true (List.mem_filter.1 hb).2
   omega
theorem OT {E:List Ent}(h:kB E)(k:Int):kB (iP k E):=List.Pairwise.filter _ h
theorem mV {E:List Ent}(h:kB E){k:Int}{v:ByteArray}:(k,v)∈E ↔ cP k E=some v:=by
 induction E with
 | nil=>simp[cP]
 | cons e E ih=>
  obtain⟨h1,h2⟩:=List.pairwise_cons.1 h;unfold cP at ih |-;rw[List.find?_cons,List.mem_cons]
  by_cases he:e.1=k
  ·rw[show decide (e.1=k)=true from decide_eq_true he]
   constructor
   ·rintro(rfl|hm)
    ·rfl
    ·have:e.1<k:=h1 _ hm
     omega
   ·intro hx
    left;simp at hx;exact Prod.ext he.symm hx.symm
  ·rw[show decide (e.1=k)=false from decide_eq_false he,<-ih h2]
   constructor
   ·rintro(rfl|hm)
    ·exact absurd rfl he
    ·exact hm
   ·exact .inr
theorem OS {E E':List Ent}(h:kB E)(h':kB E')(he:∀ k,cP k E=cP k E'):E=E':=by
 have hm:∀ x,x∈E ↔ x∈E':=fun x=>by
  obtain⟨a,b⟩:=x;rw[mV h,mV h',he]
 have hp:E.Perm E':=(List.perm_ext_iff_of_nodup ?_ ?_).2 hm
 ·refine hp.eq_of_pairwise (fun a b _ _ h1 h2=>?_) h h'
  omega
 ·refine List.Pairwise.imp (fun h e=>?_) h
  subst e;omega
 ·refine List.Pairwise.imp (fun h e=>?_) h'
  subst e;omega
theorem gL {k:Int}{v:ByteArray}{E:List Ent}(h:cP k E=some v):jJ k E=v/\eE k E=true:=by
 unfold jJ eE;rw[h];exact⟨rfl,rfl⟩
theorem MI {k:Int}{E:List Ent}(h:cP k E=none):jJ k E=⟨#[]⟩/\eE k E=false:=by
 unfold jJ eE;rw[h];exact⟨rfl,rfl⟩
theorem IsT.lowN {dk:DkS}{h H0:Nat}{root:Int}{F:List Mk}{P:List Int}(ht:IsT (Rn dk) h root F P)(hE:(aC F).length<2 ^ (H0+1)):h<=H0:=by
 have:=(oD ht).2;apply Decidable.byContradiction;intro hx;have h10:2 ^ (H0+1)<=2 ^ h:=Nat.pow_le_pow_right (by decide) (by omega);omega
theorem UR (w:World)(d s:Nat)(dk:DkS)(st:ShS)(F:Nat->Prop)(h:SD w d s dk st F)(G:eU dk st)(root:Int)(E:List Ent)(ht:TreeI dk st root E)(H0:Nat)(h9:H0<=8)(hE:E.length<2 ^ (H0+1))(hroom:Room dk st (2*H0+3))(key:Int)(hk:0<=key/\key<=18446744073709551615)(val:ByteArray)(hv:val.size<=40) :
  () 88 #[s,root,.int .u64 key,val] w (aF9 w d s dk st F (aY key val E)):=by
 have VP:Hid (() 116 #[.pointer (some ⟨w.heap.size,0,none⟩),root,.int .u64 key,val] (w.alloc (jN s 0)) fun e w'=>∃ q,e=.returned (.tuple #[.int .i64 q,(0:Int)])/\aF9 w d s dk st F (aY key val E) (.returned (.tuple #[.int .i64 q,(0:Int)])) w'):=Hd (by
  by_cases h0:root=0
  ·obtain⟨rfl,hl⟩:=ht.root0 h0
   subst h0;refine(UJ (w.alloc (jN s 0)) d s w.heap.size dk st 0 _ h.visit G (hroom.le (by omega)) hl key hk val hv).mono ?_;rintro e w' ⟨q,dk',st',r',rfl,hp,hT,hto,_⟩;exact⟨q,rfl,q,dk',st',rfl,TSPost.ends (dk:=dk) (st:=st) hp,hT,hto⟩
  ·have hlt:E.length<=600:=by
    have:2 ^ (H0+1)<=2 ^ 9:=Nat.pow_le_pow_right (by decide) (by omega);omega
   obtain⟨hh,F0,P0,hi,hs,rfl,hl,_⟩:=ht.rootN h0 hlt;have hh0:=hi.lowN hE;refine(NN (w.alloc (jN s 0)) d s w.heap.size dk st 0 _ h.visit G root h0 hh F0 P0 hi hs hl (by omega) (by omega) (hroom.le (by omega)) key hk val hv).mono ?_;rintro e w' ⟨q,dk',st',r',rfl,hp,hT,hto,_⟩;exact⟨q,rfl,q,dk',st',rfl,TSPost.ends (dk:=dk) (st:=st) hp,hT,hto⟩)
 have hv1:¬ (40:Int)<(val.size:Int):=by omega
 unfold jN at VP;clear h G ht hE hk hv hroom h9;go_enter Tryz.func88,Tryz.ntmps88;go_wp2_with fail;refine VP.mono ?_;rintro e w1 ⟨q,rfl,hp⟩;have FIN:=Hd hp;clear hp;go_wp2_with fail;go_ret2;exact FIN.o
theorem UZ (w:World)(d s:Nat)(dk:DkS)(st:ShS)(F:Nat->Prop)(h:SD w d s dk st F)(G:eU dk st)(root:Int)(E:List Ent)(ht:TreeI dk st root E)(H0:Nat)(h9:H0<=8)(hE:E.length<2 ^ (H0+1))(hroom:Room dk st (2*H0+3))(key:Int)(hk:0<=key/\key<=18446744073709551615) :
  () 114 #[s,root,.int .u64 key] w (DelT w d s dk st F key E):=by
 by_cases h0:root=0
 ·obtain⟨rfl,hl⟩:=ht.root0 h0
  subst h0;refine(UY w s key).mono fun e w' hq=>⟨0,dk,st,hq.1,⟨F,h.below hq.2,Frm.of_below hq.2,fun k hk=>.inl hk⟩,.inl ⟨rfl,rfl,hl⟩,To.refl G⟩
 ·have hlt:E.length<=600:=by
   have:2 ^ (H0+1)<=2 ^ 9:=Nat.pow_le_pow_right (by decide) (by omega);omega
  obtain⟨hh,F0,P0,hi,hs,rfl,hl,_⟩:=ht.rootN h0 hlt;have hh0:=hi.lowN hE;refine(OH w d s dk st F h G root h0 hh F0 P0 hi hs hl (by omega) (hroom.le (by omega)) key hk).mono ?_;rintro e w' ⟨q,dk',st',q1,q2,q3,q4⟩;refine⟨q,dk',st',q1,q2,?_,q4⟩
  cases hb:eE key (aC F0) with
  | true=>rw[hb] at q3;exact q3
  | false=>rw[hb] at q3;rw[ZJ _ _ hb];exact q3
def TrF (w:World)(d s n:Nat)(root:Int)(E:List Ent)(F:Nat->Prop):Prop:=∃ dk st,SD w d s dk st F/\eU dk st/\TreeI dk st root E/\dk.S.length=n/\st.h=eX
def TrR (w0:World)(R:List Nat)(w:World)(d s n:Nat)(root:Int)(E:List Ent):Prop:=
 Below w0.heap.size w0 w/\∃ F,TrF w d s n root E F/\(∀ k,F k->w0.heap.size<=k)/\∀ k∈R,k<w.heap.size/\¬ F k
def oK (R:List Nat)(w w':World):Prop:=∀ k∈R,w'.heap[k]?=w.heap[k]?
theorem TrF.frm {w w':World}{d s n:Nat}{root:Int}{E:List Ent}{F G:Nat->Prop}(h:TrF w d s n root E F)(hf:Frm G w w')(hd:∀ k,F k->¬ G k):TrF w' d s n root E F:=by
 obtain⟨dk,st,h1,h2⟩:=h;exact⟨dk,st,h1.frm hf hd,h2⟩
theorem TrF.lt {w:World}{d s n:Nat}{root:Int}{E:List Ent}{F:Nat->Prop}(h:TrF w d s n root E F)(k:Nat)(hk:F k):k<w.heap.size:=by
 obtain⟨dk,st,h1,_⟩:=h;exact h1.lt k hk
theorem TrR.size {w0:World}{R:List Nat}{w:World}{d s n:Nat}{root:Int}{E:List Ent}(h:TrR w0 R w d s n root E):Below w0.heap.size w0 w:=h.1
theorem TrR.below {w0:World}{R:List Nat}{w w':World}{d s n:Nat}{root:Int}{E:List Ent}(h:TrR w0 R w d s n root E)(hb:Below w.heap.size w w'):TrR w0 R w' d s n root E:=by
 obtain⟨h1,F,h2,h3,h4⟩:=h;exact⟨h1.trans (hb.mono h1.size),F,h2.frm (G:=fun _=>False) (Frm.of_below hb) (fun _ _ h=>h),h3,fun k hk=>⟨Nat.lt_of_lt_of_le (h4 k hk).1 hb.size,(h4 k hk).2⟩⟩
theorem TrR.kept {w0:World}{R:List Nat}{w w':World}{d s n:Nat}{root:Int}{E:List Ent}(h:TrR w0 R w d s n root E)(hb:Below w.heap.size w w'):oK R w w':=by
 obtain⟨h1,F,h2,h3,h4⟩:=h;exact fun k hk=>hb.block k (h4 k hk).1
theorem TrR.turn {w0:World}{R:List Nat}{w w':World}{d s n:Nat}{root:Int}{E:List Ent}(h:TrR w0 R w d s n root E){k:Nat}(hk:k∈R)(h0:w0.heap.size<=k)(hf:Frm (fun x=>x=k) w w'):TrR w0 R w' d s n root E:=by
 obtain⟨h1,F,h2,h3,h4⟩:=h;refine⟨h1.trans (hf.below (fun i hi=>by subst hi;exact h0) h1.size),F,h2.frm hf (fun i hi e=>(h4 k hk).2 (e ▸ hi)),h3,fun i hi=>⟨Nat.lt_of_lt_of_le (h4 i hi).1 hf.size,(h4 i hi).2⟩⟩
theorem TrR.more {w0:World}{R:List Nat}{w w':World}{d s n:Nat}{root:Int}{E:List Ent}(h:TrR w0 R w d s n root E)(hb:Below w.heap.size w w')(k:Nat)(h1:w.heap.size<=k)(h2:k<w'.heap.size):TrR w0 (k::R) w' d s n root E:=by
 obtain⟨a1,F,a2,a3,a4⟩:=h.below hb;obtain⟨_,F',b2,b3,b4⟩:=h;refine⟨a1,F',b2.frm (G:=fun _=>False) (Frm.of_below hb) (fun _ _ h=>h),b3,fun i hi=>?_⟩
 rcases List.mem_cons.1 hi with rfl|hi
 ·exact⟨h2,fun hx=>by have:=b2.lt _ hx;omega⟩
 ·exact⟨(a4 i hi).1,(b4 i hi).2⟩
theorem TrR.sub {w0:World}{R R':List Nat}{w:World}{d s n:Nat}{root:Int}{E:List Ent}(h:TrR w0 R w d s n root E)(hs:∀ k∈R',k∈R):TrR w0 R' w d s n root E:=by
 obtain⟨h1,F,h2,h3,h4⟩:=h;exact⟨h1,F,h2,h3,fun k hk=>h4 k (hs k hk)⟩
theorem TrR.adds {w0:World}{R:List Nat}{w w':World}{d s n:Nat}{root:Int}{E:List Ent}(h:TrR w0 R w d s n root E){G:Nat->Prop}(hG:∀ k,G k->k∈R/\w0.heap.size<=k)(hf:Frm G w w')(k:Nat)(hk:k∈R\/(w.heap.size<=k/\k<w'.heap.size)):TrR w0 (k::R) w' d s n root E:=by
 obtain⟨h1,F,h2,h3,h4⟩:=h;refine⟨h1.trans (hf.below (fun i hi=>(hG i hi).2) h1.size),F,h2.frm hf (fun i hi e=>(h4 i (hG i e).1).2 hi),h3,fun i hi=>?_⟩
 rcases List.mem_cons.1 hi with rfl|hi
 ·rcases hk with hk|hk
  ·exact⟨Nat.lt_of_lt_of_le (h4 i hk).1 hf.size,(h4 i hk).2⟩
  ·exact⟨hk.2,fun hx=>by have:=h2.lt _ hx;omega⟩
 ·exact⟨Nat.lt_of_lt_of_le (h4 i hi).1 hf.size,(h4 i hi).2⟩
theorem TrR.lt {w0:World}{R:List Nat}{w:World}{d s n:Nat}{root:Int}{E:List Ent}(h:TrR w0 R w d s n root E)(k:Nat)(hk:k∈R):k<w.heap.size:=by
 obtain⟨h1,F,h2,h3,h4⟩:=h;exact(h4 k hk).1
theorem TrR.post {w0:World}{R:List Nat}{w w':World}{d s n:Nat}{q:Int}{E:List Ent}{F:Nat->Prop}{dk dk':DkS}{st st':ShS}(hb:Below w0.heap.size w0 w)(hF:∀ k,F k->w0.heap.size<=k)(hR:∀ k∈R,k<w.heap.size/\¬ F k)(hp:rJ w d s dk' st' F w')(hT:TreeI dk' st' q E)(hto:To dk st dk' st')(hn:dk.S.length=n)(hh:st.h=eX):TrR w0 R w' d s n q E/\oK R w w':=by
 obtain⟨F',h1,h2,h3⟩:=hp;refine⟨⟨hb.trans (h2.below hF hb.size),F',⟨dk',st',h1,hto.g,hT,hto.len.trans hn,hto.h.trans hh⟩,fun k hk=>(h3 k hk).elim (hF k) (fun hx=>Nat.le_trans hb.size hx),fun k hk=>⟨Nat.lt_of_lt_of_le (hR k hk).1 h2.size,fun hx=>?_⟩⟩,fun k hk=>h2.block k (hR k hk).1 (hR k hk).2⟩
 rcases h3 k hx with h4|h4
 ·exact(hR k hk).2 h4
 ·have:=(hR k hk).1;omega
theorem WC {dk:DkS}{st:ShS}{root:Int}{E:List Ent}(ht:TreeI dk st root E)(G:eU dk st)(hh:st.h=eX)(H0:Nat)(hn:2*E.length+2*H0+5<=dk.S.length):Room dk st (2*H0+3):=by
 have hu:mF st dk.S.length=0:=NO st hh _ _;exact ht.room G _ (by omega)
theorem aFM {w0:World}{R:List Nat}{w:World}{d s n:Nat}{root:Int}{E:List Ent}(h:TrR w0 R w d s n root E)(H0:Nat)(h9:H0<=8)(hE:E.length<2 ^ (H0+1))(hn:2*E.length+2*H0+5<=n)(key:Int)(hk:0<=key/\key<=18446744073709551615)(val:ByteArray)(hv:val.size<=40) :
  () 88 #[s,root,.int .u64 key,val] w fun e w'=>∃ q,e=.returned (.tuple #[.int .i64 q,(0:Int)])/\TrR w0 R w' d s n q (aY key val E)/\oK R w w':=by
 obtain⟨hb,F,⟨dk,st,h1,G,ht,hl,hh⟩,hF,hR⟩:=h;refine(UR w d s dk st F h1 G root E ht H0 h9 hE (WC ht G hh H0 (by omega)) key hk val hv).mono ?_;rintro e w' ⟨q,dk',st',rfl,hp,hT,hto⟩;exact⟨q,rfl,TrR.post hb hF hR hp hT hto hl hh⟩
theorem aFZ {w0:World}{R:List Nat}{w:World}{d s n:Nat}{root:Int}{E:List Ent}(h:TrR w0 R w d s n root E)(H0:Nat)(h9:H0<=8)(hE:E.length<2 ^ (H0+1))(hn:2*E.length+2*H0+5<=n)(key:Int)(hk:0<=key/\key<=18446744073709551615) :
  () 114 #[s,root,.int .u64 key] w fun e w'=>∃ q,e=.returned (.tuple #[.int .i64 q,.bool (eE key E),(0:Int)])/\TrR w0 R w' d s n q (iP key E)/\oK R w w':=by
 obtain⟨hb,F,⟨dk,st,h1,G,ht,hl,hh⟩,hF,hR⟩:=h;refine(UZ w d s dk st F h1 G root E ht H0 h9 hE (WC ht G hh H0 (by omega)) key hk).mono ?_;rintro e w' ⟨q,dk',st',rfl,hp,hT,hto⟩;exact⟨q,rfl,TrR.post hb hF hR hp hT hto hl hh⟩
theorem aFU {w0:World}{R:List Nat}{w:World}{d s n:Nat}{root:Int}{E:List Ent}(h:TrR w0 R w d s n root E)(hE:E.length<=600)(key:Int)(hk:0<=key/\key<=18446744073709551615) :
  () 95 #[s,root,.int .u64 key] w fun e w'=>e=.returned (.tuple #[.string (jJ key E),.bool (eE key E),(0:Int)])/\Below w.heap.size w w':=by
 obtain⟨hb,F,⟨dk,st,h1,G,ht,hl,hh⟩,hF,hR⟩:=h;exact aAU w d s dk st F h1 G root E ht.reads hE key hk
