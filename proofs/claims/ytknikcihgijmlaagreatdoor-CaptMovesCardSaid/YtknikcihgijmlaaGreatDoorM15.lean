import Derived.Test.YtknikcihgijmlaaGreatDoorM14
namespace Go.Proofs.YtknikcihgijmlaaGreatDoor
open Go.RowKit
set_option maxRecDepth 20000
set_option maxHeartbeats 12800000
set_option linter.unusedVariables false
set_option linter.unusedSimpArgs false
structure StepV where
 p:Int
 i:Int
 fd:Bool
 lf:Bool
 ak:Option Addr
 lk:Nat
 ck:Nat
 av:Option Addr
 lv:Nat
 cv:Nat
 ac:Option Addr
 lc:Nat
 cc:Nat
def StepV.val (x:StepV):Value:=.agg #[.int .i64 x.p,x.i,x.fd,x.lf,x.ak x.lk x.ck,x.av x.lv x.cv,x.ac x.lc x.cc]
def StepV.cells (x:StepV):List Value:=[.int .i64 x.p,x.i,x.fd,x.lf,x.ak x.lk x.ck,x.av x.lv x.cv,x.ac x.lc x.cc]
theorem StepV.one (x:StepV):∀ u∈x.cells,u.oneCell'=true:=by
 intro u hu;unfold StepV.cells at hu;simp only[List.mem_cons,List.not_mem_nil,or_false] at hu
 rcases hu with rfl|rfl|rfl|rfl|rfl|rfl|rfl <;> rfl
def iR (L:List StepV):List Value:=L.flatMap StepV.cells
theorem kN (L:List StepV):(iR L).length=L.length*7:=by
 induction L with
 | nil=>rfl
 | cons x L ih=>unfold iR at *;rw[List.flatMap_cons,List.length_append,ih,List.length_cons];show 7+_=_;omega
theorem oL (L:List StepV)(x:StepV):iR (L++[x])=iR L++x.cells:=by simp[iR]
def WF (b:Nat)(v:Value)(k:Nat):Prop:=k=b\/v.ownBlock=some k
structure aFN (w:World)(b:Nat)(v:Value)(L:List StepV):Prop where
 box:w.heap[b]?=some (.cells #[v] 160)
 own:w.ownsRow 0 168 7 v L.length (iR L)
 ne:v.ownBlock≠some b
def Way (w:World)(b:Nat)(L:List StepV)(F:Nat->Prop):Prop:=∃ v,aFN w b v L/\∀ k,F k ↔ WF b v k
def zA (w:World)(b:Nat)(L:List StepV)(F:Nat->Prop)(w':World):Prop:=∃ F',Way w' b L F'/\Frm F w w'/\∀ k,F' k->F k\/w.heap.size<=k
theorem gZ {F:Nat->Prop}{w w':World}{B:Nat}{e:TypeId}{z:Nat}{v:Value}{n:Nat}{xs:List Value}(h:w.ownsRow B e z v n xs)(hb:Frm F w w')(hF:∀ k,v.ownBlock=some k->¬ F k):w'.ownsRow B e z v n xs:=by
 refine⟨h.1,?_⟩
 rcases h.2 with hx|⟨g,cap,cur,hv,hbg,hh,r⟩
 ·exact .inl hx
 ·exact .inr ⟨g,cap,cur,hv,hbg,(hb.block g (zl hh) (hF g (by rw[hv];rfl))).trans hh,r⟩
theorem Way.lt {w:World}{b:Nat}{L:List StepV}{F:Nat->Prop}(h:Way w b L F)(k:Nat)(hk:F k):k<w.heap.size:=by
 obtain⟨v,hi,he⟩:=h
 rcases(he k).1 hk with rfl|hx
 ·exact(zl hi.box)
 ·exact(hi.own.lt k hx).2
theorem Way.frm {w w':World}{b:Nat}{L:List StepV}{F G:Nat->Prop}(h:Way w b L F)(hf:Frm G w w')(hd:∀ k,F k->¬ G k):Way w' b L F:=by
 have hl:=h.lt;obtain⟨v,hi,he⟩:=h;have hb:=(he b).2 (.inl rfl);exact⟨v,⟨(hf.block b (hl b hb) (hd b hb)).trans hi.box,gZ hi.own hf (fun k hk=>hd k ((he k).2 (.inr hk))),hi.ne⟩,he⟩
theorem Way.below {w w':World}{b:Nat}{L:List StepV}{F:Nat->Prop}(h:Way w b L F)(hb:Below w.heap.size w w'):Way w' b L F:=
 h.frm (G:=fun _=>False) (Frm.of_below hb) fun _ _ hx=>hx
theorem bP {w:World}{B:Nat}{e:TypeId}{z:Nat}{v:Value}{n:Nat}{xs:List Value}(h:w.ownsRow B e z v n xs):∃ a c,v=.slice a n c/\n<=c/\c<=maxLen:=by
 rcases h.2 with⟨h1,h2⟩|⟨g,cap,cur,h1,h2,h3,h4,h5,_⟩
 ·exact⟨none,0,by rw[h1,h2],by omega,Nat.zero_le _⟩
 ·exact⟨_,cap,h1,h4,h5⟩
theorem RM:(Tryz.prog.info? 168).map (fun i=>(i.zero,i.size,i.bytes))=some (some (.agg #[(0:Int),(0:Int),false,false,.slice none 0 0,.slice none 0 0,.slice none 0 0]),7,104):=by kernel_rfl
theorem aCT (w:World)(v:Value)(L:List StepV)(hown:w.ownsRow 0 168 7 v L.length (iR L))(r:Nat)(x:StepV)(hr:w.heap[r]?=some (.cells x.cells.toArray 168))(hn:L.length<=1000) :
  ∃ v' w' k,(Builtin.append_ #[158,158] 158 #[v,.slice (some ⟨r,0,none⟩) 1 1]).run Tryz.prog w=.ok v' w'/\w'.ownsRow 0 168 7 v' (L++[x]).length (iR (L++[x]))/\w.grownBy w' v.ownBlock/\v'.ownBlock=some k/\(v.ownBlock=some k\/k=w.heap.size):=by
 obtain⟨i,hi,hz0,hz1,hz2⟩:=info_parts RM
 have hnews:∀ j u,x.cells[j]?=some u->w.cell? ((⟨r,0,none⟩:Addr).add j)=some u:=by
  intro j u hj;rw[gC,cob hr]
  simpa using hj
 have hl:x.cells.length=1*7:=rfl;have hown0:=hown;obtain⟨v',w',hrr,ho,hg,_⟩:=run_append_own (P:=Tryz.prog) w 0 158 158 168 i _ 7 104 Tryz.underlying158 hi hz0 hz1 hz2 rfl (by decide) v L.length _ hown ⟨r,0,none⟩ 1 1 x.cells hl hnews x.one (by simp only[maxLen];omega) (by omega) (Nat.zero_le _);refine⟨v',w',?_⟩
 have hk:∃ k,v'.ownBlock=some k/\(v.ownBlock=some k\/k=w.heap.size):=by
  rcases hown.2 with⟨rfl,h0⟩|⟨g,cap,cur,rfl,_,hgg,hnc,hcm,hcs,htake⟩
  ·have h2:=run_append_nil (P:=Tryz.prog) w 158 158 168 i _ Tryz.underlying158 hi hz0 ⟨r,0,none⟩ 1 1 x.cells (by rw[hz1];rfl) hnews (by decide) (by decide) (by rw[hz2];decide)
   rw[hrr] at h2;injection h2 with h3 h4;exact⟨w.heap.size,by rw[h3];rfl,.inr rfl⟩
  ·by_cases hroom:L.length+1<=cap
   ·have h2:=run_append_room (P:=Tryz.prog) w 158 158 168 i Tryz.underlying158 hi g L.length cap cur hgg ⟨r,0,none⟩ 1 1 x.cells (by rw[hz1];rfl) hnews x.one hroom (by rw[hcs,hz1];show _+7<=_;omega)
    rw[hrr] at h2;injection h2 with h3 h4;exact⟨g,by rw[h3];rfl,.inl rfl⟩
   ·have holds:∀ j u,(iR L)[j]?=some u->w.cell? ((⟨g,0,none⟩:Addr).add j)=some u:=hown0.cells (g:=g) rfl
    have h2:=run_append_grow (P:=Tryz.prog) w 158 158 168 i _ Tryz.underlying158 hi hz0 ⟨g,0,none⟩ L.length cap (iR L) (by rw[hown.1,hz1]) holds ⟨r,0,none⟩ 1 1 x.cells (by rw[hz1];rfl) hnews (by omega) (by omega) (growslice_fits (by omega) (by rw[hz2];omega));rw[hrr] at h2;injection h2 with h3 h4;exact⟨w.heap.size,by rw[h3];rfl,.inr rfl⟩
 obtain⟨k,h1,h2⟩:=hk;refine⟨k,hrr,?_,hg,h1,h2⟩;rw[oL,List.length_append,List.length_singleton];exact ho
theorem nD (w:World)(b:Nat)(L:List StepV)(F:Nat->Prop)(h:Way w b L F) :
  () 112 #[b] w fun e w'=>e=.returned (.int .i64 (L.length:Int))/\w=w':=by
 obtain⟨v,hi,_⟩:=h;obtain⟨a,c,rfl,_,_⟩:=bP hi.own;have c0:=kJ hi.box;clear hi;generalize L.length=n at *;go_enter Tryz.func112,Tryz.ntmps112;go_wp2_with fail;go_ret;exact⟨rfl,rfl⟩
theorem TW (w:World)(b:Nat)(L:List StepV)(F:Nat->Prop)(h:Way w b L F)(x:StepV)(hn:L.length<=1000) :
  () 128 #[b,x.val] w (EF (zA w b (L++[x]) F)):=by
 have hbl:=h.lt;obtain⟨v,hi,he⟩:=h;obtain⟨va,vc,rfl,hv1,hv2⟩:=bP hi.own;obtain⟨w0,hw0⟩:∃ w0,w.alloc (.cells #[.int .i64 x.p,x.i,x.fd,x.lf,x.ak x.lk x.ck,x.av x.lv x.cv,x.ac x.lc x.cc] 168)=w0:=⟨_,rfl⟩
 have hb0:b<w.heap.size:=hbl b ((he b).2 (.inl rfl));have z0:w0.heap.size=w.heap.size+1:=by rw[<-hw0];simp
 have HB0:Hid (w0.heap[b]?=some (.cells #[va L.length vc] 160)):=Hd (by rw[<-hw0];exact(hao w _ hb0).trans hi.box);have HX0:Hid (w0.heap[w.heap.size]?=some (.cells #[.int .i64 x.p,x.i,x.fd,x.lf,x.ak x.lk x.ck,x.av x.lv x.cv,x.ac x.lc x.cc] 168)):=Hd (by rw[<-hw0];exact han w _);have B0:Below w.heap.size w w0:=by rw[<-hw0];exact(Below.refl _ w).alloc (Nat.le_refl _) _
 have W0:Way w0 b L F:=Way.below ⟨_,hi,he⟩ B0;have nog:∀ k,(Value.slice va L.length vc).ownBlock=some k->k<w.heap.size:=fun k hk=>hbl k ((he k).2 (.inr hk))
 have PUSH:Hid (∃ v' w6,(Builtin.append_ #[158,158] 158 #[va L.length vc,.slice (some ⟨w0.heap.size,0,none⟩) 1 1]).run Tryz.prog (w0.drew.alloc (.cells #[.int .i64 x.p,x.i,x.fd,x.lf,x.ak x.lk x.ck,x.av x.lv x.cv,x.ac x.lc x.cc] 168))=.ok v' w6/\Frm (fun k=>(Value.slice va L.length vc).ownBlock=some k) w0 w6/\w6.heap[b]?=some (.cells #[va L.length vc] 160)/\zA w b (L++[x]) F (w6.setCell ⟨b,0,none⟩ v')/\∃ va' vc',v'=.slice va' (L.length+1) vc'):=Hd (by
  have hown1:(w0.drew.alloc (.cells #[.int .i64 x.p,x.i,x.fd,x.lf,x.ak x.lk x.ck,x.av x.lv x.cv,x.ac x.lc x.cc] 168)).ownsRow 0 168 7 (.slice va L.length vc) L.length (iR L):=by
   have:Frm (fun _=>False) w (w0.drew.alloc (.cells #[.int .i64 x.p,x.i,x.fd,x.lf,x.ak x.lk x.ck,x.av x.lv x.cv,x.ac x.lc x.cc] 168)):=((Frm.of_below B0).drew).alloc _;exact gZ hi.own this (fun _ _ hx=>hx)
  obtain⟨v',w6,k,q1,q2,q3,q4,q5⟩:=aCT _ _ L hown1 w0.heap.size x (han w0.drew _) hn;have hF6:Frm (fun k=>(Value.slice va L.length vc).ownBlock=some k) w0 w6:=((Frm.refl _ w0).drew.alloc _).grown q3 (fun k hk=>.inl hk);have hbx:w6.heap[b]?=some (.cells #[va L.length vc] 160):=(hF6.block b (by omega) hi.ne).trans HB0.o
  have hkb:k≠b:=by
   intro e;subst e
   rcases q5 with q5|q5
   ·exact hi.ne q5
   ·rw[World.size_alloc] at q5
    have:w0.drew.heap.size=w0.heap.size:=rfl;omega
  refine⟨v',w6,q1,hF6,hbx,?_,?_⟩
  ·have hown6:(w6.setCell ⟨b,0,none⟩ v').ownsRow 0 168 7 v' (L++[x]).length (iR (L++[x])):=gZ (F:=fun j=>j=b) q2 ((Frm.refl _ w6).setCell _ _ (.inl rfl)) (fun j hj e=>by rw[q4] at hj;injection hj with hj;exact hkb (hj.trans e))
   have hFw:Frm F w (w6.setCell ⟨b,0,none⟩ v'):=by
    have f1:Frm F w w0:=Frm.of_below B0;have f2:Frm F w w6:=f1.trans hF6 (fun j hj=>.inl ((he j).2 (.inr hj)));exact f2.setCell _ _ (.inl ((he b).2 (.inl rfl)))
   refine⟨WF b v',⟨v',⟨?_,hown6,by rw[q4];exact fun e=>hkb (Option.some.inj e)⟩,fun _=>Iff.rfl⟩,hFw,fun j hj=>?_⟩
   ·rw[hss _ _ 0 _ _ _ hbx];rfl
   ·rcases hj with rfl|hj
    ·exact .inl ((he _).2 (.inl rfl))
    ·rw[q4] at hj;injection hj with hj;subst hj
     rcases q5 with q5|q5
     ·exact .inl ((he _).2 (.inr q5))
     ·rw[World.size_alloc] at q5
      have:w0.drew.heap.size=w0.heap.size:=rfl;exact .inr (by omega)
  ·obtain⟨a,c,e,_⟩:=bP q2
   exact⟨a,c,by rw[e,List.length_append,List.length_singleton]⟩)
 have HLb:Hid (b<w0.heap.size):=Hd (by omega);have HLx:Hid (w.heap.size<w0.heap.size):=Hd (by omega);have nob:Hid (¬ (Value.slice va L.length vc).ownBlock=some b):=Hd hi.ne;have nox:Hid (¬ (Value.slice va L.length vc).ownBlock=some w.heap.size):=Hd (fun e=>by have:=nog _ e;omega);clear hi he W0 B0 hbl nog hb0 z0;unfold StepV.val;go_enter Tryz.func128,Tryz.ntmps128;go_upto_region 1 with fail
 try rw[hw0]
 clear hw0;obtain⟨v',w6,hap,hF6,hb6,hpost,va',vc',hv'⟩:=PUSH.o;subst hv';have HAP:=Hd hap;have F6H:=Hd hF6;have POST:=Hd hpost;have y0:=kJ hb6;have f0:=ufb hb6 0;clear hap hF6 hb6 hpost PUSH;refine iS (fun w'=>Frm (fun k=>(Value.slice va L.length vc).ownBlock=some k) w0 w') 10 (by kernel_rfl) ?_;have hS:=((Frm.refl (fun k=>(Value.slice va L.length vc).ownBlock=some k) w0).drew)
 refine Wsd 0 4 ?v0 hS ?h0 ?r0
 case h0=>
  intro w9;go_simp;try (with_reducible rfl)
 simp only[SL];refine Wsd 1 5 ?v1 hS ?h1 ?r1
 case h1=>
  intro w9;go_simp;try (with_reducible rfl)
 simp only[SL];refine Wsd 2 6 ?v2 hS ?h2 ?r2
 case h2=>
  intro w9;go_simp;try (with_reducible rfl)
 simp only[SL];refine Wsd 3 7 ?v3 hS ?h3 ?r3
 case h3=>
  intro w9;go_simp;try (with_reducible rfl)
 simp only[SL];refine Wtd 4 8 ?v4 hS ?h4 ?r4
 case h4=>
  intro w9 s9;have cN:w9.cell? ⟨b,0,none⟩=some (.slice va L.length vc):=kJ ((s9.block _ HLb nob.o).trans HB0.o);go_simp;try (with_reducible rfl)
 simp only[SL];refine Wtd 5 9 ?v5 hS ?h5 ?r5
 case h5=>
  intro w9 s9;have cN0:=cl ((s9.block _ HLx nox.o).trans HX0.o) 0 rfl;have cN1:=cl ((s9.block _ HLx nox.o).trans HX0.o) 1 rfl;have cN2:=cl ((s9.block _ HLx nox.o).trans HX0.o) 2 rfl;have cN3:=cl ((s9.block _ HLx nox.o).trans HX0.o) 3 rfl;have cN4:=cl ((s9.block _ HLx nox.o).trans HX0.o) 4 rfl;have cN5:=cl ((s9.block _ HLx nox.o).trans HX0.o) 5 rfl;have cN6:=cl ((s9.block _ HLx nox.o).trans HX0.o) 6 rfl;go_simp;try (with_reducible rfl)
 simp only[SL];refine Wp 6 (fun K HK=>?_);go_simp;have hS6:=hS.alloc (.cells #[.int .i64 x.p,x.i,x.fd,x.lf,x.ak x.lk x.ck,x.av x.lv x.cv,x.ac x.lc x.cc] 168);clear hS;have hS:=hS6;clear hS6;refine HK _ _ ?_ (fun _=>hS);clear HK K;try simp only[Act.put,SL]
 refine Wp 7 (fun K HK=>?_);refine eG (by rfl) 11 (by rfl) (.tmp 8) (.tmp 10) 158 (by rfl) _ _ _ (by rfl) (by rfl) HAP ?_;clear hS HAP;have hS:=F6H.o;refine HK _ _ ?_ (fun _=>hS);clear HK K;try simp only[Act.put,SL]
 refine Wsd 8 12 ?v8 hS ?h8 ?r8
 case h8=>
  intro w9;go_simp;try (with_reducible rfl)
 simp only[SL];refine Wsd 9 13 ?v9 hS ?h9 ?r9
 case h9=>
  intro w9;go_simp;try (with_reducible rfl)
 simp only[SL];refine Wp 10 (fun K HK=>?_);go_simp;refine HK _ _ ?_ (fun h=>absurd rfl h);clear HK K;refine kK (by kernel_rfl) ?_;clear hS y0 f0;go_wp2_with fail
 go_end0
 exact⟨rfl,POST.o⟩
def gB (w:World)(b:Nat)(x:StepV):World:=((((((w.setCell ⟨b,0,none⟩ (.int .i64 x.p)).setCell ⟨b,1,none⟩ (.int .i64 x.i)).setCell ⟨b,2,none⟩ (.bool x.fd)).setCell ⟨b,3,none⟩ (.bool x.lf)).setCell ⟨b,4,none⟩ (.slice x.ak x.lk x.ck)).setCell ⟨b,5,none⟩ (.slice x.av x.lv x.cv)).setCell ⟨b,6,none⟩ (.slice x.ac x.lc x.cc)
theorem dH {w:World}{b:Nat}{a0 a1 a2 a3 a4 a5 a6:Value}{T:TypeId}(h:w.heap[b]?=some (.cells #[a0,a1,a2,a3,a4,a5,a6] T))(x:StepV):(gB w b x).heap[b]?=some (.cells #[.int .i64 x.p,x.i,x.fd,x.lf,x.ak x.lk x.ck,x.av x.lv x.cv,x.ac x.lc x.cc] T):=by
 unfold gB;rw[hss _ _ 6 _ _ _ (hss _ _ 5 _ _ _ (hss _ _ 4 _ _ _ (hss _ _ 3 _ _ _ (hss _ _ 2 _ _ _ (hss _ _ 1 _ _ _ (hss _ _ 0 _ _ _ h))))))]
 rfl
theorem cJ {F:Nat->Prop}{w w1:World}(h:Frm F w w1)(b:Nat)(x:StepV)(hb:F b\/w.heap.size<=b):Frm F w (gB w1 b x):=((((((h.setCell _ _ hb).setCell _ _ hb).setCell _ _ hb).setCell _ _ hb).setCell _ _ hb).setCell _ _ hb).setCell _ _ hb
theorem aM {w:World}{b:Nat}{v0 v1 v2 v3 v4 v5 v6:Value}{T:TypeId}(h:w.heap[b]?=some (.cells #[v0,v1,v2,v3,v4,v5,v6] T)):w.cell? ⟨b,0,none⟩=some v0/\w.cell? ⟨b,1,none⟩=some v1/\w.cell? ⟨b,2,none⟩=some v2/\w.cell? ⟨b,3,none⟩=some v3/\w.cell? ⟨b,4,none⟩=some v4/\w.cell? ⟨b,5,none⟩=some v5/\w.cell? ⟨b,6,none⟩=some v6:=by
 refine⟨?_,?_,?_,?_,?_,?_,?_⟩ <;> (rw[cob h];rfl)
theorem pA (w:World)(b:Nat)(L:List StepV)(x:StepV)(F:Nat->Prop)(h:Way w b (L++[x]) F) :
  () 110 #[b] w fun e w'=>e=.returned x.val/\Way w' b L F/\Frm (fun k=>k=b) w w':=by
 have hbl:=h.lt;obtain⟨v,hi,he⟩:=h;obtain⟨va,vc,rfl,hv1,hv2⟩:=bP hi.own;rw[List.length_append,List.length_singleton] at hi hv1;have hb0:b<w.heap.size:=hbl b ((he b).2 (.inl rfl))
 obtain⟨g,cap,cur,hg1,_,hg3,hg4,hg5,hg6,hg7⟩:∃ g cap cur,(Value.slice va (L.length+1) vc)=.slice (some ⟨g,0,none⟩) (L.length+1) cap/\0<=g/\w.heap[g]?=some (.cells cur 168 (0,0))/\L.length+1<=cap/\cap<=maxLen/\cur.size=cap*7/\cur.toList.take ((L.length+1)*7)=iR (L++[x]):=by
  have ho:=hi.own;rw[List.length_append,List.length_singleton] at ho
  rcases ho.2 with⟨_,h0⟩|hx
  ·omega
  ·exact hx
 injection hg1 with e1 e2 e3;subst e1 e3;have hgb:g≠b:=fun e=>hi.ne (by rw[<-e];rfl)
 have hgl:g<w.heap.size:=(zl hg3)
 have rows:∀ k u,x.cells[k]?=some u->w.cell? ⟨g,L.length*7+k,none⟩=some u:=by
  intro k u hk;have hk7:k<7:=by have:=(List.getElem?_eq_some_iff.1 hk).1;exact this
  have e:(iR (L++[x]))[L.length*7+k]?=some u:=by
   rw[oL,List.getElem?_append_right (by rw[kN];omega),kN];rw[show L.length*7+k-L.length*7=k by omega];exact hk
  rw[<-hg7,List.getElem?_take,if_pos (by omega)] at e;rw[cob hg3]
  simpa using e
 have r0:w.cell? ⟨g,L.length*7,none⟩=some (.int .i64 x.p):=rows 0 _ rfl;have r1:=rows 1 _ rfl;have r2:=rows 2 _ rfl;have r3:=rows 3 _ rfl;have r4:=rows 4 _ rfl;have r5:=rows 5 _ rfl;have r6:=rows 6 _ rfl;have c0:=kJ hi.box;have f0:=ufb hi.box 0
 have own':w.ownsRow 0 168 7 (.slice (some ⟨g,0,none⟩) L.length vc) L.length (iR L):=by
  refine⟨by rw[kN],.inr ⟨g,vc,cur,rfl,Nat.zero_le _,hg3,by omega,hg5,hg6,?_⟩⟩;have:=congrArg (List.take (L.length*7)) hg7;rw[List.take_take,oL,show min (L.length*7) ((L.length+1)*7)=L.length*7 by omega,List.take_append_of_le_length (by rw[kN];exact Nat.le_refl _),List.take_of_length_le (l:=iR L) (by rw[kN];exact Nat.le_refl _)] at this;exact this
 have HB:=Hd hi.box;have FIN:Hid (∀ wz,Frm (fun k=>k=b) w wz->wz.heap[b]?=some (.cells #[.slice (some ⟨g,0,none⟩) L.length vc] 160)->Way wz b L F):=Hd (fun wz hf hb=>⟨_,⟨hb,gZ own' hf (fun k hk e=>by injection hk with hk;exact hgb (hk.trans e)),fun e=>hgb (Option.some.inj e)⟩,fun k=>(he k).trans Iff.rfl⟩);clear hi he own' rows hg3 hg6 hg7 hbl;generalize L.length=n at *;have hnx:n+1<=maxLen:=by omega
 have hnm:n<=9223372036854775807:=by simp only[maxLen] at hnx;omega
 have hn0:wrap64 (n:Int)=(n:Int):=by simp only[wrap64];omega
 have hn1:¬ ((n:Int)<0):=by omega
 have hn2:(n:Int)<(n:Int)+1:=by omega
 have hn3:(n:Int)<=(vc:Int):=by omega
 unfold StepV.val;go_enter Tryz.func110,Tryz.ntmps110;go_upto_region 2 with fail
 obtain⟨w1,hw1⟩:∃ w1,w.alloc (.cells #[(0:Int),(0:Int),false,false,.slice none 0 0,.slice none 0 0,.slice none 0 0] 168)=w1:=⟨_,rfl⟩
 have B1:Below w.heap.size w w1:=by rw[<-hw1];exact(Below.refl _ w).alloc (Nat.le_refl _) _
 have z1:w1.heap.size=w.heap.size+1:=by rw[<-hw1];simp
 have X1:w1.heap[w.heap.size]?=some (.cells #[(0:Int),(0:Int),false,false,.slice none 0 0,.slice none 0 0,.slice none 0 0] 168):=by rw[<-hw1];exact han w _
 have q0:=(B1.cell (p:=⟨g,n*7,none⟩) hgl).trans r0;have q1:=(B1.cell (p:=⟨g,n*7+1,none⟩) hgl).trans r1;have q2:=(B1.cell (p:=⟨g,n*7+2,none⟩) hgl).trans r2;have q3:=(B1.cell (p:=⟨g,n*7+3,none⟩) hgl).trans r3;have q4:=(B1.cell (p:=⟨g,n*7+4,none⟩) hgl).trans r4;have q5:=(B1.cell (p:=⟨g,n*7+5,none⟩) hgl).trans r5;have q6:=(B1.cell (p:=⟨g,n*7+6,none⟩) hgl).trans r6;have qc:=(B1.cell (p:=⟨b,0,none⟩) hb0).trans c0;have qb:=(B1.block b hb0).trans HB.o;rw[hw1];clear hw1 r0 r1 r2 r3 r4 r5 r6 c0 f0;go_upto_region 3 with fail
 obtain⟨w2,hw2⟩:∃ w2,w1.alloc (.cells #[.int .i64 x.p,x.i,x.fd,x.lf,x.ak x.lk x.ck,x.av x.lv x.cv,x.ac x.lc x.cc] 168)=w2:=⟨_,rfl⟩
 have B2:Below w.heap.size w w2:=by rw[<-hw2];exact B1.alloc B1.size _
 have X2:w2.heap[w.heap.size]?=some (.cells #[(0:Int),(0:Int),false,false,.slice none 0 0,.slice none 0 0,.slice none 0 0] 168):=by rw[<-hw2];exact(hao w1 _ (by omega)).trans X1
 have Y2:w2.heap[w.heap.size+1]?=some (.cells #[.int .i64 x.p,x.i,x.fd,x.lf,x.ak x.lk x.ck,x.av x.lv x.cv,x.ac x.lc x.cc] 168):=by rw[<-hw2,<-z1];exact han w1 _
 have D2:w2.heap[b]?=some (.cells #[.slice (some ⟨g,0,none⟩) (n+1) vc] 160):=by rw[<-hw2];exact(hao w1 _ (by omega)).trans qb
 have qc2:=kJ D2;have f2:=ufb D2 0;rw[hw2];clear hw2 q0 q1 q2 q3 q4 q5 q6 qc qb B1 X1;go_upto_region 4 with fail
 obtain⟨w3,hw3⟩:∃ w3,w2.setCell ⟨b,0,none⟩ (.slice (some ⟨g,0,none⟩) n vc)=w3:=⟨_,rfl⟩
 have hbk:∀ k,b≠k->(w2.setCell ⟨b,0,none⟩ (.slice (some ⟨g,0,none⟩) n vc)).heap[k]?=w2.heap[k]?:=fun k hk=>Below.heap_setCell _ _ _ _ (fun e=>hk e.symm)
 have X3:=(hbk w.heap.size (by omega)).trans X2;have Y3:=(hbk (w.heap.size+1) (by omega)).trans Y2;have D3:(w2.setCell ⟨b,0,none⟩ (.slice (some ⟨g,0,none⟩) n vc)).heap[b]?=some (.cells #[.slice (some ⟨g,0,none⟩) n vc] 160):=by rw[hss _ _ 0 _ _ _ D2];rfl
 have F3:Frm (fun k=>k=b) w (w2.setCell ⟨b,0,none⟩ (.slice (some ⟨g,0,none⟩) n vc)):=(Frm.of_below B2).setCell _ _ (.inl rfl);rw[hw3] at X3 Y3 D3 F3;rw[hw3];clear hbk hw3 X2 Y2 D2 qc2 f2 B2;obtain⟨y0,y1,y2,y3,y4,y5,y6⟩:=aM Y3;have g0:=ufb X3 0;have g1:=ufb X3 1;have g2:=ufb X3 2;have g3:=ufb X3 3;have g4:=ufb X3 4;have g5:=ufb X3 5;have g6:=ufb X3 6;obtain⟨i0,i1,i2,i3,i4,i5,i6⟩:=aM X3;have Z:=Hd (aM (dH X3 x))
 have D4:(gB w3 w.heap.size x).heap[b]?=some (.cells #[.slice (some ⟨g,0,none⟩) n vc] 160):=by
  have hne:∀ i,b≠(⟨w.heap.size,i,none⟩:Addr).block:=fun i=>by show b≠w.heap.size;omega
  unfold gB;rw[Below.heap_setCell _ _ _ _ (hne 6),Below.heap_setCell _ _ _ _ (hne 5),Below.heap_setCell _ _ _ _ (hne 4),Below.heap_setCell _ _ _ _ (hne 3),Below.heap_setCell _ _ _ _ (hne 2),Below.heap_setCell _ _ _ _ (hne 1),Below.heap_setCell _ _ _ _ (hne 0)];exact D3
 have F4:Frm (fun k=>k=b) w (gB w3 w.heap.size x):=cJ F3 _ _ (.inr (Nat.le_refl _));have END:Hid (Way (gB w3 w.heap.size x) b L F/\Frm (fun k=>k=b) w (gB w3 w.heap.size x)):=Hd ⟨FIN _ F4 D4,F4⟩;clear D4 F4 F3 D3 X3 Y3 FIN;unfold gB at Z END;go_wp2_with fail
 exact bodyPost_ret (v:=.agg #[.int .i64 x.p,x.i,x.fd,x.lf,x.ak x.lk x.ck,x.av x.lv x.cv,x.ac x.lc x.cc]) (by simp[results,Tryz.results110,go_sem,Z.1,Z.2.1,Z.2.2.1,Z.2.2.2.1,Z.2.2.2.2.1,Z.2.2.2.2.2.1,Z.2.2.2.2.2.2]) rfl ⟨rfl,END.o⟩
def LoR (lo:Nat)(ak av ac:Option Addr):Prop:=(∀ x,ak=some x->lo<=x.block)/\(∀ x,av=some x->lo<=x.block)/\∀ x,ac=some x->lo<=x.block
def KG (lo:Nat)(A B:Nod)(mid:Int)(e:Ending)(w':World):Prop:=∃ ak av ac ck cv cc bk bv bc dk dv dc,e=.returned (.tuple #[aJ A ak av ac ck cv cc,.int .u64 mid,aJ B bk bv bc dk dv dc,true])/\NodR w' A ak av ac ck cv cc/\NodR w' B bk bv bc dk dv dc/\LoR lo ak av ac/\LoR lo bk bv bc
theorem sY (n:Nod)(ak av ac:Option Addr)(ck cv cc:Nat)(w:World)(h:NodR w n ak av ac ck cv cc)(hw:bH n=true)(hl:cL n.leaf<=n.K.length)(mid:Int)(hm:n.K[cM n]?=some mid) :
  () 161 #[aJ n ak av ac ck cv cc] w fun e w'=>KG w.heap.size (aP n (cM n)) (aV n (cM n)) mid e w'/\Below w.heap.size w w':=by
 have hle2:2<=cL n.leaf:=by unfold cL;split <;> omega
 have hcl:=(yM n).2;have hc1:cM n+1<=n.K.length:=by unfold kV at hcl;omega
 have WH:=Hd (fun w=>gK n ak av ac ck cv cc w h.ok true hw);have LS:=Hd (fun w'=>BP n ak av ac ck cv cc w');have CU:=Hd (fun w' (hb:Below w.heap.size w w')=>aEC n ak av ac ck cv cc w' (h.below hb) hw hl);have AH:=Hd (fun w' (hb:Below w.heap.size w w')=>ED n ak av ac ck cv cc w' (h.below hb) (cM n) hw (by omega));have BH:=Hd (fun w' (hb:Below w.heap.size w w')=>TN n ak av ac ck cv cc w' (h.below hb) (cM n) hw hc1)
 have FK:Hid (∀ w',Below w.heap.size w w'->∃ b off,ak=some ⟨b,off,none⟩/\b<w'.heap.size/\w'.cell? ⟨b,off+cM n,none⟩=some (.int .u64 mid)):=Hd (fun w' hb=>by
  obtain⟨hq,hq2⟩:=List.getElem?_eq_some_iff.1 hm;obtain⟨b,off,q1,q2,q3⟩:=(h.below hb).k.at (cM n) (by simpa using hq);exact⟨b,off,q1,q2,by rw[q3];simp[bI,hq2]⟩)
 obtain⟨A,hA⟩:∃ A,aP n (cM n)=A:=⟨_,rfl⟩
 obtain⟨B,hB⟩:∃ B,aV n (cM n)=B:=⟨_,rfl⟩
 rw[hA] at AH |-;rw[hB] at BH |-;have hk1:=h.ok.k1;have hli:¬ (n.K.length:Int)<(cL n.leaf:Int):=by omega
 have hln:¬ n.K.length<cL n.leaf:=by omega
 have hci:(cM n:Int)<(n.K.length:Int):=by omega
 generalize cM n=c at *;obtain⟨kb,ko,rfl,-,-⟩:=FK w Br
 have FC:Hid (∀ w',Below w.heap.size w w'->w'.cell? ⟨kb,ko+c,none⟩=some (.int .u64 mid)):=Hd (fun w' hb=>by
  obtain⟨b,off,he,-,hc⟩:=FK w' hb
  cases he
  exact hc)
 clear h hw hl hm hA hB hcl hc1 hle2 FK;obtain⟨lf,K,V,C⟩:=n;unfold aJ at *
 dsimp only at *
 generalize K.length=lk at *;generalize V.length=lv at *;generalize C.length=lc at *;obtain⟨W,hW⟩:∃ W,((w.alloc (.cells #[lf,.slice (some ⟨kb,ko,none⟩) lk ck,av lv cv,ac lc cc] 166)).alloc (.cells #[false,.slice none 0 0,.slice none 0 0,.slice none 0 0] 166)).alloc (.cells #[false,.slice none 0 0,.slice none 0 0,.slice none 0 0] 166)=W:=⟨_,rfl⟩
 have hsz:(w.alloc (.cells #[lf,.slice (some ⟨kb,ko,none⟩) lk ck,av lv cv,ac lc cc] 166)).heap.size=w.heap.size+1:=by simp
 have hsz2:((w.alloc (.cells #[lf,.slice (some ⟨kb,ko,none⟩) lk ck,av lv cv,ac lc cc] 166)).alloc (.cells #[false,.slice none 0 0,.slice none 0 0,.slice none 0 0] 166)).heap.size=w.heap.size+2:=by simp
 have bW:Below w.heap.size w W:=by rw[<-hW];exact((Br.alloc (Nat.le_refl _) _).alloc (by simp) _).alloc (by simp;omega) _
 have XW:Hid (W.heap[w.heap.size]?=some (.cells #[lf,.slice (some ⟨kb,ko,none⟩) lk ck,av lv cv,ac lc cc] 166)):=Hd (by rw[<-hW];exact(hao _ _ (by simp;omega)).trans ((hao _ _ (by simp)).trans (han w _)));have Z1:Hid (W.heap[w.heap.size+1]?=some (.cells #[false,.slice none 0 0,.slice none 0 0,.slice none 0 0] 166)):=Hd (by rw[<-hW,<-hsz];exact(hao _ _ (by simp)).trans (han _ _))
 have Z2:Hid (W.heap[w.heap.size+2]?=some (.cells #[false,.slice none 0 0,.slice none 0 0,.slice none 0 0] 166)):=Hd (by rw[<-hW,<-hsz2];exact han _ _);have BW:=Hd bW;have HW:=Hd hW;clear bW hW hsz hsz2;go_enter Tryz.func161,Tryz.ntmps161;go_wp2_with fail;rw[HW.o];clear HW;refine wp_region_held_drew (S:=fun w'=>Below W.heap.size W w') (by kernel_rfl) (Below.refl W.heap.size W).drew (fun hS=>?_);refine Hv 0 7 ?vy0x1 hS ?hy0x1 ?_
 case hy0x1=>
  intro w9 s9;have X9:=kept XW s9;have c0:=cl X9 0 rfl;have c1:=cl X9 1 rfl;have c2:=cl X9 2 rfl;have c3:=cl X9 3 rfl;clear s9;go_simp;try (with_reducible rfl)
 simp only[SL];refine Hs 1 (fun K HK=>?_);go_simp;go_wp2_with fail;refine(WH _).mono ?_;rintro e v1 ⟨rfl,b1⟩;refine HK _ _ ?_ ?_
 ·exact chain hS b1
 clear HK K;try simp only[Act.put,SL]
 have hS9:=chain hS b1;clear hS;have hS:=hS9;clear hS9;clear b1;refine Hu 2 9 hS ?_;simp only[SL];refine Hu 3 10 hS ?_;simp only[SL];refine Hu 4 11 hS ?_;simp only[SL];refine Hv 5 12 ?vy5x5 hS ?hy5x5 ?_
 case hy5x5=>
  intro w9 s9;have X9:=kept XW s9;have c0:=cl X9 0 rfl;have c1:=cl X9 1 rfl;have c2:=cl X9 2 rfl;have c3:=cl X9 3 rfl;clear s9;go_simp;try (with_reducible rfl)
 simp only[SL];refine Hu 6 13 hS ?_;simp only[SL];refine Hv 7 14 ?vy7x7 hS ?hy7x7 ?_
 case hy7x7=>
  intro w9 s9;have X9:=kept XW s9;have c0:=cl X9 0 rfl;have c1:=cl X9 1 rfl;have c2:=cl X9 2 rfl;have c3:=cl X9 3 rfl;clear s9;go_simp;try (with_reducible rfl)
 simp only[SL];refine Hs 8 (fun K HK=>?_);go_simp;go_wp2_with fail;refine(LS _).mono ?_;rintro e v2 ⟨rfl,b2⟩;refine HK _ _ ?_ ?_
 ·exact chain hS b2
 clear HK K;try simp only[Act.put,SL]
 have hS9:=chain hS b2;clear hS;have hS:=hS9;clear hS9;clear b2;refine Hu 9 16 hS ?_;simp only[SL];refine Hu 10 17 hS ?_;simp only[SL];refine wpAnyH_done (by kernel_rfl) ?_ _;have H1:=Hd hS;clear hS;have X2:=Hd (kept XW H1.o);have Y1:=Hd (kept Z1 H1.o);have Y2:=Hd (kept Z2 H1.o);have B2:=Hd (chain BW H1.o);clear XW Z1 Z2 BW H1;have y0:=cl X2 0 rfl;have y1:=cl X2 1 rfl;have y2:=cl X2 2 rfl;have y3:=cl X2 3 rfl;go_wp2_with fail;refine(CU _ B2.o).mono ?_;rintro e v3 ⟨rfl,b3⟩;have X3:=Hd (kept X2 b3)
 have Y3:=Hd (kept Y1 b3);have Z3:=Hd (kept Y2 b3);have B3:=Hd (chain B2 b3);have hlt3:Hid (w.heap.size+2<v3.heap.size):=Hd (zl Z3.o);clear b3 X2 Y1 Y2 B2 y0 y1 y2 y3 CU;go_wp2_with fail;refine wp_region_held_drew (S:=fun w'=>Below (w.heap.size+1) v3 w') (by kernel_rfl) (Below.refl (w.heap.size+1) v3).drew (fun hS=>?_);refine Hv 0 22 ?vz0x1 hS ?hz0x1 ?_
 case hz0x1=>
  intro w9 s9;have X9:=(s9.block w.heap.size (by omega)).trans X3.o;have c0:=cl X9 0 rfl;have c1:=cl X9 1 rfl;have c2:=cl X9 2 rfl;have c3:=cl X9 3 rfl;clear s9;go_simp;try (with_reducible rfl)
 simp only[SL];refine Hu 1 23 hS ?_;simp only[SL];refine Hu 3 25 hS ?_;simp only[SL];refine Hv 4 26 ?vz4x4 hS ?hz4x4 ?_
 case hz4x4=>
  intro w9 s9;have X9:=(s9.block w.heap.size (by omega)).trans X3.o;have c0:=cl X9 0 rfl;have c1:=cl X9 1 rfl;have c2:=cl X9 2 rfl;have c3:=cl X9 3 rfl;clear s9;go_simp;try (with_reducible rfl)
 simp only[SL];refine Hu 5 27 hS ?_;simp only[SL];refine Hu 6 28 hS ?_;simp only[SL];refine Hv 7 29 ?vz7x7 hS ?hz7x7 ?_
 case hz7x7=>
  intro w9 s9;have c:=FC _ (B3.trans (s9.mono (by omega)));clear s9;go_simp;try (with_reducible rfl)
 simp only[SL];refine Hv 8 30 ?vz8x8 hS ?hz8x8 ?_
 case hz8x8=>
  intro w9 s9;have X9:=(s9.block w.heap.size (by omega)).trans X3.o;have c0:=cl X9 0 rfl;have c1:=cl X9 1 rfl;have c2:=cl X9 2 rfl;have c3:=cl X9 3 rfl;clear s9;go_simp;try (with_reducible rfl)
 simp only[SL];refine Hu 9 31 hS ?_;simp only[SL];refine Hs 2 (fun K HK=>?_);go_simp;go_wp2_with fail;refine(AH _ (B3.trans (hS.mono (by omega)))).mono ?_;rintro e u1 ⟨⟨xk,xv,xc,dk,dv,dc,rfl,hR1,q1,q2,q3⟩,b1⟩;have q1:=fun x hx=>Nat.le_trans hS.size (q1 x hx)
 have q2:=fun x hx=>Nat.le_trans hS.size (q2 x hx)
 have q3:=fun x hx=>Nat.le_trans hS.size (q3 x hx)
 simp only[aJ];refine HK _ _ ?_ ?_
 ·exact hS.trans (b1.mono (show w.heap.size+1<=_ from by have:=hlt3.o;have:=hS.size;omega))
 clear HK K;try simp only[Act.put,SL]
 have hS9:=hS.trans (b1.mono (show w.heap.size+1<=_ from by have:=hlt3.o;have:=hS.size;omega));clear hS;have hS:=hS9;clear hS9;have R1:=Hd hR1;have Q1:=Hd (And.intro q1 (And.intro q2 q3));have Y4:=Hd (kept (show v3.drew.heap[w.heap.size+1]?=_ from Y3.o) b1);have Z4:=Hd (kept (show v3.drew.heap[w.heap.size+2]?=_ from Z3.o) b1);clear b1 hR1 q1 q2 q3 Y3 Z3;refine Hs 10 (fun K HK=>?_);go_simp;go_wp2_with fail;refine(BH _ (B3.trans (hS.mono (by omega)))).mono ?_;rintro e u2 ⟨⟨yk,yv,yc,ek,ev,ec,rfl,hR2,q1,q2,q3⟩,b2⟩
 have q1:=fun x hx=>Nat.le_trans hS.size (q1 x hx)
 have q2:=fun x hx=>Nat.le_trans hS.size (q2 x hx)
 have q3:=fun x hx=>Nat.le_trans hS.size (q3 x hx)
 simp only[aJ];refine HK _ _ ?_ ?_
 ·exact hS.trans (b2.mono (show w.heap.size+1<=_ from by have:=hlt3.o;have:=hS.size;omega))
 clear HK K;try simp only[Act.put,SL]
 have hS9:=hS.trans (b2.mono (show w.heap.size+1<=_ from by have:=hlt3.o;have:=hS.size;omega));clear hS;have hS:=hS9;clear hS9;have R1':=Hd (R1.below b2);have R2:=Hd hR2;have Q2:=Hd (And.intro q1 (And.intro q2 q3));have Y5:=Hd (kept Y4 b2);have Z5:=Hd (kept Z4 b2);have L1:=Hd b2.size;clear b2 hR2 q1 q2 q3 Y4 Z4 R1;have y0:=cl Y5 0 rfl;have y1:=cl Y5 1 rfl;have y2:=cl Y5 2 rfl;have y3:=cl Y5 3 rfl;have f0:=ufb Y5 0;have f1:=ufb Y5 1;have f2:=ufb Y5 2;have f3:=ufb Y5 3;refine Hs 11 (fun K HK=>?_);go_simp
 refine HK _ _ ?_ ?_
 ·exact(((hS.setCell (Nat.le_refl _) _).setCell (Nat.le_refl _) _).setCell (Nat.le_refl _) _).setCell (Nat.le_refl _) _
 clear HK K;try simp only[Act.put,SL]
 have hne1:∀ i,w.heap.size+2≠(⟨w.heap.size+1,i,none⟩:Addr).block:=fun i=>by show w.heap.size+2≠w.heap.size+1;omega
 have XA:((((u2.setCell ⟨w.heap.size+1,0,none⟩ (.bool A.leaf)).setCell ⟨w.heap.size+1,1,none⟩ (.slice xk A.K.length dk)).setCell ⟨w.heap.size+1,2,none⟩ (.slice xv A.V.length dv)).setCell ⟨w.heap.size+1,3,none⟩ (.slice xc A.C.length dc)).heap[w.heap.size+1]?=some (.cells #[.bool A.leaf,xk A.K.length dk,xv A.V.length dv,xc A.C.length dc] 166):=by
  rw[hss _ _ 3 _ _ _ (hss _ _ 2 _ _ _ (hss _ _ 1 _ _ _ (hss _ _ 0 _ _ _ Y5.o)))]
  rfl
 have XZ:((((u2.setCell ⟨w.heap.size+1,0,none⟩ (.bool A.leaf)).setCell ⟨w.heap.size+1,1,none⟩ (.slice xk A.K.length dk)).setCell ⟨w.heap.size+1,2,none⟩ (.slice xv A.V.length dv)).setCell ⟨w.heap.size+1,3,none⟩ (.slice xc A.C.length dc)).heap[w.heap.size+2]?=some (.cells #[false,.slice none 0 0,.slice none 0 0,.slice none 0 0] 166):=by
  rw[Below.heap_setCell _ _ _ _ (hne1 3),Below.heap_setCell _ _ _ _ (hne1 2),Below.heap_setCell _ _ _ _ (hne1 1),Below.heap_setCell _ _ _ _ (hne1 0)];exact Z5.o
 have RA:NodR ((((u2.setCell ⟨w.heap.size+1,0,none⟩ (.bool A.leaf)).setCell ⟨w.heap.size+1,1,none⟩ (.slice xk A.K.length dk)).setCell ⟨w.heap.size+1,2,none⟩ (.slice xv A.V.length dv)).setCell ⟨w.heap.size+1,3,none⟩ (.slice xc A.C.length dc)) A xk xv xc dk dv dc:=R1'.set4 _ _ _ _ _ (fun x hx=>by have:=Q1.1 x hx;have:=hlt3.o;omega) (fun x hx=>by have:=Q1.2.1 x hx;have:=hlt3.o;omega) (fun x hx=>by have:=Q1.2.2 x hx;have:=hlt3.o;omega)
 have RB:NodR ((((u2.setCell ⟨w.heap.size+1,0,none⟩ (.bool A.leaf)).setCell ⟨w.heap.size+1,1,none⟩ (.slice xk A.K.length dk)).setCell ⟨w.heap.size+1,2,none⟩ (.slice xv A.V.length dv)).setCell ⟨w.heap.size+1,3,none⟩ (.slice xc A.C.length dc)) B yk yv yc ek ev ec:=R2.set4 _ _ _ _ _ (fun x hx=>by have:=Q2.1 x hx;have:=hlt3.o;omega) (fun x hx=>by have:=Q2.2.1 x hx;have:=hlt3.o;omega) (fun x hx=>by have:=Q2.2.2 x hx;have:=hlt3.o;omega)
 have hS9:Below (w.heap.size+1) v3 ((((u2.setCell ⟨w.heap.size+1,0,none⟩ (.bool A.leaf)).setCell ⟨w.heap.size+1,1,none⟩ (.slice xk A.K.length dk)).setCell ⟨w.heap.size+1,2,none⟩ (.slice xv A.V.length dv)).setCell ⟨w.heap.size+1,3,none⟩ (.slice xc A.C.length dc)):=(((hS.setCell (Nat.le_refl _) _).setCell (Nat.le_refl _) _).setCell (Nat.le_refl _) _).setCell (Nat.le_refl _) _;clear y0 y1 y2 y3 f0 f1 f2 f3 hne1 hS R1' R2 Y5 Z5
 obtain⟨wz,hwz⟩:∃ wz,((((u2.setCell ⟨w.heap.size+1,0,none⟩ (.bool A.leaf)).setCell ⟨w.heap.size+1,1,none⟩ (.slice xk A.K.length dk)).setCell ⟨w.heap.size+1,2,none⟩ (.slice xv A.V.length dv)).setCell ⟨w.heap.size+1,3,none⟩ (.slice xc A.C.length dc))=wz:=⟨_,rfl⟩
 rw[hwz] at XA XZ RA RB hS9 |-;clear hwz;have hS:=hS9;clear hS9;have XA':=Hd XA;have XZ':=Hd XZ;have RA':=Hd RA;have RB':=Hd RB;clear XA XZ RA RB;have y0:=cl (XZ'.o) 0 rfl;have y1:=cl (XZ'.o) 1 rfl;have y2:=cl (XZ'.o) 2 rfl;have y3:=cl (XZ'.o) 3 rfl;have f0:=ufb XZ' 0;have f1:=ufb XZ' 1;have f2:=ufb XZ' 2;have f3:=ufb XZ' 3;refine Hu 12 3 hS ?_;simp only[SL];refine Hs 13 (fun K HK=>?_);go_simp;refine HK _ _ ?_ ?_
 ·exact(((hS.setCell (by simp) _).setCell (by simp) _).setCell (by simp) _).setCell (by simp) _
 clear HK K;try simp only[Act.put,SL]
 have hne1:∀ i,w.heap.size+1≠(⟨w.heap.size+2,i,none⟩:Addr).block:=fun i=>by show w.heap.size+1≠w.heap.size+2;omega
 have XB:((((wz.setCell ⟨w.heap.size+2,0,none⟩ (.bool B.leaf)).setCell ⟨w.heap.size+2,1,none⟩ (.slice yk B.K.length ek)).setCell ⟨w.heap.size+2,2,none⟩ (.slice yv B.V.length ev)).setCell ⟨w.heap.size+2,3,none⟩ (.slice yc B.C.length ec)).heap[w.heap.size+2]?=some (.cells #[.bool B.leaf,yk B.K.length ek,yv B.V.length ev,yc B.C.length ec] 166):=by
  rw[hss _ _ 3 _ _ _ (hss _ _ 2 _ _ _ (hss _ _ 1 _ _ _ (hss _ _ 0 _ _ _ XZ'.o)))]
  rfl
 have XC:((((wz.setCell ⟨w.heap.size+2,0,none⟩ (.bool B.leaf)).setCell ⟨w.heap.size+2,1,none⟩ (.slice yk B.K.length ek)).setCell ⟨w.heap.size+2,2,none⟩ (.slice yv B.V.length ev)).setCell ⟨w.heap.size+2,3,none⟩ (.slice yc B.C.length ec)).heap[w.heap.size+1]?=some (.cells #[.bool A.leaf,xk A.K.length dk,xv A.V.length dv,xc A.C.length dc] 166):=by
  rw[Below.heap_setCell _ _ _ _ (hne1 3),Below.heap_setCell _ _ _ _ (hne1 2),Below.heap_setCell _ _ _ _ (hne1 1),Below.heap_setCell _ _ _ _ (hne1 0)];exact XA'.o
 have RA:NodR ((((wz.setCell ⟨w.heap.size+2,0,none⟩ (.bool B.leaf)).setCell ⟨w.heap.size+2,1,none⟩ (.slice yk B.K.length ek)).setCell ⟨w.heap.size+2,2,none⟩ (.slice yv B.V.length ev)).setCell ⟨w.heap.size+2,3,none⟩ (.slice yc B.C.length ec)) A xk xv xc dk dv dc:=RA'.set4 _ _ _ _ _ (fun x hx=>by have:=Q1.1 x hx;have:=hlt3.o;omega) (fun x hx=>by have:=Q1.2.1 x hx;have:=hlt3.o;omega) (fun x hx=>by have:=Q1.2.2 x hx;have:=hlt3.o;omega)
 have RB:NodR ((((wz.setCell ⟨w.heap.size+2,0,none⟩ (.bool B.leaf)).setCell ⟨w.heap.size+2,1,none⟩ (.slice yk B.K.length ek)).setCell ⟨w.heap.size+2,2,none⟩ (.slice yv B.V.length ev)).setCell ⟨w.heap.size+2,3,none⟩ (.slice yc B.C.length ec)) B yk yv yc ek ev ec:=RB'.set4 _ _ _ _ _ (fun x hx=>by have:=Q2.1 x hx;have:=hlt3.o;omega) (fun x hx=>by have:=Q2.2.1 x hx;have:=hlt3.o;omega) (fun x hx=>by have:=Q2.2.2 x hx;have:=hlt3.o;omega)
 have hS9:Below (w.heap.size+1) v3 ((((wz.setCell ⟨w.heap.size+2,0,none⟩ (.bool B.leaf)).setCell ⟨w.heap.size+2,1,none⟩ (.slice yk B.K.length ek)).setCell ⟨w.heap.size+2,2,none⟩ (.slice yv B.V.length ev)).setCell ⟨w.heap.size+2,3,none⟩ (.slice yc B.C.length ec)):=(((hS.setCell (by simp) _).setCell (by simp) _).setCell (by simp) _).setCell (by simp) _;clear y0 y1 y2 y3 f0 f1 f2 f3 hne1 hS
 obtain⟨wy,hwy⟩:∃ wy,((((wz.setCell ⟨w.heap.size+2,0,none⟩ (.bool B.leaf)).setCell ⟨w.heap.size+2,1,none⟩ (.slice yk B.K.length ek)).setCell ⟨w.heap.size+2,2,none⟩ (.slice yv B.V.length ev)).setCell ⟨w.heap.size+2,3,none⟩ (.slice yc B.C.length ec))=wy:=⟨_,rfl⟩
 rw[hwy] at XB XC RA RB hS9 |-;clear hwy;have hS:=hS9;clear hS9;refine Hu 14 5 hS ?_;simp only[SL];refine wpAnyH_done (by kernel_rfl) ?_ _;have FIN:Hid (Below w.heap.size w wy):=Hd (B3.trans (hS.mono (by omega)));have z10:=cl XC 0 rfl;have z11:=cl XC 1 rfl;have z12:=cl XC 2 rfl;have z13:=cl XC 3 rfl;have z20:=cl XB 0 rfl;have z21:=cl XB 1 rfl;have z22:=cl XB 2 rfl;have z23:=cl XB 3 rfl;have RES:Hid (NodR wy A xk xv xc dk dv dc/\NodR wy B yk yv yc ek ev ec):=Hd ⟨RA,RB⟩
 have LOS:Hid (LoR w.heap.size xk xv xc/\LoR w.heap.size yk yv yc):=Hd ⟨⟨fun x hx=>by have:=Q1.1 x hx;have:=hlt3.o;omega,fun x hx=>by have:=Q1.2.1 x hx;have:=hlt3.o;omega,fun x hx=>by have:=Q1.2.2 x hx;have:=hlt3.o;omega⟩,fun x hx=>by have:=Q2.1 x hx;have:=hlt3.o;omega,fun x hx=>by have:=Q2.2.1 x hx;have:=hlt3.o;omega,fun x hx=>by have:=Q2.2.2 x hx;have:=hlt3.o;omega⟩;clear RA RB XC XB hS;go_wp2_with fail
 exact bodyPost_ret (v:=.tuple #[.agg #[.bool A.leaf,xk A.K.length dk,xv A.V.length dv,xc A.C.length dc],.int .u64 mid,.agg #[.bool B.leaf,yk B.K.length ek,yv B.V.length ev,yc B.C.length ec],true]) (by simp[results,Tryz.results161,go_sem,z10,z11,z12,z13,z20,z21,z22,z23]) rfl ⟨⟨xk,xv,xc,dk,dv,dc,yk,yv,yc,ek,ev,ec,rfl,RES.1,RES.2,LOS.1,LOS.2⟩,FIN.o⟩
theorem Rd.frm {w w':World}{a:Option Addr}{L:List Value}{G:Nat->Prop}(h:Rd w a L)(hf:Frm G w w')(hn:∀ x,a=some x->L≠[]->¬ G x.block):Rd w' a L:=by
 rcases h with h|⟨b,off,h1,h2,h3⟩
 ·exact .inl h
 ·by_cases hL:L=[]
  ·exact .inl hL
  ·refine .inr ⟨b,off,h1,Nat.lt_of_lt_of_le h2 hf.size,fun i u hu=>?_⟩
   have hb:=hf.block b h2 (hn _ h1 hL);have:=h3 i u hu;unfold World.cell? at this |-;rw[show w'.heap[(⟨b,off+i,none⟩:Addr).block]?=w.heap[(⟨b,off+i,none⟩:Addr).block]? from hb];exact this
theorem Rd.blk {w:World}{a:Option Addr}{L:List Value}(h:Rd w a L)(hL:L≠[]):∀ x,a=some x->x.block<w.heap.size:=by
 intro x hx
 rcases h with h|⟨b,off,h1,h2,h3⟩
 ·exact absurd h hL
 ·rw[h1] at hx;injection hx with hx;subst hx;exact h2
theorem Unf.frm {w w':World}{a:Option Addr}{G:Nat->Prop}(h:Unf w a)(hf:Frm G w w')(hn:∀ x,a=some x->¬ G x.block):Unf w' a:=by
 intro x hx;obtain⟨h1,h2⟩:=h x hx;refine⟨Nat.lt_of_lt_of_le h1 hf.size,fun i=>?_⟩;have:=h2 i;unfold World.frozen? at this |-;rw[show w'.heap[(⟨x.block,i,none⟩:Addr).block]?=w.heap[(⟨x.block,i,none⟩:Addr).block]? from hf.block x.block h1 (hn x hx)];exact this
structure RowsA (w:World)(n:Nod)(ak av ac:Option Addr)(ck cv cc:Nat)(Z:Nat->Prop):Prop where
 r:NodR w n ak av ac ck cv cc
 zk:∀ x,ak=some x->n.K≠[]->¬ Z x.block
 zv:∀ x,av=some x->n.V≠[]->¬ Z x.block
 zc:∀ x,ac=some x->n.C≠[]->¬ Z x.block
theorem RowsA.frm {w w':World}{n:Nod}{ak av ac:Option Addr}{ck cv cc:Nat}{Z G:Nat->Prop}(h:RowsA w n ak av ac ck cv cc Z)(hf:Frm G w w')(hG:∀ k,G k->Z k):RowsA w' n ak av ac ck cv cc Z:=
 { h with r:={ h.r with
   k:=h.r.k.frm hf fun x hx hL hg=>h.zk x hx (fun e=>hL (by rw[e];rfl)) (hG _ hg)
   v:=h.r.v.frm hf fun x hx hL hg=>h.zv x hx (fun e=>hL (by rw[e];rfl)) (hG _ hg)
   c:=h.r.c.frm hf fun x hx hL hg=>h.zc x hx (fun e=>hL (by rw[e];rfl)) (hG _ hg) } }
theorem RowsA.below {w w':World}{n:Nod}{ak av ac:Option Addr}{ck cv cc:Nat}{Z:Nat->Prop}(h:RowsA w n ak av ac ck cv cc Z)(hb:Below w.heap.size w w'):RowsA w' n ak av ac ck cv cc Z:={ h with r:=h.r.below hb }
theorem RowsA.grow {w:World}{n:Nod}{ak av ac:Option Addr}{ck cv cc:Nat}{Z Z':Nat->Prop}(h:RowsA w n ak av ac ck cv cc Z)(hZ:∀ k,Z' k->Z k\/w.heap.size<=k):RowsA w n ak av ac ck cv cc Z':=by
 refine⟨h.r,fun x hx hL hz=>?_,fun x hx hL hz=>?_,fun x hx hL hz=>?_⟩
 ·rcases hZ _ hz with h1|h1
  ·exact h.zk x hx hL h1
  ·have:=h.r.k.blk (fun e=>hL (List.map_eq_nil_iff.1 e)) x hx;omega
 ·rcases hZ _ hz with h1|h1
  ·exact h.zv x hx hL h1
  ·have:=h.r.v.blk (fun e=>hL (List.map_eq_nil_iff.1 e)) x hx;omega
 ·rcases hZ _ hz with h1|h1
  ·exact h.zc x hx hL h1
  ·have:=h.r.c.blk (fun e=>hL (List.map_eq_nil_iff.1 e)) x hx;omega
theorem RowsA.mono {w:World}{n:Nod}{ak av ac:Option Addr}{ck cv cc:Nat}{Z Z':Nat->Prop}(h:RowsA w n ak av ac ck cv cc Z)(hZ:∀ k,Z' k->Z k):RowsA w n ak av ac ck cv cc Z':=h.grow fun k hk=>.inl (hZ k hk)
theorem RowsA.new {w:World}{n:Nod}{ak av ac:Option Addr}{ck cv cc lo:Nat}{Z:Nat->Prop}(h:NodR w n ak av ac ck cv cc)(h1:∀ x,ak=some x->lo<=x.block)(h2:∀ x,av=some x->lo<=x.block)(h3:∀ x,ac=some x->lo<=x.block)(hZ:∀ k,Z k->k<lo):RowsA w n ak av ac ck cv cc Z:=
 ⟨h,fun x hx _ hz=>by have:=h1 x hx;have:=hZ _ hz;omega,fun x hx _ hz=>by have:=h2 x hx;have:=hZ _ hz;omega,fun x hx _ hz=>by have:=h3 x hx;have:=hZ _ hz;omega⟩
def eJ (p i:Int)(fd:Bool)(M:Nod)(ak av ac:Option Addr)(ck cv cc:Nat):StepV:=⟨p,i,fd,M.leaf,ak,M.K.length,ck,av,M.V.length,cv,ac,M.C.length,cc⟩
structure StepA (w:World)(x:StepV)(M:Nod)(Z:Nat->Prop):Prop where
 a:RowsA w M x.ak x.av x.ac x.ck x.cv x.cc Z
 lf:x.lf=M.leaf
 lk:x.lk=M.K.length
 lv:x.lv=M.V.length
 lc:x.lc=M.C.length
 uk:Unf w x.ak
 uc:Unf w x.ac
 zk:∀ y,x.ak=some y->¬ Z y.block
 zc:∀ y,x.ac=some y->¬ Z y.block
theorem StepA.frm {w w':World}{x:StepV}{M:Nod}{Z G:Nat->Prop}(h:StepA w x M Z)(hf:Frm G w w')(hG:∀ k,G k->Z k):StepA w' x M Z:=
 { h with
  a:=h.a.frm hf hG
  uk:=h.uk.frm hf fun y hy hg=>h.zk y hy (hG _ hg)
  uc:=h.uc.frm hf fun y hy hg=>h.zc y hy (hG _ hg) }
theorem StepA.grow {w:World}{x:StepV}{M:Nod}{Z Z':Nat->Prop}(h:StepA w x M Z)(hZ:∀ k,Z' k->Z k\/w.heap.size<=k):StepA w x M Z':=
 { h with
  a:=h.a.grow hZ
  zk:=fun y hy hz=>by rcases hZ _ hz with h1|h1;exact h.zk y hy h1;have:=(h.uk y hy).1;omega
  zc:=fun y hy hz=>by rcases hZ _ hz with h1|h1;exact h.zc y hy h1;have:=(h.uc y hy).1;omega }
def StepsA (w:World)(Z:Nat->Prop):List StepV->List aL->Nat->Prop
 | [],[],_=>True
 | x::xs,f::fs,hi=>∃ lo,StepA w x f.N Z/\x.p=f.page/\x.i=(f.KA.length:Int)/\(∀ y,x.ak=some y->lo<=y.block/\y.block<hi)/\(∀ y,x.ac=some y->lo<=y.block/\y.block<hi)/\lo<=hi/\StepsA w Z xs fs lo
 | _,_,_=>False
theorem StepsA.frm {w w':World}{Z G:Nat->Prop}(hf:Frm G w w')(hG:∀ k,G k->Z k):∀ (xs:List StepV) (fs:List aL) (hi:Nat),StepsA w Z xs fs hi->StepsA w' Z xs fs hi:=by
 intro xs
 induction xs with
 | nil=>intro fs hi h;cases fs with|nil=>trivial|cons f fs=>exact h.elim
 | cons x xs ih=>
  intro fs hi h
  cases fs with
  | nil=>exact h.elim
  | cons f fs=>
   obtain⟨lo,h1,h2,h3,h4,h5,h6,h7⟩:=h;exact⟨lo,h1.frm hf hG,h2,h3,h4,h5,h6,ih fs lo h7⟩
theorem StepsA.grow {w:World}{Z Z':Nat->Prop}(hZ:∀ k,Z' k->Z k\/w.heap.size<=k):∀ (xs:List StepV) (fs:List aL) (hi:Nat),StepsA w Z xs fs hi->StepsA w Z' xs fs hi:=by
 intro xs
 induction xs with
 | nil=>intro fs hi h;cases fs with|nil=>trivial|cons f fs=>exact h.elim
 | cons x xs ih=>
  intro fs hi h
  cases fs with
  | nil=>exact h.elim
  | cons f fs=>
   obtain⟨lo,h1,h2,h3,h4,h5,h6,h7⟩:=h;exact⟨lo,h1.grow hZ,h2,h3,h4,h5,h6,ih fs lo h7⟩
theorem StepsA.len {w:World}{Z:Nat->Prop}:∀ (xs:List StepV) (fs:List aL) (hi:Nat),StepsA w Z xs fs hi->xs.length=fs.length:=by
 intro xs
 induction xs with
 | nil=>intro fs hi h;cases fs with|nil=>rfl|cons f fs=>exact h.elim
 | cons x xs ih=>
  intro fs hi h
  cases fs with
  | nil=>exact h.elim
  | cons f fs=>obtain⟨lo,_,_,_,_,_,_,h7⟩:=h;simp[ih fs lo h7]
structure aFS (w:World)(d s g:Nat)(dk:DkS)(st:ShS)(r:Nat)(F:Nat->Prop)(F0:List Mk)(P0:List Int)(key:Int)(H:Nat)(v:Value)(w':World)(fs:List aL)(xs:List StepV)(x:StepV)(M:Nod)(i:Nat)(fd:Bool)(FL FR Fh:List Mk)(PC:List Int)(hi:Nat):Prop where
 own:w'.ownsRow 0 168 7 v (xs.reverse++[x]).length (iR (xs.reverse++[x]))
 lo:∀ k,v.ownBlock=some k->w.heap.size<=k
 ts:TS w' d s g dk st (r+H+1) F
 fr:Frm (fun k=>k=g) w w'
 st:StepsA w' (fun k=>F k\/v.ownBlock=some k) xs fs hi
 rl:∀ x∈xs,(∀ y,x.ak=some y->w.heap.size<=y.block)/\∀ y,x.ac=some y->w.heap.size<=y.block
 hi:hi<=w'.heap.size
 lf:StepA w' x M (fun k=>F k\/v.ownBlock=some k)
 xp:Rn dk x.p=some M
 xi:x.i=(i:Int)
 xf:x.fd=fd
 fn:bX M key=(i,fd)
 ctx:Ctx (Rn dk) fs 0 FL FR PC
 nt:fT (Rn dk) 0 M Fh []
 eF:FL++Fh++FR=F0
 eP:(x.p::PC).Perm P0
 bL:∀ m∈FL,dK m<2*key+1
 bR:∀ m∈FR,2*key+1<dK m
 ln:fs.length=H
structure xC (w:World)(d s g:Nat)(dk:DkS)(st:ShS)(r:Nat)(F:Nat->Prop)(F0:List Mk)(P0:List Int)(key:Int)(H:Nat)(wr:World)(pg:Int)(hh:Nat)(fs:List aL)(xs:List StepV)(FL FR Fh:List Mk)(PC Ph:List Int)(FW:Nat->Prop)(hi:Nat):Prop where
 ts:TS wr d s g dk st (r+fs.length) F
 fr:Frm (fun k=>k=g) w wr
 way:Way wr (w.heap.size+1) xs.reverse FW
 wlo:∀ k,FW k->w.heap.size+1<=k
 res:wr.heap[w.heap.size]?=some (.cells #[.slice none 0 0] 160)
 st:StepsA wr (fun k=>F k\/FW k\/k=w.heap.size) xs fs hi
 rl:∀ x∈xs,(∀ y,x.ak=some y->w.heap.size<=y.block)/\∀ y,x.ac=some y->w.heap.size<=y.block
 hi:hi<=wr.heap.size
 ctx:Ctx (Rn dk) fs hh FL FR PC
 it:IsT (Rn dk) hh pg Fh Ph
 eF:FL++Fh++FR=F0
 eP:(PC++Ph).Perm P0
 bL:∀ m∈FL,dK m<2*key+1
 bR:∀ m∈FR,2*key+1<dK m
 ln:fs.length+hh=H
theorem StepsA.hi {w:World}{Z:Nat->Prop}{hi hi':Nat}(hh:hi<=hi'):∀ (xs:List StepV) (fs:List aL),StepsA w Z xs fs hi->StepsA w Z xs fs hi':=by
 intro xs fs h
 cases xs with
 | nil=>cases fs with|nil=>trivial|cons f fs=>exact h.elim
 | cons x xs=>
  cases fs with
  | nil=>exact h.elim
  | cons f fs=>
   obtain⟨lo,h1,h2,h3,h4,h5,h6,h7⟩:=h;exact⟨lo,h1,h2,h3,fun y hy=>⟨(h4 y hy).1,Nat.lt_of_lt_of_le (h4 y hy).2 hh⟩,fun y hy=>⟨(h5 y hy).1,Nat.lt_of_lt_of_le (h5 y hy).2 hh⟩,Nat.le_trans h6 hh,h7⟩
theorem StepsA.mono {w:World}{Z Z':Nat->Prop}(hZ:∀ k,Z' k->Z k)(xs:List StepV)(fs:List aL)(hi:Nat)(h:StepsA w Z xs fs hi):StepsA w Z' xs fs hi:=StepsA.grow (fun k hk=>.inl (hZ k hk)) xs fs hi h
structure ZT (w:World)(d s g:Nat)(dk:DkS)(st:ShS)(r:Nat)(F:Nat->Prop)(wr w4:World)(n:Nat)(fs:List aL)(xs:List StepV)(x:StepV)(M:Nod)(FW':Nat->Prop)(hi:Nat):Prop where
 ts:TS w4 d s g dk st (r+n+1) F
 fr:Frm (fun k=>k=g) w w4
 way:Way w4 (w.heap.size+1) (xs.reverse++[x]) FW'
 wlo:∀ k,FW' k->w.heap.size+1<=k
 res:w4.heap[w.heap.size]?=some (.cells #[.slice none 0 0] 160)
 st:StepsA w4 (fun k=>F k\/FW' k\/k=w.heap.size) xs fs hi
 sx:StepA w4 x M (fun k=>F k\/FW' k\/k=w.heap.size)
 ka:∀ y,x.ak=some y->wr.heap.size<=y.block/\y.block<w4.heap.size
 kc:∀ y,x.ac=some y->wr.heap.size<=y.block/\y.block<w4.heap.size
 sz:wr.heap.size<=w4.heap.size
 lo:hi<=wr.heap.size
theorem SR {w:World}{d s g:Nat}{dk:DkS}{st:ShS}{r:Nat}{F:Nat->Prop}{F0:List Mk}{P0:List Int}{key:Int}{H:Nat}{wr:World}{pg:Int}{hh:Nat}{fs:List aL}{xs:List StepV}{FL FR Fh:List Mk}{PC Ph:List Int}{FW FW':Nat->Prop}{hi:Nat}
  (hL:∀ k,F k->k<w.heap.size)(hg:g<w.heap.size)(hJ:xC w d s g dk st r F F0 P0 key H wr pg hh fs xs FL FR Fh PC Ph FW hi){w1 w3 w4:World}{M:Nod}{ak av ac:Option Addr}{ck cv cc:Nat}(hR:NodR w1 M ak av ac ck cv cc)(hq:(∀ x,ak=some x->wr.heap.size<=x.block)/\(∀ x,av=some x->wr.heap.size<=x.block)/\∀ x,ac=some x->wr.heap.size<=x.block)
  (hu:Unf w1 ak/\Unf w1 ac)(hts:TS w1 d s g dk st (r+fs.length+1) F)(hfr:Frm (fun k=>k=g) wr w1)(hb:Below w1.heap.size w1 w3)(p i:Int)(fd:Bool)
  (hway:Way w4 (w.heap.size+1) (xs.reverse++[eJ p i fd M ak av ac ck cv cc]) FW')(hf4:Frm FW w3 w4)(hn4:∀ k,FW' k->FW k\/w3.heap.size<=k) :
  ZT w d s g dk st r F wr w4 fs.length fs xs (eJ p i fd M ak av ac ck cv cc) M FW' hi:=by
 have hWlt:∀ k,FW k->k<wr.heap.size:=hJ.way.lt;have s1:=hfr.size;have s2:=hb.size;have s3:=hf4.size
 have hws:w.heap.size+1<wr.heap.size:=by
  obtain⟨v,hv,_⟩:=hJ.way;exact(zl hv.box)
 have f13:Frm (fun k=>k=g) wr w3:=hfr.trans (G:=fun _=>False) (Frm.of_below hb) (fun _ hx=>hx.elim);have f4:Frm (fun k=>k=g\/FW k) wr w4:=(f13.mono (fun k hk=>.inl hk)).trans hf4 (fun k hk=>.inl (.inr hk));have Flt:∀ k,F k->k<wr.heap.size:=hJ.ts.lt;have inFW:∀ k,FW' k->FW k\/wr.heap.size<=k:=fun k hk=>(hn4 k hk).imp id (fun h=>by omega)
 have gF:F g:=by obtain⟨_,_,_,he⟩:=hJ.ts;exact(he g).2 (.inr (.inr rfl))
 have r3:=hR.below hb
 have grw:∀ k,(F k\/FW k\/FW' k\/k=w.heap.size)->(F k\/FW k\/k=w.heap.size)\/w3.heap.size<=k:=by
  rintro k (hk|hk|hk|hk)
  ·exact .inl (.inl hk)
  ·exact .inl (.inr (.inl hk))
  ·rcases hn4 k hk with h|h
   ·exact .inl (.inr (.inl h))
   ·exact .inr h
  ·exact .inl (.inr (.inr hk))
 have toZ:∀ k,(F k\/FW' k\/k=w.heap.size)->(F k\/FW k\/FW' k\/k=w.heap.size):=by
  rintro k (hk|hk|hk)
  ·exact .inl hk
  ·exact .inr (.inr (.inl hk))
  ·exact .inr (.inr (.inr hk))
 have Zlt:∀ k,(F k\/FW k\/k=w.heap.size)->k<wr.heap.size:=by
  rintro k (hk|hk|hk)
  ·exact Flt k hk
  ·exact hWlt k hk
  ·omega
 have sx3:StepA w3 (eJ p i fd M ak av ac ck cv cc) M (fun k=>F k\/FW k\/k=w.heap.size):=
  {a:=(RowsA.new (lo:=wr.heap.size) hR hq.1 hq.2.1 hq.2.2 Zlt).below hb
   lf:=rfl
   lk:=rfl
   lv:=rfl
   lc:=rfl
   uk:=hu.1.below hb
   uc:=hu.2.below hb
   zk:=fun y hy hz=>by have:=hq.1 y hy;have:=Zlt _ hz;omega
   zc:=fun y hy hz=>by have:=hq.2.2 y hy;have:=Zlt _ hz;omega }
 refine⟨?_,?_,hway,?_,?_,?_,?_,?_,?_,by omega,hJ.hi⟩
 ·exact(hts.below hb).frm hf4 (fun k hk hw=>by have:=hL k hk;have:=hJ.wlo k hw;omega)
 ·exact hJ.fr.trans f4 (fun k hk=>by
   rcases hk with hk|hk
   ·exact .inl hk
   ·exact .inr (by have:=hJ.wlo k hk;omega))
 ·intro k hk
  rcases inFW k hk with h|h
  ·exact hJ.wlo k h
  ·omega
 ·refine(f4.block _ (by omega) ?_).trans hJ.res
  rintro(h|h)
  ·omega
  ·have:=hJ.wlo _ h;omega
 ·exact StepsA.mono toZ _ _ _ (StepsA.frm hf4 (fun k hk=>.inr (.inl hk)) xs fs hi (StepsA.grow grw _ _ _ (StepsA.frm f13 (fun k hk=>by subst hk;exact .inl gF) xs fs hi hJ.st)))
 ·exact(sx3.grow grw |>.frm hf4 (fun k hk=>.inr (.inl hk))).grow (fun k hk=>.inl (toZ k hk))
 ·intro y hy
  exact⟨hq.1 y hy,by have:=(hu.1 y hy).1;omega⟩
 ·intro y hy
  exact⟨hq.2.2 y hy,by have:=(hu.2 y hy).1;omega⟩
def GM (g:Nat)(w:World):Nat:=match w.cell? ⟨g,1,none⟩ with|some (.int _ n)=>n.toNat|_=>0
theorem vY {w:World}{d s g r:Nat}{dk:DkS}{st:ShS}{F:Nat->Prop}(h:TS w d s g dk st r F):GM g w=r:=by
 obtain⟨FD,FS,hi,_⟩:=h;unfold GM;rw[(cH hi.v).2.1];simp
def EH (w:World)(d s g:Nat)(dk:DkS)(st:ShS)(r:Nat)(F:Nat->Prop)(F0:List Mk)(P0:List Int)(key:Int)(H:Nat)(e:Ending)(w':World):Prop:=
 ∃ v fs xs x M i fd FL FR Fh PC hi,e=.returned (.tuple #[.agg #[v],(0:Int)])/\aFS w d s g dk st r F F0 P0 key H v w' fs xs x M i fd FL FR Fh PC hi
theorem SS {w:World}{d s g:Nat}{dk:DkS}{st:ShS}{r:Nat}{F:Nat->Prop}{F0:List Mk}{P0:List Int}{key:Int}{H:Nat}{wr w4:World}{pg:Int}{h:Nat}{fs:List aL}{xs:List StepV}{FL FR Fh:List Mk}{PC Ph PM:List Int}{FW FW':Nat->Prop}{hi i:Nat}{fd:Bool}{M:Nod}{ak av ac:Option Addr}{ck cv cc:Nat}
  (hs:bY F0)(hJ:xC w d s g dk st r F F0 P0 key H wr pg (h+1) fs xs FL FR Fh PC Ph FW hi)(m1:Rn dk pg=some M)(m2:M.K≠[])(m3:fT (Rn dk) (h+1) M Fh PM)(m4:Ph=pg::PM)(hf:bX M key=(i,fd))
  (hS:ZT w d s g dk st r F wr w4 fs.length fs xs (eJ pg (i:Int) fd M ak av ac ck cv cc) M FW' hi) :
  ∃ q,M.C[i]?=some q/\∃ fs' FL' FR' Fh' PC' Ph' hi',fs'.length=fs.length+1/\xC w d s g dk st r F F0 P0 key H w4 q h fs' (eJ pg (i:Int) fd M ak av ac ck cv cc::xs) FL' FR' Fh' PC' Ph' FW' hi':=by
 have hs1:bY Fh:=by
  have:=hJ.eF;rw[<-this] at hs;exact(aH.1 (aH.1 hs).1).2.1
 obtain⟨f,q,f1,f2,f3,f4,f5,f6,f7,f8,f9,f10⟩:=ZA (fun p M h=>mY h) hJ.ctx m1 m2 m3 hs1 key;rw[hf] at f3;injection f3 with e1 e2;subst e1
 refine⟨q.p,f4,f::fs,_,_,q.F,_,q.P,w4.heap.size,rfl,
  {ts:=hS.ts
   fr:=hS.fr
   way:=by rw[List.reverse_cons];exact hS.way
   wlo:=hS.wlo
   res:=hS.res
   st:=⟨wr.heap.size,by rw[f2];exact hS.sx,f1.symm,rfl,hS.ka,hS.kc,hS.sz,StepsA.hi hS.lo xs fs hS.st⟩
   rl:=fun y hy=>by
    have:=hJ.fr.size
    rcases List.mem_cons.1 hy with rfl|hy
    ·exact⟨fun z hz=>by have:=(hS.ka z hz).1;omega,fun z hz=>by have:=(hS.kc z hz).1;omega⟩
    ·exact hJ.rl y hy
   hi:=Nat.le_refl _
   ctx:=f6
   it:=f5
   eF:=?_
   eP:=?_
   bL:=fun m hm=>(List.mem_append.1 hm).elim (hJ.bL m) (f8 m)
   bR:=fun m hm=>(List.mem_append.1 hm).elim (f9 m) (hJ.bR m)
   ln:=by have:=hJ.ln;rw[List.length_cons];omega }⟩
 ·rw[<-hJ.eF,f7];simp
 ·refine List.Perm.trans ?_ hJ.eP
  rw[m4,f10];refine List.Perm.trans ?_ List.perm_middle.symm;rw[List.cons_append];refine List.Perm.cons _ ?_
  have e:(kPs f.A++kPs f.B++PC++q.P).Perm (PC++(kPs f.A++kPs f.B++q.P)):=by
   rw[List.append_assoc (kPs f.A++kPs f.B)];refine(List.perm_append_comm (l₁:=kPs f.A++kPs f.B) (l₂:=PC++q.P)).trans ?_;rw[List.append_assoc];exact List.Perm.append_left _ List.perm_append_comm
  refine e.trans (List.Perm.append_left _ ?_);rw[List.append_assoc,List.append_assoc];exact List.Perm.append_left _ List.perm_append_comm
theorem SV {w:World}{d s g:Nat}{dk:DkS}{st:ShS}{r:Nat}{F:Nat->Prop}{F0:List Mk}{P0:List Int}{key:Int}{H:Nat}{wr w4:World}{pg:Int}{fs:List aL}{xs:List StepV}{FL FR Fh:List Mk}{PC Ph PM:List Int}{FW FW':Nat->Prop}{hi i:Nat}{fd:Bool}{M:Nod}{ak av ac:Option Addr}{ck cv cc:Nat}
  (hg:g<w.heap.size)(hL:∀ k,F k->k<w.heap.size)(hJ:xC w d s g dk st r F F0 P0 key H wr pg 0 fs xs FL FR Fh PC Ph FW hi)(m1:Rn dk pg=some M)(m3:fT (Rn dk) 0 M Fh PM)(m4:Ph=pg::PM)(hf:bX M key=(i,fd))
  (hS:ZT w d s g dk st r F wr w4 fs.length fs xs (eJ pg (i:Int) fd M ak av ac ck cv cc) M FW' hi) :
  ∃ va n vc,w4.heap[w.heap.size+1]?=some (.cells #[.slice va n vc] 160)/\EH w d s g dk st r F F0 P0 key H (.returned (.tuple #[.agg #[.slice va n vc],(0:Int)])) (w4.setCell ⟨w.heap.size,0,none⟩ (.slice va n vc)):=by
 obtain⟨v,hv,he⟩:=hS.way;obtain⟨va,vc,rfl,_,_⟩:=bP hv.own;have fr5:Frm (fun k=>k=w.heap.size) w4 (w4.setCell ⟨w.heap.size,0,none⟩ (.slice va (xs.reverse++[eJ pg (i:Int) fd M ak av ac ck cv cc]).length vc)):=(Frm.refl _ w4).setCell _ _ (.inl rfl);have hPM:PM=[]:=m3.2.2.2.2;have olo:∀ k,(Value.slice va (xs.reverse++[eJ pg (i:Int) fd M ak av ac ck cv cc]).length vc).ownBlock=some k->w.heap.size+1<=k:=fun k hk=>hS.wlo k ((he k).2 (.inr hk))
 have toZ:∀ k,(F k\/(Value.slice va (xs.reverse++[eJ pg (i:Int) fd M ak av ac ck cv cc]).length vc).ownBlock=some k)->(F k\/FW' k\/k=w.heap.size):=by
  rintro k (hk|hk)
  ·exact .inl hk
  ·exact .inr (.inl ((he k).2 (.inr hk)))
 have hln:=hJ.ln
 refine⟨va,_,vc,hv.box,_,fs,xs,eJ pg (i:Int) fd M ak av ac ck cv cc,M,i,fd,FL,FR,Fh,PC,hi,rfl,
  {own:=gZ hv.own fr5 (fun k hk e=>by have:=olo k hk;omega)
   lo:=fun k hk=>by have:=olo k hk;omega
   ts:=by rw[show H=fs.length by omega];exact hS.ts.frm fr5 (fun k hk e=>by have:=hL k hk;omega)
   fr:=hS.fr.trans fr5 (fun k hk=>.inr (by subst hk;exact Nat.le_refl _))
   st:=StepsA.mono toZ _ _ _ (StepsA.frm fr5 (fun k hk=>.inr (.inr hk)) xs fs hi hS.st)
   rl:=hJ.rl
   hi:=by simp[World.setCell];have:=hS.sz;have:=hS.lo;omega
   lf:=(hS.sx.frm fr5 (fun k hk=>.inr (.inr hk))).grow (fun k hk=>.inl (toZ k hk))
   xp:=m1
   xi:=rfl
   xf:=rfl
   fn:=hf
   ctx:=hJ.ctx
   nt:=by rw[<-hPM];exact m3
   eF:=hJ.eF
   eP:=?_
   bL:=hJ.bL
   bR:=hJ.bR
   ln:=by omega }⟩
 have:=hJ.eP;rw[m4,hPM] at this;exact List.Perm.trans (show(pg::PC).Perm (PC++[pg]) from by simpa using List.perm_append_comm (l₁:=[pg]) (l₂:=PC)) this
theorem yG (w:World)(d s g:Nat)(dk:DkS)(st:ShS)(r:Nat)(F:Nat->Prop)(h:TS w d s g dk st r F)(G:eY dk st)(root:Int)(H:Nat)(F0:List Mk)(P0:List Int)(ht:IsT (Rn dk) H root F0 P0)(hs:bY F0)(hH:H<=9)(hr:r+H+1<=640)(key:Int)(hk:0<=key/\key<=18446744073709551615) :
  () 109 #[g,root,.int .u64 key] w (EH w d s g dk st r F F0 P0 key H):=by
 have HL:=Hd h.lt;have hg:g<w.heap.size:=h.lt g (by obtain⟨_,_,_,he⟩:=h;exact(he g).2 (.inr (.inr rfl)));obtain⟨w0,hw0⟩:∃ w0,(w.alloc (.cells #[.slice none 0 0] 160)).alloc (.cells #[.slice none 0 0] 160)=w0:=⟨_,rfl⟩
 have B0:Below w.heap.size w w0:=by rw[<-hw0];exact((Below.refl _ w).alloc (Nat.le_refl _) _).alloc (by simp) _
 have z0:w0.heap.size=w.heap.size+2:=by rw[<-hw0];simp
 have X0:w0.heap[w.heap.size]?=some (.cells #[.slice none 0 0] 160):=by rw[<-hw0];exact(hao _ _ (by simp)).trans (han w _)
 have Y0:w0.heap[w.heap.size+1]?=some (.cells #[.slice none 0 0] 160):=by
  rw[<-hw0];have:=han (w.alloc (.cells #[.slice none 0 0] 160)) (.cells #[.slice none 0 0] 160);rw[World.size_alloc] at this;exact this
 have J0:Hid (xC w d s g dk st r F F0 P0 key H w0 root H [] [] [] [] F0 [] P0 (WF (w.heap.size+1) (.slice none 0 0)) w0.heap.size):=Hd
  {ts:=h.below B0
   fr:=Frm.of_below B0
   way:=⟨_,⟨Y0,World.ownsRow_nil _ _ _ _,fun e=>by cases e⟩,fun _=>Iff.rfl⟩
   wlo:=fun k hk=>by rcases hk with hk|hk;omega;cases hk
   res:=X0
   st:=trivial
   rl:=fun x hx=>by cases hx
   hi:=Nat.le_refl _
   ctx:=⟨rfl,rfl,rfl⟩
   it:=ht
   eF:=by simp
   eP:=List.Perm.refl _
   bL:=fun m hm=>by cases hm
   bR:=fun m hm=>by cases hm
   ln:=by simp }
 have HS:=Hd hs;have HG:=Hd G;clear h ht hs B0 X0 Y0 z0 G;go_enter Tryz.func109,Tryz.ntmps109;go_wp2_with fail
 go_loopw [9] (fun p wr=>∃ pg hh fs xs FL FR Fh PC Ph FW hi,p=.int .i64 pg/\xC w d s g dk st r F F0 P0 key H wr pg hh fs xs FL FR Fh PC Ph FW hi) (fun _ wr=>641-GM g wr)
 case atStart=>
  try rw[hw0]
  exact⟨root,H,[],[],[],[],F0,[],P0,_,_,rfl,J0.o⟩
 case round=>
  obtain⟨pg,hh,fs,xs,FL,FR,Fh,PC,Ph,FW,hi,rfl,hJ⟩:=hrel;have hlen:=StepsA.len _ _ _ hJ.st;obtain⟨M,PM,m1,m2,m3,m4⟩:=hJ.it;have HJ:=Hd hJ;have hln:=hJ.ln;obtain⟨n,hn⟩:∃ n,fs.length=n:=⟨_,rfl⟩
  have hnl:xs.reverse.length=n:=by rw[<-hn,List.length_reverse,hlen]
  have hd1:(n:Int)+1<=10:=by omega
  have WD:=Hd (nD wr (w.heap.size+1) xs.reverse FW hJ.way);rw[hnl] at WD;have hnb:n<=9:=by omega
  have HN:=Hd hn;have HNL:=Hd hnl;have VN:=Hd (pB wr d s g dk st (r+fs.length) F hJ.ts HG.su (by omega) pg ((n:Int)+1) hd1 M m1);have M1:=Hd m1;have M2:=Hd m2;have M3:=Hd m3;have M4:=Hd m4;rw[hn] at VN hln;clear hJ m1 m2 m3 m4 J0 hn hnl hlen;go_wp2_with fail;refine WD.mono ?_;rintro e w1 ⟨rfl,rfl⟩;go_wp2_with fail;refine VN.mono ?_;rintro e w1 ⟨⟨ak,av,ac,ck,cv,cc,rfl,hR,q1,q2,q3,u1,u2⟩,hts,hfr⟩
  obtain⟨w2,hw2⟩:∃ w2,w1.alloc (.cells #[M.leaf,ak M.K.length ck,av M.V.length cv,ac M.C.length cc] 166)=w2:=⟨_,rfl⟩
  have B2:Below w1.heap.size w1 w2:=by rw[<-hw2];exact(Below.refl _ w1).alloc (Nat.le_refl _) _
  have N2:w2.heap[w1.heap.size]?=some (.cells #[M.leaf,ak M.K.length ck,av M.V.length cv,ac M.C.length cc] 166):=by rw[<-hw2];exact han w1 _
  obtain⟨⟨i,fd⟩,hfi⟩:∃ z,bX M key=z:=⟨_,rfl⟩
  have FI:=Hd (yB M ak av ac ck cv cc w2 (hR.below B2) key i fd (Hd hfi));obtain⟨n0,n1,n2,n3⟩:=cS N2;have HN2:=Hd N2;have HB2:=Hd B2;have HR:=Hd hR;have HQ:=Hd (And.intro q1 (And.intro q2 q3));have HU:=Hd (And.intro u1 u2);have HT:=Hd hts;have HFR:=Hd hfr;have HFI:=Hd hfi
  have HP:Hid (∀ w3,Below w2.heap.size w2 w3->() 128 #[.pointer (some ⟨w.heap.size+1,0,none⟩),(eJ pg i fd M ak av ac ck cv cc).val] w3 (EF (zA w3 (w.heap.size+1) (xs.reverse++[eJ pg i fd M ak av ac ck cv cc]) FW))):=Hd (fun w3 b3=>by
   have f3:Frm (fun k=>k=g) wr w3:=(HFR.trans (G:=fun _=>False) (Frm.of_below HB2.o) (fun _ hx=>hx.elim)).trans (G:=fun _=>False) (Frm.of_below b3) (fun _ hx=>hx.elim);have hgw:∀ k,FW k->¬ k=g:=fun k hk e=>by have:=HJ.wlo k hk;omega
   exact TW w3 (w.heap.size+1) xs.reverse FW (HJ.way.frm f3 hgw) _ (by rw[HNL.o];omega))
  unfold aJ;clear hR q1 q2 q3 u1 u2 hts hfr N2 B2 hfi WD VN;simp only[eJ,StepV.val] at HP;go_wp2_with fail;refine FI.mono ?_;rintro e w3 ⟨rfl,b3⟩;have N3:=kept HN2 b3;have HB3:=Hd b3;have PU:=Hd (HP w3 b3);obtain⟨k0,k1,k2,k3⟩:=cS N3;have HN3:=Hd N3;clear n0 n1 n2 n3 N3 b3 HP;go_wp2_with fail;refine PU.mono ?_;rintro e w4 ⟨rfl,FW',hway,hf4,hn4⟩;have hS:=SR HL hg HJ HR HQ HU (by rw[HN.o];exact HT.o) HFR (HB2.trans (HB3.mono HB2.size)) pg (i:Int) fd hway hf4 hn4;have hWlt:=HJ.way.lt
  have N4:w4.heap[w1.heap.size]?=some (.cells #[M.leaf,ak M.K.length ck,av M.V.length cv,ac M.C.length cc] 166):=by
   refine(hf4.block _ (zl HN3.o) (fun hk=>?_)).trans HN3.o;have:=hWlt _ hk;have:=HFR.size;omega
  obtain⟨j0,j1,j2,j3⟩:=cS N4;have HN4:=Hd N4;have HS4:=Hd hS;clear hway hf4 hn4 hS hWlt N4 k0 k1 k2 k3 PU;have hlf:M.leaf=decide (hh=0):=pY M3.o
  cases hh with
  | zero=>
   simp only[decide_true] at hlf;obtain⟨va,vn,vc,hbox,hpost⟩:=SV hg HL HJ M1 M3 M4 HFI HS4.o;have b0:=kJ hbox;have hres:=HS4.res;have rz0:=kJ hres;have fz:=ufb hres 0
   have rz:(w4.setCell ⟨w.heap.size,0,none⟩ (.slice va vn vc)).cell? ⟨w.heap.size,0,none⟩=some (.slice va vn vc):=by
    have:(w4.setCell ⟨w.heap.size,0,none⟩ (.slice va vn vc)).heap[w.heap.size]?=some (.cells #[va vn vc] 160):=by rw[hss _ _ 0 _ _ _ hres];rfl
    exact kJ this
   have RZ:=Hd rz;have FIN:=Hd hpost;clear hbox hpost hres rz;go_wp2_with fail;exact bodyPost_ret (v:=.tuple #[.agg #[va vn vc],(0:Int)]) (by simp[results,Tryz.results109,go_sem,RZ.o]) rfl FIN.o
  | succ h=>
   have hlf':M.leaf=false:=by rw[hlf];simp
   clear hlf;obtain⟨q,hq,fs',FL',FR',Fh',PC',Ph',hi',hl',hJ'⟩:=SS HS HJ M1 M2 M3 M4 HFI HS4.o;obtain⟨hic,hiq⟩:=List.getElem?_eq_some_iff.1 hq;obtain⟨cb,coff,ca1,ca2,ca3⟩:=HS4.sx.a.r.c.at i (by simpa using hic);have ca4:w4.cell? ⟨cb,coff+i,none⟩=some (.int .i64 q):=by rw[ca3];simp[dT,hiq]
   have ca1':ac=some ⟨cb,coff,none⟩:=ca1;have hil:(i:Int)<(M.C.length:Int):=by omega
   have FIN:=Hd hJ';have HLN:=Hd hl';subst ca1';clear ca1 ca3 hq hiq hJ' hl';generalize M.C.length=lc at *;go_wp2_with fail;go_roundw
   case rel=>exact⟨q,h,fs',_,FL',FR',Fh',PC',Ph',FW',hi',rfl,FIN.o⟩
   case measure=>
    have e1:=vY FIN.ts;have e2:=vY HJ.ts;have e3:=HLN.o;have e4:=HN.o;have e5:=FIN.ln;rw[e1,e2,e3];omega
theorem QK {dk:DkS}{st:ShS}(g:eY dk st)(j:Nat)(h2:2<=j)(hj:(j:Int)<(dk.S.length:Int))(hf:lZ st (j:Int)=true)(N:Nod)(hr:cC N=true)(ho:dD N) :
  oZ dk st N ((st.take j).write dk (j:Int) 2 (dM N)).1 (st.take j) (j:Int)/\(∀ k,Room dk st (k+1)->Room ((st.take j).write dk (j:Int) 2 (dM N)).1 (st.take j) k)/\((st.take j).write dk (j:Int) 2 (dM N)).2.2=0/\((st.take j).write dk (j:Int) 2 (dM N)).2.1=st.take j:=by
 obtain⟨t1,t2,t3,t4⟩:=OM g j h2 hj hf;obtain⟨w1,w2,w3,w4⟩:=sK t1.g (j:Int) (by show _∈st.fresh++[(j:Int)];simp) N hr ho;have hw:=g.few;refine⟨⟨t1.trans w3,by rw[w4];unfold NZ;rw[if_pos rfl],fun L hL=>⟨⟨List.nodup_cons.2 ⟨fun hm=>t2 ((hL.2 _).1 hm),hL.1⟩,fun x=>?_⟩,fun x hx=>?_⟩,by omega,by omega⟩,fun k hk=>(KX w3 k).2 (t4 k hk),w1,w2⟩
 ·rw[List.mem_cons,t3,hL.2]
 ·rw[w4];unfold NZ
  rw[if_neg];intro e;subst e;exact t2 ((hL.2 _).1 hx)
theorem IM {dk:DkS}{st:ShS}(g:eY dk st)(p:Int)(hp:p∈st.fresh)(N:Nod)(hr:cC N=true)(ho:dD N) :
  jR dk st p N (st.write dk p 2 (dM N)).1 st p/\(∀ k,Room dk st k->Room (st.write dk p 2 (dM N)).1 st k)/\(st.write dk p 2 (dM N)).2.2=0/\(st.write dk p 2 (dM N)).2.1=st:=by
 obtain⟨w1,w2,w3,w4⟩:=sK g p hp N hr ho;have hb:=g.fb p hp;have hw:=g.few;refine⟨⟨w3,by rw[w4];unfold NZ;rw[if_pos rfl],fun L hL=>⟨hL,fun x hx=>?_⟩,hb.1,by omega⟩,fun k hk=>(KX w3 k).2 hk,w1,w2⟩;rw[w4];unfold NZ;rw[if_neg];intro e;subst e;exact(List.nodup_cons.1 hL.1).1 hx
theorem tT {dk:DkS}{st:ShS}(g:eY dk st)(p:Int)(hl:nB st p):xB dk st p (st.give p).1/\(st.give p).2=0/\∀ k,Room dk st k->Room dk (st.give p).1 k:=by
 obtain⟨a,b,c,d⟩:=RU g p hl;refine⟨⟨b,fun L hL=>⟨(List.nodup_cons.1 hL.1).2,fun x=>?_⟩⟩,a,d⟩;rw[c];constructor
 ·intro hx
  exact⟨fun e=>(List.nodup_cons.1 hL.1).1 (e ▸ hx),(hL.2 x).1 (List.mem_cons_of_mem _ hx)⟩
 ·rintro⟨h1,h2⟩
  exact(List.mem_cons.1 ((hL.2 x).2 h2)).resolve_left h1
theorem IL {dk dk':DkS}{st st0 st':ShS}{p q:Int}{N:Nod}(hg:xB dk st p st0)(hp:oZ dk st0 N dk' st' q):jR dk st p N dk' st' q:=
 ⟨hg.tt.trans hp.tt,hp.rd,fun L hL=>hp.lv L (hg.lv L hL),hp.lo,hp.hi⟩
theorem TSPost.ofDS {w w':World}{d s g r:Nat}{dk dk':DkS}{st st':ShS}{F FD FS:Nat->Prop}(hi:aFO w d s g dk st r FD FS)(he:∀ k,F k ↔ FD k\/FS k\/k=g)(hp:DSPost w d s FD FS dk' st' w'):TSPost w d s g dk' st' r F w':=by
 obtain⟨FD',h1,h2,h3⟩:=hp;have hg:g<w.heap.size:=(zl hi.v);refine⟨fun k=>FD' k\/FS k\/k=g,⟨FD',FS,⟨h1,?_,?_,hi.gs⟩,fun _=>Iff.rfl⟩,h2.mono (fun k hk=>(he k).2 (hk.imp id .inl)),fun k hk=>?_⟩
 ·exact(h2.block g hg (by rintro(h|h);exact hi.gd h;exact hi.gs h)).trans hi.v
 ·intro h
  rcases h3 g h with h|h
  ·exact hi.gd h
  ·omega
 ·rcases hk with hk|hk
  ·exact(h3 k hk).imp (fun h=>(he k).2 (.inl h)) id
  ·exact .inl ((he k).2 (.inr hk))
theorem TSPost.chain {w w1 w2:World}{d s g r:Nat}{dk:DkS}{st:ShS}{F:Nat->Prop}(b:Below w.heap.size w w1)(h:TSPost w1 d s g dk st r F w2):TSPost w d s g dk st r F w2:=
 TSPost.trans (F1:=F) b.size (Frm.of_below b) (fun k hk=>.inl hk) h
theorem vC (w:World)(d s g:Nat)(dk:DkS)(st:ShS)(r:Nat)(F:Nat->Prop)(h:TS w d s g dk st r F)(p:Int)(N:Nod)(hr:cC N=true)(ak av ac:Option Addr)(ck cv cc:Nat)(hN:NodR w N ak av ac ck cv cc)(he0:(st.write dk p 2 (dM N)).2.2=0)(he1:(st.write dk p 2 (dM N)).2.1=st) :
  () 154 #[g,p,aJ N ak av ac ck cv cc] w fun e w'=>e=.returned (.int .i64 0)/\TSPost w d s g (st.write dk p 2 (dM N)).1 st r F w':=by
 obtain⟨w1,hw1⟩:∃ w1,w.alloc (.cells #[N.leaf,ak N.K.length ck,av N.V.length cv,ac N.C.length cc] 166)=w1:=⟨_,rfl⟩
 have B1:Below w.heap.size w w1:=by rw[<-hw1];exact(Below.refl _ w).alloc (Nat.le_refl _) _
 have X1:w1.heap[w.heap.size]?=some (.cells #[N.leaf,ak N.K.length ck,av N.V.length cv,ac N.C.length cc] 166):=by rw[<-hw1];exact han w _
 obtain⟨x0,x1,x2,x3⟩:=cS X1;have EN:=Hd (JH N ak av ac ck cv cc w1 (hN.below B1) hr);have HT:=Hd h;have HB:=Hd B1
 have WR:Hid (∀ w2,Below w.heap.size w w2->w2.cell? ⟨g,0,none⟩=some (.pointer (some ⟨s,0,none⟩))/\() 174 #[s,p,(2:Int),.string (dM N)] w2 fun e w'=>e=.returned (.int .i64 0)/\TSPost w d s g (st.write dk p 2 (dM N)).1 st r F w'):=Hd (fun w2 b2=>by
  obtain⟨FD,FS,hi,he⟩:=HT.below b2;refine⟨(cH hi.v).1,(zX w2 d s dk st FD FS hi.ds p 2 (dM N)).mono fun e w' hq=>?_⟩;rw[he0,he1] at hq;exact⟨hq.1,TSPost.chain b2 (TSPost.ofDS hi he hq.2)⟩)
 clear h B1 X1 he0 he1 hN;generalize (st.write dk p 2 (dM N)).1=dk' at *;generalize dM N=tx at *;unfold aJ at *;go_enter Tryz.func154,Tryz.ntmps154;go_wp2_with fail;refine EN.mono ?_;rintro e w2 ⟨rfl,b2⟩;obtain⟨v0,W2⟩:=WR w2 (HB.trans (b2.mono HB.size));have HW:=Hd W2;clear b2 W2;go_wp2_with fail;refine HW.mono ?_;rintro e w3 ⟨rfl,hp⟩;have HP:=Hd hp;clear hp;go_wp2_with fail;go_ret;exact⟨rfl,HP.o⟩
def rQ (w:World)(d s g:Nat)(dk:DkS)(st:ShS)(r:Nat)(F:Nat->Prop)(P:DkS->ShS->Int->Prop)(m:Nat)(e:Ending)(w':World):Prop:=
 ∃ q dk' st',e=.returned (.tuple #[.int .i64 q,(0:Int)])/\TSPost w d s g dk' st' r F w'/\P dk' st' q/\∀ k,Room dk st (k+m)->Room dk' st' k
theorem nG (w:World)(d s g:Nat)(dk:DkS)(st:ShS)(r:Nat)(F:Nat->Prop)(h:TS w d s g dk st r F)(G:eY dk st)(hroom:Room dk st 1)(N:Nod)(hr:cC N=true)(ak av ac:Option Addr)(ck cv cc:Nat)(hN:RowsA w N ak av ac ck cv cc F) :
  () 136 #[g,aJ N ak av ac ck cv cc] w (rQ w d s g dk st r F (oZ dk st N) 1):=by
 obtain⟨j,h2,hj,hall,hf⟩:=IZ G hroom;obtain⟨P1,P2,P3,P4⟩:=QK G j h2 hj hf N hr hN.r.ok;obtain⟨w1,hw1⟩:∃ w1,w.alloc (.cells #[N.leaf,ak N.K.length ck,av N.V.length cv,ac N.C.length cc] 166)=w1:=⟨_,rfl⟩
 have B1:Below w.heap.size w w1:=by rw[<-hw1];exact(Below.refl _ w).alloc (Nat.le_refl _) _
 have X1:w1.heap[w.heap.size]?=some (.cells #[N.leaf,ak N.K.length ck,av N.V.length cv,ac N.C.length cc] 166):=by rw[<-hw1];exact han w _
 have HLT:=Hd h.lt;have T1:=h.below B1;obtain⟨FD,FS,hi,he⟩:=T1;have v0:=(cH hi.v).1
 have TK:Hid (() 160 #[s] w1 fun e w'=>e=.returned (.tuple #[(j:Int),(0:Int)])/\TSPost w d s g dk (st.take j) r F w'/\w'.heap[w.heap.size]?=some (.cells #[N.leaf,ak N.K.length ck,av N.V.length cv,ac N.C.length cc] 166)/\NodR w' N ak av ac ck cv cc):=Hd (by
  refine(zY w1 s d dk st FD FS hi.ds.dk hi.ds.sto G.su j h2 hj hall hf).mono fun e w' ⟨q1,q2,q3⟩=>⟨q1,TSPost.chain B1 (TSPost.ofDS hi he (DSPost.store hi.ds q3 q2)),?_,?_⟩
  ·refine(q3.block _ (zl X1) (fun hk=>?_)).trans X1
   have:=HLT _ ((he _).2 (.inr (.inl hk)));omega
  ·exact((hN.below B1).frm q3 (fun k hk=>(he k).2 (.inr (.inl hk)))).r)
 have WR:Hid (∀ w2,TSPost w d s g dk (st.take j) r F w2->NodR w2 N ak av ac ck cv cc->() 154 #[g,(j:Int),aJ N ak av ac ck cv cc] w2 fun e w'=>e=.returned (.int .i64 0)/\rQ w d s g dk st r F (oZ dk st N) 1 (.returned (.tuple #[(j:Int),(0:Int)])) w'):=Hd (fun w2 hp hn=>by
  obtain⟨F',t1,t2,t3⟩:=hp;refine(vC w2 d s g dk (st.take j) r F' t1 (j:Int) N hr ak av ac ck cv cc hn P3 P4).mono fun e w' hq=>⟨hq.1,(j:Int),_,_,rfl,TSPost.trans t2.size t2 t3 hq.2,P1,fun k hk=>P2 k hk⟩)
 clear h hi he hN X1 B1 P1 P2 P3 P4 hall hf h2 hj;unfold aJ at *;go_enter Tryz.func136,Tryz.ntmps136;go_wp2_with fail;refine TK.mono ?_;rintro e w2 ⟨rfl,hp,hx,hn⟩;have W2:=Hd (WR w2 hp hn);obtain⟨F',⟨FD',FS',hi',he'⟩,t2,t3⟩:=hp;have v0':=(cH hi'.v).1;obtain⟨x0,x1,x2,x3⟩:=cS hx;clear hi' he' t2 t3 hx hn v0;go_wp2_with fail;refine W2.mono ?_;rintro e w3 ⟨rfl,hq⟩;have FIN:=Hd hq;clear hq;go_wp2_with fail;go_ret2;exact FIN.o
theorem lG (w:World)(d s g:Nat)(dk:DkS)(st:ShS)(r:Nat)(F:Nat->Prop)(h:TS w d s g dk st r F)(G:eY dk st)(p:Int)(hlive:nB st p)(hroom:Room dk st 1)(N:Nod)(hr:cC N=true)(ak av ac:Option Addr)(ck cv cc:Nat)(hN:RowsA w N ak av ac ck cv cc F) :
  () 133 #[g,p,aJ N ak av ac ck cv cc] w (rQ w d s g dk st r F (jR dk st p N) 1):=by
 obtain⟨w1,hw1⟩:∃ w1,w.alloc (.cells #[N.leaf,ak N.K.length ck,av N.V.length cv,ac N.C.length cc] 166)=w1:=⟨_,rfl⟩
 have B1:Below w.heap.size w w1:=by rw[<-hw1];exact(Below.refl _ w).alloc (Nat.le_refl _) _
 have X1:w1.heap[w.heap.size]?=some (.cells #[N.leaf,ak N.K.length ck,av N.V.length cv,ac N.C.length cc] 166):=by rw[<-hw1];exact han w _
 have HLT:=Hd h.lt;have T1:=h.below B1;obtain⟨FD,FS,hi,he⟩:=T1;have v0:=(cH hi.v).1;have FR:=Hd (YK w1 s d st FS hi.ds.sto p);have HX:=Hd X1;have HB:=Hd B1;have HT:=Hd h;have HN:=Hd hN;have HG:=Hd G
 have hp64:p<9223372036854775808/\(gI st.h.used p=true->2<=p/\p<640):=by
  have:=G.few
  rcases hlive with hx|hx
  ·have:=G.fb p hx;exact⟨by omega,fun h1=>by rw[(G.fb p hx).2.2] at h1;cases h1⟩
  ·have:=G.ub p hx.1;exact⟨by omega,fun _=>by omega⟩
 by_cases hf:p∈st.fresh
 ·have hdec:decide (p∈st.fresh)=true:=decide_eq_true hf
  rw[hdec] at FR;obtain⟨P1,P2,P3,P4⟩:=IM G p hf N hr hN.r.ok
  have WR:Hid (∀ w2,Below w1.heap.size w1 w2->w2.cell? ⟨g,0,none⟩=some (.pointer (some ⟨s,0,none⟩))/\() 154 #[g,p,aJ N ak av ac ck cv cc] w2 fun e w'=>e=.returned (.int .i64 0)/\rQ w d s g dk st r F (jR dk st p N) 1 (.returned (.tuple #[p,(0:Int)])) w'):=Hd (fun w2 b2=>by
   have b:=HB.trans (b2.mono HB.size);refine⟨?_,?_⟩
   ·obtain⟨_,_,hi2,_⟩:=HT.below b
    exact(cH hi2.v).1
   ·refine(vC w2 d s g dk st r F (HT.below b) p N hr ak av ac ck cv cc (HN.r.below b) P3 P4).mono fun e w' hq=>⟨hq.1,p,_,_,rfl,TSPost.chain b hq.2,P1,fun k hk=>P2 k (hk.le (by omega))⟩)
  clear h hi he hN X1 B1 P1 P2 P3 P4 hdec HT HN HB HG hlive hp64 G;unfold aJ at *;go_enter Tryz.func133,Tryz.ntmps133;go_wp2_with fail;refine FR.mono ?_;rintro e w2 ⟨rfl,b2⟩;obtain⟨v1,W2⟩:=WR w2 b2;have HW:=Hd W2;obtain⟨x0,x1,x2,x3⟩:=cS (kept HX b2);clear W2 b2 v0;go_wp2_with fail;refine HW.mono ?_;rintro e w3 ⟨rfl,hq⟩;have FIN:=Hd hq;clear hq;go_wp2_with fail;go_ret2;exact FIN.o
 ·have hdec:decide (p∈st.fresh)=false:=decide_eq_false hf
  rw[hdec] at FR;obtain⟨q1,q2,q3⟩:=tT G p hlive
  have GV:Hid (∀ w2,Below w1.heap.size w1 w2->w2.cell? ⟨g,0,none⟩=some (.pointer (some ⟨s,0,none⟩))/\() 135 #[s,p] w2 fun e w'=>e=.returned (.int .i64 0)/\TSPost w d s g dk (st.give p).1 r F w'/\w'.heap[w.heap.size]?=some (.cells #[N.leaf,ak N.K.length ck,av N.V.length cv,ac N.C.length cc] 166)/\RowsA w' N ak av ac ck cv cc F):=Hd (fun w2 b2=>by
   have b:=HB.trans (b2.mono HB.size);obtain⟨FD2,FS2,hi2,he2⟩:=HT.below b;refine⟨(cH hi2.v).1,(xZ w2 s d st FS2 hi2.ds.sto p hp64.1 hp64.2).mono fun e w' ⟨r1,r2,r3⟩=>⟨by rw[r1,q2],TSPost.chain b (TSPost.ofDS hi2 he2 (DSPost.store hi2.ds r3 r2)),?_,(HN.below b).frm r3 (fun k hk=>(he2 k).2 (.inr (.inl hk)))⟩⟩;refine(r3.block _ (Nat.lt_of_lt_of_le (zl HX.o) b2.size) (fun hk=>?_)).trans (kept HX b2);have:=HLT _ ((he2 _).2 (.inr (.inl hk)));omega)
  have PL:Hid (∀ w3,TSPost w d s g dk (st.give p).1 r F w3->RowsA w3 N ak av ac ck cv cc F->w3.cell? ⟨g,0,none⟩=some (.pointer (some ⟨s,0,none⟩))/\() 136 #[g,aJ N ak av ac ck cv cc] w3 (rQ w d s g dk st r F (jR dk st p N) 1)):=Hd (fun w3 hp hn=>by
   obtain⟨F',t1,t2,t3⟩:=hp;refine⟨?_,?_⟩
   ·obtain⟨_,_,hi2,_⟩:=t1
    exact(cH hi2.v).1
   ·have hz:=HN.grow t3
    have hn':RowsA w3 N ak av ac ck cv cc F':=⟨hn.r,hz.zk,hz.zv,hz.zc⟩
    refine(nG w3 d s g dk (st.give p).1 r F' t1 q1.tt.g (q3 1 hroom) N hr ak av ac ck cv cc hn').mono ?_;rintro e w' ⟨q,dk',st',z1,z2,z3,z4⟩;exact⟨q,dk',st',z1,TSPost.trans t2.size t2 t3 z2,IL q1 z3,fun k hk=>z4 k (q3 _ hk)⟩)
  clear h hi he hN X1 B1 hdec HT HN HB HG hlive hp64 G q1 q2 q3;unfold aJ at *;go_enter Tryz.func133,Tryz.ntmps133;go_wp2_with fail;refine FR.mono ?_;rintro e w2 ⟨rfl,b2⟩;obtain⟨v1,W2⟩:=GV w2 b2;have HW:=Hd W2;clear W2 b2 v0;go_wp2_with fail;refine HW.mono ?_;rintro e w3 ⟨rfl,hp,hx,hn⟩;obtain⟨v2,W3⟩:=PL w3 hp hn;have HW3:=Hd W3;obtain⟨x0,x1,x2,x3⟩:=cS hx;clear W3 hp hx hn v1;go_wp2_with fail;refine HW3.mono ?_;rintro e w4 hq;obtain⟨q,dk',st',rfl,z2,z3,z4⟩:=hq
  have FIN:Hid (rQ w d s g dk st r F (jR dk st p N) 1 (.returned (.tuple #[.int .i64 q,(0:Int)])) w4):=Hd ⟨q,dk',st',rfl,z2,z3,z4⟩;clear z2 z3 z4;go_wp2_with fail;go_ret2;exact FIN.o
theorem wM {N:Nod}(hw:bH N=true)(hv:∀ v∈N.V,v.size<=40)(hz:240<aI N):cL N.leaf<=N.K.length:=by
 cases hl:N.leaf with
 | true=>
  have h1:=(bG hl).1 hw;have h2:=nZ N.V 40 hv;unfold aI at hz;rw[hl] at hz;simp only[if_true] at hz
  show 2<=_
  omega
 | false=>
  have h1:=(aQ hl).1 hw;unfold aI at hz;rw[hl] at hz;simp only[Bool.false_eq_true,if_false] at hz
  show 3<=_
  omega
theorem AZ {dk:DkS}{st:ShS}{fs:List aL}{h:Nat}{p:Int}{N:Nod}{E:List Ent}(ha:AtI dk st fs h p N E)(hb:NB N 320)(hl:cL N.leaf<=N.K.length):cC (aP N (cM N))=true/\cC (aV N (cM N))=true:=by
 have hw:=ha.whole;obtain⟨FL,FR,PC,F,P,h1,h2,h3,h4,h5⟩:=ha;obtain⟨mid,FA,FB,PA,PB,s1,s2,s3,s4,s5,s6,s7,s8⟩:=nL h2 hl;obtain⟨z1,z2⟩:=wV N hw hb.1 hl hb.2.2;have hs:=(aH.1 (aH.1 (s8 FL FR h3)).1).2.1;obtain⟨t1,t2,_⟩:=aH.1 hs;have t2':=(eS.1 t2).2;refine⟨kO s2 t1 (fun v hv=>?_) (fun c hc=>?_) s4 z1,kO s3 t2' (fun v hv=>?_) (fun c hc=>?_) s5 z2⟩
 ·refine hb.1 v ?_
  unfold aP at hv
  split at hv
  ·exact List.mem_of_mem_take hv
  ·cases hv
 ·refine hb.2.1 c ?_
  unfold aP at hc
  split at hc
  ·cases hc
  ·exact List.mem_of_mem_take hc
 ·refine hb.1 v ?_
  unfold aV at hv
  split at hv
  ·exact List.mem_of_mem_drop hv
  ·cases hv
 ·refine hb.2.1 c ?_
  unfold aV at hc
  split at hc
  ·cases hc
  ·exact List.mem_of_mem_drop hc
def wZ (w:World)(d s g:Nat)(dk:DkS)(st:ShS)(r:Nat)(F:Nat->Prop)(fs:List aL)(h:Nat)(E:List Ent)(e:Ending)(w':World):Prop:=
 ∃ g1 g2 g3 KM QM dk' st',e=.returned (.tuple #[.agg #[.int .i64 g1,.int .i64 g2,.int .u64 g3],(0:Int)])/\TSPost w d s g dk' st' r F w'/\UpI dk' st' fs h KM QM E/\GR g1 g2 g3 KM QM/\To dk st dk' st'/\(∀ k,Room dk st (k+2)->Room dk' st' k)/\0<=g3/\g3<=18446744073709551615
def grO (a b c:Int):Obj:=.cells #[a,b,.int .u64 c] 207
theorem cU {w:World}{b:Nat}{x y z:Int}(h:w.heap[b]?=some (grO x y z)):w.cell? ⟨b,0,none⟩=some (.int .i64 x)/\w.cell? ⟨b,1,none⟩=some (.int .i64 y)/\w.cell? ⟨b,2,none⟩=some (.int .u64 z)/\w.frozen? ⟨b,0,none⟩=false/\w.frozen? ⟨b,1,none⟩=false/\w.frozen? ⟨b,2,none⟩=false:=by
 unfold grO at h;exact⟨by rw[cob h];rfl,by rw[cob h];rfl,by rw[cob h];rfl,ufb h 0,ufb h 1,ufb h 2⟩
theorem xX {w:World}{b:Nat}{x y z:Int}(h:w.heap[b]?=some (grO x y z))(v:Int):(w.setCell ⟨b,0,none⟩ (.int .i64 v)).heap[b]?=some (grO v y z):=by
 unfold grO at *;rw[hss _ _ 0 _ _ _ h];rfl
theorem MF {w:World}{b:Nat}{x y z:Int}(h:w.heap[b]?=some (grO x y z))(v:Int):(w.setCell ⟨b,1,none⟩ (.int .i64 v)).heap[b]?=some (grO x v z):=by
 unfold grO at *;rw[hss _ _ 1 _ _ _ h];rfl
theorem ME {w:World}{b:Nat}{x y z:Int}(h:w.heap[b]?=some (grO x y z))(v:Int):(w.setCell ⟨b,2,none⟩ (.int .u64 v)).heap[b]?=some (grO x y v):=by
 unfold grO at *;rw[hss _ _ 2 _ _ _ h];rfl
def rS (w:World)(b:Nat)(x y z:Int):World:=((w.setCell ⟨b,0,none⟩ (.int .i64 x)).setCell ⟨b,1,none⟩ (.int .i64 y)).setCell ⟨b,2,none⟩ (.int .u64 z)
theorem gD {w:World}{b:Nat}{x y z x' y' z':Int}(h:w.heap[b]?=some (grO x' y' z')):(rS w b x y z).heap[b]?=some (grO x y z):=ME (MF (xX h x) y) z
theorem eH {F:Nat->Prop}{w w1:World}(h:Frm F w w1)(b:Nat)(x y z:Int)(hb:F b\/w.heap.size<=b):Frm F w (rS w1 b x y z):=((h.setCell _ _ hb).setCell _ _ hb).setCell _ _ hb
theorem sM (w:World)(d s g:Nat)(dk:DkS)(st:ShS)(r:Nat)(F:Nat->Prop)(h:TS w d s g dk st r F)(G:eY dk st)(hroom:Room dk st 2)(fs:List aL)(hh:Nat)(p:Int)(N:Nod)(E:List Ent)(ha:AtI dk st fs hh p N E)(hb:NB N 320)(hk:N.K≠[])(ak av ac:Option Addr)(ck cv cc:Nat)(hN:RowsA w N ak av ac ck cv cc F) :
  () 138 #[g,p,aJ N ak av ac ck cv cc] w (wZ w d s g dk st r F fs hh E):=by
 obtain⟨w2,hw2⟩:∃ w2,(w.alloc (.cells #[N.leaf,.slice ak N.K.length ck,.slice av N.V.length cv,.slice ac N.C.length cc] 166)).alloc (.cells #[(0:Int),(0:Int),.int .u64 0] 207)=w2:=⟨_,rfl⟩
 have B2:Below w.heap.size w w2:=by rw[<-hw2];exact((Below.refl _ w).alloc (Nat.le_refl _) _).alloc (by simp) _
 have X2:w2.heap[w.heap.size]?=some (.cells #[N.leaf,.slice ak N.K.length ck,.slice av N.V.length cv,.slice ac N.C.length cc] 166):=by rw[<-hw2];exact(hao _ _ (by simp)).trans (han w _)
 have Y2:w2.heap[w.heap.size+1]?=some (grO 0 0 0):=by
  rw[<-hw2];have:=han (w.alloc (.cells #[N.leaf,.slice ak N.K.length ck,.slice av N.V.length cv,.slice ac N.C.length cc] 166)) (.cells #[(0:Int),(0:Int),.int .u64 0] 207);rw[World.size_alloc] at this;exact this
 have z2:w2.heap.size=w.heap.size+2:=by rw[<-hw2];simp
 have HL:=Hd h.lt;obtain⟨x0,x1,x2,x3⟩:=cS X2;have hw:=ha.whole;obtain⟨z,hz⟩:∃ z,aI N=z:=⟨_,rfl⟩
 have SZ:=Hd (jA N ak av ac ck cv cc w2 (hN.r.below B2) z (Hd hz) hw);have HA:=Hd ha;have HN:=Hd hN;have HB:=Hd B2;have HX:=Hd X2;have HY:=Hd Y2;have HT:=Hd h;have HG:=Hd G;have HNB:=Hd hb;have HK:=Hd hk;have HZ:=Hd hz;have HW:=Hd hw
 by_cases hs:z<=240
 ·have hr:=ha.right ⟨hb.1,hb.2.1,by omega⟩ hk
  have LY:Hid (∀ w3,Below w2.heap.size w2 w3->() 133 #[g,p,aJ N ak av ac ck cv cc] w3 fun e w4=>∃ q,e=.returned (.tuple #[.int .i64 q,(0:Int)])/\w4.heap[w.heap.size+1]?=some (grO 0 0 0)/\∀ w5,Frm (fun k=>k=w.heap.size+1) w4 w5->wZ w d s g dk st r F fs hh E (.returned (.tuple #[.agg #[.int .i64 q,(0:Int),.int .u64 0],(0:Int)])) w5):=Hd (fun w3 b3=>by
   have b:=HB.trans (b3.mono HB.size);have s3:=b3.size;refine(lG w3 d s g dk st r F (HT.below b) HG p HA.live (hroom.le (by omega)) N hr ak av ac ck cv cc (HN.below b)).mono ?_;rintro e w4 ⟨q,dk',st',rfl,⟨F',t1,t2,t3⟩,hl,hrm⟩;refine⟨q,rfl,(t2.block _ (by omega) (fun hx=>by have:=HL _ hx;omega)).trans (kept HY b3),fun w5 f5=>?_⟩;obtain⟨QM,u1,u2⟩:=LO HA HK hl
   refine⟨q,0,0,[],QM,dk',st',rfl,⟨F',t1.frm f5 (fun k hk e=>?_),?_,fun k hk=>?_⟩,u1,u2,hl.tt,fun k hk=>(hrm (k+1) hk).le (by omega),by decide,by decide⟩
   ·subst e
    rcases t3 _ hk with h1|h1
    ·have:=HL _ h1;omega
    ·omega
   ·have f3:Frm F w w3:=Frm.of_below b
    exact(f3.trans t2 (fun k hk=>.inl hk)).trans f5 (fun k hk=>.inr (by subst hk;omega))
   ·rcases t3 k hk with h1|h1
    ·exact .inl h1
    ·exact .inr (by omega))
  have hs':(z:Int)<=240:=by omega
  clear h G ha hb hk hN hr hw hz B2 X2 Y2 HT HG HA HNB HK HZ HW HN HB hroom;unfold aJ at *;go_enter Tryz.func138,Tryz.ntmps138;go_wp2_with fail;refine SZ.mono ?_;rintro e w3 ⟨rfl,b3⟩;have L3:=Hd (LY w3 b3);obtain⟨y0,y1,y2,y3⟩:=cS (kept HX b3);clear b3 x0 x1 x2 x3;go_wp2_with fail;refine L3.mono ?_;rintro e w4 ⟨q,rfl,hy,hfin⟩;obtain⟨c0,c1,c2,f0,f1,f2⟩:=cU hy;have hy5:=xX hy q;have HFIN:=Hd hfin;have HY4:=Hd hy;go_upto_region 3 with fail
  have F5:Frm (fun k=>k=w.heap.size+1) w4 (w4.setCell ⟨w.heap.size+1,0,none⟩ (.int .i64 q)):=(Frm.refl _ w4).setCell _ _ (.inl rfl);obtain⟨w5,hw5⟩:∃ w5,w4.setCell ⟨w.heap.size+1,0,none⟩ (.int .i64 q)=w5:=⟨_,rfl⟩
  rw[hw5] at F5 hy5;rw[hw5];obtain⟨d0,d1,d2,e0,e1,e2⟩:=cU hy5;have FIN:=Hd (HFIN _ (eH F5 (w.heap.size+1) q 0 0 (.inl rfl)));have RZ:=Hd (cU (gD (x:=q) (y:=0) (z:=0) hy5));clear hw5 hy5 F5 hfin hy c0 c1 c2 f0 f1 f2 y0 y1 y2 y3;unfold rS at FIN RZ;go_wp2_with fail;exact bodyPost_ret (v:=.tuple #[.agg #[.int .i64 q,(0:Int),.int .u64 0],(0:Int)]) (by simp[results,Tryz.results138,go_sem,RZ.1,RZ.2.1,RZ.2.2.1]) rfl FIN.o
 ·have hl:=wM hw hb.1 (by omega)
  obtain⟨rA,rB⟩:=AZ ha hb hl
  obtain⟨mid,hm⟩:∃ mid,N.K[cM N]?=some mid:=by
   obtain⟨_,_,_,_,_,_,h2,_⟩:=ha;obtain⟨mid,_,_,_,_,s1,_⟩:=nL h2 hl;exact⟨mid,s1⟩
  have hmb:0<=mid/\mid<=18446744073709551615:=hN.r.ok.kb mid (List.mem_of_getElem? hm);have SP:=Hd (fun w3 (b3:Below w2.heap.size w2 w3)=>sY N ak av ac ck cv cc w3 (hN.r.below (B2.trans (b3.mono B2.size))) hw hl mid hm);have two:=Hd (fun dk1 st1 dk' st' q1 q2 (a1:jR dk st p (aP N (cM N)) dk1 st1 q1) (a2:oZ dk1 st1 (aV N (cM N)) dk' st' q2)=>aBR (dk':=dk') ha hl hm a1 a2);generalize aP N (cM N)=A at *;generalize aV N (cM N)=Bn at *
  have LA:Hid (∀ w6 xk xv xc dk0 dv dc yk yv yc ek ev ec lo,Below w.heap.size w w6->w2.heap.size<=lo->w2.heap.size<=w6.heap.size->NodR w6 A xk xv xc dk0 dv dc->LoR lo xk xv xc->NodR w6 Bn yk yv yc ek ev ec->LoR lo yk yv yc->w6.heap[w.heap.size+1]?=some (grO 0 0 mid) ->
    () 133 #[g,p,aJ A xk xv xc dk0 dv dc] w6 fun e w7=>∃ q1,e=.returned (.tuple #[.int .i64 q1,(0:Int)])/\Frm F w6 w7 /\
     ∀ w8,Frm (fun k=>k=w.heap.size+1) w7 w8->() 136 #[g,aJ Bn yk yv yc ek ev ec] w8 fun e w9=>∃ q2,e=.returned (.tuple #[.int .i64 q2,(0:Int)])/\w9.heap[w.heap.size+1]?=w8.heap[w.heap.size+1]? /\
      ∀ w10,Frm (fun k=>k=w.heap.size+1) w9 w10->wZ w d s g dk st r F fs hh E (.returned (.tuple #[.agg #[.int .i64 q1,.int .i64 q2,.int .u64 mid],(0:Int)])) w10):=Hd (fun w6 xk xv xc dk0 dv dc yk yv yc ek ev ec lo b6 hlo hs6 hA hloA hB hloB hbx=>by
   have ltF:∀ k,F k->k<w.heap.size:=HL.o;have hRA:RowsA w6 A xk xv xc dk0 dv dc F:=RowsA.new hA hloA.1 hloA.2.1 hloA.2.2 (fun k hk=>by have:=ltF k hk;omega)
   have hRB:RowsA w6 Bn yk yv yc ek ev ec (fun k=>F k\/k=w.heap.size+1):=RowsA.new hB hloB.1 hloB.2.1 hloB.2.2 (fun k hk=>by
    rcases hk with hk|hk
    ·have:=ltF k hk;omega
    ·omega)
   refine(lG w6 d s g dk st r F (HT.below b6) HG p HA.live (hroom.le (by omega)) A rA xk xv xc dk0 dv dc hRA).mono ?_;rintro e w7 ⟨q1,dk1,st1,rfl,⟨F1,t1,t2,t3⟩,l1,r1⟩;refine⟨q1,rfl,t2,fun w8 f8=>?_⟩
   have nb1:¬ F1 (w.heap.size+1):=fun hx=>by
    rcases t3 _ hx with h1|h1
    ·have:=ltF _ h1;omega
    ·omega
   have T8:TS w8 d s g dk1 st1 r F1:=t1.frm f8 (fun k hk e=>nb1 (e ▸ hk));have hRB7:RowsA w7 Bn yk yv yc ek ev ec (fun k=>F k\/k=w.heap.size+1):=hRB.frm t2 (fun k hk=>.inl hk)
   have hRB8:RowsA w8 Bn yk yv yc ek ev ec F1:=by
    have hz:=hRB.grow (Z':=F1) (fun k hk=>(t3 k hk).imp .inl id);have h8:=hRB7.frm f8 (fun k hk=>.inr hk);exact⟨h8.r,hz.zk,hz.zv,hz.zc⟩
   refine(nG w8 d s g dk1 st1 r F1 T8 l1.tt.g (r1 1 hroom) Bn rB yk yv yc ek ev ec hRB8).mono ?_;rintro e w9 ⟨q2,dk',st',rfl,⟨F2,t4,t5,t6⟩,l2,r2⟩;have s78:=f8.size;have s67:=t2.size;have s89:=t5.size;refine⟨q2,rfl,t5.block _ (by omega) nb1,fun w10 f10=>?_⟩;obtain⟨QM,u1,u2⟩:=two dk1 st1 dk' st' q1 q2 l1 l2;refine⟨q1,q2,mid,[mid],QM,dk',st',rfl,⟨F2,t4.frm f10 (fun k hk e=>?_),?_,fun k hk=>?_⟩,u1,u2,l1.tt.trans l2.tt,fun k hk=>r2 k (r1 (k+1) hk),hmb.1,hmb.2⟩
   ·subst e
    rcases t6 _ hk with h1|h1
    ·exact nb1 h1
    ·omega
   ·have f06:Frm F w w6:=Frm.of_below b6
    have f07:=f06.trans t2 (fun k hk=>.inl hk);have f08:=f07.trans f8 (fun k hk=>.inr (by subst hk;omega));have f09:=f08.trans t5 (fun k hk=>(t3 k hk).imp id (fun hx=>by have:=b6.size;omega));exact f09.trans f10 (fun k hk=>.inr (by subst hk;omega))
   ·rcases t6 k hk with h1|h1
    ·exact(t3 k h1).imp id (fun hx=>by have:=b6.size;omega)
    ·exact .inr (by have:=b6.size;omega))
  have hs':¬ (z:Int)<=240:=by omega
  clear h G ha hb hk hN hw hz B2 X2 Y2 HT HG HA HNB HK HZ HW HN hroom rA rB hm hmb two hl;unfold aJ at *;go_enter Tryz.func138,Tryz.ntmps138;go_wp2_with fail;refine SZ.mono ?_;rintro e w3 ⟨rfl,b3⟩;have S3:=Hd (SP w3 b3);have B3:=Hd b3;obtain⟨y0,y1,y2,y3⟩:=cS (kept HX b3);clear b3 x0 x1 x2 x3;go_wp2_with fail;refine S3.mono ?_;rintro e w4 ⟨⟨xk,xv,xc,dk0,dv,dc,yk,yv,yc,ek,ev,ec,rfl,hA,hB,hloA,hloB⟩,b4⟩;unfold aJ;go_upto_region 5 with fail
  obtain⟨w5,hw5⟩:∃ w5,(w4.alloc (.cells #[A.leaf,.slice xk A.K.length dk0,.slice xv A.V.length dv,.slice xc A.C.length dc] 166)).alloc (.cells #[Bn.leaf,.slice yk Bn.K.length ek,.slice yv Bn.V.length ev,.slice yc Bn.C.length ec] 166)=w5:=⟨_,rfl⟩
  have B5:Below w4.heap.size w4 w5:=by rw[<-hw5];exact((Below.refl _ w4).alloc (Nat.le_refl _) _).alloc (by simp) _
  have z5:w5.heap.size=w4.heap.size+2:=by rw[<-hw5];simp
  have XA5:w5.heap[w4.heap.size]?=some (.cells #[A.leaf,.slice xk A.K.length dk0,.slice xv A.V.length dv,.slice xc A.C.length dc] 166):=by rw[<-hw5];exact(hao _ _ (by simp)).trans (han w4 _)
  have XB5:w5.heap[w4.heap.size+1]?=some (.cells #[Bn.leaf,.slice yk Bn.K.length ek,.slice yv Bn.V.length ev,.slice yc Bn.C.length ec] 166):=by
   rw[<-hw5];have:=han (w4.alloc (.cells #[A.leaf,.slice xk A.K.length dk0,.slice xv A.V.length dv,.slice xc A.C.length dc] 166)) (.cells #[Bn.leaf,.slice yk Bn.K.length ek,.slice yv Bn.V.length ev,.slice yc Bn.C.length ec] 166);rw[World.size_alloc] at this;exact this
  have s23:=B3.size;have s34:=b4.size;have B25:Below w2.heap.size w2 w5:=(B3.trans (b4.mono s23)).trans (B5.mono (Nat.le_trans s23 s34));have hy5:w5.heap[w.heap.size+1]?=some (grO 0 0 0):=kept HY B25;obtain⟨c0,c1,c2,f0,f1,f2⟩:=cU hy5;rw[hw5];clear hw5 y0 y1 y2 y3;go_upto_region 6 with fail
  obtain⟨w6,hw6⟩:∃ w6,w5.setCell ⟨w.heap.size+1,2,none⟩ (.int .u64 mid)=w6:=⟨_,rfl⟩
  have F56:Frm (fun k=>k=w.heap.size+1) w5 w6:=by rw[<-hw6];exact(Frm.refl _ w5).setCell _ _ (.inl rfl)
  have hy6:w6.heap[w.heap.size+1]?=some (grO 0 0 mid):=by rw[<-hw6];exact ME hy5 mid
  have XA6:w6.heap[w4.heap.size]?=some (.cells #[A.leaf,.slice xk A.K.length dk0,.slice xv A.V.length dv,.slice xc A.C.length dc] 166):=(F56.block _ (by omega) (by show ¬ w4.heap.size=_;omega)).trans XA5;have XB6:w6.heap[w4.heap.size+1]?=some (.cells #[Bn.leaf,.slice yk Bn.K.length ek,.slice yv Bn.V.length ev,.slice yc Bn.C.length ec] 166):=(F56.block _ (by omega) (by show ¬ w4.heap.size+1=_;omega)).trans XB5
  have B06:Below w.heap.size w w6:=(HB.trans (B25.mono HB.size)).trans (F56.below (fun i hi=>by subst hi;omega) (by have:=HB.size;have:=B25.size;omega))
  have lo6:∀ (n:Nod) (ak av ac:Option Addr) (ck cv cc:Nat),NodR w4 n ak av ac ck cv cc->LoR w3.heap.size ak av ac->NodR w6 n ak av ac ck cv cc:=fun n ak av ac ck cv cc hn hl=>
   (((RowsA.new (Z:=fun k=>k=w.heap.size+1) hn hl.1 hl.2.1 hl.2.2 (fun k hk=>by omega)).below B5).frm F56 (fun k hk=>hk)).r
  have LAY:=LA w6 xk xv xc dk0 dv dc yk yv yc ek ev ec w3.heap.size B06 s23 (by have:=B25.size;have:=F56.size;omega) (lo6 _ _ _ _ _ _ _ hA hloA) hloA (lo6 _ _ _ _ _ _ _ hB hloB) hloB hy6;have HL6:=Hd LAY;have HXB:=Hd XB6;have HY6:=Hd hy6;have SZ6:Hid (w.heap.size+1<w4.heap.size/\w4.heap.size+1<w6.heap.size):=Hd ⟨by omega,by have:=F56.size;omega⟩;obtain⟨a0,a1,a2,a3⟩:=cS XA6;rw[hw6];clear hw6 XA6 XB6 B06 lo6 LAY hy6 F56 XA5 XB5 hy5 c0 c1 c2 f0 f1 f2 B25 B5 z5 s23 s34 hA hB hloA hloB b4 S3 B3 SP LA;go_wp2_with fail;unfold aJ at HL6
  refine HL6.mono ?_;rintro e w7 ⟨q1,rfl,f67,hpl⟩;have hy7:w7.heap[w.heap.size+1]?=some (grO 0 0 mid):=(f67.block _ (by have:=SZ6.o;omega) (fun hx=>by have:=HL _ hx;omega)).trans HY6.o;have XB7:w7.heap[w4.heap.size+1]?=some (.cells #[Bn.leaf,.slice yk Bn.K.length ek,.slice yv Bn.V.length ev,.slice yc Bn.C.length ec] 166):=(f67.block _ SZ6.2 (fun hx=>by have:=HL _ hx;have:=SZ6.o;omega)).trans HXB.o;have HPL:=Hd hpl;have SZ7:=Hd f67.size;obtain⟨c0,c1,c2,f0,f1,f2⟩:=cU hy7;clear hpl f67 a0 a1 a2 a3
  go_upto_region 7 with fail
  obtain⟨w8,hw8⟩:∃ w8,w7.setCell ⟨w.heap.size+1,0,none⟩ (.int .i64 q1)=w8:=⟨_,rfl⟩
  have F78:Frm (fun k=>k=w.heap.size+1) w7 w8:=by rw[<-hw8];exact(Frm.refl _ w7).setCell _ _ (.inl rfl)
  have hy8:w8.heap[w.heap.size+1]?=some (grO q1 0 mid):=by rw[<-hw8];exact xX hy7 q1
  have XB8:w8.heap[w4.heap.size+1]?=some (.cells #[Bn.leaf,.slice yk Bn.K.length ek,.slice yv Bn.V.length ev,.slice yc Bn.C.length ec] 166):=(F78.block _ (by have:=SZ7.o;have:=SZ6.o;omega) (by show ¬ w4.heap.size+1=_;have:=SZ6.o;omega)).trans XB7;have HP8:=Hd (HPL w8 F78);obtain⟨b0,b1,b2,b3⟩:=cS XB8;have HY8:=Hd hy8;rw[hw8];clear hw8 c0 c1 c2 f0 f1 f2 hy7 XB7 XB8 F78 hy8;go_wp2_with fail;unfold aJ at HP8;refine HP8.mono ?_;rintro e w9 ⟨q2,rfl,hy9,hfin⟩;rw[HY8.o] at hy9;obtain⟨c0,c1,c2,f0,f1,f2⟩:=cU hy9
  have HFIN:=Hd hfin;clear hfin b0 b1 b2 b3;go_upto_region 10 with fail
  obtain⟨wx,hwx⟩:∃ wx,w9.setCell ⟨w.heap.size+1,1,none⟩ (.int .i64 q2)=wx:=⟨_,rfl⟩
  have F9x:Frm (fun k=>k=w.heap.size+1) w9 wx:=by rw[<-hwx];exact(Frm.refl _ w9).setCell _ _ (.inl rfl)
  have hyx:wx.heap[w.heap.size+1]?=some (grO q1 q2 mid):=by rw[<-hwx];exact MF hy9 q2
  rw[hwx];obtain⟨d0,d1,d2,e0,e1,e2⟩:=cU hyx;have FIN:=Hd (HFIN _ (eH F9x (w.heap.size+1) q1 q2 mid (.inl rfl)));have RZ:=Hd (cU (gD (x:=q1) (y:=q2) (z:=mid) hyx));clear hwx hyx F9x hy9 c0 c1 c2 f0 f1 f2;unfold rS at FIN RZ;go_wp2_with fail;exact bodyPost_ret (v:=.tuple #[.agg #[.int .i64 q1,.int .i64 q2,.int .u64 mid],(0:Int)]) (by simp[results,Tryz.results138,go_sem,RZ.1,RZ.2.1,RZ.2.2.1]) rfl FIN.o
