import Derived.Test.YthdgedcckdkpjaaGreatDoorD23
namespace Go.Proofs.YthdgedcckdkpjaaGreatDoor
open Go Go.RowKit
set_option maxRecDepth 20000
set_option maxHeartbeats 12800000
set_option linter.unusedVariables false
set_option linter.unusedSimpArgs false
section
attribute [local go_sem] Oper.semAt_some
theorem IL {w0 w:World}{R:List Nat}{t d s n:Nat}{E:List Ent}{bn bt:Nat}{nm f:ByteArray}(h:TxS w0 R w t d s n E)(hb:w.heap[bn]?=some (.cells #[nm] 9))(ht:w.heap[bt]?=some (.cells #[t] 24))(hm:(bn∈R/\bn≠t/\w0.heap.size<=bn)/\(bt∈R/\bt≠t/\w0.heap.size<=bt))(hE:E.length<=600)(hK:lI E)
  (hos:((bB (aE 3 0 0) E).takeWhile fun e=>mT e.1 3 0)=[])(hnm:nm.size<=140737488351232)(hr:cT nm=true)(hf:gM nm=f) :
  () 71 #[bn,bt] w fun e' w'=>e'=.returned (.tuple #[.agg #[(0:Int),.string ⟨#[]⟩,(0:Int),(0:Int)],(3:Int)])/\TxS w0 R w' t d s n E/\KeptT R t w w':=by
 have FO:=Hd (fun w=>by have:=uF nm w hnm;rw[hr,hf] at this;exact this);have HOS:=Hd hos;have HEK:=Hd (And.intro hE hK);clear hos hnm hr hf hE hK;obtain⟨n0,hn0⟩:∃ n0,w.heap.size=n0:=⟨_,rfl⟩
 obtain⟨x1,hx1⟩:∃ x,w.alloc (.cells #[(0:Int),.string ⟨#[]⟩,(0:Int),(0:Int)] 54)=x:=⟨_,rfl⟩
 obtain⟨x2,hx2⟩:∃ x,x1.alloc (.cells #[(0:Int)] 26)=x:=⟨_,rfl⟩
 obtain⟨s1,m1,b1⟩:=jL hx1 hn0;obtain⟨s2,m2,b2⟩:=jL hx2 s1;have b12:Below w.heap.size w x2:=b1.trans (b2.mono (by omega));have n1:=(b2.block n0 (by omega)).trans m1;have hl:=h.lt;obtain⟨F,hF,hnF,hFl⟩:=h.said;have lF3:=hF.lt;have hn2:=(b12.block bn (hl.1 bn hm.1.1)).trans hb;have ht2:=(b12.block bt (hl.1 bt hm.2.1)).trans ht;have HF:=Hd (And.intro hF (And.intro hnF (And.intro lF3 (And.intro hl h.from))));have HB:=Hd (And.intro s2 (And.intro n1 (And.intro m2 (And.intro b12 ht2))));have HX:=Hd (And.intro hx1 hx2);have HN:=Hd hn0;have HM:=Hd hm
 have ct:=(aD hn2).1;clear h hb ht hx1 hx2 s1 s2 m1 m2 b1 b2 b12 n1 hl hF hnF hFl lF3 hn2 ht2 hm;refine(callsIn_wide (n:=0)).1 (callsIn_of_wp_marks (F:=Fence.wide) (n:=0) Tryz.func71 rfl trivial (wpIn_wide.2 ?_) rfl);simp only[Tryz.ntmps71,List.size_toArray,List.length_cons,List.length_nil,Nat.reduceAdd,Nat.reduceSub,Array.replicate_succ,Array.replicate_zero,List.push_toArray,List.append_toArray,List.nil_append,List.cons_append];go_upto_region 1 with fail
 try rw[HX.1,HX.2]
 try rw[hn0]
 clear hn0;go_wp2_with fail;refine(FO _).mono ?_;rintro e w3 ⟨rfl,b3⟩;obtain⟨nf,hnf⟩:∃ n,w3.heap.size=n:=⟨_,rfl⟩
 obtain⟨x4,hx4⟩:∃ x,w3.alloc (.cells #[f] 9)=x:=⟨_,rfl⟩
 obtain⟨s4,m4,b4⟩:=jL hx4 hnf;have q4:Below w.heap.size w x4:=(HB.2.2.2.1.trans (b3.mono HB.2.2.2.1.size)).trans (b4.mono (Nat.le_trans HB.2.2.2.1.size b3.size));have c24:Below x2.heap.size x2 x4:=b3.trans (b4.mono b3.size);have t4:=mB HB.2.2.2.2 c24;have i0:=mB HB.2.1 c24;have i1:=mB HB.2.2.1 c24;have nfl:n0+1<nf:=by have:=b3.size;have:=HB.1;omega
 have H4:=Hd (And.intro q4 (And.intro s4 (And.intro i0 (And.intro i1 (And.intro m4 nfl)))));have X4:=Hd (And.intro hx4 hnf);have c4:=(aD t4).1;clear b3 s4 m4 b4 q4 c24 t4 i0 i1 nfl hx4 hnf ct;go_upto_region 2 with fail
 rw[X4.1,X4.2];go_wp2_with fail;refine(QV _ t 3 0 0).mono ?_;rintro e w5 ⟨rfl,m5,q5,s5⟩;clear c4;go_wp2_with fail;obtain⟨nb,hnb⟩:∃ n,x4.heap.size=n:=⟨_,rfl⟩
 rw[hnb] at m5 q5 s5 |-;have h4:=H4.o;have hF:=HF.o;have q5w:Below w.heap.size w w5:=h4.1.trans (q5.mono (by rw[<-hnb];exact h4.1.size));have hT5:=hF.1.below q5w;have hn:=HN.o;have hnb':nf+1=nb:=by rw[<-hnb];exact h4.2.1.symm
 have f0:=hF.2.2.2.2.size;have lF:=hT5.lt;have hnF':∀ k,F k->k<n0:=fun k hk=>by have:=hF.2.2.1.1 k hk;omega
 have htn:=hF.2.2.2.1.2;have hit:=QU hT5 HEK.1 HEK.2.1 HEK.2.2 m5 ⟨⟨fun e=>by have:=hnF' _ e;omega,by omega,by omega⟩,⟨fun e=>by have:=hnF' _ e;omega,by omega,by omega⟩⟩ (by decide:bS 3 0 0=true) (rfl:aE 3 0 0=aE 3 0 0);rw[HOS.o] at hit;have i5:NmI n0 nf f [] [] (fun k=>k∈[n0,n0+1,nf]\/k∈([]:List Nat)) w5:=⟨fun k=>Iff.rfl,(q5.block _ (by omega)).trans h4.2.2.1,(q5.block _ (by omega)).trans h4.2.2.2.1,(q5.block _ (by omega)).trans h4.2.2.2.2.1,fun j q hj=>by simp at hj⟩
 have TSO:∀ (Wz:World) (D:Nat),TxF w0 F Wz t d s n E->Frm (fun k=>(k∈[n0,n0+1,nf]\/k∈([]:List Nat))\/GN w0 F t (nb+1) (nb+2) (nb+3) nb k) w5 Wz->w5.heap.size<=D->Wz.heap[D]?=some (.deferred (some []))->TxS w0 (D::([n0,n0+1,nf]++R)) Wz t d s n E/\KeptT R t w Wz:=fun Wz D hV hfr hDz hdef=>
  tso hF.2.2.2.1 hF.2.2.2.2 hF.2.1 (fun k hk=>by rw[hn];exact hnF' k hk) q5w (fun k hk=>by
   simp only[List.mem_cons,List.not_mem_nil,or_false] at hk;rw[s5];omega) (fun k hk=>by cases hk) hV hfr (fun k hk=>by
   unfold GN at hk
   rcases hk with hk|hk|hk|hk|hk|hk|hk
   ·exact .inl hk
   ·exact .inr (.inl hk)
   all_goals first|exact .inr (.inr (.inl hk))|exact .inr (.inr (.inr (by omega)))) hDz (zl hdef)
 refine(wpIn_wide (n:=0)).1 (tK rfl (enters_of Tryz.func105 (by kernel_rfl) rfl) hit (fun Wz lz o hz hv=>?_) (fun k hk=>?_) (by intro _;rfl) (fun k=>k∈[n0,n0+1,nf]\/k∈([]:List Nat)) (fun k hk hg=>?_) (NmI n0 nf f []) (fun _ _ _ _=>False) NmI.on (fun c s D A B hh ho=>hh) NmI.lt (fun c s D A hh=>hh.elim) i5 ?_ ?_ ?_)
 ·exact hv.frm (cQ Wz lz o) fun k hk=>by subst hk;exact⟨fun e=>by have:=lF.1 _ e;omega,by have:=lF.2.1;omega,by have:=hT5.from.size;omega⟩
 ·unfold GN at hk
  rcases hk with hk|hk|hk|hk|hk|hk|hk
  ·exact lF.1 _ hk
  ·have:=lF.2.1;omega
  all_goals (have:=hT5.from.size;omega)
 ·simp only[List.mem_cons,List.not_mem_nil,or_false] at hk
  unfold GN at hg;have h5:=hnF' k
  rcases hg with hg|hg|hg|hg|hg|hg|hg
  ·have:=h5 hg;omega
  all_goals omega
 ·intro l' pre x D Wz hpre
  obtain⟨r,hr⟩:=hpre;exact absurd (congrArg List.length hr) (by simp)
 ·intro D C' Wz hDz hI hV hfr hC' hnD hdef
  obtain⟨j1,j2,j3,j6,j7⟩:=hI;obtain⟨T0,K0⟩:=TSO Wz D hV hfr hDz hdef
  have hDn:n0≠D/\n0+1≠D/\w0.heap.size<=D/\w0.heap.size<=n0/\D≠t/\n0≠t/\n0+1≠t:=by
   have:=q5.size;omega
  have hRD:∀ k∈R,k≠n0/\k≠n0+1/\k≠D:=fun k hk=>by have:=hF.2.2.2.1.1 k hk;have:=q5.size;omega
  obtain⟨⟨c0,c1,c2,c3⟩,g0,g1,g2,g3⟩:=fQ j2;obtain⟨c9,g9⟩:=aD j3;obtain⟨n1,n2⟩:=VO j2 (.int .i64 0) (.string ⟨#[]⟩) (.int .i64 0) (.int .i64 0);obtain⟨y6,hy6⟩:∃ y6,(stW Wz n0 (.int .i64 0) (.string ⟨#[]⟩) (.int .i64 0) (.int .i64 0)).setCell ⟨n0+1,0,none⟩ (.int .i64 3)=y6:=⟨_,rfl⟩
  have f6:Frm (fun k=>k=n0\/k=n0+1) Wz y6:=by rw[<-hy6];exact(Frm.mono (G:=fun k=>k=n0\/k=n0+1) n2 fun k hk=>.inl hk).setCell ⟨n0+1,0,none⟩ _ (.inl (.inr rfl))
  have s0:y6.heap[n0]?=some (.cells #[(0:Int),.string ⟨#[]⟩,(0:Int),(0:Int)] 54):=by
   rw[<-hy6,heap_setCell_other _ _ _ _ (by show n0≠n0+1;omega)];exact n1
  have s1:y6.heap[n0+1]?=some (.cells #[(3:Int)] 26):=by
   rw[<-hy6,hss _ _ 0 _ _ _ ((n2.block _ (zl j3) (by omega)).trans j3)]
   rfl
  have T6:TxS w0 (D::([n0,n0+1,nf]++R)) y6 t d s n E:=by
   rw[<-hy6];exact(T0.turn (k:=n0) (by simp) (by omega) (by omega) n2).turn (k:=n0+1) (by simp) (by omega) (by omega) ((Frm.refl (fun k=>k=n0+1) _).setCell _ _ (.inl rfl))
  have d6:=(f6.block D (zl hdef) (by omega)).trans hdef;have HMK:Hid (Marks y6 [D]):=Hd ((Marks.nil y6).cons (by simp) d6)
  have FIN:Hid (∀ W',Frm (fun k=>k∈[D]) y6 W'->W'.heap[n0]?=some (.cells #[(0:Int),.string ⟨#[]⟩,(0:Int),(0:Int)] 54)/\W'.cell? ⟨n0+1,0,none⟩=some (.int .i64 3)/\TxS w0 R W' t d s n E/\KeptT R t w W'):=Hd fun W' hm=>by
   have lt6:=T6.lt.1;refine⟨(hm.block n0 (lt6 n0 (by simp)) (by simpa using hDn.1)).trans s0,(aD ((hm.block (n0+1) (lt6 (n0+1) (by simp)) (by simpa using hDn.2.1)).trans s1)).1,?_,fun k hk hn=>?_⟩
   ·exact(T6.turn (k:=D) (by simp) (by omega) (by omega) (hm.mono fun k hk=>by simpa using hk)).sub fun k hk=>by simp[hk]
   ·have hy:=hRD k hk
    exact(hm.block k (lt6 k (by simp[hk])) (by simpa using hy.2.2)).trans ((f6.block k (T0.lt.1 k (by simp[hk])) (by omega)).trans (K0 k hk hn))
  have HY6:=Hd hy6;unfold stW at HY6;clear hit hfr hC' hnD hdef j1 j2 j3 j6 j7 hV i5 TSO T0 K0 n1 n2 f6 s0 s1 T6 d6 hy6 hDn hRD hDz hF hnF' h4 q5w lF htn f0 hnb' hn hnb hT5 m5 q5 s5;go_wp2_with fail;rw[HY6.o];refine jW [D] _ HMK.o fun W' hm=>?_
  obtain⟨u0,u1,u2,u3⟩:=FIN W' hm;exact⟨_,rX (fn:=Tryz.f71) rfl _ W' n0 54 _ (0,0) _ _ _ rfl u0 Tryz.underlying54 rfl fW rfl (YB rfl Tryz.underlying26 u1),rfl,u2,u3⟩
 ·intro D c pre C' Wz hDz hpre hF9
  exact hF9.elim
end
theorem KE {w0 w:World}{R:List Nat}{t d s n:Nat}{E:List Ent}{nm f:ByteArray}(h:TxS w0 R w t d s n E)(hE:E.length<=600)(hK:lI E)(hos:((bB (aE 3 0 0) E).takeWhile fun e=>mT e.1 3 0)=[])(hnm:nm.size<=140737488351232)(hr:cT nm=true)(hf:gM nm=f) :
  () 26 #[t,nm] w fun e' w'=>e'=.returned (.tuple #[.agg #[(0:Int),.string ⟨#[]⟩,(0:Int),(0:Int)],(3:Int)])/\TxS w0 R w' t d s n E/\KeptT R t w w':=
 aC0 h (.inr ⟨by decide,rfl,rfl,rfl,rfl⟩) fun R' wa b0 b1 hT g0 g1 gm=>IL hT g1 g0 ⟨gm.2,gm.1⟩ hE hK hos hnm hr hf
theorem WI {w0 w:World}{R:List Nat}{t d s:Nat}{E:List Ent}{bn bl bt:Nat}{nm:ByteArray}{li:Int}{f:ByteArray}{v id:Int}(h:TxS w0 R w t d s 640 E)(hb:w.heap[bn]?=some (.cells #[nm] 9))(hl:w.heap[bl]?=some (.cells #[.int .i64 li] 3))(ht:w.heap[bt]?=some (.cells #[t] 24))(hm:(bn∈R/\bn≠t/\w0.heap.size<=bn)/\(bl∈R/\bl≠t/\w0.heap.size<=bl)/\(bt∈R/\bt≠t/\w0.heap.size<=bt))(hE:E.length<=290)(hK:lI E)
  (hos:((bB (aE 3 0 0) E).takeWhile fun e=>mT e.1 3 0)=[])(hnm:nm.size<=140737488351232)(hr:cT nm=true)(hf:gM nm=f)(hli:0<=li/\li<=1000)(hv:NumE E 10376293541461622786 v)(hv1:v<16777215)(hid:v+1=id)(ho:gX id ⟨f,li,0⟩) :
  () 24 #[bn,bl,bt] w fun e' w'=>e'=.returned (.tuple #[.int .i64 id,(0:Int)])/\TxS w0 R w' t d s 640 (QA E id ⟨f,li,0⟩)/\KeptT R t w w':=by
 have fd:=YW nm hr;rw[hf] at fd;have FO:=Hd (fun w=>by have:=uF nm w hnm;rw[hr,hf] at this;exact this);have NA:Hid (∀ w,TxS w0 R w t d s 640 E->() 26 #[t,f] w fun e' w'=>e'=.returned (.tuple #[.agg #[(0:Int),.string ⟨#[]⟩,(0:Int),(0:Int)],(3:Int)])/\TxS w0 R w' t d s 640 E/\KeptT R t w w'):=Hd fun w h=>KE h (show E.length<=600 by omega) hK hos (by rw[fd.size];exact hnm) fd.right fd.again
 have c0:=(aD hb).1;have c1:=(aD hl).1;have HB:=Hd (And.intro hl (And.intro ht hm));have H0:=Hd (And.intro h (And.intro hE hK));have e1:¬ li<0:=by omega
 have e2:¬ (1000:Int)<li:=by omega
 have HN:=Hd (And.intro hv (And.intro hv1 (And.intro hid ho)));clear h hb hl ht hm hE hK hos hnm hr hf hli fd hv hv1 hid ho;go_enter Tryz.func24,Tryz.ntmps24;go_wp2_with fail;refine(FO _).mono ?_;rintro e w2 ⟨rfl,b2⟩;have m1:=mB HB.1 b2;have m2:=mB HB.2.1 b2;have T2:=Hd (And.intro (H0.1.below b2) (And.intro (H0.1.kept b2) (And.intro m1 m2)));clear c0 c1;have c1:=(aD m1).1;have c2:=(aD m2).1;clear b2 m1 m2;go_wp2_with fail;refine(NA _ T2.1).mono ?_;rintro e w3 ⟨rfl,h1,h2⟩
 obtain⟨a1,a2,a3,a4,a5,a6,a7⟩:=h1.box (.cells #[(0:Int),.string ⟨#[]⟩,(0:Int),(0:Int)] 54);obtain⟨x1,hx1⟩:∃ x,w3.alloc (.cells #[(0:Int),.string ⟨#[]⟩,(0:Int),(0:Int)] 54)=x:=⟨_,rfl⟩
 rw[hx1] at a1 a2 a3 a5;have K1:=Hd (T2.2.1.trans (h2.trans a2));have X1:=Hd hx1;have bt1:=(a2 bt HB.2.2.2.2.1 HB.2.2.2.2.2.1).trans ((h2 bt HB.2.2.2.2.1 HB.2.2.2.2.2.1).trans T2.2.2.2);have bl1:=(a2 bl HB.2.2.2.1.1 HB.2.2.2.1.2.1).trans ((h2 bl HB.2.2.2.1.1 HB.2.2.2.1.2.1).trans T2.2.2.1);have NU:=Hd (MN (m:=2) (a1.sub (R':=R) fun k hk=>by simp[hk]) (show E.length<=600 by have:=H0.2.1;omega) ⟨by decide,by decide⟩ HN.1 HN.2.1 HN.2.2.1);have B1:=Hd (And.intro bt1 bl1)
 clear h1 h2 a1 a2 a3 a4 a5 a6 a7 c1 c2 hx1;have c2:=(aD bt1).1;clear bt1 bl1;go_upto_region 5 with fail
 rw[X1.o];go_wp2_with fail;refine NU.mono ?_;rintro e w4 ⟨rfl,h1,h2⟩;have bt1:=(h2 bt HB.2.2.2.2.1 HB.2.2.2.2.2.1).trans B1.1;have bl1:=(h2 bl HB.2.2.2.1.1 HB.2.2.2.1.2.1).trans B1.2;have hid:=tQ HN.2.2.2;have GV:=Hd (DZ (m:=2) h1 (show E.length<=300 by have:=H0.2.1;omega) rfl (show 0<=id/\id<=16777215 by omega) rfl);have B2:=Hd (And.intro bt1 (And.intro bl1 (K1.trans h2)));clear h1 h2 NU c2 hid;have c2:=(aD bt1).1;clear bt1 bl1;go_wp2_with fail;refine GV.mono ?_;rintro e w5 ⟨rfl,h1,h2⟩
 have bt1:=(h2 bt HB.2.2.2.2.1 HB.2.2.2.2.2.1).trans B2.1;have bl1:=(h2 bl HB.2.2.2.1.1 HB.2.2.2.1.2.1).trans B2.2.1;have PO:=Hd (DR (p:=⟨f,li,0⟩) h1 (by have:=bM (aE 9 0 2) (Str (aK id 3)) E;have:=H0.2.1;omega) HN.2.2.2 rfl (rfl:aE 3 0 id=aE 3 0 id));have K5:=Hd (B2.2.2.trans h2);clear h1 h2 GV c2;have c2:=(aD bt1).1;have c1:=(aD bl1).1;clear bt1 bl1;go_wp2_with fail;refine PO.mono ?_;rintro e w6 ⟨rfl,h1,h2⟩
 have FIN:=Hd (And.intro (show TxS w0 R w6 t d s 640 (QA E id ⟨f,li,0⟩) from h1) (K5.trans h2));clear h1 h2 PO c1 c2;go_wp2_with fail;go_ret2;exact⟨rfl,FIN.o⟩
theorem ZN {w0 w:World}{R:List Nat}{t d s:Nat}{nm f:ByteArray}{li:Int}(h:TxS w0 R w t d s 640 [])(hnm:nm.size<=140737488351232)(hr:cT nm=true)(hf:gM nm=f)(hli:0<=li/\li<=1000) :
  () 9 #[t,nm,li] w fun e' w'=>e'=.returned (.tuple #[(1:Int),(0:Int)])/\TxS w0 R w' t d s 640 (QA [] 1 ⟨f,li,0⟩)/\KeptT R t w w'/\CpE (QA [] 1 ⟨f,li,0⟩) [] [⟨f,li,0⟩] [] 2:=by
 have fd:=YW nm hr;rw[hf] at fd;have ho:gX 1 ⟨f,li,0⟩:=kO.2 ⟨by omega,fd.right,fd.again,hli,Int.le_refl 0,hli.1⟩;refine(aCW h (.inl ⟨rfl,rfl⟩) fun R' wa b0 b1 b2 hT g0 g1 g2 gm=>WI hT g1 g2 g0 ⟨gm.2.1,gm.2.2,gm.1⟩ (by simp) uA (by simp[bB]) hnm hr hf hli CpE.nil.num2 (by decide) rfl ho).mono ?_;rintro e' w' ⟨rfl,h1,h2⟩;exact⟨rfl,h1,h2,CpE.nil.reg (by decide) ho⟩
theorem IJ (a:Int)(k:Nat)(hk:0<k):∃ f:Nat,f<k/\((a<0/\-((a+1).tmod (k:Int))=(f:Int))\/(0<=a/\a % (k:Int)=(f:Int))):=by
 by_cases h0:a<0
 ·refine⟨((-(a+1)) % (k:Int)).toNat,?_,.inl ⟨h0,?_⟩⟩
  ·have:=Int.emod_lt_of_pos (-(a+1)) (show(0:Int)<(k:Int) by omega)
   omega
  ·have e:(a+1).tmod (k:Int)=-((-(a+1)).tmod (k:Int)):=by rw[Int.neg_tmod,Int.neg_neg]
   rw[e,Int.tmod_eq_emod_of_nonneg (by omega)];have:=Int.emod_nonneg (-(a+1)) (show(k:Int)≠0 by omega);omega
 ·refine⟨(a % (k:Int)).toNat,?_,.inr ⟨by omega,?_⟩⟩
  ·have:=Int.emod_lt_of_pos a (show(0:Int)<(k:Int) by omega)
   omega
  ·have:=Int.emod_nonneg a (show(k:Int)≠0 by omega)
   omega
theorem rT (a:Int)(v:(Lit.int .i64 a).wf=true):-9223372036854775808<=a/\a<=9223372036854775807:=by
 simp only[Lit.wf,Bool.and_eq_true,decide_eq_true_eq] at v;exact v
def aDS (a:Int)(k m:Nat):Prop:=m<k/\((a<0/\-((a+1).tmod (k:Int))=(m:Int))\/(0<=a/\a % (k:Int)=(m:Int)))
theorem pT (a:Int)(k:Nat)(hk:0<k):∃ m,aDS a k m:=IJ a k hk
def kZ (x:Int):bG:=⟨0,1,1,1,0,1,x,0,false⟩
def LeS (w0:World)(R:List Nat)(w:World)(t d s:Nat)(li:Int)(xs ls:List Int)(m:Nat):Prop:=
 ∃ E,TxS w0 R w t d s 640 E/\CpE E (xs.map fun x=>some (kZ x)) [⟨⟨#[120]⟩,li,(xs.length:Int)⟩] ls m
section
variable {w0 w:World} {R:List Nat} {t d s m:Nat} {li:Int} {xs ls:List Int}
theorem LeS.from (h:LeS w0 R w t d s li xs ls m):Below w0.heap.size w0 w:=by
 obtain⟨E,h1,_⟩:=h;exact h1.from
theorem YD (h:TxS w0 R w t d s 640 [])(hli:0<=li/\li<=1000) :
  () 9 #[t,.string ⟨#[120]⟩,li] w fun e w'=>e=.returned (.tuple #[(1:Int),(0:Int)])/\LeS w0 R w' t d s li [] [] 2:=by
 refine(ZN (f:=⟨#[120]⟩) h (by decide) (by decide +kernel) (by decide +kernel) hli).mono ?_;rintro e w' ⟨rfl,h1,_,h2⟩;exact⟨rfl,_,h1,h2⟩
theorem aB6 (h:LeS w0 R w t d s li xs ls m){x:Int}(hm:m<=280)(hl:xs.length<90)(hli:(xs.length:Int)<li)(hx:0<=x/\x<=268435455){id:Int}(hid:(xs.length:Int)+1=id) :
  () 11 #[t,(1:Int),(1:Int),(1:Int),(0:Int),x] w fun e w'=>e=.returned (.tuple #[id,(0:Int)])/\LeS w0 R w' t d s li (xs++[x]) (ls++[x]) (m+5)/\KeptT R t w w':=by
 obtain⟨E,h1,h2⟩:=h;subst hid;refine(ZR (oi:=0) (ow:=1) (ob:=1) (ri:=1) (ba:=0) (ex:=x) h1 h2 hm (by rw[List.length_map];exact hl) rfl rfl hli (by decide) (by decide) (by decide) hx).mono ?_;rintro e w' ⟨E',rfl,g1,g2,g3⟩;rw[List.length_map];refine⟨rfl,⟨E',g1,?_⟩,g2⟩;rw[List.map_append,List.length_append];exact g3
theorem LeS.get (h:LeS w0 R w t d s li xs ls m){i:Nat}(hi:i<xs.length):(xs.map fun x=>some (kZ x))[i]?=some (some (kZ (xs.getD i 0))):=by
 rw[List.getElem?_map,List.getD_eq_getElem?_getD,List.getElem?_eq_getElem hi]
 rfl
theorem ZX (i:Nat)(x:Int)(xs:List Int):(xs.map fun x=>some (kZ x)).set i (some (kZ x))=(xs.set i x).map fun x=>some (kZ x):=by
 rw[List.map_set]
theorem RK (h:LeS w0 R w t d s li xs ls m)(hm:m<=290){i:Nat}(hi:i<xs.length){id:Int}(hid:(i:Int)+1=id) :
  () 17 #[t,id] w fun e w'=>e=.returned (.int .i64 0)/\LeS w0 R w' t d s li xs (ls.set i 0) m/\KeptT R t w w':=by
 have hg:=h.get hi;obtain⟨E,h1,h2⟩:=h;subst hid;have hE:=h2.len;refine(IX h1 (by omega) (h2.getC hg)).mono ?_;rintro e w' ⟨rfl,g1,g2⟩;exact⟨rfl,⟨_,g1,h2.forget hg⟩,g2⟩
theorem LeS.chain {E:List Ent}(h2:CpE E (xs.map fun x=>some (kZ x)) [⟨⟨#[120]⟩,li,(xs.length:Int)⟩] ls m){i:Nat}(hg:(xs.map fun x=>some (kZ x))[i]?=some (some (kZ (xs.getD i 0)))):ChainE E ((i:Int)+1) [((i:Int)+1,kZ (xs.getD i 0))]:=⟨rfl,h2.getC hg,.inl ⟨rfl,rfl⟩⟩
theorem SS (id x:Int):iS [(id,kZ x)]=x:=by
 show yQ 0 (id,kZ x)=x
 unfold yQ
 show(if x≠0/\((0:Int)=0\/x<0) then x else 0)=x
 split <;> omega
theorem aA0 (id x now:Int):stV [(id,kZ x)] now=if x≠0/\x<=now then 11 else 0:=by
 unfold stV;rw[SS,if_neg]
 show ¬ (xV [(id,kZ x)]=true)
 unfold xV kL;simp[List.range_succ,kZ]
theorem YE (h:LeS w0 R w t d s li xs ls m)(hm:m<=290){i:Nat}(hi:i<xs.length)(hx:0<=xs.getD i 0){id x:Int}(hid:(i:Int)+1=id)(hr:0<=x/\x<=268435455) :
  () 15 #[t,id,x,(0:Int)] w fun e w'=>e=.returned (.int .i64 0)/\LeS w0 R w' t d s li (xs.set i x) (ls.set i x) (m+2)/\KeptT R t w w':=by
 have hg:=h.get hi;obtain⟨E,h1,h2⟩:=h;subst hid;have hE:=h2.len;have hst:stV [((i:Int)+1,kZ (xs.getD i 0))] 0=0:=by rw[aA0,if_neg (by omega)]
 have hmay:tV x 0=true:=by
  unfold tV;simp only[Bool.or_eq_true,Bool.and_eq_true,decide_eq_true_eq];omega
 refine(RC h1 (by omega) (LeS.chain h2 hg) (by simp) (h2.getC hg) hst).mono ?_;rintro e w' ⟨h3,g2⟩
 rcases h3 with⟨e1,_⟩|⟨_,e1,_⟩|⟨_,_,rfl,g1⟩
 ·exact absurd rfl e1
 ·rw[hmay] at e1;cases e1
 ·have hok:fV ((i:Int)+1) (iR (kZ (xs.getD i 0)) x):=by
   have h3:=gO.1 (h2.capOk i _ hg);exact gO.2 ⟨h3.id0,h3.pa,h3.np,h3.ob,h3.ow,h3.ri,h3.ba,h3.de,h3.pd,hr,h3.cu⟩
  have g3:=h2.renew hg hok;refine⟨rfl,⟨_,g1,?_⟩,g2⟩;rw[show iR (kZ (xs.getD i 0)) x=kZ x from rfl] at g3;rw[ZX] at g3;rw[List.length_set];exact g3
theorem YF (h:LeS w0 R w t d s li xs ls m)(hm:m<=290){n:Nat}{now mo:Int}(hn:(n:Int)=now)(hn2:n<=1000)(hmo:1<=mo) :
  () 16 #[t,now,mo] w fun e w'=>∃ v,e=.returned (.tuple #[v,(0:Int)])/\RowZ w' v (((fM ls n).map (·.2)).take mo.toNat)/\FreshB w0 R t v/\LeS w0 (v.ownBlock.toList++R) w' t d s li xs ls m/\KeptT R t w w':=by
 obtain⟨E,h1,h2⟩:=h;subst hn;have hE:=h2.len;have hl:ls.length<=90:=by have:=h2.ll;have:=h2.cl;omega
 refine(aB7 (E':=E) (L:=((fM ls n).map (·.2)).take mo.toNat) h1 fun R' wa b0 b1 b2 hT g0 g1 g2 gm=>?_).mono ?_
 ·have:=aCR hT g2 g0 g1 ⟨gm.2.2,gm.1,gm.2.1⟩ (by omega) h2.keys hmo
  rw[h2.due hn2,ZG hl hn2] at this;exact this
 ·rintro e w' ⟨v,rfl,g1,g2,g3,g4⟩
  exact⟨v,rfl,g1,g2,⟨_,g3,h2⟩,g4⟩
end
theorem RowZ.at {w:World}{a:Option Addr}{m c:Nat}{L:List Int}(h:RowZ w (.slice a m c) L){j:Nat}{x:Int}(hp:L[j]?=some x):∃ g,a=some ⟨g,0,none⟩/\w.cell? ⟨g,j,none⟩=some (.int .i64 x):=by
 have hj:j<L.length:=(List.getElem?_eq_some_iff.1 hp).1
 rcases h.2 with⟨_,h0⟩|⟨g,cap,cur,hv,_,hh,_⟩
 ·omega
 ·injection hv with h1 h2 h3
  subst h1;refine⟨g,rfl,?_⟩;have:=World.ownsRow.cellAt (h2 ▸ h3 ▸ h) j (by omega);rw[this,List.getElem?_map,hp]
  rfl
theorem lN (a:Int)(k m:Nat)(w:World)(h:aDS a k m)(a0:-9223372036854775808<=a/\a<=9223372036854775807)(hk:k<=1000){q r:Int}(hq:(k:Int)=q)(hr:(m:Int)=r) :
  () 10 #[a,q] w fun e w'=>e=.returned r/\w=w':=by
 obtain⟨hm,h⟩:=h;rw[hq,hr] at h;have hm':0<=r/\r<q:=by omega
 have hw:IntKind.i64.wrap r=r:=IntWalk.i64_in _ (by omega);have hq0:¬ q=0:=by omega
 have hq1:(q==0)=false:=by simpa using hq0
 obtain⟨a0,a1⟩:=a0;clear hm
 rcases h with⟨ha,hr'⟩|⟨ha,hr'⟩
 ·clear hr hq
  go_enter Tryz.func10,Tryz.ntmps10;go_wp2_with fail;go_ret;exact⟨rfl,rfl⟩
 ·have ha':¬ a<0:=by omega
  clear hr hq;go_enter Tryz.func10,Tryz.ntmps10;go_wp2_with fail;go_ret;exact⟨rfl,rfl⟩
theorem TxS.adds {w0 w w':World}{R:List Nat}{t d s n:Nat}{E:List Ent}(h:TxS w0 R w t d s n E){G:Nat->Prop}(hG:∀ i,G i->(i∈R/\i≠t)/\w0.heap.size<=i)(hf:Frm G w w')(k:Nat)(hk:k∈R\/(w.heap.size<=k/\k<w'.heap.size)):TxS w0 (k::R) w' t d s n E:=by
 have hl:=h.lt.2;obtain⟨⟨q,h1,h2⟩,h3⟩:=h;exact⟨⟨q,(h1.adds (fun i hi=>⟨List.mem_cons_of_mem _ (hG i hi).1.1,(hG i hi).2⟩) hf k (hk.imp (List.mem_cons_of_mem _) id)).sub (fun i hi=>by simp only[List.mem_cons] at hi |-;rcases hi with hi|hi|hi <;> simp[hi]),(hf.block t hl (fun e=>(hG t e).1.2 rfl)).trans h2⟩,h3⟩
structure RowS (w0:World)(R:List Nat)(e:TypeId)(w:World)(t d s:Nat)(E:List Ent)(v:Value)(xs:List Value):Prop where
 tx:TxS w0 (v.ownBlock.toList++R) w t d s 640 E
 row:w.ownsRow 0 e 1 v xs.length xs
 ob:∀ i,v.ownBlock=some i->w0.heap.size<=i/\i≠t/\i ∉ R
section
variable {w0 w w':World} {R:List Nat} {e:TypeId} {t d s:Nat} {E E':List Ent} {v:Value} {xs:List Value}
theorem RowS.nil (h:TxS w0 R w t d s 640 E):RowS w0 R e w t d s E (.slice none 0 0) []:=⟨h,World.ownsRow_nil _ _ _ _,fun i hi=>(by cases hi)⟩
theorem RowS.txn (h:RowS w0 R e w t d s E v xs)(h1:TxS w0 (v.ownBlock.toList++R) w' t d s 640 E')(k:KeptT (v.ownBlock.toList++R) t w w'):RowS w0 R e w' t d s E' v xs:=
 ⟨h1,jF h.row fun i hi=>k i (by simp[hi]) (h.ob i hi).2.1,h.ob⟩
theorem RowS.below (h:RowS w0 R e w t d s E v xs)(hb:Below w.heap.size w w'):RowS w0 R e w' t d s E v xs:=h.txn (h.tx.below hb) (h.tx.kept hb)
theorem RowS.app (h:RowS w0 R e w t d s E v xs){ty:TypeId}{i:TypeInfo}{z:Value}{by_:Nat}(hbl:by_<=1000)(ht:Tryz.prog.underlying ty=some (.slice e))(hi:Tryz.prog.info? e=some i)(hz:i.zero=some z)
  (hsize:i.size=1)(hby:i.bytes=by_)(hzs:z.cells.size=1)(u:Value)(h1:u.oneCell'=true)(hn:xs.length<=100000) :
  ∃ v' w',(Builtin.append_ #[ty,ty] ty #[v,.slice (some ⟨w.heap.size,0,none⟩) 1 1]).run Tryz.prog (w.alloc (.cells #[u] e))=.ok v' w'/\RowS w0 R e w' t d s E v' (xs++[u])/\Frm (fun i=>v.ownBlock=some i) w w':=by
 have hb:=aB w (.cells #[u] e);have h9:=h.below hb;obtain⟨v',w',k,hr,ho,hg,k1,k2⟩:=sM (P:=Tryz.prog) (w.alloc (.cells #[u] e)) 0 ty ty e i z by_ hbl ht hi hz hsize hby hzs v xs.length xs h9.row w.heap.size u (by rw[World.cell?_alloc_new];rfl) h1 hn (Nat.zero_le _);have hfr:Frm (fun i=>v.ownBlock=some i) (w.alloc (.cells #[u] e)) w':=(Frm.refl _ _).grown hg fun i hi=>.inl hi
 have hlt':k<w'.heap.size:=by
  rcases ho.2 with⟨rfl,_⟩|⟨g,cap,cur,rfl,_,hgg,_⟩
  ·cases k1
  ·have:k=g:=by injection k1 with h1;exact h1.symm
   rw[this];exact(zl hgg)
 have hs9:(w.alloc (.cells #[u] e)).heap.size=w.heap.size+1:=by simp
 have hl:=h.tx.lt
 have hlo:w0.heap.size<=k/\k≠t/\k ∉ R:=by
  rcases k2 with k2|rfl
  ·exact h.ob k k2
  ·have a1:=h.tx.from.size
   exact⟨by omega,by omega,fun hk=>by have:=hl.1 _ (List.mem_append_right _ hk);omega⟩
 refine⟨v',w',hr,⟨?_,by rw[List.length_append];exact ho,fun i hi=>?_⟩,?_⟩
 ·have:=(h9.tx.adds (G:=fun i=>v.ownBlock=some i) (fun i hi=>⟨⟨by simp[hi],(h.ob i hi).2.1⟩,(h.ob i hi).1⟩) hfr k (k2.elim (fun e=>.inl (by simp[e])) (fun e=>.inr ⟨by omega,hlt'⟩)))
  refine this.sub fun i hi=>?_
  rw[k1] at hi;simp only[Option.toList_some,List.cons_append,List.nil_append,List.mem_cons] at hi
  rcases hi with rfl|hi
  ·simp
  ·simp[hi]
 ·rw[k1] at hi
  injection hi with hi;rw[<-hi];exact hlo
 ·exact(Frm.of_below (F:=fun i=>v.ownBlock=some i) hb).trans hfr fun i hi=>.inl hi
end
