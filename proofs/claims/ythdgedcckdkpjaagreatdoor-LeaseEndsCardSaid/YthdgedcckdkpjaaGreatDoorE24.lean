import Derived.Test.YthdgedcckdkpjaaGreatDoorE23
namespace Go.Proofs.YthdgedcckdkpjaaGreatDoor
open Go Go.RowKit
set_option maxRecDepth 20000
set_option maxHeartbeats 12800000
set_option linter.unusedVariables false
set_option linter.unusedSimpArgs false
section
attribute [local go_sem] Oper.semAt_some
theorem IC {w0 w:World}{R:List Nat}{t d s n:Nat}{E:List Ent}{bn bt:Nat}{nm f:ByteArray}(h:TxS w0 R w t d s n E)(hb:w.heap[bn]?=some (.cells #[.string nm] 9))(ht:w.heap[bt]?=some (.cells #[.pointer (some ⟨t,0,none⟩)] 24))(hm:(bn∈R/\bn≠t/\w0.heap.size<=bn)/\(bt∈R/\bt≠t/\w0.heap.size<=bt))(hE:E.length<=600)(hK:qA E)
  (hos:((bN (aH 3 0 0) E).takeWhile fun e=>mK e.1 3 0)=[])(hnm:nm.size<=140737488351232)(hr:cU nm=true)(hf:gN nm=f) :
  Calls Tryz.prog 71 #[.pointer (some ⟨bn,0,none⟩),.pointer (some ⟨bt,0,none⟩)] w fun e' w'=>e'=.returned (.tuple #[.agg #[.int .i64 0,.string ⟨#[]⟩,.int .i64 0,.int .i64 0],.int .i64 3])/\TxS w0 R w' t d s n E/\KeptT R t w w':=by
 have FO:=Hd (fun w=>by have:=tS nm w hnm;rw[hr,hf] at this;exact this);have HOS:=Hd hos;have HEK:=Hd (And.intro hE hK);clear hos hnm hr hf hE hK;obtain⟨n0,hn0⟩:∃ n0,w.heap.size=n0:=⟨_,rfl⟩
 obtain⟨x1,hx1⟩:∃ x,w.alloc (.cells #[.int .i64 0,.string ⟨#[]⟩,.int .i64 0,.int .i64 0] 54)=x:=⟨_,rfl⟩
 obtain⟨x2,hx2⟩:∃ x,x1.alloc (.cells #[.int .i64 0] 26)=x:=⟨_,rfl⟩
 obtain⟨s1,m1,b1⟩:=kD hx1 hn0;obtain⟨s2,m2,b2⟩:=kD hx2 s1;have b12:Below w.heap.size w x2:=b1.trans (b2.mono (by omega));have n1:=(b2.block n0 (by omega)).trans m1;have hl:=h.lt;obtain⟨F,hF,hnF,hFl⟩:=h.said;have lF3:=hF.lt;have hn2:=(b12.block bn (hl.1 bn hm.1.1)).trans hb;have ht2:=(b12.block bt (hl.1 bt hm.2.1)).trans ht;have HF:=Hd (And.intro hF (And.intro hnF (And.intro lF3 (And.intro hl h.from))));have HB:=Hd (And.intro s2 (And.intro n1 (And.intro m2 (And.intro b12 ht2))));have HX:=Hd (And.intro hx1 hx2);have HN:=Hd hn0;have HM:=Hd hm
 have ct:=(aD hn2).1;clear h hb ht hx1 hx2 s1 s2 m1 m2 b1 b2 b12 n1 hl hF hnF hFl lF3 hn2 ht2 hm;refine(callsIn_wide (n:=0)).1 (callsIn_of_wp_marks (F:=Fence.wide) (n:=0) Tryz.func71 rfl trivial (wpIn_wide.2 ?_) rfl);simp only[Tryz.ntmps71,List.size_toArray,List.length_cons,List.length_nil,Nat.reduceAdd,Nat.reduceSub,Array.replicate_succ,Array.replicate_zero,List.push_toArray,List.append_toArray,List.nil_append,List.cons_append];go_upto_region 1 with fail
 try rw[HX.1,HX.2]
 try rw[hn0]
 clear hn0;go_wp2_with fail;refine(FO _).mono ?_;rintro e w3 ⟨rfl,b3⟩;obtain⟨nf,hnf⟩:∃ n,w3.heap.size=n:=⟨_,rfl⟩
 obtain⟨x4,hx4⟩:∃ x,w3.alloc (.cells #[.string f] 9)=x:=⟨_,rfl⟩
 obtain⟨s4,m4,b4⟩:=kD hx4 hnf;have q4:Below w.heap.size w x4:=(HB.2.2.2.1.trans (b3.mono HB.2.2.2.1.size)).trans (b4.mono (Nat.le_trans HB.2.2.2.1.size b3.size));have c24:Below x2.heap.size x2 x4:=b3.trans (b4.mono b3.size);have t4:=lQ HB.2.2.2.2 c24;have i0:=lQ HB.2.1 c24;have i1:=lQ HB.2.2.1 c24;have nfl:n0+1<nf:=by have:=b3.size;have:=HB.1;omega
 have H4:=Hd (And.intro q4 (And.intro s4 (And.intro i0 (And.intro i1 (And.intro m4 nfl)))));have X4:=Hd (And.intro hx4 hnf);have c4:=(aD t4).1;clear b3 s4 m4 b4 q4 c24 t4 i0 i1 nfl hx4 hnf ct;go_upto_region 2 with fail
 rw[X4.1,X4.2];go_wp2_with fail;refine(RH _ t 3 0 0).mono ?_;rintro e w5 ⟨rfl,m5,q5,s5⟩;clear c4;go_wp2_with fail;obtain⟨nb,hnb⟩:∃ n,x4.heap.size=n:=⟨_,rfl⟩
 rw[hnb] at m5 q5 s5 |-;have h4:=H4.o;have hF:=HF.o;have q5w:Below w.heap.size w w5:=h4.1.trans (q5.mono (by rw[<-hnb];exact h4.1.size));have hT5:=hF.1.below q5w;have hn:=HN.o;have hnb':nf+1=nb:=by rw[<-hnb];exact h4.2.1.symm
 have f0:=hF.2.2.2.2.size;have lF:=hT5.lt;have hnF':∀ k,F k->k<n0:=fun k hk=>by have:=hF.2.2.1.1 k hk;omega
 have htn:=hF.2.2.2.1.2;have hit:=RC hT5 HEK.1 HEK.2.1 HEK.2.2 m5 ⟨⟨fun e=>by have:=hnF' _ e;omega,by omega,by omega⟩,⟨fun e=>by have:=hnF' _ e;omega,by omega,by omega⟩⟩ (by decide:cQ 3 0 0=true) (rfl:aH 3 0 0=aH 3 0 0);rw[HOS.o] at hit;have i5:NmI n0 nf f [] [] (fun k=>k∈[n0,n0+1,nf]\/k∈([]:List Nat)) w5:=⟨fun k=>Iff.rfl,(q5.block _ (by omega)).trans h4.2.2.1,(q5.block _ (by omega)).trans h4.2.2.2.1,(q5.block _ (by omega)).trans h4.2.2.2.2.1,fun j q hj=>by simp at hj⟩
 have TSO:∀ (Wz:World) (D:Nat),TxF w0 F Wz t d s n E->Frm (fun k=>(k∈[n0,n0+1,nf]\/k∈([]:List Nat))\/GN w0 F t (nb+1) (nb+2) (nb+3) nb k) w5 Wz->w5.heap.size<=D->Wz.heap[D]?=some (.deferred (some []))->TxS w0 (D::([n0,n0+1,nf]++R)) Wz t d s n E/\KeptT R t w Wz:=fun Wz D hV hfr hDz hdef=>
  tso hF.2.2.2.1 hF.2.2.2.2 hF.2.1 (fun k hk=>by rw[hn];exact hnF' k hk) q5w (fun k hk=>by
   simp only[List.mem_cons,List.not_mem_nil,or_false] at hk;rw[s5];omega) (fun k hk=>by cases hk) hV hfr (fun k hk=>by
   unfold GN at hk
   rcases hk with hk|hk|hk|hk|hk|hk|hk
   ·exact .inl hk
   ·exact .inr (.inl hk)
   all_goals first|exact .inr (.inr (.inl hk))|exact .inr (.inr (.inr (by omega)))) hDz (zl hdef)
 refine(wpIn_wide (n:=0)).1 (xH rfl (enters_of Tryz.func105 (by kernel_rfl) rfl) hit (fun Wz lz o hz hv=>?_) (fun k hk=>?_) (by intro _;rfl) (fun k=>k∈[n0,n0+1,nf]\/k∈([]:List Nat)) (fun k hk hg=>?_) (NmI n0 nf f []) (fun _ _ _ _=>False) NmI.on (fun c s D A B hh ho=>hh) NmI.lt (fun c s D A hh=>hh.elim) i5 ?_ ?_ ?_)
 ·exact hv.frm (cZ Wz lz o) fun k hk=>by subst hk;exact⟨fun e=>by have:=lF.1 _ e;omega,by have:=lF.2.1;omega,by have:=hT5.from.size;omega⟩
 ·unfold GN at hk
  rcases hk with hk|hk|hk|hk|hk|hk|hk
  ·exact lF.1 _ hk
  ·have:=lF.2.1;omega
  all_goals (have:=hT5.from.size;omega)
 ·simp only[List.mem_cons,List.not_mem_nil,or_false] at hk
  unfold GN at hg;have h5:=hnF' k
  rcases hg with hg|hg|hg|hg|hg|hg|hg
  ·have:=h5 hg;omega
  all_goals omega
 ·intro l' pre x D Wz hpre
  obtain⟨r,hr⟩:=hpre;exact absurd (congrArg List.length hr) (by simp)
 ·intro D C' Wz hDz hI hV hfr hC' hnD hdef
  obtain⟨j1,j2,j3,j6,j7⟩:=hI;obtain⟨T0,K0⟩:=TSO Wz D hV hfr hDz hdef
  have hDn:n0≠D/\n0+1≠D/\w0.heap.size<=D/\w0.heap.size<=n0/\D≠t/\n0≠t/\n0+1≠t:=by
   have:=q5.size;omega
  have hRD:∀ k∈R,k≠n0/\k≠n0+1/\k≠D:=fun k hk=>by have:=hF.2.2.2.1.1 k hk;have:=q5.size;omega
  obtain⟨⟨c0,c1,c2,c3⟩,g0,g1,g2,g3⟩:=fF j2;obtain⟨c9,g9⟩:=aD j3;obtain⟨n1,n2⟩:=VR j2 (.int .i64 0) (.string ⟨#[]⟩) (.int .i64 0) (.int .i64 0);obtain⟨y6,hy6⟩:∃ y6,(stW Wz n0 (.int .i64 0) (.string ⟨#[]⟩) (.int .i64 0) (.int .i64 0)).setCell ⟨n0+1,0,none⟩ (.int .i64 3)=y6:=⟨_,rfl⟩
  have f6:Frm (fun k=>k=n0\/k=n0+1) Wz y6:=by rw[<-hy6];exact(Frm.mono (G:=fun k=>k=n0\/k=n0+1) n2 fun k hk=>.inl hk).setCell ⟨n0+1,0,none⟩ _ (.inl (.inr rfl))
  have s0:y6.heap[n0]?=some (.cells #[.int .i64 0,.string ⟨#[]⟩,.int .i64 0,.int .i64 0] 54):=by
   rw[<-hy6,heap_setCell_other _ _ _ _ (by show n0≠n0+1;omega)];exact n1
  have s1:y6.heap[n0+1]?=some (.cells #[.int .i64 3] 26):=by
   rw[<-hy6,hss _ _ 0 _ _ _ ((n2.block _ (zl j3) (by omega)).trans j3)]
   rfl
  have T6:TxS w0 (D::([n0,n0+1,nf]++R)) y6 t d s n E:=by
   rw[<-hy6];exact(T0.turn (k:=n0) (by simp) (by omega) (by omega) n2).turn (k:=n0+1) (by simp) (by omega) (by omega) ((Frm.refl (fun k=>k=n0+1) _).setCell _ _ (.inl rfl))
  have d6:=(f6.block D (zl hdef) (by omega)).trans hdef;have HMK:Hid (Marks y6 [D]):=Hd ((Marks.nil y6).cons (by simp) d6)
  have FIN:Hid (∀ W',Frm (fun k=>k∈[D]) y6 W'->W'.heap[n0]?=some (.cells #[.int .i64 0,.string ⟨#[]⟩,.int .i64 0,.int .i64 0] 54)/\W'.cell? ⟨n0+1,0,none⟩=some (.int .i64 3)/\TxS w0 R W' t d s n E/\KeptT R t w W'):=Hd fun W' hm=>by
   have lt6:=T6.lt.1;refine⟨(hm.block n0 (lt6 n0 (by simp)) (by simpa using hDn.1)).trans s0,(aD ((hm.block (n0+1) (lt6 (n0+1) (by simp)) (by simpa using hDn.2.1)).trans s1)).1,?_,fun k hk hn=>?_⟩
   ·exact(T6.turn (k:=D) (by simp) (by omega) (by omega) (hm.mono fun k hk=>by simpa using hk)).sub fun k hk=>by simp[hk]
   ·have hy:=hRD k hk
    exact(hm.block k (lt6 k (by simp[hk])) (by simpa using hy.2.2)).trans ((f6.block k (T0.lt.1 k (by simp[hk])) (by omega)).trans (K0 k hk hn))
  have HY6:=Hd hy6;unfold stW at HY6;clear hit hfr hC' hnD hdef j1 j2 j3 j6 j7 hV i5 TSO T0 K0 n1 n2 f6 s0 s1 T6 d6 hy6 hDn hRD hDz hF hnF' h4 q5w lF htn f0 hnb' hn hnb hT5 m5 q5 s5;go_wp2_with fail;rw[HY6.o];refine nK [D] _ HMK.o fun W' hm=>?_
  obtain⟨u0,u1,u2,u3⟩:=FIN W' hm;exact⟨_,rN (fn:=Tryz.f71) rfl _ W' n0 54 _ (0,0) _ _ _ rfl u0 Tryz.underlying54 rfl fZ rfl (YD rfl Tryz.underlying26 u1),rfl,u2,u3⟩
 ·intro D c pre C' Wz hDz hpre hF9
  exact hF9.elim
end
theorem JS {w0 w:World}{R:List Nat}{t d s n:Nat}{E:List Ent}{nm f:ByteArray}(h:TxS w0 R w t d s n E)(hE:E.length<=600)(hK:qA E)(hos:((bN (aH 3 0 0) E).takeWhile fun e=>mK e.1 3 0)=[])(hnm:nm.size<=140737488351232)(hr:cU nm=true)(hf:gN nm=f) :
  Calls Tryz.prog 26 #[.pointer (some ⟨t,0,none⟩),.string nm] w fun e' w'=>e'=.returned (.tuple #[.agg #[.int .i64 0,.string ⟨#[]⟩,.int .i64 0,.int .i64 0],.int .i64 3])/\TxS w0 R w' t d s n E/\KeptT R t w w':=
 aCU h (.inr ⟨by decide,rfl,rfl,rfl,rfl⟩) fun R' wa b0 b1 hT g0 g1 gm=>IC hT g1 g0 ⟨gm.2,gm.1⟩ hE hK hos hnm hr hf
theorem WK {w0 w:World}{R:List Nat}{t d s:Nat}{E:List Ent}{bn bl bt:Nat}{nm:ByteArray}{li:Int}{f:ByteArray}{v id:Int}(h:TxS w0 R w t d s 640 E)(hb:w.heap[bn]?=some (.cells #[.string nm] 9))(hl:w.heap[bl]?=some (.cells #[.int .i64 li] 3))(ht:w.heap[bt]?=some (.cells #[.pointer (some ⟨t,0,none⟩)] 24))(hm:(bn∈R/\bn≠t/\w0.heap.size<=bn)/\(bl∈R/\bl≠t/\w0.heap.size<=bl)/\(bt∈R/\bt≠t/\w0.heap.size<=bt))(hE:E.length<=290)(hK:qA E)
  (hos:((bN (aH 3 0 0) E).takeWhile fun e=>mK e.1 3 0)=[])(hnm:nm.size<=140737488351232)(hr:cU nm=true)(hf:gN nm=f)(hli:0<=li/\li<=1000)(hv:NumE E 10376293541461622786 v)(hv1:v<16777215)(hid:v+1=id)(ho:gP id ⟨f,li,0⟩) :
  Calls Tryz.prog 24 #[.pointer (some ⟨bn,0,none⟩),.pointer (some ⟨bl,0,none⟩),.pointer (some ⟨bt,0,none⟩)] w fun e' w'=>e'=.returned (.tuple #[.int .i64 id,.int .i64 0])/\TxS w0 R w' t d s 640 (QG E id ⟨f,li,0⟩)/\KeptT R t w w':=by
 have fd:=YV nm hr;rw[hf] at fd;have FO:=Hd (fun w=>by have:=tS nm w hnm;rw[hr,hf] at this;exact this);have NA:Hid (∀ w,TxS w0 R w t d s 640 E->Calls Tryz.prog 26 #[.pointer (some ⟨t,0,none⟩),.string f] w fun e' w'=>e'=.returned (.tuple #[.agg #[.int .i64 0,.string ⟨#[]⟩,.int .i64 0,.int .i64 0],.int .i64 3])/\TxS w0 R w' t d s 640 E/\KeptT R t w w'):=Hd fun w h=>JS h (show E.length<=600 by omega) hK hos (by rw[fd.size];exact hnm) fd.right fd.again
 have c0:=(aD hb).1;have c1:=(aD hl).1;have HB:=Hd (And.intro hl (And.intro ht hm));have H0:=Hd (And.intro h (And.intro hE hK));have e1:¬ li<0:=by omega
 have e2:¬ (1000:Int)<li:=by omega
 have HN:=Hd (And.intro hv (And.intro hv1 (And.intro hid ho)));clear h hb hl ht hm hE hK hos hnm hr hf hli fd hv hv1 hid ho;go_enter Tryz.func24,Tryz.ntmps24;go_wp2_with fail;refine(FO _).mono ?_;rintro e w2 ⟨rfl,b2⟩;have m1:=lQ HB.1 b2;have m2:=lQ HB.2.1 b2;have T2:=Hd (And.intro (H0.1.below b2) (And.intro (H0.1.kept b2) (And.intro m1 m2)));clear c0 c1;have c1:=(aD m1).1;have c2:=(aD m2).1;clear b2 m1 m2;go_wp2_with fail;refine(NA _ T2.1).mono ?_;rintro e w3 ⟨rfl,h1,h2⟩
 obtain⟨a1,a2,a3,a4,a5,a6,a7⟩:=h1.box (.cells #[.int .i64 0,.string ⟨#[]⟩,.int .i64 0,.int .i64 0] 54);obtain⟨x1,hx1⟩:∃ x,w3.alloc (.cells #[.int .i64 0,.string ⟨#[]⟩,.int .i64 0,.int .i64 0] 54)=x:=⟨_,rfl⟩
 rw[hx1] at a1 a2 a3 a5;have K1:=Hd (T2.2.1.trans (h2.trans a2));have X1:=Hd hx1;have bt1:=(a2 bt HB.2.2.2.2.1 HB.2.2.2.2.2.1).trans ((h2 bt HB.2.2.2.2.1 HB.2.2.2.2.2.1).trans T2.2.2.2);have bl1:=(a2 bl HB.2.2.2.1.1 HB.2.2.2.1.2.1).trans ((h2 bl HB.2.2.2.1.1 HB.2.2.2.1.2.1).trans T2.2.2.1);have NU:=Hd (MO (m:=2) (a1.sub (R':=R) fun k hk=>by simp[hk]) (show E.length<=600 by have:=H0.2.1;omega) ⟨by decide,by decide⟩ HN.1 HN.2.1 HN.2.2.1);have B1:=Hd (And.intro bt1 bl1)
 clear h1 h2 a1 a2 a3 a4 a5 a6 a7 c1 c2 hx1;have c2:=(aD bt1).1;clear bt1 bl1;go_upto_region 5 with fail
 rw[X1.o];go_wp2_with fail;refine NU.mono ?_;rintro e w4 ⟨rfl,h1,h2⟩;have bt1:=(h2 bt HB.2.2.2.2.1 HB.2.2.2.2.2.1).trans B1.1;have bl1:=(h2 bl HB.2.2.2.1.1 HB.2.2.2.1.2.1).trans B1.2;have hid:=tG HN.2.2.2;have GV:=Hd (DL (m:=2) h1 (show E.length<=300 by have:=H0.2.1;omega) rfl (show 0<=id/\id<=16777215 by omega) rfl);have B2:=Hd (And.intro bt1 (And.intro bl1 (K1.trans h2)));clear h1 h2 NU c2 hid;have c2:=(aD bt1).1;clear bt1 bl1;go_wp2_with fail;refine GV.mono ?_;rintro e w5 ⟨rfl,h1,h2⟩
 have bt1:=(h2 bt HB.2.2.2.2.1 HB.2.2.2.2.2.1).trans B2.1;have bl1:=(h2 bl HB.2.2.2.1.1 HB.2.2.2.1.2.1).trans B2.2.1;have PO:=Hd (DD (p:=⟨f,li,0⟩) h1 (by have:=bP (aH 9 0 2) (Str (aK id 3)) E;have:=H0.2.1;omega) HN.2.2.2 rfl (rfl:aH 3 0 id=aH 3 0 id));have K5:=Hd (B2.2.2.trans h2);clear h1 h2 GV c2;have c2:=(aD bt1).1;have c1:=(aD bl1).1;clear bt1 bl1;go_wp2_with fail;refine PO.mono ?_;rintro e w6 ⟨rfl,h1,h2⟩
 have FIN:=Hd (And.intro (show TxS w0 R w6 t d s 640 (QG E id ⟨f,li,0⟩) from h1) (K5.trans h2));clear h1 h2 PO c1 c2;go_wp2_with fail;go_ret2;exact⟨rfl,FIN.o⟩
theorem ZO {w0 w:World}{R:List Nat}{t d s:Nat}{nm f:ByteArray}{li:Int}(h:TxS w0 R w t d s 640 [])(hnm:nm.size<=140737488351232)(hr:cU nm=true)(hf:gN nm=f)(hli:0<=li/\li<=1000) :
  Calls Tryz.prog 9 #[.pointer (some ⟨t,0,none⟩),.string nm,.int .i64 li] w fun e' w'=>e'=.returned (.tuple #[.int .i64 1,.int .i64 0])/\TxS w0 R w' t d s 640 (QG [] 1 ⟨f,li,0⟩)/\KeptT R t w w'/\CpE (QG [] 1 ⟨f,li,0⟩) [] [⟨f,li,0⟩] [] 2:=by
 have fd:=YV nm hr;rw[hf] at fd;have ho:gP 1 ⟨f,li,0⟩:=fI.2 ⟨by omega,fd.right,fd.again,hli,Int.le_refl 0,hli.1⟩;refine(aCQ h (.inl ⟨rfl,rfl⟩) fun R' wa b0 b1 b2 hT g0 g1 g2 gm=>WK hT g1 g2 g0 ⟨gm.2.1,gm.2.2,gm.1⟩ (by simp) tO (by simp[bN]) hnm hr hf hli CpE.nil.num2 (by decide) rfl ho).mono ?_;rintro e' w' ⟨rfl,h1,h2⟩;exact⟨rfl,h1,h2,CpE.nil.reg (by decide) ho⟩
section
variable {w0 w:World} {R:List Nat} {t d s m:Nat} {li:Int} {xs ls:List Int}
end
theorem oC (a:Int)(k m:Nat)(w:World)(h:aDO a k m)(a0:-9223372036854775808<=a/\a<=9223372036854775807)(hk:k<=1000){q r:Int}(hq:(k:Int)=q)(hr:(m:Int)=r) :
  Calls Tryz.prog 10 #[.int .i64 a,.int .i64 q] w fun e w'=>e=.returned (.int .i64 r)/\w=w':=by
 obtain⟨hm,h⟩:=h;rw[hq,hr] at h;have hm':0<=r/\r<q:=by omega
 have hw:IntKind.i64.wrap r=r:=IntWalk.i64_in _ (by omega);have hq0:¬ q=0:=by omega
 have hq1:(q==0)=false:=by simpa using hq0
 obtain⟨a0,a1⟩:=a0;clear hm
 rcases h with⟨ha,hr'⟩|⟨ha,hr'⟩
 ·clear hr hq
  go_enter Tryz.func10,Tryz.ntmps10;go_wp2_with fail;go_ret;exact⟨rfl,rfl⟩
 ·have ha':¬ a<0:=by omega
  clear hr hq;go_enter Tryz.func10,Tryz.ntmps10;go_wp2_with fail;go_ret;exact⟨rfl,rfl⟩
