import Derived.Test.YthdgedcckdkpjaaGreatDoorF23
namespace Go.Proofs.YthdgedcckdkpjaaGreatDoor
open Go.RowKit
set_option maxRecDepth 20000
set_option maxHeartbeats 12800000
set_option linter.unusedVariables false
set_option linter.unusedSimpArgs false
theorem wD (w:World) :
  Calls Tryz.prog 8 #[] w fun e w'=>∃ t d s,e=.returned (.pointer (some ⟨t,0,none⟩))/\TxS w [] w' t d s 640 []:=by
 have NY:=Hd fun w=>aBT w 640 (by decide) (by decide)
 have hln:(DkS.fresh 640).S.length=640:=by show(List.replicate 640 zs).length=640;rw[List.length_replicate]
 have FG:=Hd (YV (DkS.fresh 640) rfl rfl (by rw[hln];decide) (by rw[hln];decide));rw[hln] at FG;clear hln;go_enter Tryz.func8,Tryz.ntmps8;go_wp2_with fail;refine(NY _).mono ?_;intro e w1 hm;obtain⟨d,rfl,hd⟩:=aD3 Br hm;clear hm NY;have HD:=Hd hd;clear hd;have pn:=WP ⟨d,0,none⟩;go_wp2_with fail;refine(YR HD FG.1).mono ?_;rintro e w3 ⟨s,rfl,hs⟩;have BG:=Hd (aC5 hs FG.2.1 FG.2.2.1 FG.2.2.2);clear hs HD;have sn:=WO ⟨s,0,none⟩;go_wp2_with fail;refine BG.mono ?_;rintro e w4 ⟨t,rfl,h1,h2,h3⟩
 have FIN:=Hd (show TxS w [] w4 t d s 640 [] from⟨⟨0,h1,h2⟩,h3⟩);clear h1 h2 h3 BG;go_wp2_with fail;go_ret;exact⟨t,d,s,rfl,FIN.o⟩
theorem uB (w:World) :
  Calls Tryz.prog 7 #[] w fun e w'=>e=.returned (.bool true)/\Below w.heap.size w w':=by
 have MD:=Hd (wD w);have c0:ClkE [] 0:=.inl ⟨by decide,rfl⟩;have c5:ClkE (aZ 10376293541461622788 (Str (aK 5 4)) []) 5:=ClkE.ins [] (by decide) (by decide);have C0:=Hd c0;have C5:=Hd c5;clear c0 c5;go_enter Tryz.func7,Tryz.ntmps7;try simp only[List.append_eq,List.cons_append,List.nil_append]
 go_wp2_with fail;refine MD.mono ?_;rintro e w1 ⟨t,d,s,rfl,h1⟩;have pn:=AV ⟨t,0,none⟩;have CL:=Hd (uF h1 (by simp) C0.o);clear h1 MD;go_wp2_with fail;refine CL.mono ?_;rintro e w2 ⟨rfl,h1,_⟩;have TK:=Hd (UP (a:=5) (m:=5) h1 (by simp) C0 (by decide) (by decide) (by decide));clear h1 CL;go_wp2_with fail;refine TK.mono ?_;rintro e w3 ⟨rfl,h1,_⟩;have TF:=Hd (UQ (a:=268435455) (m:=0) h1 (by have:=bQ 10376293541461622788 (Str (aK 5 4)) [];simp at this |-;omega) C5 (by decide) (by decide));clear h1 TK;go_wp2_with fail
 refine TF.mono ?_;rintro e w4 ⟨rfl,h1,_⟩;have FIN:=Hd h1.from;clear h1 TF;go_wp2_with fail;go_ret;exact⟨rfl,FIN.o⟩
theorem YG {w:World}{a:Option Addr}{len cap:Nat}{zs:List Int}(hk:IsInts .i64 w a len cap zs)(j:Nat)(hj:j<len):∃ (x:Addr) (z:Int),a=some x/\zs.getD j 0=z/\(-9223372036854775808<=z/\z<=9223372036854775807)/\Hid (∀ wr,Below w.heap.size w wr->wr.cell? (x.add j)=some (.int .i64 z)):=by
 rcases hk with⟨rfl,rfl,rfl,rfl⟩|⟨x,rfl,h1,h2,h3,h4,h5⟩
 ·omega
 ·have hjl:j<zs.length:=by omega
  refine⟨x,_,rfl,rfl,?_,Hd fun wr hb=>?_⟩
  ·have hm:zs.getD j 0∈zs:=by
    rw[List.getD_eq_getElem?_getD,List.getElem?_eq_getElem hjl];exact List.getElem_mem hjl
   have hw:=h5 _ hm;generalize zs.getD j 0=z at hw |-;simp[Lit.wf] at hw;have e1:IntKind.i64.min=-9223372036854775808:=by rfl
   have e2:IntKind.i64.max=9223372036854775807:=by rfl
   omega
  ·have hc:=h4 j hjl
   have hlt:(x.add j).block<w.heap.size:=by
    unfold World.cell? at hc
    cases hq:w.heap[(x.add j).block]? with
    | none=>rw[hq] at hc;simp at hc
    | some b=>exact(zl hq)
   exact(hb.cell hlt).trans hc
open Go Go.RowKit
section
attribute [local go_sem] Oper.semAt_some
theorem GX {w0 w:World}{R:List Nat}{t d s n:Nat}{E:List Ent}{bn bt:Nat}{nm f:ByteArray}(h:TxS w0 R w t d s n E)(hb:w.heap[bn]?=some (.cells #[.string nm] 9))(ht:w.heap[bt]?=some (.cells #[.pointer (some ⟨t,0,none⟩)] 24))(hm:(bn∈R/\bn≠t/\w0.heap.size<=bn)/\(bt∈R/\bt≠t/\w0.heap.size<=bt))(hE:E.length<=600)(hK:kY E)
  (hos:((bB (aE 3 0 0) E).takeWhile fun e=>mJ e.1 3 0)=[])(hnm:nm.size<=140737488351232)(hr:cS nm=true)(hf:gE nm=f) :
  Calls Tryz.prog 71 #[.pointer (some ⟨bn,0,none⟩),.pointer (some ⟨bt,0,none⟩)] w fun e' w'=>e'=.returned (.tuple #[.agg #[.int .i64 0,.string ⟨#[]⟩,.int .i64 0,.int .i64 0],.int .i64 3])/\TxS w0 R w' t d s n E/\KeptT R t w w':=by
 have FO:=Hd (fun w=>by have:=tU nm w hnm;rw[hr,hf] at this;exact this);have HOS:=Hd hos;have HEK:=Hd (And.intro hE hK);clear hos hnm hr hf hE hK;obtain⟨n0,hn0⟩:∃ n0,w.heap.size=n0:=⟨_,rfl⟩
 obtain⟨x1,hx1⟩:∃ x,w.alloc (.cells #[.int .i64 0,.string ⟨#[]⟩,.int .i64 0,.int .i64 0] 54)=x:=⟨_,rfl⟩
 obtain⟨x2,hx2⟩:∃ x,x1.alloc (.cells #[.int .i64 0] 26)=x:=⟨_,rfl⟩
 obtain⟨s1,m1,b1⟩:=jH hx1 hn0;obtain⟨s2,m2,b2⟩:=jH hx2 s1;have b12:Below w.heap.size w x2:=b1.trans (b2.mono (by omega));have n1:=(b2.block n0 (by omega)).trans m1;have hl:=h.lt;obtain⟨F,hF,hnF,hFl⟩:=h.said;have lF3:=hF.lt;have hn2:=(b12.block bn (hl.1 bn hm.1.1)).trans hb;have ht2:=(b12.block bt (hl.1 bt hm.2.1)).trans ht;have HF:=Hd (And.intro hF (And.intro hnF (And.intro lF3 (And.intro hl h.from))));have HB:=Hd (And.intro s2 (And.intro n1 (And.intro m2 (And.intro b12 ht2))));have HX:=Hd (And.intro hx1 hx2);have HN:=Hd hn0;have HM:=Hd hm
 have ct:=(aF hn2).1;clear h hb ht hx1 hx2 s1 s2 m1 m2 b1 b2 b12 n1 hl hF hnF hFl lF3 hn2 ht2 hm;refine(callsIn_wide (n:=0)).1 (callsIn_of_wp_marks (F:=Fence.wide) (n:=0) Tryz.func71 rfl trivial (wpIn_wide.2 ?_) rfl);simp only[Tryz.ntmps71,List.size_toArray,List.length_cons,List.length_nil,Nat.reduceAdd,Nat.reduceSub,Array.replicate_succ,Array.replicate_zero,List.push_toArray,List.append_toArray,List.nil_append,List.cons_append];go_upto_region 1 with fail
 try rw[HX.1,HX.2]
 try rw[hn0]
 clear hn0;go_wp2_with fail;refine(FO _).mono ?_;rintro e w3 ⟨rfl,b3⟩;obtain⟨nf,hnf⟩:∃ n,w3.heap.size=n:=⟨_,rfl⟩
 obtain⟨x4,hx4⟩:∃ x,w3.alloc (.cells #[.string f] 9)=x:=⟨_,rfl⟩
 obtain⟨s4,m4,b4⟩:=jH hx4 hnf;have q4:Below w.heap.size w x4:=(HB.2.2.2.1.trans (b3.mono HB.2.2.2.1.size)).trans (b4.mono (Nat.le_trans HB.2.2.2.1.size b3.size));have c24:Below x2.heap.size x2 x4:=b3.trans (b4.mono b3.size);have t4:=pS HB.2.2.2.2 c24;have i0:=pS HB.2.1 c24;have i1:=pS HB.2.2.1 c24;have nfl:n0+1<nf:=by have:=b3.size;have:=HB.1;omega
 have H4:=Hd (And.intro q4 (And.intro s4 (And.intro i0 (And.intro i1 (And.intro m4 nfl)))));have X4:=Hd (And.intro hx4 hnf);have c4:=(aF t4).1;clear b3 s4 m4 b4 q4 c24 t4 i0 i1 nfl hx4 hnf ct;go_upto_region 2 with fail
 rw[X4.1,X4.2];go_wp2_with fail;refine(QR _ t 3 0 0).mono ?_;rintro e w5 ⟨rfl,m5,q5,s5⟩;clear c4;go_wp2_with fail;obtain⟨nb,hnb⟩:∃ n,x4.heap.size=n:=⟨_,rfl⟩
 rw[hnb] at m5 q5 s5 |-;have h4:=H4.o;have hF:=HF.o;have q5w:Below w.heap.size w w5:=h4.1.trans (q5.mono (by rw[<-hnb];exact h4.1.size));have hT5:=hF.1.below q5w;have hn:=HN.o;have hnb':nf+1=nb:=by rw[<-hnb];exact h4.2.1.symm
 have f0:=hF.2.2.2.2.size;have lF:=hT5.lt;have hnF':∀ k,F k->k<n0:=fun k hk=>by have:=hF.2.2.1.1 k hk;omega
 have htn:=hF.2.2.2.1.2;have hit:=QQ hT5 HEK.1 HEK.2.1 HEK.2.2 m5 ⟨⟨fun e=>by have:=hnF' _ e;omega,by omega,by omega⟩,⟨fun e=>by have:=hnF' _ e;omega,by omega,by omega⟩⟩ (by decide:bT 3 0 0=true) (rfl:aE 3 0 0=aE 3 0 0);rw[HOS.o] at hit;have i5:NmI n0 nf f [] [] (fun k=>k∈[n0,n0+1,nf]\/k∈([]:List Nat)) w5:=⟨fun k=>Iff.rfl,(q5.block _ (by omega)).trans h4.2.2.1,(q5.block _ (by omega)).trans h4.2.2.2.1,(q5.block _ (by omega)).trans h4.2.2.2.2.1,fun j q hj=>by simp at hj⟩
 have TSO:∀ (Wz:World) (D:Nat),TxF w0 F Wz t d s n E->Frm (fun k=>(k∈[n0,n0+1,nf]\/k∈([]:List Nat))\/GN w0 F t (nb+1) (nb+2) (nb+3) nb k) w5 Wz->w5.heap.size<=D->Wz.heap[D]?=some (.deferred (some []))->TxS w0 (D::([n0,n0+1,nf]++R)) Wz t d s n E/\KeptT R t w Wz:=fun Wz D hV hfr hDz hdef=>
  tso hF.2.2.2.1 hF.2.2.2.2 hF.2.1 (fun k hk=>by rw[hn];exact hnF' k hk) q5w (fun k hk=>by
   simp only[List.mem_cons,List.not_mem_nil,or_false] at hk;rw[s5];omega) (fun k hk=>by cases hk) hV hfr (fun k hk=>by
   unfold GN at hk
   rcases hk with hk|hk|hk|hk|hk|hk|hk
   ·exact .inl hk
   ·exact .inr (.inl hk)
   all_goals first|exact .inr (.inr (.inl hk))|exact .inr (.inr (.inr (by omega)))) hDz (zl hdef)
 refine(wpIn_wide (n:=0)).1 (sZ rfl (enters_of Tryz.func105 (by kernel_rfl) rfl) hit (fun Wz lz o hz hv=>?_) (fun k hk=>?_) (by intro _;rfl) (fun k=>k∈[n0,n0+1,nf]\/k∈([]:List Nat)) (fun k hk hg=>?_) (NmI n0 nf f []) (fun _ _ _ _=>False) NmI.on (fun c s D A B hh ho=>hh) NmI.lt (fun c s D A hh=>hh.elim) i5 ?_ ?_ ?_)
 ·exact hv.frm (cM Wz lz o) fun k hk=>by subst hk;exact⟨fun e=>by have:=lF.1 _ e;omega,by have:=lF.2.1;omega,by have:=hT5.from.size;omega⟩
 ·unfold GN at hk
  rcases hk with hk|hk|hk|hk|hk|hk|hk
  ·exact lF.1 _ hk
  ·have:=lF.2.1;omega
  all_goals (have:=hT5.from.size;omega)
 ·simp only[List.mem_cons,List.not_mem_nil,or_false] at hk
  unfold GN at hg;have h5:=hnF' k
  rcases hg with hg|hg|hg|hg|hg|hg|hg
  ·have:=h5 hg;omega
  all_goals omega
 ·intro l' pre x D Wz hpre
  obtain⟨r,hr⟩:=hpre;exact absurd (congrArg List.length hr) (by simp)
 ·intro D C' Wz hDz hI hV hfr hC' hnD hdef
  obtain⟨j1,j2,j3,j6,j7⟩:=hI;obtain⟨T0,K0⟩:=TSO Wz D hV hfr hDz hdef
  have hDn:n0≠D/\n0+1≠D/\w0.heap.size<=D/\w0.heap.size<=n0/\D≠t/\n0≠t/\n0+1≠t:=by
   have:=q5.size;omega
  have hRD:∀ k∈R,k≠n0/\k≠n0+1/\k≠D:=fun k hk=>by have:=hF.2.2.2.1.1 k hk;have:=q5.size;omega
  obtain⟨⟨c0,c1,c2,c3⟩,g0,g1,g2,g3⟩:=fO j2;obtain⟨c9,g9⟩:=aF j3;obtain⟨n1,n2⟩:=VH j2 (.int .i64 0) (.string ⟨#[]⟩) (.int .i64 0) (.int .i64 0);obtain⟨y6,hy6⟩:∃ y6,(stW Wz n0 (.int .i64 0) (.string ⟨#[]⟩) (.int .i64 0) (.int .i64 0)).setCell ⟨n0+1,0,none⟩ (.int .i64 3)=y6:=⟨_,rfl⟩
  have f6:Frm (fun k=>k=n0\/k=n0+1) Wz y6:=by rw[<-hy6];exact(Frm.mono (G:=fun k=>k=n0\/k=n0+1) n2 fun k hk=>.inl hk).setCell ⟨n0+1,0,none⟩ _ (.inl (.inr rfl))
  have s0:y6.heap[n0]?=some (.cells #[.int .i64 0,.string ⟨#[]⟩,.int .i64 0,.int .i64 0] 54):=by
   rw[<-hy6,heap_setCell_other _ _ _ _ (by show n0≠n0+1;omega)];exact n1
  have s1:y6.heap[n0+1]?=some (.cells #[.int .i64 3] 26):=by
   rw[<-hy6,hss _ _ 0 _ _ _ ((n2.block _ (zl j3) (by omega)).trans j3)]
   rfl
  have T6:TxS w0 (D::([n0,n0+1,nf]++R)) y6 t d s n E:=by
   rw[<-hy6];exact(T0.turn (k:=n0) (by simp) (by omega) (by omega) n2).turn (k:=n0+1) (by simp) (by omega) (by omega) ((Frm.refl (fun k=>k=n0+1) _).setCell _ _ (.inl rfl))
  have d6:=(f6.block D (zl hdef) (by omega)).trans hdef;have HMK:Hid (Marks y6 [D]):=Hd ((Marks.nil y6).cons (by simp) d6)
  have FIN:Hid (∀ W',Frm (fun k=>k∈[D]) y6 W'->W'.heap[n0]?=some (.cells #[.int .i64 0,.string ⟨#[]⟩,.int .i64 0,.int .i64 0] 54)/\W'.cell? ⟨n0+1,0,none⟩=some (.int .i64 3)/\TxS w0 R W' t d s n E/\KeptT R t w W'):=Hd fun W' hm=>by
   have lt6:=T6.lt.1;refine⟨(hm.block n0 (lt6 n0 (by simp)) (by simpa using hDn.1)).trans s0,(aF ((hm.block (n0+1) (lt6 (n0+1) (by simp)) (by simpa using hDn.2.1)).trans s1)).1,?_,fun k hk hn=>?_⟩
   ·exact(T6.turn (k:=D) (by simp) (by omega) (by omega) (hm.mono fun k hk=>by simpa using hk)).sub fun k hk=>by simp[hk]
   ·have hy:=hRD k hk
    exact(hm.block k (lt6 k (by simp[hk])) (by simpa using hy.2.2)).trans ((f6.block k (T0.lt.1 k (by simp[hk])) (by omega)).trans (K0 k hk hn))
  have HY6:=Hd hy6;unfold stW at HY6;clear hit hfr hC' hnD hdef j1 j2 j3 j6 j7 hV i5 TSO T0 K0 n1 n2 f6 s0 s1 T6 d6 hy6 hDn hRD hDz hF hnF' h4 q5w lF htn f0 hnb' hn hnb hT5 m5 q5 s5;go_wp2_with fail;rw[HY6.o];refine jS [D] _ HMK.o fun W' hm=>?_
  obtain⟨u0,u1,u2,u3⟩:=FIN W' hm;exact⟨_,rN (fn:=Tryz.f71) rfl _ W' n0 54 _ (0,0) _ _ _ rfl u0 Tryz.underlying54 rfl fT rfl (XT rfl Tryz.underlying26 u1),rfl,u2,u3⟩
 ·intro D c pre C' Wz hDz hpre hF9
  exact hF9.elim
end
theorem JT {w0 w:World}{R:List Nat}{t d s n:Nat}{E:List Ent}{nm f:ByteArray}(h:TxS w0 R w t d s n E)(hE:E.length<=600)(hK:kY E)(hos:((bB (aE 3 0 0) E).takeWhile fun e=>mJ e.1 3 0)=[])(hnm:nm.size<=140737488351232)(hr:cS nm=true)(hf:gE nm=f) :
  Calls Tryz.prog 26 #[.pointer (some ⟨t,0,none⟩),.string nm] w fun e' w'=>e'=.returned (.tuple #[.agg #[.int .i64 0,.string ⟨#[]⟩,.int .i64 0,.int .i64 0],.int .i64 3])/\TxS w0 R w' t d s n E/\KeptT R t w w':=
 aCU h (.inr ⟨by decide,rfl,rfl,rfl,rfl⟩) fun R' wa b0 b1 hT g0 g1 gm=>GX hT g1 g0 ⟨gm.2,gm.1⟩ hE hK hos hnm hr hf
theorem VZ {w0 w:World}{R:List Nat}{t d s:Nat}{E:List Ent}{bn bl bt:Nat}{nm:ByteArray}{li:Int}{f:ByteArray}{v id:Int}(h:TxS w0 R w t d s 640 E)(hb:w.heap[bn]?=some (.cells #[.string nm] 9))(hl:w.heap[bl]?=some (.cells #[.int .i64 li] 3))(ht:w.heap[bt]?=some (.cells #[.pointer (some ⟨t,0,none⟩)] 24))(hm:(bn∈R/\bn≠t/\w0.heap.size<=bn)/\(bl∈R/\bl≠t/\w0.heap.size<=bl)/\(bt∈R/\bt≠t/\w0.heap.size<=bt))(hE:E.length<=290)(hK:kY E)
  (hos:((bB (aE 3 0 0) E).takeWhile fun e=>mJ e.1 3 0)=[])(hnm:nm.size<=140737488351232)(hr:cS nm=true)(hf:gE nm=f)(hli:0<=li/\li<=1000)(hv:NumE E 10376293541461622786 v)(hv1:v<16777215)(hid:v+1=id)(ho:gS id ⟨f,li,0⟩) :
  Calls Tryz.prog 24 #[.pointer (some ⟨bn,0,none⟩),.pointer (some ⟨bl,0,none⟩),.pointer (some ⟨bt,0,none⟩)] w fun e' w'=>e'=.returned (.tuple #[.int .i64 id,.int .i64 0])/\TxS w0 R w' t d s 640 (PW E id ⟨f,li,0⟩)/\KeptT R t w w':=by
 have fd:=YT nm hr;rw[hf] at fd;have FO:=Hd (fun w=>by have:=tU nm w hnm;rw[hr,hf] at this;exact this);have NA:Hid (∀ w,TxS w0 R w t d s 640 E->Calls Tryz.prog 26 #[.pointer (some ⟨t,0,none⟩),.string f] w fun e' w'=>e'=.returned (.tuple #[.agg #[.int .i64 0,.string ⟨#[]⟩,.int .i64 0,.int .i64 0],.int .i64 3])/\TxS w0 R w' t d s 640 E/\KeptT R t w w'):=Hd fun w h=>JT h (show E.length<=600 by omega) hK hos (by rw[fd.size];exact hnm) fd.right fd.again
 have c0:=(aF hb).1;have c1:=(aF hl).1;have HB:=Hd (And.intro hl (And.intro ht hm));have H0:=Hd (And.intro h (And.intro hE hK));have e1:¬ li<0:=by omega
 have e2:¬ (1000:Int)<li:=by omega
 have HN:=Hd (And.intro hv (And.intro hv1 (And.intro hid ho)));clear h hb hl ht hm hE hK hos hnm hr hf hli fd hv hv1 hid ho;go_enter Tryz.func24,Tryz.ntmps24;go_wp2_with fail;refine(FO _).mono ?_;rintro e w2 ⟨rfl,b2⟩;have m1:=pS HB.1 b2;have m2:=pS HB.2.1 b2;have T2:=Hd (And.intro (H0.1.below b2) (And.intro (H0.1.kept b2) (And.intro m1 m2)));clear c0 c1;have c1:=(aF m1).1;have c2:=(aF m2).1;clear b2 m1 m2;go_wp2_with fail;refine(NA _ T2.1).mono ?_;rintro e w3 ⟨rfl,h1,h2⟩
 obtain⟨a1,a2,a3,a4,a5,a6,a7⟩:=h1.box (.cells #[.int .i64 0,.string ⟨#[]⟩,.int .i64 0,.int .i64 0] 54);obtain⟨x1,hx1⟩:∃ x,w3.alloc (.cells #[.int .i64 0,.string ⟨#[]⟩,.int .i64 0,.int .i64 0] 54)=x:=⟨_,rfl⟩
 rw[hx1] at a1 a2 a3 a5;have K1:=Hd (T2.2.1.trans (h2.trans a2));have X1:=Hd hx1;have bt1:=(a2 bt HB.2.2.2.2.1 HB.2.2.2.2.2.1).trans ((h2 bt HB.2.2.2.2.1 HB.2.2.2.2.2.1).trans T2.2.2.2);have bl1:=(a2 bl HB.2.2.2.1.1 HB.2.2.2.1.2.1).trans ((h2 bl HB.2.2.2.1.1 HB.2.2.2.1.2.1).trans T2.2.2.1);have NU:=Hd (MI (m:=2) (a1.sub (R':=R) fun k hk=>by simp[hk]) (show E.length<=600 by have:=H0.2.1;omega) ⟨by decide,by decide⟩ HN.1 HN.2.1 HN.2.2.1);have B1:=Hd (And.intro bt1 bl1)
 clear h1 h2 a1 a2 a3 a4 a5 a6 a7 c1 c2 hx1;have c2:=(aF bt1).1;clear bt1 bl1;go_upto_region 5 with fail
 rw[X1.o];go_wp2_with fail;refine NU.mono ?_;rintro e w4 ⟨rfl,h1,h2⟩;have bt1:=(h2 bt HB.2.2.2.2.1 HB.2.2.2.2.2.1).trans B1.1;have bl1:=(h2 bl HB.2.2.2.1.1 HB.2.2.2.1.2.1).trans B1.2;have hid:=tH HN.2.2.2;have GV:=Hd (DP (m:=2) h1 (show E.length<=300 by have:=H0.2.1;omega) rfl (show 0<=id/\id<=16777215 by omega) rfl);have B2:=Hd (And.intro bt1 (And.intro bl1 (K1.trans h2)));clear h1 h2 NU c2 hid;have c2:=(aF bt1).1;clear bt1 bl1;go_wp2_with fail;refine GV.mono ?_;rintro e w5 ⟨rfl,h1,h2⟩
 have bt1:=(h2 bt HB.2.2.2.2.1 HB.2.2.2.2.2.1).trans B2.1;have bl1:=(h2 bl HB.2.2.2.1.1 HB.2.2.2.1.2.1).trans B2.2.1;have PO:=Hd (DG (p:=⟨f,li,0⟩) h1 (by have:=bQ (aE 9 0 2) (Str (aK id 3)) E;have:=H0.2.1;omega) HN.2.2.2 rfl (rfl:aE 3 0 id=aE 3 0 id));have K5:=Hd (B2.2.2.trans h2);clear h1 h2 GV c2;have c2:=(aF bt1).1;have c1:=(aF bl1).1;clear bt1 bl1;go_wp2_with fail;refine PO.mono ?_;rintro e w6 ⟨rfl,h1,h2⟩
 have FIN:=Hd (And.intro (show TxS w0 R w6 t d s 640 (PW E id ⟨f,li,0⟩) from h1) (K5.trans h2));clear h1 h2 PO c1 c2;go_wp2_with fail;go_ret2;exact⟨rfl,FIN.o⟩
theorem ZL {w0 w:World}{R:List Nat}{t d s:Nat}{nm f:ByteArray}{li:Int}(h:TxS w0 R w t d s 640 [])(hnm:nm.size<=140737488351232)(hr:cS nm=true)(hf:gE nm=f)(hli:0<=li/\li<=1000) :
  Calls Tryz.prog 9 #[.pointer (some ⟨t,0,none⟩),.string nm,.int .i64 li] w fun e' w'=>e'=.returned (.tuple #[.int .i64 1,.int .i64 0])/\TxS w0 R w' t d s 640 (PW [] 1 ⟨f,li,0⟩)/\KeptT R t w w'/\CpE (PW [] 1 ⟨f,li,0⟩) [] [⟨f,li,0⟩] [] 2:=by
 have fd:=YT nm hr;rw[hf] at fd;have ho:gS 1 ⟨f,li,0⟩:=kK.2 ⟨by omega,fd.right,fd.again,hli,Int.le_refl 0,hli.1⟩;refine(aCQ h (.inl ⟨rfl,rfl⟩) fun R' wa b0 b1 b2 hT g0 g1 g2 gm=>VZ hT g1 g2 g0 ⟨gm.2.1,gm.2.2,gm.1⟩ (by simp) tQ (by simp[bB]) hnm hr hf hli CpE.nil.num2 (by decide) rfl ho).mono ?_;rintro e' w' ⟨rfl,h1,h2⟩;exact⟨rfl,h1,h2,CpE.nil.reg (by decide) ho⟩
theorem GU (a:Int)(k:Nat)(hk:0<k):∃ f:Nat,f<k/\((a<0/\-((a+1).tmod (k:Int))=(f:Int))\/(0<=a/\a % (k:Int)=(f:Int))):=by
 by_cases h0:a<0
 ·refine⟨((-(a+1)) % (k:Int)).toNat,?_,.inl ⟨h0,?_⟩⟩
  ·have:=Int.emod_lt_of_pos (-(a+1)) (show(0:Int)<(k:Int) by omega)
   omega
  ·have e:(a+1).tmod (k:Int)=-((-(a+1)).tmod (k:Int)):=by rw[Int.neg_tmod,Int.neg_neg]
   rw[e,Int.tmod_eq_emod_of_nonneg (by omega)];have:=Int.emod_nonneg (-(a+1)) (show(k:Int)≠0 by omega);omega
 ·refine⟨(a % (k:Int)).toNat,?_,.inr ⟨by omega,?_⟩⟩
  ·have:=Int.emod_lt_of_pos a (show(0:Int)<(k:Int) by omega)
   omega
  ·have:=Int.emod_nonneg a (show(k:Int)≠0 by omega)
   omega
theorem CG (a:Int)(v:(Lit.int .i64 a).wf=true):-9223372036854775808<=a/\a<=9223372036854775807:=by
 simp only[Lit.wf,Bool.and_eq_true,decide_eq_true_eq] at v;exact v
def MQ (a:Int)(k m:Nat):Prop:=m<k/\((a<0/\-((a+1).tmod (k:Int))=(m:Int))\/(0<=a/\a % (k:Int)=(m:Int)))
theorem AW (a:Int)(k:Nat)(hk:0<k):∃ m,MQ a k m:=GU a k hk
def rQ (x:Int):bJ:=⟨0,1,1,1,0,1,x,0,false⟩
def LeS (w0:World)(R:List Nat)(w:World)(t d s:Nat)(li:Int)(xs ls:List Int)(m:Nat):Prop:=
 ∃ E,TxS w0 R w t d s 640 E/\CpE E (xs.map fun x=>some (rQ x)) [⟨⟨#[120]⟩,li,(xs.length:Int)⟩] ls m
section
variable {w0 w:World} {R:List Nat} {t d s m:Nat} {li:Int} {xs ls:List Int}
theorem LeS.from (h:LeS w0 R w t d s li xs ls m):Below w0.heap.size w0 w:=by
 obtain⟨E,h1,_⟩:=h;exact h1.from
theorem XY (h:TxS w0 R w t d s 640 [])(hli:0<=li/\li<=1000) :
  Calls Tryz.prog 9 #[.pointer (some ⟨t,0,none⟩),.string ⟨#[120]⟩,.int .i64 li] w fun e w'=>e=.returned (.tuple #[.int .i64 1,.int .i64 0])/\LeS w0 R w' t d s li [] [] 2:=by
 refine(ZL (f:=⟨#[120]⟩) h (by decide) (by decide +kernel) (by decide +kernel) hli).mono ?_;rintro e w' ⟨rfl,h1,_,h2⟩;exact⟨rfl,_,h1,h2⟩
theorem aB0 (h:LeS w0 R w t d s li xs ls m){x:Int}(hm:m<=280)(hl:xs.length<90)(hli:(xs.length:Int)<li)(hx:0<=x/\x<=268435455){id:Int}(hid:(xs.length:Int)+1=id) :
  Calls Tryz.prog 11 #[.pointer (some ⟨t,0,none⟩),.int .i64 1,.int .i64 1,.int .i64 1,.int .i64 0,.int .i64 x] w fun e w'=>e=.returned (.tuple #[.int .i64 id,.int .i64 0])/\LeS w0 R w' t d s li (xs++[x]) (ls++[x]) (m+5)/\KeptT R t w w':=by
 obtain⟨E,h1,h2⟩:=h;subst hid;refine(ZP (oi:=0) (ow:=1) (ob:=1) (ri:=1) (ba:=0) (ex:=x) h1 h2 hm (by rw[List.length_map];exact hl) rfl rfl hli (by decide) (by decide) (by decide) hx).mono ?_;rintro e w' ⟨E',rfl,g1,g2,g3⟩;rw[List.length_map];refine⟨rfl,⟨E',g1,?_⟩,g2⟩;rw[List.map_append,List.length_append];exact g3
theorem LeS.get (h:LeS w0 R w t d s li xs ls m){i:Nat}(hi:i<xs.length):(xs.map fun x=>some (rQ x))[i]?=some (some (rQ (xs.getD i 0))):=by
 rw[List.getElem?_map,List.getD_eq_getElem?_getD,List.getElem?_eq_getElem hi]
 rfl
theorem wF (h:LeS w0 R w t d s li xs ls m)(hm:m<=290){i:Nat}(hi:i<xs.length){id:Int}(hid:(i:Int)+1=id) :
  Calls Tryz.prog 17 #[.pointer (some ⟨t,0,none⟩),.int .i64 id] w fun e w'=>e=.returned (.int .i64 0)/\LeS w0 R w' t d s li xs (ls.set i 0) m/\KeptT R t w w':=by
 have hg:=h.get hi;obtain⟨E,h1,h2⟩:=h;subst hid;have hE:=h2.len;refine(II h1 (by omega) (h2.getC hg)).mono ?_;rintro e w' ⟨rfl,g1,g2⟩;exact⟨rfl,⟨_,g1,h2.forget hg⟩,g2⟩
theorem tP (h:LeS w0 R w t d s li [] ls m)(hm:m<=290) :
  Calls Tryz.prog 17 #[.pointer (some ⟨t,0,none⟩),.int .i64 1] w fun e w'=>e=.returned (.int .i64 3)/\Below w0.heap.size w0 w':=by
 obtain⟨E,h1,h2⟩:=h;have hE:=h2.len;refine(xR h1 (by omega) (h2.noC (.inr (.inr rfl)))).mono ?_;rintro e w' ⟨rfl,g1,g2⟩;exact⟨rfl,g1.from⟩
theorem LeS.chain {E:List Ent}(h2:CpE E (xs.map fun x=>some (rQ x)) [⟨⟨#[120]⟩,li,(xs.length:Int)⟩] ls m){i:Nat}(hg:(xs.map fun x=>some (rQ x))[i]?=some (some (rQ (xs.getD i 0)))):ChainE E ((i:Int)+1) [((i:Int)+1,rQ (xs.getD i 0))]:=⟨rfl,h2.getC hg,.inl ⟨rfl,rfl⟩⟩
theorem wQ (id x:Int):gV [(id,rQ x)]=x:=by
 show yC 0 (id,rQ x)=x
 unfold yC
 show(if x≠0/\((0:Int)=0\/x<0) then x else 0)=x
 split <;> omega
theorem aAW (id x now:Int):stV [(id,rQ x)] now=if x≠0/\x<=now then 11 else 0:=by
 unfold stV;rw[wQ,if_neg]
 show ¬ (xI [(id,rQ x)]=true)
 unfold xI kH;simp[List.range_succ,rQ]
theorem aB1 (h:LeS w0 R w t d s li xs ls m)(hm:m<=290){i:Nat}(hi:i<xs.length){id x:Int}(hid:(i:Int)+1=id)(hx:xs.getD i 0=x) :
  Calls Tryz.prog 13 #[.pointer (some ⟨t,0,none⟩),.int .i64 id] w fun e w'=>e=.returned (.tuple #[.int .i64 x,.int .i64 0])/\LeS w0 R w' t d s li xs ls m/\KeptT R t w w':=by
 have hg:=h.get hi;obtain⟨E,h1,h2⟩:=h;subst hid;have hE:=h2.len;refine(ZS h1 (by omega) (LeS.chain h2 hg) (by simp)).mono ?_;rintro e w' ⟨rfl,g1,g2⟩;rw[wQ,hx];exact⟨rfl,⟨_,g1,h2⟩,g2⟩
theorem XX (h:LeS w0 R w t d s li xs ls m)(hm:m<=290){i:Nat}(hi:i<xs.length){id x now:Int}(hid:(i:Int)+1=id)(hx:(if xs.getD i 0≠0/\xs.getD i 0<=now then 11 else 0)=x) :
  Calls Tryz.prog 14 #[.pointer (some ⟨t,0,none⟩),.int .i64 id,.int .i64 now] w fun e w'=>e=.returned (.int .i64 x)/\LeS w0 R w' t d s li xs ls m/\KeptT R t w w':=by
 have hg:=h.get hi;obtain⟨E,h1,h2⟩:=h;subst hid;have hE:=h2.len;refine(SQ h1 (by omega) (LeS.chain h2 hg) (by simp)).mono ?_;rintro e w' ⟨rfl,g1,g2⟩;rw[aAW,hx];exact⟨rfl,⟨_,g1,h2⟩,g2⟩
theorem aD4 (h:LeS w0 R w t d s li xs ls m)(hm:m<=290){n:Nat}{now mo:Int}(hn:(n:Int)=now)(hn2:n<=1000)(hmo:1<=mo) :
  Calls Tryz.prog 16 #[.pointer (some ⟨t,0,none⟩),.int .i64 now,.int .i64 mo] w fun e w'=>∃ v,e=.returned (.tuple #[v,.int .i64 0])/\RowZ w' v (((jU ls n).map (·.2)).take mo.toNat)/\FreshB w0 R t v/\LeS w0 (v.ownBlock.toList++R) w' t d s li xs ls m/\KeptT R t w w':=by
 obtain⟨E,h1,h2⟩:=h;subst hn;have hE:=h2.len;have hl:ls.length<=90:=by have:=h2.ll;have:=h2.cl;omega
 refine(aB2 (E':=E) (L:=((jU ls n).map (·.2)).take mo.toNat) h1 fun R' wa b0 b1 b2 hT g0 g1 g2 gm=>?_).mono ?_
 ·have:=aCL hT g2 g0 g1 ⟨gm.2.2,gm.1,gm.2.1⟩ (by omega) h2.keys hmo
  rw[h2.due hn2,ZE hl hn2] at this;exact this
 ·rintro e w' ⟨v,rfl,g1,g2,g3,g4⟩
  exact⟨v,rfl,g1,g2,⟨_,g3,h2⟩,g4⟩
end
theorem RowZ.at {w:World}{a:Option Addr}{m c:Nat}{L:List Int}(h:RowZ w (.slice a m c) L){j:Nat}{x:Int}(hp:L[j]?=some x):∃ g,a=some ⟨g,0,none⟩/\w.cell? ⟨g,j,none⟩=some (.int .i64 x):=by
 have hj:j<L.length:=(List.getElem?_eq_some_iff.1 hp).1
 rcases h.2 with⟨_,h0⟩|⟨g,cap,cur,hv,_,hh,_⟩
 ·omega
 ·injection hv with h1 h2 h3
  subst h1;refine⟨g,rfl,?_⟩;have:=World.ownsRow.cellAt (h2 ▸ h3 ▸ h) j (by omega);rw[this,List.getElem?_map,hp]
  rfl
theorem oG (a:Int)(k m:Nat)(w:World)(h:MQ a k m)(a0:-9223372036854775808<=a/\a<=9223372036854775807)(hk:k<=1000){q r:Int}(hq:(k:Int)=q)(hr:(m:Int)=r) :
  Calls Tryz.prog 10 #[.int .i64 a,.int .i64 q] w fun e w'=>e=.returned (.int .i64 r)/\w=w':=by
 obtain⟨hm,h⟩:=h;rw[hq,hr] at h;have hm':0<=r/\r<q:=by omega
 have hw:IntKind.i64.wrap r=r:=IntWalk.i64_in _ (by omega);have hq0:¬ q=0:=by omega
 have hq1:(q==0)=false:=by simpa using hq0
 obtain⟨a0,a1⟩:=a0;clear hm
 rcases h with⟨ha,hr'⟩|⟨ha,hr'⟩
 ·clear hr hq
  go_enter Tryz.func10,Tryz.ntmps10;go_wp2_with fail;go_ret;exact⟨rfl,rfl⟩
 ·have ha':¬ a<0:=by omega
  clear hr hq;go_enter Tryz.func10,Tryz.ntmps10;go_wp2_with fail;go_ret;exact⟨rfl,rfl⟩
