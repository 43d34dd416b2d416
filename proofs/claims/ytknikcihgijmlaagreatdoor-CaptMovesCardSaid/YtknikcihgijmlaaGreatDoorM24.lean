import Derived.Test.YtknikcihgijmlaaGreatDoorM23
namespace Go.Proofs.YtknikcihgijmlaaGreatDoor
open Go Go.RowKit
set_option maxRecDepth 20000
set_option maxHeartbeats 12800000
set_option linter.unusedVariables false
set_option linter.unusedSimpArgs false
section
attribute [local go_sem] Oper.semAt_some
theorem sC {w0 w:World}{R:List Nat}{t d s n:Nat}{E:List Ent}{id now:Int}{c:aF}{L:List (Int × aF)}(h:TxS w0 R w t d s n E)(hE:E.length<=600)(hc:ChainE E id L)(hl:L.length<=9)(hx:stV L now=0)(hg:KI E id c) :
  () 39 #[t,id,now] w fun e w'=>e=.returned (.tuple #[.agg #[id,c.pa,c.ob,c.ow,c.ri,c.ba,c.de,c.ex,c.cu,c.rv],(0:Int)])/\TxS w0 R w' t d s n E/\KeptT R t w w':=by
 obtain⟨a1,a2,a3,a4,a5,a6,a7⟩:=h.box (.cells #[(0:Int),(0:Int),(0:Int),(0:Int),(0:Int),(0:Int),(0:Int),(0:Int),(0:Int),false] 33);obtain⟨r3,hr3⟩:∃ r3,w.heap.size=r3:=⟨_,rfl⟩
 obtain⟨x1,hx1⟩:∃ x1,w.alloc (.cells #[(0:Int),(0:Int),(0:Int),(0:Int),(0:Int),(0:Int),(0:Int),(0:Int),(0:Int),false] 33)=x1:=⟨_,rfl⟩
 rw[hx1] at a1 a2 a3 a5;rw[hr3] at a1 a3 a4 a5 a6 a7;have X1:=Hd hx1;have HR4:=Hd (And.intro a6 a7);have A3:=Hd (And.intro a3 a4);have A2:=Hd (And.intro a2 a1);have ST:=wW (now:=now) a1 hE hc hl;rw[hx] at ST;have ST:=Hd ST;have GT:=Hd (fun(wx:World) (h:TxS w0 (r3::R) wx t d s n E)=>nY h hE hg);clear hg;clear h hE hc hl hx a1 a2 a3 a4 a5 a6 a7 hx1;go_enter Tryz.func39,Tryz.ntmps39;go_upto_region 1 with fail
 rw[X1.o];try rw[hr3]
 clear hr3;go_wp2_with fail;refine ST.mono ?_;rintro e w3 ⟨rfl,h1,h2⟩;have G3:=Hd (GT w3 h1);have F3:=Hd h2;clear h1 h2 ST GT;go_wp2_with fail;refine G3.mono ?_;rintro e w4 ⟨rfl,h1,h2⟩;have F4:=Hd (And.intro h1 (F3.trans h2));clear h1 h2 G3 F3;have r8:=(F4.2 r3 (by simp) A3.2).trans A3.1;obtain⟨⟨y0,y1,y2,y3,y4,y5,y6,y7,y8,y9⟩,u0,u1,u2,u3,u4,u5,u6,u7,u8,u9⟩:=bZ r8
 obtain⟨n1,n2⟩:=UZ r8 (.int .i64 id) (.int .i64 c.pa) (.int .i64 c.ob) (.int .i64 c.ow) (.int .i64 c.ri) (.int .i64 c.ba) (.int .i64 c.de) (.int .i64 c.ex) (.int .i64 c.cu) (.bool c.rv)
 have FIN:Hid ((stC w4 r3 (.int .i64 id) (.int .i64 c.pa) (.int .i64 c.ob) (.int .i64 c.ow) (.int .i64 c.ri) (.int .i64 c.ba) (.int .i64 c.de) (.int .i64 c.ex) (.int .i64 c.cu) (.bool c.rv)).heap[r3]?=some (.cells #[id,c.pa,c.ob,c.ow,c.ri,c.ba,c.de,c.ex,c.cu,c.rv] 33)/\TxS w0 R (stC w4 r3 (.int .i64 id) (.int .i64 c.pa) (.int .i64 c.ob) (.int .i64 c.ow) (.int .i64 c.ri) (.int .i64 c.ba) (.int .i64 c.de) (.int .i64 c.ex) (.int .i64 c.cu) (.bool c.rv)) t d s n E/\KeptT R t w (stC w4 r3 (.int .i64 id) (.int .i64 c.pa) (.int .i64 c.ob) (.int .i64 c.ow) (.int .i64 c.ri) (.int .i64 c.ba) (.int .i64 c.de) (.int .i64 c.ex) (.int .i64 c.cu) (.bool c.rv))):=Hd (by
  refine⟨n1,((F4.1).turn (k:=r3) (by simp) A3.2 HR4.1 n2).sub (fun k hk=>by simp[hk]),fun k hk hn=>?_⟩;exact(n2.block k ((F4.1).lt.1 k (by simp[hk])) (HR4.2 k hk)).trans ((F4.2 k (by simp[hk]) hn).trans (A2.1 k hk hn)))
 unfold stC at FIN;clear n1 n2 r8;go_wp2_with fail;exact bodyPost_ret (v:=.tuple #[.agg #[id,c.pa,c.ob,c.ow,c.ri,c.ba,c.de,c.ex,c.cu,c.rv],(0:Int)]) (bO (fn:=Tryz.f39) rfl _ _ r3 33 _ (0,0) _ _ rfl rfl FIN.1 Tryz.underlying33 rfl kL) rfl ⟨rfl,FIN.2⟩
theorem JM {w0 w:World}{R:List Nat}{t d s:Nat}{E:List Ent}{br bb be bt bp bn bw:Nat}{ri ba ex pa now ow v id de x:Int}{c:aF}{p:bV}{L:List (Int × aF)}(h:TxS w0 R w t d s 640 E)(hbr:w.heap[br]?=some (.cells #[ri] 3))(hbb:w.heap[bb]?=some (.cells #[ba] 3))(hbe:w.heap[be]?=some (.cells #[ex] 3))(hbt:w.heap[bt]?=some (.cells #[t] 24))(hbp:w.heap[bp]?=some (.cells #[pa] 3))(hbn:w.heap[bn]?=some (.cells #[now] 3))(hbw:w.heap[bw]?=some (.cells #[ow] 3))(hm:(br∈R/\br≠t/\w0.heap.size<=br)/\(bb∈R/\bb≠t/\w0.heap.size<=bb)/\(be∈R/\be≠t/\w0.heap.size<=be)/\(bt∈R/\bt≠t/\w0.heap.size<=bt)/\(bp∈R/\bp≠t/\w0.heap.size<=bp)/\(bn∈R/\bn≠t/\w0.heap.size<=bn)/\(bw∈R/\bw≠t/\w0.heap.size<=bw))(hE:E.length<=290)(hmay:(fH ri ri&&(inB 0 4294967295 ba&&inB 0 268435455 ex))=true)
  (hch:ChainE E pa L)(hl:L.length<=9)(hst:stV L now=0)(hgc:KI E pa c)(hg:ZS E ow p)(hu:(if fH ri c.ri=true then(if 8<=c.de then 9 else 0) else 7)=(0:Int))(hq:p.ha<p.li)(hv:NumE E 10376293541461622785 v)(hv1:v<16777215)(hid:v+1=id)(hde:c.de+1=de)(hde1:0<=de/\de<=8)(hc2:fM id ⟨pa,c.ob,ow,ri,ba,de,ex,0,false⟩) :
  () 38 #[br,bb,be,bt,bp,bn,bw] w fun e' w'=>e'=.returned (.tuple #[id,(0:Int)])/\TxS w0 R w' t d s 640 (oX E id ⟨pa,c.ob,ow,ri,ba,de,ex,0,false⟩ ow ⟨p.nm,p.li,p.ha+1⟩)/\KeptT R t w w':=by
 have MY:=Hd (fun w=>yP ri ba ex true w hmay);have LV:=Hd (sC h (show E.length<=600 by omega) hch hl hst hgc);have OW:=Hd (fun(R':List Nat) (wx:World) (hx:TxS w0 R' wx t d s 640 E)=>qW hx (show E.length<=600 by omega) hg);have UN:=Hd (fun(R':List Nat) (wx:World) (hx:TxS w0 R' wx t d s 640 E)=>yO (id:=pa) hx hu);have ho:=fO.1 hg.2
 have AD:=Hd (fun(R':List Nat) (wx:World) (hx:TxS w0 R' wx t d s 640 E)=>MU (pa:=pa) (ob:=c.ob) (oi:=ow) (ri:=ri) (ba:=ba) (de:=de) (ex:=ex) (nm:=p.nm) (li:=p.li) (ha:=p.ha) hx hE hv hv1 hid hq rfl ⟨ho.2.2.2.2.1,ho.2.2.2.1.2⟩ hc2 (fO.2 ⟨ho.1,ho.2.1,ho.2.2.1,ho.2.2.2.1,by show 0<=p.ha+1;omega,by show p.ha+1<=p.li;omega⟩) rfl);have ed:IntKind.i64.wrap (c.de+1)=de:=by rw[hde];exact IntWalk.i64_in _ (by omega)
 have HB:=Hd (And.intro hbr (And.intro hbb (And.intro hbe (And.intro hbt (And.intro hbp (And.intro hbn hbw))))));have HM:=Hd hm;have c0:=(aE hbr).1;have c1:=(aE hbb).1;have c2:=(aE hbe).1;have c3:=(aE hbt).1;have c4:=(aE hbp).1;have c5:=(aE hbn).1;have c6:=(aE hbw).1;obtain⟨nm,li,ha⟩:=p;clear h hbr hbb hbe hbt hbp hbn hbw hm hE hmay hch hl hst hgc hg hu hq hv hv1 hid hde hde1 hc2 ho;go_enter Tryz.func38,Tryz.ntmps38;go_wp2_with fail;refine(MY _).mono ?_;rintro e w1 ⟨rfl,rfl⟩;go_wp2_with fail;refine LV.mono ?_;rintro e w3 ⟨rfl,h1,h2⟩
 obtain⟨a1,a2,a3,a4,a5,a6,a7⟩:=h1.box (.cells #[pa,c.pa,c.ob,c.ow,c.ri,c.ba,c.de,c.ex,c.cu,c.rv] 33);obtain⟨x1,hx1⟩:∃ x,w3.alloc (.cells #[pa,c.pa,c.ob,c.ow,c.ri,c.ba,c.de,c.ex,c.cu,c.rv] 33)=x:=⟨_,rfl⟩
 obtain⟨bA,hbA⟩:∃ n,w3.heap.size=n:=⟨_,rfl⟩
 rw[hx1] at a1 a2 a3 a5;rw[hbA] at a1 a3 a4;have K1:=Hd (h2.trans a2);have OX:=Hd (OW _ _ a1);have X1:=Hd (And.intro hx1 hbA);have A3:=Hd (And.intro a3 a4);clear h1 h2 a1 a2 a3 a4 a5 a6 a7 hx1 hbA OW LV MY c0 c1 c2 c3 c4 c5 c6;go_upto_region 4 with fail
 rw[X1.1];try rw[X1.2]
 have c3:=(aE ((K1 bt (HM.2.2.2.1).1 (HM.2.2.2.1).2.1).trans (HB.2.2.2.1))).1;have c6:=(aE ((K1 bw (HM.2.2.2.2.2.2).1 (HM.2.2.2.2.2.2).2.1).trans (HB.2.2.2.2.2.2))).1;go_wp2_with fail;refine OX.mono ?_;rintro e w4 ⟨rfl,h1,h2⟩;obtain⟨a1,a2,a3,a4,a5,a6,a7⟩:=h1.box (.cells #[ow,nm,.int .i64 li,.int .i64 ha] 49);obtain⟨x2,hx2⟩:∃ x,w4.alloc (.cells #[ow,nm,.int .i64 li,.int .i64 ha] 49)=x:=⟨_,rfl⟩
 obtain⟨bB,hbB⟩:∃ n,w4.heap.size=n:=⟨_,rfl⟩
 rw[hx2] at a1 a2 a3 a5;rw[hbB] at a1 a3 a4;have KA:=Hd (h2.trans a2);have K2:=Hd (K1.trans (KA.sub (R':=R) fun k hk=>by simp[hk]));have UX:=Hd (UN _ _ a1);have X2:=Hd (And.intro hx2 hbB);have B3:=Hd (And.intro a3 a4);have mA:=(KA bA (by simp) A3.2).trans A3.1;have MA:=Hd mA;clear h1 h2 a1 a2 a3 a4 a5 a6 a7 hx2 hbB UN OX K1 KA c3 c6;go_upto_region 7 with fail
 rw[X2.1];try rw[X2.2]
 have c0:=(aE ((K2 br (HM.1).1 (HM.1).2.1).trans (HB.1))).1;obtain⟨⟨y0,y1,y2,y3,y4,y5,y6,y7,y8,y9⟩,_⟩:=bZ mA;clear mA;go_wp2_with fail;refine UX.mono ?_;rintro e w5 ⟨rfl,h1,h2⟩;have K3:=Hd (K2.trans (h2.sub (R':=R) fun k hk=>by simp[hk]));have mA:=(h2 bA (by simp) A3.2).trans MA.o;have mB:=(h2 bB (by simp) B3.2).trans B3.1;obtain⟨a1,a2,a3,a4,a5,a6,a7⟩:=h1.box (.cells #[(0:Int),pa,c.ob,(0:Int),ri,ba,de,ex,(0:Int),false] 33)
 obtain⟨x3,hx3⟩:∃ x,w5.alloc (.cells #[(0:Int),pa,c.ob,(0:Int),ri,ba,de,ex,(0:Int),false] 33)=x:=⟨_,rfl⟩
 obtain⟨bC,hbC⟩:∃ n,w5.heap.size=n:=⟨_,rfl⟩
 rw[hx3] at a1 a2 a3 a5;rw[hbC] at a1 a3 a4;have AX:=Hd (AD _ _ a1);have X3:=Hd (And.intro hx3 hbC);have K4:=Hd (K3.trans (a2.sub (R':=R) fun k hk=>by simp[hk]));have MB:=Hd ((a2 bB (by simp) B3.2).trans mB);have MC:=Hd a3;clear h1 h2 a1 a2 a3 a4 a5 a6 a7 hx3 hbC AD UX K2 c0 y0 y1 y2 y3 y4 y5 y6 y7 y8 y9 mB MA;have c4:=(aE ((K3 bp (HM.2.2.2.2.1).1 (HM.2.2.2.2.1).2.1).trans (HB.2.2.2.2.1))).1;have c0:=(aE ((K3 br (HM.1).1 (HM.1).2.1).trans (HB.1))).1
 have c1:=(aE ((K3 bb (HM.2.1).1 (HM.2.1).2.1).trans (HB.2.1))).1;have c2:=(aE ((K3 be (HM.2.2.1).1 (HM.2.2.1).2.1).trans (HB.2.2.1))).1;obtain⟨⟨y0,y1,y2,y3,y4,y5,y6,y7,y8,y9⟩,g0,g1,g2,g3,g4,g5,g6,g7,g8,g9⟩:=bZ mA;clear mA;go_upto_region 13 with fail
 rw[X3.1];try rw[X3.2]
 clear c4 c0 c1 c2 y0 y1 y2 y3 y4 y5 y6 y7 y8 y9 g0 g1 g2 g3 g4 g5 g6 g7 g8 g9;have c3:=(aE ((K4 bt (HM.2.2.2.1).1 (HM.2.2.2.1).2.1).trans (HB.2.2.2.1))).1;obtain⟨⟨y0,y1,y2,y3,y4,y5,y6,y7,y8,y9⟩,_⟩:=bZ MC.o;obtain⟨⟨z0,z1,z2,z3⟩,_⟩:=eO MB.o;go_wp2_with fail;refine AX.mono ?_;rintro e w6 ⟨rfl,h1,h2⟩;have FIN:=Hd (And.intro (h1.sub (R':=R) fun k hk=>by simp[hk]) (K4.trans (h2.sub (R':=R) fun k hk=>by simp[hk])));clear h1 h2 AX c3 y0 y1 y2 y3 y4 y5 y6 y7 y8 y9 z0 z1 z2 z3;go_wp2_with fail;go_ret2;exact⟨rfl,FIN.o⟩
theorem DB {w0 w:World}{R:List Nat}{t d s:Nat}{E:List Ent}{br bb be bt bp bn bw:Nat}{ri ba ex pa now ow v id de x:Int}{c:aF}{p:bV}{L:List (Int × aF)}(h:TxS w0 R w t d s 640 E)(hbr:w.heap[br]?=some (.cells #[ri] 3))(hbb:w.heap[bb]?=some (.cells #[ba] 3))(hbe:w.heap[be]?=some (.cells #[ex] 3))(hbt:w.heap[bt]?=some (.cells #[t] 24))(hbp:w.heap[bp]?=some (.cells #[pa] 3))(hbn:w.heap[bn]?=some (.cells #[now] 3))(hbw:w.heap[bw]?=some (.cells #[ow] 3))(hm:(br∈R/\br≠t/\w0.heap.size<=br)/\(bb∈R/\bb≠t/\w0.heap.size<=bb)/\(be∈R/\be≠t/\w0.heap.size<=be)/\(bt∈R/\bt≠t/\w0.heap.size<=bt)/\(bp∈R/\bp≠t/\w0.heap.size<=bp)/\(bn∈R/\bn≠t/\w0.heap.size<=bn)/\(bw∈R/\bw≠t/\w0.heap.size<=bw))(hE:E.length<=290)(hmay:(fH ri ri&&(inB 0 4294967295 ba&&inB 0 268435455 ex))=true)
  (hch:ChainE E pa L)(hl:L.length<=9)(hst:stV L now=0)(hgc:KI E pa c)(hg:ZS E ow p)(hu:(if fH ri c.ri=true then(if 8<=c.de then 9 else 0) else 7)=x)(hx:x≠0) :
  () 38 #[br,bb,be,bt,bp,bn,bw] w fun e' w'=>e'=.returned (.tuple #[(0:Int),.int .i64 x])/\TxS w0 R w' t d s 640 E/\KeptT R t w w':=by
 have MY:=Hd (fun w=>yP ri ba ex true w hmay);have LV:=Hd (sC h (show E.length<=600 by omega) hch hl hst hgc);have OW:=Hd (fun(R':List Nat) (wx:World) (hx:TxS w0 R' wx t d s 640 E)=>qW hx (show E.length<=600 by omega) hg);have UN:=Hd (fun(R':List Nat) (wx:World) (hx:TxS w0 R' wx t d s 640 E)=>yO (id:=pa) hx hu);have x2:(x==0)=false:=by simpa using hx
 have x3:(x != 0)=true:=by simpa using hx
 have HB:=Hd (And.intro hbr (And.intro hbb (And.intro hbe (And.intro hbt (And.intro hbp (And.intro hbn hbw))))));have HM:=Hd hm;have c0:=(aE hbr).1;have c1:=(aE hbb).1;have c2:=(aE hbe).1;have c3:=(aE hbt).1;have c4:=(aE hbp).1;have c5:=(aE hbn).1;have c6:=(aE hbw).1;obtain⟨nm,li,ha⟩:=p;clear h hbr hbb hbe hbt hbp hbn hbw hm hE hmay hch hl hst hgc hg hu hx;go_enter Tryz.func38,Tryz.ntmps38;go_wp2_with fail;refine(MY _).mono ?_;rintro e w1 ⟨rfl,rfl⟩;go_wp2_with fail;refine LV.mono ?_;rintro e w3 ⟨rfl,h1,h2⟩
 obtain⟨a1,a2,a3,a4,a5,a6,a7⟩:=h1.box (.cells #[pa,c.pa,c.ob,c.ow,c.ri,c.ba,c.de,c.ex,c.cu,c.rv] 33);obtain⟨x1,hx1⟩:∃ x,w3.alloc (.cells #[pa,c.pa,c.ob,c.ow,c.ri,c.ba,c.de,c.ex,c.cu,c.rv] 33)=x:=⟨_,rfl⟩
 obtain⟨bA,hbA⟩:∃ n,w3.heap.size=n:=⟨_,rfl⟩
 rw[hx1] at a1 a2 a3 a5;rw[hbA] at a1 a3 a4;have K1:=Hd (h2.trans a2);have OX:=Hd (OW _ _ a1);have X1:=Hd (And.intro hx1 hbA);have A3:=Hd (And.intro a3 a4);clear h1 h2 a1 a2 a3 a4 a5 a6 a7 hx1 hbA OW LV MY c0 c1 c2 c3 c4 c5 c6;go_upto_region 4 with fail
 rw[X1.1];try rw[X1.2]
 have c3:=(aE ((K1 bt (HM.2.2.2.1).1 (HM.2.2.2.1).2.1).trans (HB.2.2.2.1))).1;have c6:=(aE ((K1 bw (HM.2.2.2.2.2.2).1 (HM.2.2.2.2.2.2).2.1).trans (HB.2.2.2.2.2.2))).1;go_wp2_with fail;refine OX.mono ?_;rintro e w4 ⟨rfl,h1,h2⟩;obtain⟨a1,a2,a3,a4,a5,a6,a7⟩:=h1.box (.cells #[ow,nm,.int .i64 li,.int .i64 ha] 49);obtain⟨x2,hx2⟩:∃ x,w4.alloc (.cells #[ow,nm,.int .i64 li,.int .i64 ha] 49)=x:=⟨_,rfl⟩
 obtain⟨bB,hbB⟩:∃ n,w4.heap.size=n:=⟨_,rfl⟩
 rw[hx2] at a1 a2 a3 a5;rw[hbB] at a1 a3 a4;have KA:=Hd (h2.trans a2);have K2:=Hd (K1.trans (KA.sub (R':=R) fun k hk=>by simp[hk]));have UX:=Hd (UN _ _ a1);have X2:=Hd (And.intro hx2 hbB);have B3:=Hd (And.intro a3 a4);have mA:=(KA bA (by simp) A3.2).trans A3.1;have MA:=Hd mA;clear h1 h2 a1 a2 a3 a4 a5 a6 a7 hx2 hbB UN OX K1 KA c3 c6;go_upto_region 7 with fail
 rw[X2.1];try rw[X2.2]
 have c0:=(aE ((K2 br (HM.1).1 (HM.1).2.1).trans (HB.1))).1;obtain⟨⟨y0,y1,y2,y3,y4,y5,y6,y7,y8,y9⟩,_⟩:=bZ mA;clear mA;go_wp2_with fail;refine UX.mono ?_;rintro e w5 ⟨rfl,h1,h2⟩;have K3:=Hd (K2.trans (h2.sub (R':=R) fun k hk=>by simp[hk]));have FIN:=Hd (And.intro (h1.sub (R':=R) fun k hk=>by simp[hk]) K3.o);clear h1 h2 UX c0 y0 y1 y2 y3 y4 y5 y6 y7 y8 y9;go_wp2_with fail;go_ret2;exact⟨rfl,FIN.o⟩
end
theorem MQ {w0 w:World}{R:List Nat}{t d s:Nat}{E:List Ent}{pa ow ri ba ex now de:Int}{os:List bV}{cs:List (Option aF)}{ls:List Int}{m:Nat}{oi i:Nat}{c:aF}{p:bV}{L:List (Int × aF)}(h:TxS w0 R w t d s 640 E)(hc:CpE E cs os ls m)(hm:m<=280)(hl:cs.length<90)(hp:os[oi]?=some p)(how:(oi:Int)+1=ow)(hq:p.ha<p.li)
  (hci:cs[i]?=some (some c))(hpa:(i:Int)+1=pa)(hch:ChainE E pa L)(hL:L.length<=9)(hst:stV L now=0)(hsub:fH ri c.ri=true)(hde:c.de<8)(hde2:c.de+1=de)
  (hri:0<=ri/\ri<=65535)(hba:0<=ba/\ba<=4294967295)(hex:0<=ex/\ex<=268435455){id:Int}(hid:(cs.length:Int)+1=id) :
  () 12 #[t,pa,ow,ri,ba,ex,now] w fun e' w'=>∃ E',e'=.returned (.tuple #[id,(0:Int)])/\TxS w0 R w' t d s 640 E'/\KeptT R t w w'/\CpE E' (cs++[some ⟨pa,c.ob,ow,ri,ba,de,ex,0,false⟩]) (os.set oi ⟨p.nm,p.li,p.ha+1⟩) (ls++[ex]) (m+5):=by
 have ho:=fO.1 (hc.ownOk oi p hp);have hi:=(List.getElem?_eq_some_iff.1 hp).1;have hi2:=(List.getElem?_eq_some_iff.1 hci).1;have hol:=hc.ol;have hC:=eZ.1 (hc.capOk i c hci);have hdr:=hC.de;have hok:fM ((cs.length:Int)+1) ⟨pa,c.ob,ow,ri,ba,de,ex,0,false⟩:=eZ.2 ⟨by omega,by show 0<=pa/\pa<=16777215;omega,by show pa≠_;omega,hC.ob,by show 1<=ow/\ow<=16777215;omega,hri,hba,by show 1<=de/\de<=8;omega,by show pa=0 ↔ de=1;omega,hex,(by decide:(0:Int)<=0/\(0:Int)<=16777215)⟩
 have hoo:fF ((oi:Int)+1) ⟨p.nm,p.li,p.ha+1⟩:=fO.2 ⟨ho.1,ho.2.1,ho.2.2.1,ho.2.2.2.1,by show 0<=p.ha+1;omega,by show p.ha+1<=p.li;omega⟩;have hE:=hc.len
 have hmay:(fH ri ri&&(inB 0 4294967295 ba&&inB 0 268435455 ex))=true:=by
  rw[Bool.and_eq_true,Bool.and_eq_true];exact⟨jH.2 hri,fD.2 hba,fD.2 hex⟩
 have hg:=hc.getO hp;rw[how] at hg;have hgc:=hc.getC hci;rw[hpa] at hgc;have hmm:=hc.mint (c:=⟨pa,c.ob,ow,ri,ba,de,ex,0,false⟩) (o:=⟨p.nm,p.li,p.ha+1⟩) (oi:=oi) hl hok hi hoo;rw[how] at hmm;have hu:(if fH ri c.ri=true then(if 8<=c.de then 9 else 0) else 7)=(0:Int):=by rw[if_pos hsub,if_neg (by omega)]
 rw[hid] at hok hmm;refine(MS h (.inl ⟨rfl,rfl⟩) fun R' wa b0 b1 b2 b3 b4 b5 b6 hT g0 g1 g2 g3 g4 g5 g6 gm=>JM (x:=0) hT g3 g4 g5 g0 g1 g6 g2 ⟨gm.2.2.2.1,gm.2.2.2.2.1,gm.2.2.2.2.2.1,gm.1,gm.2.1,gm.2.2.2.2.2.2,gm.2.2.1⟩ (by omega) hmay hch hL hst hgc hg hu hq hc.num1 (by omega) hid hde2 (by omega) hok).mono ?_;rintro e' w' ⟨rfl,h1,h2⟩;exact⟨_,rfl,h1,h2,hmm⟩
theorem ZG {w0 w:World}{R:List Nat}{t d s:Nat}{E:List Ent}{pa ow ri ba ex now x:Int}{os:List bV}{cs:List (Option aF)}{ls:List Int}{m:Nat}{oi i:Nat}{c:aF}{p:bV}{L:List (Int × aF)}(h:TxS w0 R w t d s 640 E)(hc:CpE E cs os ls m)(hm:m<=290)(hp:os[oi]?=some p)(how:(oi:Int)+1=ow)
  (hci:cs[i]?=some (some c))(hpa:(i:Int)+1=pa)(hch:ChainE E pa L)(hL:L.length<=9)(hst:stV L now=0)(hu:(if fH ri c.ri=true then(if 8<=c.de then 9 else 0) else 7)=x)(hx:x≠0)
  (hri:0<=ri/\ri<=65535)(hba:0<=ba/\ba<=4294967295)(hex:0<=ex/\ex<=268435455) :
  () 12 #[t,pa,ow,ri,ba,ex,now] w fun e' w'=>e'=.returned (.tuple #[(0:Int),x])/\TxS w0 R w' t d s 640 E/\KeptT R t w w':=by
 have hE:=hc.len
 have hmay:(fH ri ri&&(inB 0 4294967295 ba&&inB 0 268435455 ex))=true:=by
  rw[Bool.and_eq_true,Bool.and_eq_true];exact⟨jH.2 hri,fD.2 hba,fD.2 hex⟩
 have hg:=hc.getO hp;rw[how] at hg;have hgc:=hc.getC hci;rw[hpa] at hgc;exact MS (x:=0) h (.inr ⟨hx,rfl⟩) fun R' wa b0 b1 b2 b3 b4 b5 b6 hT g0 g1 g2 g3 g4 g5 g6 gm=>DB (v:=0) (id:=0) (de:=0) hT g3 g4 g5 g0 g1 g6 g2 ⟨gm.2.2.2.1,gm.2.2.2.2.1,gm.2.2.2.2.2.1,gm.1,gm.2.1,gm.2.2.2.2.2.2,gm.2.2.1⟩ (by omega) hmay hch hL hst hgc hg hu hx
theorem PY {L:List (Int × aF)}(h:∀ p∈L,p.2.rv=false/\p.2.cu=0/\1<=p.1):xN L=false:=by
 unfold xN;rw[List.any_eq_false];intro j _;unfold kQ
 cases hj:L[j]? with
 | none=>simp
 | some p=>
  have hp:=h p (List.mem_of_getElem? hj);simp only[hp.1,hp.2.1,Bool.false_or]
  cases j with
  | zero=>simp
  | succ k=>
   cases hk:L[k]? with
   | none=>simp[hk]
   | some q=>
    have hq:=h q (List.mem_of_getElem? hk);have hd:decide (q.1<=0)=false:=decide_eq_false (by omega);simp[hk,hd]
def tP (f x:Int):Int:=if x≠0/\(f=0\/x<f) then x else f
theorem QU {f x y:Int}(hf:0<=f)(hx:0<=x)(hy:0<=y):tP (tP f x) y=tP (tP f y) x:=by
 unfold tP
 repeat' split
 all_goals omega
theorem LM {f x:Int}(hf:0<=f)(hx:0<=x):0<=tP f x:=by
 unfold tP;split <;> omega
theorem uC (f:Int)(p:Int × aF):uD f p=tP f p.2.ex:=rfl
theorem aFC (L:List (Int × aF)):∀ (f x:Int),0<=f->0<=x->(∀ p∈L,0<=p.2.ex)->L.foldl uD (tP f x)=tP (L.foldl uD f) x:=by
 induction L with
 | nil=>intro f x _ _ _;rfl
 | cons p L ih=>
  intro f x hf hx hL;have hp:=hL p (by simp);rw[List.foldl_cons,List.foldl_cons,uC,uC,QU hf hx hp,ih _ _ (LM hf hp) hx fun q hq=>hL q (by simp[hq])]
theorem JG (p:Int × aF)(L:List (Int × aF))(hp:0<=p.2.ex)(hL:∀ q∈L,0<=q.2.ex):gT (p::L)=tP (gT L) p.2.ex:=by
 show(p::L).foldl uD 0=_
 rw[List.foldl_cons,uC,aFC L 0 _ (by decide) hp hL]
 rfl
theorem CS:∀ (L:List (Int × aF)),(∀ q∈L,0<=q.2.ex)->0<=gT L
 | [],_=>by decide
 | p::L,h=>by
  rw[JG p L (h p (by simp)) fun q hq=>h q (by simp[hq])];exact LM (CS L fun q hq=>h q (by simp[hq])) (h p (by simp))
theorem aAM {L:List (Int × aF)}{now:Int}(h:∀ p∈L,p.2.rv=false/\p.2.cu=0/\1<=p.1):stV L now=if gT L≠0/\gT L<=now then 11 else 0:=by
 unfold stV;rw[PY h,if_neg (by decide)]
theorem mW {w0 w:World}{R:List Nat}{t d s n:Nat}{E:List Ent}{os:List bV}{cs:List (Option aF)}{ls:List Int}{m:Nat}{id fr mo fm:Int}(h:TxS w0 R w t d s n E)(hc:CpE E cs os ls m)(hm:m<=600)(hid:1<=id/\id<=16777215)(hmo:1<=mo)(hfr:max fr 0=fm)(hfm:fm<=4294967295) :
  () 15 #[t,id,fr,mo] w fun e' w'=>∃ v,e'=.returned (.tuple #[v,(0:Int)])/\RowZ w' v (((eX cs id).filter fun i=>decide (fm<=i)).take mo.toNat)/\FreshB w0 R t v/\TxS w0 (v.ownBlock.toList++R) w' t d s n E/\KeptT R t w w':=by
 have hE:=hc.len;have h0:0<=fm:=by omega
 refine aCJ h fun R' wa b0 b1 b2 b3 hT g0 g1 g2 g3 gm=>?_
 have:=XQ hT g3 g1 g0 g2 ⟨gm.2.2.2,gm.2.1,gm.1,gm.2.2.1⟩ (by omega) hc.keys hmo hid hfr ⟨h0,hfm⟩;rw[hc.kids ⟨hid.1,by omega⟩ ⟨h0,hfm⟩] at this;exact this
theorem XP {cs:List (Option aF)}{a:Int}(ha:a≠0):((eX cs a).filter fun i=>decide (0<=i))=eX cs a:=by
 rw[List.filter_eq_self];intro i hi;obtain⟨k,c,h1,h2,h3⟩:=(nT ha i).1 hi;rw[decide_eq_true_eq];omega
theorem aCL {w0 w:World}{R:List Nat}{t d s n:Nat}{E:List Ent}{os:List bV}{cs:List (Option aF)}{ls:List Int}{m:Nat}{id:Int}{b:Bool}(h:TxS w0 R w t d s n E)(hc:CpE E cs os ls m)(hm:m<=600)(hid:1<=id/\id<=16777215)(hb:(eX cs id).isEmpty=b) :
  () 43 #[t,.int .i64 id] w fun e' w'=>e'=.returned (.bool b)/\TxS w0 R w' t d s n E/\KeptT R t w w':=by
 have KD:=mW h hc hm hid (show(1:Int)<=1 by decide) (show max (0:Int) 0=0 by decide) (by decide);rw[XP (by omega)] at KD
 have hl:((eX cs id).take (1:Int).toNat).length=if b=true then 0 else 1:=by
  rw[<-hb]
  cases eX cs id <;> simp
 obtain⟨K,hK⟩:∃ K,(eX cs id).take (1:Int).toNat=K:=⟨_,rfl⟩
 rw[hK] at KD hl;have KD:=Hd KD;have HL:=Hd hl;clear h hc hm hid hb hl hK;go_enter Tryz.func43,Tryz.ntmps43;go_wp2_with fail;refine KD.mono ?_;rintro e w2 ⟨v,rfl,h1,h2,h3,h4⟩;have FIN:=Hd (And.intro (h3.sub (R':=R) fun k hk=>by simp[hk]) h4);obtain⟨a,cp,rfl,_,_⟩:=h1.shape;clear h1 h2 h3 h4 KD
 cases b
 ·have e1:K.length=1:=by simpa using HL.o
  rw[e1];clear HL e1;go_wp2_with fail;go_ret;exact⟨rfl,FIN.o⟩
 ·have e1:K.length=0:=by simpa using HL.o
  rw[e1];clear HL e1;go_wp2_with fail;go_ret;exact⟨rfl,FIN.o⟩
theorem kU {w0 w:World}{R:List Nat}{t d s:Nat}{E:List Ent}{E':List Ent}{bt bi bn bp:Nat}{id pa now x de:Int}{c cb:aF}(h:TxS w0 R w t d s 640 E)(hbt:w.heap[bt]?=some (.cells #[t] 24))(hbi:w.heap[bi]?=some (.cells #[id] 3))(hbn:w.heap[bn]?=some (.cells #[now] 3))(hbp:w.heap[bp]?=some (.cells #[pa] 3))(hm:(bt∈R/\bt≠t/\w0.heap.size<=bt)/\(bi∈R/\bi≠t/\w0.heap.size<=bi)/\(bn∈R/\bn≠t/\w0.heap.size<=bn)/\(bp∈R/\bp≠t/\w0.heap.size<=bp))(hE:E.length<=290)
  (hl:∀ (R':List Nat) (wx:World),TxS w0 R' wx t d s 640 E->() 39 #[t,id,now] wx fun e w'=>e=.returned (.tuple #[.agg #[id,c.pa,c.ob,c.ow,c.ri,c.ba,c.de,c.ex,c.cu,c.rv],(0:Int)])/\TxS w0 R' w' t d s 640 E/\KeptT R' t wx w')(hl2:∀ (R':List Nat) (wx:World),TxS w0 R' wx t d s 640 E->() 39 #[t,pa,now] wx fun e w'=>e=.returned (.tuple #[.agg #[pa,cb.pa,cb.ob,cb.ow,cb.ri,cb.ba,cb.de,cb.ex,cb.cu,cb.rv],(0:Int)])/\TxS w0 R' w' t d s 640 E/\KeptT R' t wx w')(hc:(c.pa=0/\x=6/\E'=E)\/(c.pa≠0/\id=pa/\x=6/\E'=E)\/(c.pa≠0/\id≠pa/\id<=cb.cu/\x=6/\E'=E)\/(c.pa≠0/\id≠pa/\¬ id<=cb.cu/\((∀ (R':List Nat) (wx:World),TxS w0 R' wx t d s 640 E->() 43 #[t,id] wx fun e w'=>e=.returned (.bool false)/\TxS w0 R' w' t d s 640 E/\KeptT R' t wx w')/\x=6/\E'=E\/(∀ (R':List Nat) (wx:World),TxS w0 R' wx t d s 640 E->() 43 #[t,id] wx fun e w'=>e=.returned (.bool true)/\TxS w0 R' w' t d s 640 E/\KeptT R' t wx w')/\(if fH c.ri cb.ri=true then(if 8<=cb.de then 9 else 0) else 7)=x/\(x≠0/\E'=E\/x=0/\fM id ⟨pa,cb.ob,c.ow,c.ri,c.ba,de,c.ex,c.cu,c.rv⟩/\cb.de+1=de/\E'=LJ E id c.pa ⟨pa,cb.ob,c.ow,c.ri,c.ba,de,c.ex,c.cu,c.rv⟩)))) :
  () 42 #[bt,bi,bn,bp] w fun e' w'=>e'=.returned (.int .i64 x)/\TxS w0 R w' t d s 640 E'/\KeptT R t w w':=by
 have L1:=Hd (hl _ _ h);have L2:=Hd hl2;have HC:=Hd hc;have HE:=Hd hE;have UN:=Hd (fun(R':List Nat) (wx:World) (hx:TxS w0 R' wx t d s 640 E)=>yO (id:=pa) (ri:=c.ri) (c:=cb) hx rfl);have HB:=Hd (And.intro hbt (And.intro hbi (And.intro hbn hbp)));have HM:=Hd hm;have c0:=(aE hbt).1;have c1:=(aE hbi).1;have c2:=(aE hbn).1;have c3:=(aE hbp).1;clear h hbt hbi hbn hbp hm hl hl2 hc hE;go_enter Tryz.func42,Tryz.ntmps42;go_wp2_with fail;refine L1.mono ?_;rintro e w3 ⟨rfl,h1,h2⟩
 obtain⟨a1,a2,a3,a4,a5,a6,a7⟩:=h1.box (.cells #[id,c.pa,c.ob,c.ow,c.ri,c.ba,c.de,c.ex,c.cu,c.rv] 33);obtain⟨x1,hx1⟩:∃ x,w3.alloc (.cells #[id,c.pa,c.ob,c.ow,c.ri,c.ba,c.de,c.ex,c.cu,c.rv] 33)=x:=⟨_,rfl⟩
 obtain⟨bA,hbA⟩:∃ n,w3.heap.size=n:=⟨_,rfl⟩
 rw[hx1] at a1 a2 a3 a5;rw[hbA] at a1 a3 a4 a5 a6 a7;have K1:=Hd (h2.trans a2);have OX:=Hd (L2 _ _ a1);have X1:=Hd (And.intro hx1 hbA);have A3:=Hd (And.intro a3 (And.intro a4 (And.intro a6 a7)));clear h1 h2 a1 a2 a3 a4 a5 a6 a7 hx1 hbA L1 L2 c0 c1 c2 c3;go_upto_region 4 with fail
 rw[X1.1];try rw[X1.2]
 have c0:=(aE ((K1 bt (HM.1).1 (HM.1).2.1).trans (HB.1))).1;have c2:=(aE ((K1 bn (HM.2.2.1).1 (HM.2.2.1).2.1).trans (HB.2.2.1))).1;have c3:=(aE ((K1 bp (HM.2.2.2).1 (HM.2.2.2).2.1).trans (HB.2.2.2))).1;go_wp2_with fail;refine OX.mono ?_;rintro e w4 ⟨rfl,h1,h2⟩;obtain⟨a1,a2,a3,a4,a5,a6,a7⟩:=h1.box (.cells #[pa,cb.pa,cb.ob,cb.ow,cb.ri,cb.ba,cb.de,cb.ex,cb.cu,cb.rv] 33)
 obtain⟨x2,hx2⟩:∃ x,w4.alloc (.cells #[pa,cb.pa,cb.ob,cb.ow,cb.ri,cb.ba,cb.de,cb.ex,cb.cu,cb.rv] 33)=x:=⟨_,rfl⟩
 obtain⟨bB,hbB⟩:∃ n,w4.heap.size=n:=⟨_,rfl⟩
 rw[hx2] at a1 a2 a3 a5;rw[hbB] at a1 a3 a4 a5 a6 a7;have KA:=Hd (h2.trans a2);have K2:=Hd (K1.trans (KA.sub (R':=R) fun k hk=>by simp[hk]));have X2:=Hd (And.intro hx2 hbB);have mA:=(KA bA (by simp) A3.2.1).trans A3.1;have T2:=Hd a1;have B3:=Hd (And.intro a3 (And.intro a4 (And.intro mA (show bB≠bA from fun e=>a7 bA (by simp) e.symm))));have HRB:Hid (∀ k∈R,k≠bB):=Hd fun k hk=>a7 k (by simp[hk])
 have FIN0:=Hd (And.intro (a1.sub (R':=R) fun k hk=>by simp[hk]) K2.o);obtain⟨⟨z0,z1,z2,z3,z4,z5,z6,z7,z8,z9⟩,_⟩:=bZ a3;clear h1 h2 a1 a2 a3 a4 a5 a6 a7 hx2 hbB OX KA c0 c2 c3;go_upto_region 7 with fail
 rw[X2.1];try rw[X2.2]
 have c0:=(aE ((K2 bt (HM.1).1 (HM.1).2.1).trans (HB.1))).1;have c1:=(aE ((K2 bi (HM.2.1).1 (HM.2.1).2.1).trans (HB.2.1))).1;have c3:=(aE ((K2 bp (HM.2.2.2).1 (HM.2.2.2).2.1).trans (HB.2.2.2))).1;obtain⟨⟨y0,y1,y2,y3,y4,y5,y6,y7,y8,y9⟩,_⟩:=bZ mA;clear mA
 rcases HC.o with⟨q1,rfl,rfl⟩|⟨q1,q2,rfl,rfl⟩|⟨q1,q2,q3,rfl,rfl⟩|⟨q1,q2,q3,hq⟩
 ·have q4:(c.pa==0)=true:=by simpa using q1
  clear HC q1;go_wp2_with fail;go_ret;exact⟨rfl,FIN0.o⟩
 ·have q4:(c.pa==0)=false:=by simpa using q1
  have q5:(id==pa)=true:=by simpa using q2
  clear HC q1 q2;go_wp2_with fail;go_ret;exact⟨rfl,FIN0.o⟩
 ·have q4:(c.pa==0)=false:=by simpa using q1
  have q5:(id==pa)=false:=by simpa using q2
  have q6:decide (id<=cb.cu)=true:=by simpa using q3
  clear HC q1 q2;go_wp2_with fail;go_ret;exact⟨rfl,FIN0.o⟩
 ·have q4:(c.pa==0)=false:=by simpa using q1
  have q5:(id==pa)=false:=by simpa using q2
  have q6:decide (id<=cb.cu)=false:=by simpa using q3
  have HQ:=Hd hq;have HP:=Hd (And.intro q1 q2);clear HC q1 q2 hq
  rcases HQ.o with⟨g,rfl,rfl⟩|⟨g,hu,hr⟩
  ·have CH:=Hd (g _ _ T2.o)
   clear g HQ;go_wp2_with fail;refine CH.mono ?_;rintro e w5 ⟨rfl,h1,h2⟩;have FIN:=Hd (And.intro (h1.sub (R':=R) fun k hk=>by simp[hk]) (FIN0.2.trans (h2.sub (R':=R) fun k hk=>by simp[hk])));clear h1 h2 CH;go_wp2_with fail;go_ret;exact⟨rfl,FIN.o⟩
  ·have CH:=Hd (g _ _ T2.o)
   have HU:=Hd hu;have HR:=Hd hr;clear g HQ hu hr;go_wp2_with fail;refine CH.mono ?_;rintro e w5 ⟨rfl,h1,h2⟩;have K5:=Hd (K2.trans (h2.sub (R':=R) fun k hk=>by simp[hk]));have mA:=(h2 bA (by simp) A3.2.1).trans B3.2.2.1;have mB:=(h2 bB (by simp) B3.2.1).trans B3.1;have UX:=UN _ _ h1;rw[HU.o] at UX;have UX:=Hd UX;have M5:=Hd (And.intro mA mB);clear h1 h2 CH UN y0 y1 y2 y3 y4 y5 y6 y7 y8 y9 z0 z1 z2 z3 z4 z5 z6 z7 z8 z9 c0 c1 c3;obtain⟨⟨y0,y1,y2,y3,y4,y5,y6,y7,y8,y9⟩,_⟩:=bZ mA
   obtain⟨⟨z0,z1,z2,z3,z4,z5,z6,z7,z8,z9⟩,_⟩:=bZ mB;clear mA mB;go_wp2_with fail;refine UX.mono ?_;rintro e w6 ⟨rfl,h1,h2⟩;have K6:=Hd (K5.trans (h2.sub (R':=R) fun k hk=>by simp[hk]));have mA:=(h2 bA (by simp) A3.2.1).trans M5.1;have mB:=(h2 bB (by simp) B3.2.1).trans M5.2;have T6:=Hd h1;clear h1 h2 UX K5 M5 y0 y1 y2 y3 y4 y5 y6 y7 y8 y9 z0 z1 z2 z3 z4 z5 z6 z7 z8 z9
   rcases HR.o with⟨hx,rfl⟩|⟨rfl,hok,hde,hE'⟩
   ·have x2:(x==0)=false:=by simpa using hx
    have x3:(x != 0)=true:=by simpa using hx
    have FIN:=Hd (And.intro (T6.sub (R':=R) fun k hk=>by simp[hk]) K6.o);clear HR hx mA mB;go_wp2_with fail;go_ret;exact⟨rfl,FIN.o⟩
   ·have HOK:=Hd (And.intro hok hde)
    have HE':=Hd hE';clear HR hok hde hE';go_upto_region 12 with fail
    have q0:=(K6 bt HM.1.1 HM.1.2.1).trans HB.1;have q1:=(K6 bi HM.2.1.1 HM.2.1.2.1).trans HB.2.1;have q3:=(K6 bp HM.2.2.2.1 HM.2.2.2.2.1).trans HB.2.2.2
    have hA:=Hd (show(fun w':World=>w'.heap[bt]?=some (.cells #[t] 24)/\w'.heap[bi]?=some (.cells #[id] 3)/\w'.heap[bp]?=some (.cells #[pa] 3)/\w'.heap[bA]?=some (.cells #[id,c.pa,c.ob,c.ow,c.ri,c.ba,c.de,c.ex,c.cu,c.rv] 33)/\w'.heap[bB]?=some (.cells #[pa,cb.pa,cb.ob,cb.ow,cb.ri,cb.ba,cb.de,cb.ex,cb.cu,cb.rv] 33)) w6.drew from⟨q0,q1,q3,mA,mB⟩)
    have DE:=Hd (aFF (key:=aC 2 c.pa id) (T6.below Br.drew) (by have:=HE.o;omega) (cT _ _ _) _ rfl);clear q0 q1 q3 mA mB
    refine wp_region_held_drew (S:=fun w':World=>w'.heap[bt]?=some (.cells #[t] 24)/\w'.heap[bi]?=some (.cells #[id] 3)/\w'.heap[bp]?=some (.cells #[pa] 3)/\w'.heap[bA]?=some (.cells #[id,c.pa,c.ob,c.ow,c.ri,c.ba,c.de,c.ex,c.cu,c.rv] 33)/\w'.heap[bB]?=some (.cells #[pa,cb.pa,cb.ob,cb.ow,cb.ri,cb.ba,cb.de,cb.ex,cb.cu,cb.rv] 33)) (by kernel_rfl) hA (fun hS=>?_)
    refine Hv 0 56 ?va0x1 hS ?ha0x1 ?_
    case ha0x1=>
     intro w9 s9;have k9:=(aE s9.1).1;clear s9;go_simp;try (with_reducible rfl)
    simp only[SL];refine Hu 1 57 hS ?_;simp only[SL];refine Hv 2 58 ?va2x3 hS ?ha2x3 ?_
    case ha2x3=>
     intro w9 s9;obtain⟨⟨u0,u1,u2,u3,u4,u5,u6,u7,u8,u9⟩,_⟩:=bZ s9.2.2.2.1;clear s9;go_simp;try (with_reducible rfl)
    simp only[SL];refine Hv 3 59 ?va3x4 hS ?ha3x4 ?_
    case ha3x4=>
     intro w9 s9;have k9:=(aE s9.2.1).1;clear s9;go_simp;try (with_reducible rfl)
    simp only[SL];refine Hs 4 (fun K HK=>?_);go_simp;go_wp2_with fail;refine(iQ 2 c.pa id _ _ rfl).mono ?_;rintro e w8 ⟨rfl,rfl⟩;refine HK _ _ ?_ ?_
    ·exact hS
    clear HK K;try simp only[Act.put,SL]
    refine Hs 5 (fun K HK=>?_);go_simp;go_wp2_with fail;refine DE.mono ?_;rintro e w7 ⟨rfl,h1,h2⟩;refine HK _ _ ?_ ?_
    ·exact⟨(h2 bt (by simp[HM.1.1]) HM.1.2.1).trans hS.1,(h2 bi (by simp[HM.2.1.1]) HM.2.1.2.1).trans hS.2.1,(h2 bp (by simp[HM.2.2.2.1]) HM.2.2.2.2.1).trans hS.2.2.1,(h2 bA (by simp) A3.2.1).trans hS.2.2.2.1,(h2 bB (by simp) B3.2.1).trans hS.2.2.2.2⟩
    clear HK K;try simp only[Act.put,SL]
    have hS9:=(show(_/\_/\_/\_/\_) from⟨(h2 bt (by simp[HM.1.1]) HM.1.2.1).trans hS.1,(h2 bi (by simp[HM.2.1.1]) HM.2.1.2.1).trans hS.2.1,(h2 bp (by simp[HM.2.2.2.1]) HM.2.2.2.2.1).trans hS.2.2.1,(h2 bA (by simp) A3.2.1).trans hS.2.2.2.1,(h2 bB (by simp) B3.2.1).trans hS.2.2.2.2⟩)
    clear hS;have hS:=hS9;clear hS9;have T7:=Hd h1;have K7:=Hd (K6.trans ((show KeptT _ t w6 w7 from h2).sub (R':=R) fun k hk=>by simp[hk]));clear h1 h2 DE T6 K6;refine wpAnyH_done (by kernel_rfl) ?_ _;have F12:=Hd (And.intro T7 K7.o);have ed:IntKind.i64.wrap (cb.de+1)=de:=by rw[HOK.2];exact IntWalk.i64_in _ (by have h9:=(eZ.1 HOK.1).de;simp only at h9;omega)
    have P3:Hid (bp≠bA):=Hd (A3.2.2.2 bp HM.2.2.2.1);have mA:=hS.2.2.2.1;have hA:=Hd (show(fun w':World=>w'.heap[bp]?=some (.cells #[pa] 3)/\w'.heap[bB]?=some (.cells #[pa,cb.pa,cb.ob,cb.ow,cb.ri,cb.ba,cb.de,cb.ex,cb.cu,cb.rv] 33)) w7.drew from⟨hS.2.2.1,hS.2.2.2.2⟩);clear hS T7 K7;obtain⟨⟨y0,y1,y2,y3,y4,y5,y6,y7,y8,y9⟩,f0,f1,f2,f3,f4,f5,f6,f7,f8,f9⟩:=bZ mA;go_upto_region 13 with fail
    refine wp_region_held_drew (S:=fun w':World=>w'.heap[bp]?=some (.cells #[pa] 3)/\w'.heap[bB]?=some (.cells #[pa,cb.pa,cb.ob,cb.ow,cb.ri,cb.ba,cb.de,cb.ex,cb.cu,cb.rv] 33)) (by kernel_rfl) hA (fun hS=>?_);refine Hv 0 62 ?vb0x1 hS ?hb0x1 ?_
    case hb0x1=>
     intro w9 s9;have k9:=(aE s9.1).1;clear s9;go_simp;try (with_reducible rfl)
    simp only[SL];refine Hu 1 63 hS ?_;simp only[SL];refine Hv 2 64 ?vb2x3 hS ?hb2x3 ?_
    case hb2x3=>
     intro w9 s9;obtain⟨⟨u0,u1,u2,u3,u4,u5,u6,u7,u8,u9⟩,_⟩:=bZ s9.2;clear s9;go_simp;try (with_reducible rfl)
    simp only[SL];refine Hu 3 65 hS ?_;simp only[SL];refine Hv 4 66 ?vb4x5 hS ?hb4x5 ?_
    case hb4x5=>
     intro w9 s9;obtain⟨⟨u0,u1,u2,u3,u4,u5,u6,u7,u8,u9⟩,_⟩:=bZ s9.2;clear s9;go_simp;try (with_reducible rfl)
    simp only[SL];refine Hu 5 67 hS ?_;simp only[SL];refine Hu 6 68 hS ?_;simp only[SL];refine Hs 7 (fun K HK=>?_);go_simp;refine HK _ _ ?_ ?_
    ·exact⟨(heap_setCell_other _ _ _ _ P3.o).trans hS.1,(heap_setCell_other _ _ _ _ B3.2.2.2).trans hS.2⟩
    clear HK K;try simp only[Act.put,SL]
    have hS9:=(show(fun w':World=>w'.heap[bp]?=some (.cells #[pa] 3)/\w'.heap[bB]?=some (.cells #[pa,cb.pa,cb.ob,cb.ow,cb.ri,cb.ba,cb.de,cb.ex,cb.cu,cb.rv] 33)) (w7.setCell ⟨bA,1,none⟩ (.int .i64 pa)) from⟨(heap_setCell_other _ _ _ _ P3.o).trans hS.1,(heap_setCell_other _ _ _ _ B3.2.2.2).trans hS.2⟩)
    have mA1:(w7.setCell ⟨bA,1,none⟩ (.int .i64 pa)).heap[bA]?=some (.cells #[id,pa,c.ob,c.ow,c.ri,c.ba,c.de,c.ex,c.cu,c.rv] 33):=by rw[hss _ _ 1 _ _ _ mA];rfl
    clear hS mA;have hS:=hS9;clear hS9;refine Hu 8 69 hS ?_;simp only[SL];refine Hs 9 (fun K HK=>?_);go_simp;refine HK _ _ ?_ ?_
    ·exact⟨(heap_setCell_other _ _ _ _ P3.o).trans hS.1,(heap_setCell_other _ _ _ _ B3.2.2.2).trans hS.2⟩
    clear HK K;try simp only[Act.put,SL]
    have hS9:=(show(fun w':World=>w'.heap[bp]?=some (.cells #[pa] 3)/\w'.heap[bB]?=some (.cells #[pa,cb.pa,cb.ob,cb.ow,cb.ri,cb.ba,cb.de,cb.ex,cb.cu,cb.rv] 33)) ((w7.setCell ⟨bA,1,none⟩ (.int .i64 pa)).setCell ⟨bA,2,none⟩ (.int .i64 cb.ob)) from⟨(heap_setCell_other _ _ _ _ P3.o).trans hS.1,(heap_setCell_other _ _ _ _ B3.2.2.2).trans hS.2⟩)
    have mA2:((w7.setCell ⟨bA,1,none⟩ (.int .i64 pa)).setCell ⟨bA,2,none⟩ (.int .i64 cb.ob)).heap[bA]?=some (.cells #[id,pa,cb.ob,c.ow,c.ri,c.ba,c.de,c.ex,c.cu,c.rv] 33):=by rw[hss _ _ 2 _ _ _ mA1];rfl
    clear hS mA1;have hS:=hS9;clear hS9;refine Hu 10 70 hS ?_;simp only[SL];refine Hs 11 (fun K HK=>?_);go_simp;refine HK _ _ ?_ ?_
    ·exact⟨(heap_setCell_other _ _ _ _ P3.o).trans hS.1,(heap_setCell_other _ _ _ _ B3.2.2.2).trans hS.2⟩
    clear HK K;try simp only[Act.put,SL]
    have hS9:=(show(fun w':World=>w'.heap[bp]?=some (.cells #[pa] 3)/\w'.heap[bB]?=some (.cells #[pa,cb.pa,cb.ob,cb.ow,cb.ri,cb.ba,cb.de,cb.ex,cb.cu,cb.rv] 33)) (((w7.setCell ⟨bA,1,none⟩ (.int .i64 pa)).setCell ⟨bA,2,none⟩ (.int .i64 cb.ob)).setCell ⟨bA,6,none⟩ (.int .i64 de)) from⟨(heap_setCell_other _ _ _ _ P3.o).trans hS.1,(heap_setCell_other _ _ _ _ B3.2.2.2).trans hS.2⟩)
    have mA3:(((w7.setCell ⟨bA,1,none⟩ (.int .i64 pa)).setCell ⟨bA,2,none⟩ (.int .i64 cb.ob)).setCell ⟨bA,6,none⟩ (.int .i64 de)).heap[bA]?=some (.cells #[id,pa,cb.ob,c.ow,c.ri,c.ba,de,c.ex,c.cu,c.rv] 33):=by rw[hss _ _ 6 _ _ _ mA2];rfl
    clear hS mA2;have hS:=hS9;clear hS9;refine wpAnyH_done (by kernel_rfl) ?_ _;clear y0 y1 y2 y3 y4 y5 y6 y7 y8 y9 f0 f1 f2 f3 f4 f5 f6 f7 f8 f9;obtain⟨wy,hwy⟩:∃ wy,(((w7.setCell ⟨bA,1,none⟩ (.int .i64 pa)).setCell ⟨bA,2,none⟩ (.int .i64 cb.ob)).setCell ⟨bA,6,none⟩ (.int .i64 de)).drew=wy:=⟨_,rfl⟩
    replace mA3:wy.heap[bA]?=some (.cells #[id,pa,cb.ob,c.ow,c.ri,c.ba,de,c.ex,c.cu,c.rv] 33):=by rw[<-hwy];exact mA3
    have f8:Frm (fun k=>k=bA) w7 wy:=by rw[<-hwy];exact((((Frm.refl (fun k=>k=bA) w7).setCell _ _ (.inl rfl)).setCell _ _ (.inl rfl)).setCell _ _ (.inl rfl)).drew
    have HY:=Hd hwy;have t8:=F12.1.turn (k:=bA) (by simp) A3.2.1 A3.2.2.1 f8;have k8:KeptT R t w wy:=fun k hk hn=>(f8.block k (F12.1.lt.1 k (by simp[hk])) (A3.2.2.2 k hk)).trans (F12.2 k hk hn)
    have q0:=(k8 bt HM.1.1 HM.1.2.1).trans HB.1;have q1:=(k8 bi HM.2.1.1 HM.2.1.2.1).trans HB.2.1;have q3:=(k8 bp HM.2.2.2.1 HM.2.2.2.2.1).trans HB.2.2.2;have PT:=Hd (DI (id:=id) (c:=⟨pa,cb.ob,c.ow,c.ri,c.ba,de,c.ex,c.cu,c.rv⟩) t8 (by have l1:=uE (aC 2 c.pa id) E;have:=HE.o;omega) HOK.1 rfl rfl);have K8:=Hd (And.intro k8 (And.intro q0 (And.intro q1 q3)));have M8:=Hd mA3;clear hS f8 t8 k8 q1 q3 hwy mA3 F12;go_upto_region 14 with fail
    rw[HY.o];have c0:=(aE q0).1;obtain⟨⟨y0,y1,y2,y3,y4,y5,y6,y7,y8,y9⟩,_⟩:=bZ M8.o;clear q0;go_wp2_with fail;refine PT.mono ?_;rintro e w8 ⟨rfl,h1,h2⟩;have k9:=K8.1.trans (h2.sub (R':=R) fun k hk=>by simp[hk]);have t9:=h1.sub (R':=R) fun k hk=>by simp[hk]
    have hA:=Hd (show(fun w':World=>w'.heap[bt]?=some (.cells #[t] 24)/\w'.heap[bi]?=some (.cells #[id] 3)/\w'.heap[bp]?=some (.cells #[pa] 3)) w8.drew from⟨(k9 bt HM.1.1 HM.1.2.1).trans HB.1,(k9 bi HM.2.1.1 HM.2.1.2.1).trans HB.2.1,(k9 bp HM.2.2.2.1 HM.2.2.2.2.1).trans HB.2.2.2⟩)
    have PU:=Hd (tG (key:=aC 2 pa id) (val:=⟨#[]⟩) (t9.below Br.drew) (by have l1:=uE (aC 2 c.pa id) E;have l2:=bQ (aC 1 0 id) (dN ⟨pa,cb.ob,c.ow,c.ri,c.ba,de,c.ex,c.cu,c.rv⟩) (iU (aC 2 c.pa id) E);have:=HE.o;omega) (cT _ _ _) (by decide));have F14:=Hd (And.intro (t9.below Br.drew) (show KeptT R t w w8.drew from k9));clear h1 h2 k9 t9 PT K8 M8 c0 y0 y1 y2 y3 y4 y5 y6 y7 y8 y9;go_upto_region 15 with fail
    refine wp_region_held_drew (S:=fun w':World=>w'.heap[bt]?=some (.cells #[t] 24)/\w'.heap[bi]?=some (.cells #[id] 3)/\w'.heap[bp]?=some (.cells #[pa] 3)) (by kernel_rfl) hA (fun hS=>?_);refine Hv 0 74 ?vc0x1 hS ?hc0x1 ?_
    case hc0x1=>
     intro w9 s9;have k9:=(aE s9.1).1;clear s9;go_simp;try (with_reducible rfl)
    simp only[SL];refine Hv 1 75 ?vc1x2 hS ?hc1x2 ?_
    case hc1x2=>
     intro w9 s9;have k9:=(aE s9.2.2).1;clear s9;go_simp;try (with_reducible rfl)
    simp only[SL];refine Hv 2 76 ?vc2x3 hS ?hc2x3 ?_
    case hc2x3=>
     intro w9 s9;have k9:=(aE s9.2.1).1;clear s9;go_simp;try (with_reducible rfl)
    simp only[SL];refine Hs 3 (fun K HK=>?_);go_simp;go_wp2_with fail;refine(iQ 2 pa id _ _ rfl).mono ?_;rintro e w8 ⟨rfl,rfl⟩;refine HK _ _ ?_ ?_
    ·exact hS
    clear HK K;try simp only[Act.put,SL]
    refine Hs 4 (fun K HK=>?_);go_simp;go_wp2_with fail;refine PU.mono ?_;rintro e w9 ⟨rfl,h1,h2⟩;refine HK _ _ ?_ ?_
    ·exact⟨(h2 bt HM.1.1 HM.1.2.1).trans hS.1,(h2 bi HM.2.1.1 HM.2.1.2.1).trans hS.2.1,(h2 bp HM.2.2.2.1 HM.2.2.2.2.1).trans hS.2.2⟩
    clear HK K;try simp only[Act.put,SL]
    have F15:=Hd (And.intro h1 (F14.2.trans (show KeptT R t _ w9 from h2)));clear h1 h2 PU F14;refine wpAnyH_done (by kernel_rfl) ?_ _
    have FIN:Hid (TxS w0 R w9 t d s 640 E'/\KeptT R t w w9):=Hd ⟨by
     rw[HE'.o];exact F15.1,F15.2⟩
    clear hS;go_wp2_with fail;go_ret;exact⟨rfl,FIN.o⟩
def mvX (id pa:Int)(c c2:aF)(k:Bool):Int:=if c.pa=0\/id=pa\/id<=c2.cu\/k=false then 6 else if fH c.ri c2.ri=true then(if 8<=c2.de then 9 else 0) else 7
def mvC (pa:Int)(c c2:aF):aF:=⟨pa,c2.ob,c.ow,c.ri,c.ba,c2.de+1,c.ex,c.cu,c.rv⟩
theorem uI {w0 w:World}{R:List Nat}{t d s:Nat}{E:List Ent}{cs:List (Option aF)}{os:List bV}{ls:List Int}{m:Nat}{id pa now x:Int}{i j:Nat}{c c2:aF}{L L2:List (Int × aF)}(h:TxS w0 R w t d s 640 E)(hc:CpE E cs os ls m)(hm:m<=280)
  (hci:cs[i]?=some (some c))(hid:(i:Int)+1=id)(hcj:cs[j]?=some (some c2))(hpa:(j:Int)+1=pa)(hch:ChainE E id L)(hL:L.length<=9)(hst:stV L now=0)(hch2:ChainE E pa L2)(hL2:L2.length<=9)(hst2:stV L2 now=0)(hx:mvX id pa c c2 (eX cs id).isEmpty=x) :
  () 13 #[t,id,pa,now] w fun e' w'=>∃ E',e'=.returned x/\TxS w0 R w' t d s 640 E'/\KeptT R t w w'/\CpE E' (if x=0 then cs.set i (some (mvC pa c c2)) else cs) os ls (m+2):=by
 have hE:=hc.len;have hi:=(List.getElem?_eq_some_iff.1 hci).1;have hj:=(List.getElem?_eq_some_iff.1 hcj).1;have hcl:=hc.cl;have hR:=eZ.1 (hc.capOk i c hci);have hR2:=eZ.1 (hc.capOk j c2 hcj);have g1:=hc.getC hci;rw[hid] at g1;have g2:=hc.getC hcj;rw[hpa] at g2;have hmore:∀ {E':List Ent} {cs':List (Option aF)},CpE E' cs' os ls m->CpE E' cs' os ls (m+2):=fun h=>{ h with len:=by have:=h.len;omega }
 have l1:∀ (R':List Nat) (wx:World),TxS w0 R' wx t d s 640 E->_:=fun R' wx hx=>sC hx (show E.length<=600 by omega) hch hL hst g1
 have l2:∀ (R':List Nat) (wx:World),TxS w0 R' wx t d s 640 E->_:=fun R' wx hx=>sC hx (show E.length<=600 by omega) hch2 hL2 hst2 g2
 have ch:∀ (R':List Nat) (wx:World),TxS w0 R' wx t d s 640 E->_:=fun R' wx hx=>aCL (id:=id) hx hc (by omega) (by omega) rfl
 unfold mvX at hx
 suffices H:∃ E',(∀ (R':List Nat) (wa:World) (b0 b1 b2 b3:Nat),TxS w0 R' wa t d s 640 E->(wa.heap[b0]?=some (.cells #[t] 24))->(wa.heap[b1]?=some (.cells #[id] 3))->(wa.heap[b2]?=some (.cells #[pa] 3))->(wa.heap[b3]?=some (.cells #[now] 3))->((b0∈R'/\b0≠t/\w0.heap.size<=b0)/\(b1∈R'/\b1≠t/\w0.heap.size<=b1)/\(b2∈R'/\b2≠t/\w0.heap.size<=b2)/\(b3∈R'/\b3≠t/\w0.heap.size<=b3))->() 42 #[.pointer (some ⟨b0,0,none⟩),.pointer (some ⟨b1,0,none⟩),.pointer (some ⟨b3,0,none⟩),.pointer (some ⟨b2,0,none⟩)] wa fun e' w'=>e'=.returned x/\TxS w0 R' w' t d s 640 E'/\KeptT R' t wa w')/\CpE E' (if x=0 then cs.set i (some (mvC pa c c2)) else cs) os ls (m+2) by
  obtain⟨E',h1,h2⟩:=H;refine(aCH h h1).mono ?_;rintro e' w' ⟨rfl,h3,h4⟩;exact⟨E',rfl,h3,h4,h2⟩
 by_cases a1:c.pa=0
 ·rw[if_pos (.inl a1)] at hx
  subst hx;exact⟨E,fun R' wa b0 b1 b2 b3 hT q0 q1 q2 q3 qm=>kU (de:=0) hT q0 q1 q3 q2 ⟨qm.1,qm.2.1,qm.2.2.2,qm.2.2.1⟩ (by omega) l1 l2 (.inl ⟨a1,rfl,rfl⟩),by rw[if_neg (by decide)];exact hmore hc⟩
 by_cases a2:id=pa
 ·rw[if_pos (.inr (.inl a2))] at hx
  subst hx;exact⟨E,fun R' wa b0 b1 b2 b3 hT q0 q1 q2 q3 qm=>kU (de:=0) hT q0 q1 q3 q2 ⟨qm.1,qm.2.1,qm.2.2.2,qm.2.2.1⟩ (by omega) l1 l2 (.inr (.inl ⟨a1,a2,rfl,rfl⟩)),by rw[if_neg (by decide)];exact hmore hc⟩
 by_cases a3:id<=c2.cu
 ·rw[if_pos (.inr (.inr (.inl a3)))] at hx
  subst hx;exact⟨E,fun R' wa b0 b1 b2 b3 hT q0 q1 q2 q3 qm=>kU (de:=0) hT q0 q1 q3 q2 ⟨qm.1,qm.2.1,qm.2.2.2,qm.2.2.1⟩ (by omega) l1 l2 (.inr (.inr (.inl ⟨a1,a2,a3,rfl,rfl⟩))),by rw[if_neg (by decide)];exact hmore hc⟩
 cases a4:(eX cs id).isEmpty with
 | false=>
  rw[a4] at hx ch;rw[if_pos (.inr (.inr (.inr rfl)))] at hx;subst hx;exact⟨E,fun R' wa b0 b1 b2 b3 hT q0 q1 q2 q3 qm=>kU (de:=0) hT q0 q1 q3 q2 ⟨qm.1,qm.2.1,qm.2.2.2,qm.2.2.1⟩ (by omega) l1 l2 (.inr (.inr (.inr ⟨a1,a2,a3,.inl ⟨ch,rfl,rfl⟩⟩))),by rw[if_neg (by decide)];exact hmore hc⟩
 | true=>
  rw[a4] at hx ch;rw[if_neg (fun q=>q.elim a1 fun q=>q.elim a2 fun q=>q.elim a3 (by decide))] at hx
  by_cases hx0:x=0
  ·have hu:fH c.ri c2.ri=true/\¬ 8<=c2.de:=by
    rw[hx0] at hx
    by_cases q:fH c.ri c2.ri=true
    ·rw[if_pos q] at hx
     refine⟨q,fun q2=>?_⟩;rw[if_pos q2] at hx
     cases hx
    ·rw[if_neg q] at hx;cases hx
   have hok:fM id (mvC pa c c2):=eZ.2 ⟨by omega,by show 0<=pa/\pa<=16777215;omega,by show pa≠id;omega,hR2.ob,hR.ow,hR.ri,hR.ba,by show 1<=c2.de+1/\c2.de+1<=8;have:=hR2.de;omega,by show pa=0 ↔ c2.de+1=1;have:=hR2.de;omega,hR.ex,hR.cu⟩;refine⟨LJ E id c.pa (mvC pa c c2),fun R' wa b0 b1 b2 b3 hT q0 q1 q2 q3 qm=>kU (de:=c2.de+1) hT q0 q1 q3 q2 ⟨qm.1,qm.2.1,qm.2.2.2,qm.2.2.1⟩ (by omega) l1 l2 (.inr (.inr (.inr ⟨a1,a2,a3,.inr ⟨ch,hx,.inr ⟨hx0,hok,rfl,rfl⟩⟩⟩))),?_⟩;rw[if_pos hx0,<-hid]
   exact hc.move hci (by show pa≠0;omega) rfl (by rw[hid];exact hok)
  ·exact⟨E,fun R' wa b0 b1 b2 b3 hT q0 q1 q2 q3 qm=>kU (de:=0) hT q0 q1 q3 q2 ⟨qm.1,qm.2.1,qm.2.2.2,qm.2.2.1⟩ (by omega) l1 l2 (.inr (.inr (.inr ⟨a1,a2,a3,.inr ⟨ch,hx,.inl ⟨hx0,rfl⟩⟩⟩))),by rw[if_neg hx0];exact hmore hc⟩
open Go.RowKit



theorem wN (w:World) :
  () 9 #[] w fun e w'=>∃ t d s,e=.returned (.pointer (some ⟨t,0,none⟩))/\TxS w [] w' t d s 640 []:=by
 have NY:=Hd fun w=>aBK w 640 (by decide) (by decide)
 have hln:(DkS.fresh 640).S.length=640:=by show(List.replicate 640 zs).length=640;rw[List.length_replicate]
 have FG:=Hd (YP (DkS.fresh 640) rfl rfl (by rw[hln];decide) (by rw[hln];decide));rw[hln] at FG;clear hln;go_enter Tryz.func9,Tryz.ntmps9;go_wp2_with fail;refine(NY _).mono ?_;intro e w1 hm;obtain⟨d,rfl,hd⟩:=aDS Br hm;clear hm NY;have HD:=Hd hd;clear hd;have pn:=WJ ⟨d,0,none⟩;go_wp2_with fail;refine(YM HD FG.1).mono ?_;rintro e w3 ⟨s,rfl,hs⟩;have BG:=Hd (aCS hs FG.2.1 FG.2.2.1 FG.2.2.2);clear hs HD;have sn:=WI ⟨s,0,none⟩;go_wp2_with fail;refine BG.mono ?_;rintro e w4 ⟨t,rfl,h1,h2,h3⟩
 have FIN:=Hd (show TxS w [] w4 t d s 640 [] from⟨⟨0,h1,h2⟩,h3⟩);clear h1 h2 h3 BG;go_wp2_with fail;go_ret;exact⟨t,d,s,rfl,FIN.o⟩
theorem uB (w:World) :
  () 8 #[] w fun e w'=>e=.returned (.bool true)/\Below w.heap.size w w':=by
 have MD:=Hd (wN w);go_enter Tryz.func8,Tryz.ntmps8;try simp only[List.append_eq,List.cons_append,List.nil_append]
 go_wp2_with fail;refine MD.mono ?_;rintro e w1 ⟨t,d,s,rfl,h1⟩;have pn:=AY ⟨t,0,none⟩;have RG:=Hd (MN (nm:=⟨#[82,111,111,116]⟩) (f:=⟨#[114,111,111,116]⟩) (li:=9) h1 CpE.nil (by decide) (by decide) (by decide) (by decide +kernel) (by decide +kernel) (by decide) (fun j q hq=>by simp at hq));clear h1 MD;go_wp2_with fail;refine RG.mono ?_;rintro e w2 ⟨rfl,h1,_,h2⟩;have MT:=Hd (uJ (oi:=0) (ow:=1) (ob:=5) (ri:=7) (ba:=0) (ex:=0) h1 h2 (by decide) (by decide) rfl rfl (by decide) (by decide) (by decide) (by decide) (by decide))
 clear h1 h2 RG;go_wp2_with fail;refine MT.mono ?_;rintro e w3 ⟨E3,rfl,h1,_,h2⟩;have c1:ChainE E3 1 [(1,(⟨0,5,1,7,0,1,0,0,false⟩:aF))]:=⟨rfl,h2.getC (i:=0) rfl,.inl ⟨rfl,rfl⟩⟩
 have DR:=Hd (MQ (oi:=0) (ow:=1) (i:=0) (pa:=1) (ri:=3) (ba:=1) (ex:=10) (now:=0) (id:=2) h1 h2 (by decide) (by decide) rfl rfl (by decide) rfl rfl c1 (by decide) (by decide +kernel) (by decide +kernel) (by decide) rfl (by decide) (by decide) (by decide) rfl);clear h1 h2 MT c1;go_wp2_with fail;refine DR.mono ?_;rintro e w4 ⟨E4,rfl,h1,_,h2⟩;have c1:ChainE E4 1 [(1,(⟨0,5,1,7,0,1,0,0,false⟩:aF))]:=⟨rfl,h2.getC (i:=0) rfl,.inl ⟨rfl,rfl⟩⟩
 have c2:ChainE E4 2 [(2,(⟨1,5,1,3,1,2,10,0,false⟩:aF)),(1,(⟨0,5,1,7,0,1,0,0,false⟩:aF))]:=⟨rfl,h2.getC (i:=1) rfl,.inr ⟨by decide,c1⟩⟩
 have C2:=Hd c2;have HE:=Hd h2.len;have DU:=Hd (ZG (oi:=0) (ow:=1) (i:=0) (pa:=1) (ri:=8) (ba:=1) (ex:=10) (now:=0) (x:=7) h1 h2 (by decide) rfl rfl rfl rfl c1 (by decide) (by decide +kernel) (by decide +kernel) (by decide) (by decide) (by decide) (by decide));clear h1 h2 DR c1 c2;go_wp2_with fail;refine DU.mono ?_;rintro e w5 ⟨rfl,h1,_⟩;have ST:=wW (now:=10) h1 (by have:=HE.o;omega) C2 (by decide);rw[show stV [(2,(⟨1,5,1,3,1,2,10,0,false⟩:aF)),(1,(⟨0,5,1,7,0,1,0,0,false⟩:aF))] 10=11 by decide +kernel] at ST
 have ST:=Hd ST;clear h1 DU;go_wp2_with fail;refine ST.mono ?_;rintro e w6 ⟨rfl,h1,_⟩;have FIN:=Hd h1.from;clear h1 ST;go_wp2_with fail;go_ret;exact⟨rfl,FIN.o⟩
