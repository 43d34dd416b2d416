import Derived.Test.YtknikcihgijmlaaGreatDoorM24
namespace Go.Proofs.YtknikcihgijmlaaGreatDoor
open Go Go.RowKit
set_option maxRecDepth 20000
set_option maxHeartbeats 12800000
set_option linter.unusedVariables false
set_option linter.unusedSimpArgs false
theorem RowZ.nth {w:World}{a:Option Addr}{m c:Nat}{L:List Int}(h:RowZ w (.slice a m c) L){j:Nat}{x:Int}(hp:L[j]?=some x):∃ g,a=some ⟨g,0,none⟩/\w.cell? ⟨g,j,none⟩=some (.int .i64 x):=by
 have hj:j<L.length:=(List.getElem?_eq_some_iff.1 hp).1
 rcases h.2 with⟨_,h0⟩|⟨g,cap,cur,hv,_,hh,_⟩
 ·omega
 ·injection hv with h1 h2 h3
  subst h1;refine⟨g,rfl,?_⟩;have:=World.ownsRow.cellAt (h2 ▸ h3 ▸ h) j (by omega);rw[this,List.getElem?_map,hp]
  rfl
theorem st0 {L:List (Int × aF)}(h:∀ p∈L,(p.2.rv=false/\p.2.cu=0/\1<=p.1)/\p.2.ex=0):stV L 0=0:=by
 rw[aAM fun p hp=>(h p hp).1,if_neg];have:=CS L fun q hq=>by rw[(h q hq).2];decide
 omega
theorem aCU {c x:Int}(hc:0<=c/\c<=65535)(hx:0<=x/\x<=65535):∃ z:Int,bits .and .i64 c x=z/\(0<=z/\z<=65535)/\fH z x=true:=by
 obtain⟨p,rfl⟩:∃ p:Nat,c=p:=⟨c.toNat,by omega⟩
 obtain⟨q,rfl⟩:∃ q:Nat,x=q:=⟨x.toNat,by omega⟩
 have h1:p &&& q<=q:=Nat.and_le_right;refine⟨((p &&& q:Nat):Int),rN p q (by omega) (by omega),by omega,?_⟩;unfold fH iC;rw[Int.toNat_natCast,Int.toNat_natCast,Nat.and_assoc,Nat.and_self];simp only[beq_self_eq_true,Bool.and_true,Bool.and_eq_true,decide_eq_true_eq];omega
theorem captMoves_law (a b c:Int)(w:World)(wa:(Lit.int .u16 a).wf=true)(wb:(Lit.int .u16 b).wf=true)(wc:(Lit.int .u16 c).wf=true) :
  () 3 #[.int .u16 a,.int .u16 b,.int .u16 c] w fun e w'=>e=.returned (.bool true)/\Below w.heap.size w w':=by
 have ha:0<=a/\a<=65535:=bounds_u16 wa;have hb:0<=b/\b<=65535:=bounds_u16 wb;have hc:0<=c/\c<=65535:=bounds_u16 wc;clear wa wb wc;obtain⟨z,hz,hz1,hz2⟩:=aCU hc ha;obtain⟨x,hx⟩:∃ x,a=x:=⟨_,rfl⟩
 obtain⟨y,hy⟩:∃ y,b=y:=⟨_,rfl⟩
 subst hx hy;have ea:IntKind.i64.wrap a=a:=IntWalk.i64_in _ (by omega);have eb:IntKind.i64.wrap b=b:=IntWalk.i64_in _ (by omega);have ec:IntKind.i64.wrap c=c:=IntWalk.i64_in _ (by omega);have HA:=Hd ha;have HB:=Hd hb;have HZ:=Hd (And.intro hz1 hz2);clear ha hb hc hz1 hz2;go_enter Tryz.func3,Tryz.ntmps3;try simp only[List.append_eq,List.cons_append,List.nil_append]
 go_wp2_with fail;refine(uB _).mono ?_;rintro e w1 ⟨rfl,b1⟩;have B1:=Hd b1;clear b1;go_wp2_with fail;refine(wN _).mono ?_;rintro e w2 ⟨t,d,s,rfl,h1⟩;have pn:=AY ⟨t,0,none⟩;have RG:=Hd (MN (nm:=⟨#[120]⟩) (f:=⟨#[120]⟩) (li:=9) h1 CpE.nil (by decide) (by decide) (by decide) (by decide +kernel) (by decide +kernel) (by decide) (fun j q hq=>by simp at hq));clear h1;go_wp2_with fail;refine RG.mono ?_;rintro e w3 ⟨rfl,h1,_,h2⟩
 have MT:=Hd (uJ (oi:=0) (ow:=1) (ob:=5) (ri:=a) (ba:=0) (ex:=0) h1 h2 (by decide) (by decide) rfl rfl (by decide) (by decide) HA (by decide) (by decide));clear h1 h2 RG;go_wp2_with fail;refine MT.mono ?_;rintro e w4 ⟨E4,rfl,h1,_,h2⟩;have MT2:=Hd (uJ (oi:=0) (ow:=1) (ob:=6) (ri:=b) (ba:=0) (ex:=0) h1 h2 (by decide) (by simp) rfl rfl (by decide) (by decide) HB (by decide) (by decide));clear h1 h2 MT;go_wp2_with fail;refine MT2.mono ?_;rintro e w5 ⟨E5,rfl,h1,_,h2⟩
 have c1:ChainE E5 1 [(1,(⟨0,5,1,a,0,1,0,0,false⟩:aF))]:=⟨rfl,h2.getC (i:=0) rfl,.inl ⟨rfl,rfl⟩⟩
 have DR:=Hd (MQ (oi:=0) (ow:=1) (i:=0) (pa:=1) (ri:=z) (ba:=0) (ex:=0) (now:=0) (id:=3) h1 h2 (by decide) (by simp) rfl rfl (by decide) rfl rfl c1 (by simp) (st0 (by simp)) HZ.2 (by simp) rfl HZ.1 (by decide) (by decide) rfl);clear h1 h2 MT2 c1;go_wp2_with fail;refine DR.mono ?_;rintro e w6 ⟨E6,rfl,h1,_,h2⟩;have c1:ChainE E6 1 [(1,(⟨0,5,1,a,0,1,0,0,false⟩:aF))]:=⟨rfl,h2.getC (i:=0) rfl,.inl ⟨rfl,rfl⟩⟩
 have c3:ChainE E6 3 [(3,(⟨1,5,1,z,0,2,0,0,false⟩:aF)),(1,(⟨0,5,1,a,0,1,0,0,false⟩:aF))]:=⟨rfl,h2.getC (i:=2) rfl,.inr ⟨by simp,c1⟩⟩
 have M1:=Hd (uI (i:=2) (j:=2) (id:=3) (pa:=3) (now:=0) (x:=6) h1 h2 (by decide) rfl rfl rfl rfl c3 (by simp) (st0 (by simp)) c3 (by simp) (st0 (by simp)) (by unfold mvX;rw[if_pos (.inr (.inl rfl))]));clear h1 h2 DR c1 c3;go_wp2_with fail;refine M1.mono ?_;rintro e w7 ⟨E7,rfl,h1,_,h2⟩;rw[if_neg (by decide)] at h2;have c1:ChainE E7 1 [(1,(⟨0,5,1,a,0,1,0,0,false⟩:aF))]:=⟨rfl,h2.getC (i:=0) rfl,.inl ⟨rfl,rfl⟩⟩
 have c2:ChainE E7 2 [(2,(⟨0,6,1,b,0,1,0,0,false⟩:aF))]:=⟨rfl,h2.getC (i:=1) rfl,.inl ⟨rfl,rfl⟩⟩
 have M2:=Hd (uI (i:=0) (j:=1) (id:=1) (pa:=2) (now:=0) (x:=6) h1 h2 (by decide) rfl rfl rfl rfl c1 (by simp) (st0 (by simp)) c2 (by simp) (st0 (by simp)) (by unfold mvX;rw[if_pos (.inl rfl)]));clear h1 h2 M1 c1 c2;go_wp2_with fail;refine M2.mono ?_;rintro e w8 ⟨E8,rfl,h1,_,h2⟩;rw[if_neg (by decide)] at h2;have c1:ChainE E8 1 [(1,(⟨0,5,1,a,0,1,0,0,false⟩:aF))]:=⟨rfl,h2.getC (i:=0) rfl,.inl ⟨rfl,rfl⟩⟩
 have c2:ChainE E8 2 [(2,(⟨0,6,1,b,0,1,0,0,false⟩:aF))]:=⟨rfl,h2.getC (i:=1) rfl,.inl ⟨rfl,rfl⟩⟩
 have c3:ChainE E8 3 [(3,(⟨1,5,1,z,0,2,0,0,false⟩:aF)),(1,(⟨0,5,1,a,0,1,0,0,false⟩:aF))]:=⟨rfl,h2.getC (i:=2) rfl,.inr ⟨by simp,c1⟩⟩
 have SB:=Hd (fun(v:Bool) (w:World)=>xK z b v w);have M3:=fun(v:Int) hv=>uI (i:=2) (j:=1) (id:=3) (pa:=2) (now:=0) (x:=v) h1 h2 (by decide) rfl rfl rfl rfl c3 (by simp) (st0 (by simp)) c2 (by simp) (st0 (by simp)) hv
 have hmv:mvX 3 2 (⟨1,5,1,z,0,2,0,0,false⟩:aF) (⟨0,6,1,b,0,1,0,0,false⟩:aF) (eX [some (⟨0,5,1,a,0,1,0,0,false⟩:aF),some (⟨0,6,1,b,0,1,0,0,false⟩:aF),some (⟨1,5,1,z,0,2,0,0,false⟩:aF)] 3).isEmpty=if fH z b=true then 0 else 7:=by
  unfold mvX;rw[if_neg (fun q=>q.elim (by simp) fun q=>q.elim (by simp) fun q=>q.elim (by simp) fun q=>by rw[show(eX [some (⟨0,5,1,a,0,1,0,0,false⟩:aF),some (⟨0,6,1,b,0,1,0,0,false⟩:aF),some (⟨1,5,1,z,0,2,0,0,false⟩:aF)] 3).isEmpty=true by kernel_rfl] at q;cases q)]
  rfl
 cases hf:fH z b
 ·rw[hf] at hmv
  have M3:=Hd (M3 7 hmv);have SB:=Hd (fun w=>SB false w hf);clear h1 h2 M2 c1 c2 c3 hmv hf;go_wp2_with fail;refine M3.mono ?_;rintro e w9 ⟨E9,rfl,h1,_,h2⟩;rw[if_neg (by decide)] at h2;have h2:CpE E9 [some (⟨0,5,1,a,0,1,0,0,false⟩:aF),some (⟨0,6,1,b,0,1,0,0,false⟩:aF),some (⟨1,5,1,z,0,2,0,0,false⟩:aF)] _ _ _:=h2;have GT:=Hd (nY (id:=3) (c:=(⟨1,5,1,z,0,2,0,0,false⟩:aF)) h1 (by have:=h2.len;omega) (h2.getC (i:=2) rfl));have H2:=Hd h2;clear h1 h2 M3;go_wp2_with fail;refine GT.mono ?_
  rintro e w10 ⟨rfl,h1,_⟩;obtain⟨a1,a2,a3,a4,a5,a6,a7⟩:=h1.box (.cells #[(3:Int),(1:Int),(5:Int),(1:Int),.int .i64 z,(0:Int),(2:Int),(0:Int),(0:Int),false] 33);obtain⟨x1,hx1⟩:∃ x,w10.alloc (.cells #[(3:Int),(1:Int),(5:Int),(1:Int),.int .i64 z,(0:Int),(2:Int),(0:Int),(0:Int),false] 33)=x:=⟨_,rfl⟩
  obtain⟨bx,hbx⟩:∃ n,w10.heap.size=n:=⟨_,rfl⟩
  rw[hx1] at a1 a2 a3 a5;rw[hbx] at a1 a3 a4;have X1:=Hd (And.intro hx1 hbx);have K1:=mW (id:=1) (fr:=0) (mo:=9) (fm:=0) a1 H2 (by decide) (by decide) (by decide) (by decide) (by decide);rw[show(((eX [some (⟨0,5,1,a,0,1,0,0,false⟩:aF),some (⟨0,6,1,b,0,1,0,0,false⟩:aF),some (⟨1,5,1,z,0,2,0,0,false⟩:aF)] 1).filter fun i=>decide (0<=i)).take (9:Int).toNat)=[3] by kernel_rfl] at K1;have K1:=Hd K1;have A3:=Hd (And.intro a3 a4);clear h1 a1 a2 a3 a4 a5 a6 a7 hx1 hbx GT;go_upto_region 18 with fail
  rw[X1.1];try rw[X1.2]
  go_wp2_with fail;refine K1.mono ?_;rintro e w11 ⟨v1,rfl,g1,g2,g3,g4⟩;have K2:=mW (id:=2) (fr:=0) (mo:=9) (fm:=0) g3 H2 (by decide) (by decide) (by decide) (by decide) (by decide);rw[show(((eX [some (⟨0,5,1,a,0,1,0,0,false⟩:aF),some (⟨0,6,1,b,0,1,0,0,false⟩:aF),some (⟨1,5,1,z,0,2,0,0,false⟩:aF)] 2).filter fun i=>decide (0<=i)).take (9:Int).toNat)=[] by kernel_rfl] at K2;have K2:=Hd K2;have A4:=Hd ((g4 bx (by simp) A3.2).trans A3.1);obtain⟨va1,vc1,rfl,_,_⟩:=g1.shape;clear g1 g2 g3 g4 K1
  go_wp2_with fail;refine K2.mono ?_;rintro e w12 ⟨v2,rfl,g1,g2,g3,g4⟩;obtain⟨va2,vc2,hv2,_,_⟩:=g1.shape;subst hv2;have FIN:=Hd (chain (chain B1 Br) g3.from);obtain⟨⟨y0,y1,y2,y3,y4,y5,y6,y7,y8,y9⟩,_⟩:=bZ ((g4 bx (by simp) A3.2).trans A4.o);clear g1 g2 g3 g4 K2;go_wp2_with fail;refine(SB _).mono ?_;rintro e w13 ⟨rfl,rfl⟩;go_wp2_with fail;go_ret;exact⟨rfl,FIN.o⟩
 ·rw[hf] at hmv
  have M3:=Hd (M3 0 hmv);have SB:=Hd (fun w=>SB true w hf);clear h1 h2 M2 c1 c2 c3 hmv hf;go_wp2_with fail;refine M3.mono ?_;rintro e w9 ⟨E9,rfl,h1,_,h2⟩
  first|rw[if_pos rfl] at h2|rw[if_pos trivial] at h2
  have h2:CpE E9 [some (⟨0,5,1,a,0,1,0,0,false⟩:aF),some (⟨0,6,1,b,0,1,0,0,false⟩:aF),some (⟨2,6,1,z,0,2,0,0,false⟩:aF)] _ _ _:=h2;have GT:=Hd (nY (id:=3) (c:=(⟨2,6,1,z,0,2,0,0,false⟩:aF)) h1 (by have:=h2.len;omega) (h2.getC (i:=2) rfl));have H2:=Hd h2;clear h1 h2 M3;go_wp2_with fail;refine GT.mono ?_;rintro e w10 ⟨rfl,h1,_⟩;obtain⟨a1,a2,a3,a4,a5,a6,a7⟩:=h1.box (.cells #[(3:Int),(2:Int),(6:Int),(1:Int),.int .i64 z,(0:Int),(2:Int),(0:Int),(0:Int),false] 33)
  obtain⟨x1,hx1⟩:∃ x,w10.alloc (.cells #[(3:Int),(2:Int),(6:Int),(1:Int),.int .i64 z,(0:Int),(2:Int),(0:Int),(0:Int),false] 33)=x:=⟨_,rfl⟩
  obtain⟨bx,hbx⟩:∃ n,w10.heap.size=n:=⟨_,rfl⟩
  rw[hx1] at a1 a2 a3 a5;rw[hbx] at a1 a3 a4;have X1:=Hd (And.intro hx1 hbx);have K1:=mW (id:=1) (fr:=0) (mo:=9) (fm:=0) a1 H2 (by decide) (by decide) (by decide) (by decide) (by decide);rw[show(((eX [some (⟨0,5,1,a,0,1,0,0,false⟩:aF),some (⟨0,6,1,b,0,1,0,0,false⟩:aF),some (⟨2,6,1,z,0,2,0,0,false⟩:aF)] 1).filter fun i=>decide (0<=i)).take (9:Int).toNat)=[] by kernel_rfl] at K1;have K1:=Hd K1;have A3:=Hd (And.intro a3 a4);clear h1 a1 a2 a3 a4 a5 a6 a7 hx1 hbx GT;go_upto_region 18 with fail
  rw[X1.1];try rw[X1.2]
  go_wp2_with fail;refine K1.mono ?_;rintro e w11 ⟨v1,rfl,g1,g2,g3,g4⟩;have K2:=mW (id:=2) (fr:=0) (mo:=9) (fm:=0) g3 H2 (by decide) (by decide) (by decide) (by decide) (by decide);rw[show(((eX [some (⟨0,5,1,a,0,1,0,0,false⟩:aF),some (⟨0,6,1,b,0,1,0,0,false⟩:aF),some (⟨2,6,1,z,0,2,0,0,false⟩:aF)] 2).filter fun i=>decide (0<=i)).take (9:Int).toNat)=[3] by kernel_rfl] at K2;have K2:=Hd K2;have A4:=Hd ((g4 bx (by simp) A3.2).trans A3.1);obtain⟨va1,vc1,rfl,_,_⟩:=g1.shape;clear g1 g2 g3 g4 K1
  go_wp2_with fail;refine K2.mono ?_;rintro e w12 ⟨v2,rfl,g1,g2,g3,g4⟩;obtain⟨va2,vc2,hv2,_,_⟩:=g1.shape;subst hv2;have FIN:=Hd (chain (chain B1 Br) g3.from);obtain⟨⟨y0,y1,y2,y3,y4,y5,y6,y7,y8,y9⟩,_⟩:=bZ ((g4 bx (by simp) A3.2).trans A4.o);have HC:=g1.nth (j:=0) rfl;obtain⟨gb,rfl,hcell⟩:=HC;clear g1 g2 g3 g4 K2;go_wp2_with fail;refine(SB _).mono ?_;rintro e w13 ⟨rfl,rfl⟩;go_wp2_with fail;go_ret;exact⟨rfl,FIN.o⟩
