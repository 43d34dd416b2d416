import Derived.Test.YthdgedcckdkpjaaGreatDoorE22
namespace Go.Proofs.YthdgedcckdkpjaaGreatDoor
open Go Go.RowKit
set_option maxRecDepth 20000
set_option maxHeartbeats 12800000
set_option linter.unusedVariables false
set_option linter.unusedSimpArgs false
theorem MS {w0 w:World}{R:List Nat}{t d s:Nat}{E:List Ent}{pa ob oi ri ba de ex li ha hb v id:Int}{nm X:ByteArray}(h:TxS w0 R w t d s 640 E)(hE:E.length<=290)(hn:NumE E 10376293541461622785 v)(hv:v<16777215)(hid:v+1=id)(hq:ha<li)(hhb:ha+1=hb)(hl:0<=ha/\li<=1000)(hc:fX id ⟨pa,ob,oi,ri,ba,de,ex,0,false⟩)(ho:gP oi ⟨nm,li,hb⟩)(hX:Str (aK id 3)=X) :
  Calls Tryz.prog 34 #[.pointer (some ⟨t,0,none⟩),.agg #[.int .i64 0,.int .i64 pa,.int .i64 ob,.int .i64 0,.int .i64 ri,.int .i64 ba,.int .i64 de,.int .i64 ex,.int .i64 0,.bool false],.agg #[.int .i64 oi,.string nm,.int .i64 li,.int .i64 ha]] w fun e w'=>e=.returned (.tuple #[.int .i64 id,.int .i64 0])/\TxS w0 R w' t d s 640 (oN E id ⟨pa,ob,oi,ri,ba,de,ex,0,false⟩ oi ⟨nm,li,hb⟩)/\KeptT R t w w':=by
 obtain⟨a1,a2,a3,a4,a5,a6,a7⟩:=h.box (.cells #[.int .i64 0,.int .i64 pa,.int .i64 ob,.int .i64 0,.int .i64 ri,.int .i64 ba,.int .i64 de,.int .i64 ex,.int .i64 0,.bool false] 65);obtain⟨bc,hbc⟩:∃ b,w.heap.size=b:=⟨_,rfl⟩
 obtain⟨x1,hx1⟩:∃ x,w.alloc (.cells #[.int .i64 0,.int .i64 pa,.int .i64 ob,.int .i64 0,.int .i64 ri,.int .i64 ba,.int .i64 de,.int .i64 ex,.int .i64 0,.bool false] 65)=x:=⟨_,rfl⟩
 rw[hx1] at a1 a2 a3 a5;rw[hbc] at a1 a3 a4 a5 a6 a7;obtain⟨b1,b2,b3,b4,b5,b6,b7⟩:=a1.box (.cells #[.int .i64 oi,.string nm,.int .i64 li,.int .i64 ha] 54);obtain⟨bo,hbo⟩:∃ b,x1.heap.size=b:=⟨_,rfl⟩
 obtain⟨x2,hx2⟩:∃ x,x1.alloc (.cells #[.int .i64 oi,.string nm,.int .i64 li,.int .i64 ha] 54)=x:=⟨_,rfl⟩
 rw[hx2] at b1 b2 b3 b5;rw[hbo] at b1 b3 b4 b5 b6 b7;have mc:=(b2 bc (by simp) a4).trans a3;have NU:=Hd (MO b1 (show E.length<=600 by omega) (m:=1) ⟨by decide,by decide⟩ hn hv hid);have HX:=Hd (And.intro hx1 (And.intro hbc (And.intro hx2 (show bc+1=bo from a5.symm.trans hbo))));have HK:=Hd (a2.trans (b2.sub (R':=R) fun k hk=>by simp[hk]));have HB:=Hd (And.intro mc (And.intro b3 (And.intro a4 (And.intro b4 (And.intro a6 (And.intro b6 (show bo≠bc from fun e=>b7 bc (by simp) e.symm)))))));have e1:¬ li<=ha:=by omega
 have e2:IntKind.i64.wrap (ha+1)=hb:=by rw[hhb];exact IntWalk.i64_in _ (by omega)
 obtain⟨⟨y0,y1,y2,y3⟩,_⟩:=fF b3;have hrid:=DQ hc;have HN:Hid (E.length<=290/\(0<=id/\id<=16777215)/\Str (aK id 3)=X):=Hd ⟨hE,by omega,hX⟩;have HC:=Hd (And.intro hc ho);have HRK:=Hd (show(∀ k∈R,k≠bc)/\∀ k∈R,k≠bo from⟨a7,fun k hk=>b7 k (by simp[hk])⟩);clear h hE hn hv hid hq hhb hl hc ho hX a1 a2 a3 a4 a5 a6 a7 b1 b2 b3 b4 b5 b6 b7 mc hx1 hx2 hrid hbc hbo;go_enter Tryz.func34,Tryz.ntmps34;go_upto_region 1 with fail
 rw[HX.1,HX.2.1,HX.2.2.1,HX.2.2.2];go_wp2_with fail;refine NU.mono ?_;rintro e w3 ⟨rfl,h1,h2⟩;have m3:=(h2 bc (by simp) HB.2.2.1).trans HB.1;have m4:=(h2 bo (by simp) HB.2.2.2.1).trans HB.2.1;have T3:=Hd (And.intro h1 (And.intro (HK.trans (h2.sub (R':=R) fun k hk=>by simp[hk])) (And.intro m3 m4)));clear h1 h2 NU y0 y1 y2 y3;obtain⟨⟨y0,y1,y2,y3⟩,_⟩:=fF m4;obtain⟨⟨c0,c1,c2,c3,c4,c5,c6,c7,c8,c9⟩,f0,f1,f2,f3,f4,f5,f6,f7,f8,f9⟩:=cM m3;clear m3 m4;go_upto_region 6 with fail
 go_cut [] from 10 (fun wx=>Hid (TxS w0 (bo::bc::R) wx t d s 640 E/\KeptT R t w wx/\wx.heap[bc]?=some (.cells #[.int .i64 id,.int .i64 pa,.int .i64 ob,.int .i64 oi,.int .i64 ri,.int .i64 ba,.int .i64 de,.int .i64 ex,.int .i64 0,.bool false] 65)/\wx.heap[bo]?=some (.cells #[.int .i64 oi,.string nm,.int .i64 li,.int .i64 ha] 54)))
 case first=>
  have SA:Hid (∀ wx:World,(wx.heap=((w3.setCell ⟨bc,0,none⟩ (.int .i64 id)).setCell ⟨bc,3,none⟩ (.int .i64 oi)).heap\/wx.heap=((w3.setCell ⟨bc,3,none⟩ (.int .i64 oi)).setCell ⟨bc,0,none⟩ (.int .i64 id)).heap)->Frm (fun k=>k=bc) w3 wx->Hid (TxS w0 (bo::bc::R) wx t d s 640 E/\KeptT R t w wx/\wx.heap[bc]?=some (.cells #[.int .i64 id,.int .i64 pa,.int .i64 ob,.int .i64 oi,.int .i64 ri,.int .i64 ba,.int .i64 de,.int .i64 ex,.int .i64 0,.bool false] 65)/\wx.heap[bo]?=some (.cells #[.int .i64 oi,.string nm,.int .i64 li,.int .i64 ha] 54))):=Hd fun wx hw f=>Hd ⟨T3.1.turn (k:=bc) (by simp) HB.2.2.1 HB.2.2.2.2.1 f,fun k hk hn=>(f.block k (T3.1.lt.1 k (by simp[hk])) (HRK.1 k hk)).trans (T3.2.1 k hk hn),by
   rcases hw with e|e
   ·rw[e,hss _ _ 3 _ _ _ (hss _ _ 0 _ _ _ T3.2.2.1)];rfl
   ·rw[e,hss _ _ 0 _ _ _ (hss _ _ 3 _ _ _ T3.2.2.1)];rfl,(f.block bo (T3.1.lt.1 bo (by simp)) HB.2.2.2.2.2.2).trans T3.2.2.2⟩
  have m4:=T3.2.2.2;have m3:=T3.2.2.1;have nbc:=HB.2.2.2.2.2.2;obtain⟨⟨p0,_⟩,_⟩:=fF (show(w3.setCell ⟨bc,0,none⟩ (.int .i64 id)).heap[bo]?=some (.cells #[.int .i64 oi,.string nm,.int .i64 li,.int .i64 ha] 54) from(heap_setCell_other _ _ _ _ nbc).trans m4)
  obtain⟨⟨r0,r1,r2,r3,r4,r5,r6,r7,r8,r9⟩,s0,s1,s2,s3,s4,s5,s6,s7,s8,s9⟩:=cM (show(w3.setCell ⟨bc,0,none⟩ (.int .i64 id)).heap[bc]?=some (.cells #[.int .i64 id,.int .i64 pa,.int .i64 ob,.int .i64 0,.int .i64 ri,.int .i64 ba,.int .i64 de,.int .i64 ex,.int .i64 0,.bool false] 65) by rw[hss _ _ 0 _ _ _ m3];rfl)
  obtain⟨⟨u0,u1,u2,u3,u4,u5,u6,u7,u8,u9⟩,v0,v1,v2,v3,v4,v5,v6,v7,v8,v9⟩:=cM (show(w3.setCell ⟨bc,3,none⟩ (.int .i64 oi)).heap[bc]?=some (.cells #[.int .i64 0,.int .i64 pa,.int .i64 ob,.int .i64 oi,.int .i64 ri,.int .i64 ba,.int .i64 de,.int .i64 ex,.int .i64 0,.bool false] 65) by rw[hss _ _ 3 _ _ _ m3];rfl);clear m3 m4
  go_region
  all_goals
   go_wp2_with fail
   go_meet
   first|exact SA _ (.inl rfl) (((Frm.refl (fun k=>k=bc) w3).setCell _ _ (.inl rfl)).setCell _ _ (.inl rfl)).drew|exact SA _ (.inr rfl) (((Frm.refl (fun k=>k=bc) w3).setCell _ _ (.inl rfl)).setCell _ _ (.inl rfl)).drew
 case rest=>
  have HW:=hcut;clear hcut T3 HK y0 y1 y2 y3 c0 c1 c2 c3 c4 c5 c6 c7 c8 c9 f0 f1 f2 f3 f4 f5 f6 f7 f8 f9;have m4:=HW.2.2.2;obtain⟨⟨y0,y1,y2,y3⟩,f0,f1,f2,f3⟩:=fF m4;obtain⟨wy,hwy⟩:∃ wy,wc.setCell ⟨bo,3,none⟩ (.int .i64 hb)=wy:=⟨_,rfl⟩
  have f7:Frm (fun k=>k=bo) wc wy:=by rw[<-hwy];exact(Frm.refl _ wc).setCell _ _ (.inl rfl)
  have o7:wy.heap[bo]?=some (.cells #[.int .i64 oi,.string nm,.int .i64 li,.int .i64 hb] 54):=by rw[<-hwy,hss _ _ 3 _ _ _ m4];rfl
  have t7:=HW.1.turn (k:=bo) (by simp) HB.2.2.2.1 HB.2.2.2.2.2.1 f7;have c7:=(f7.block bc (HW.1.lt.1 bc (by simp)) (Ne.symm HB.2.2.2.2.2.2)).trans HW.2.2.1;have k7:KeptT R t w wy:=fun k hk hn=>(f7.block k (HW.1.lt.1 k (by simp[hk])) (HRK.2 k hk)).trans (HW.2.1 k hk hn)
  have HY:=Hd hwy;have T7:=Hd (And.intro t7 (And.intro k7 (And.intro c7 o7)));have GV:=Hd (DL t7 (show E.length<=300 by have:=HN.1;omega) (m:=1) rfl HN.2.1 HN.2.2);clear m4 f7 o7 t7 c7 k7 hwy HW;go_upto_region 8 with fail
  rw[HY.o];clear y0 y1 y2 y3 f0 f1 f2 f3;go_wp2_with fail;refine GV.mono ?_;rintro e w8 ⟨rfl,h1,h2⟩;have mc:=(h2 bc (by simp) HB.2.2.1).trans T7.2.2.1;have mo:=(h2 bo (by simp) HB.2.2.2.1).trans T7.2.2.2;have PC:=Hd (ZQ (c:=⟨pa,ob,oi,ri,ba,de,ex,0,false⟩) h1 (show(aZ (aH 9 0 1) X E).length<=300 by have:=bP (aH 9 0 1) X E;have:=HN.1;omega) HC.1 rfl (rfl:aH 1 0 id=aH 1 0 id));have T8:=Hd (And.intro (T7.2.1.trans (h2.sub (R':=R) fun k hk=>by simp[hk])) (And.intro mc mo))
  obtain⟨⟨c0,c1,c2,c3,c4,c5,c6,c7,c8,c9⟩,_⟩:=cM mc;clear h1 h2 mc mo GV;go_wp2_with fail;refine PC.mono ?_;rintro e w9 ⟨rfl,h1,h2⟩;have mc:=(h2 bc (by simp) HB.2.2.1).trans T8.2.1;have mo:=(h2 bo (by simp) HB.2.2.2.1).trans T8.2.2
  have PO:=Hd (DD (p:=⟨nm,li,hb⟩) h1 (show(aZ (aH 1 0 id) (dV ⟨pa,ob,oi,ri,ba,de,ex,0,false⟩) (aZ (aH 9 0 1) X E)).length<=300 by have l1:=bP (aH 9 0 1) X E;have l2:=bP (aH 1 0 id) (dV ⟨pa,ob,oi,ri,ba,de,ex,0,false⟩) (aZ (aH 9 0 1) X E);have l3:=bP (aH 3 0 oi) (gC ⟨nm,li,hb⟩) (aZ (aH 1 0 id) (dV ⟨pa,ob,oi,ri,ba,de,ex,0,false⟩) (aZ (aH 9 0 1) X E));have l4:=bP (aH 5 ex id) ⟨#[]⟩ (aZ (aH 3 0 oi) (gC ⟨nm,li,hb⟩) (aZ (aH 1 0 id) (dV ⟨pa,ob,oi,ri,ba,de,ex,0,false⟩) (aZ (aH 9 0 1) X E)));have:=HN.1;omega) HC.2 rfl (rfl:aH 3 0 oi=aH 3 0 oi))
  have T9:=Hd (And.intro (T8.1.trans (h2.sub (R':=R) fun k hk=>by simp[hk])) (And.intro mc mo));obtain⟨⟨y0,y1,y2,y3⟩,_⟩:=fF mo;clear h1 h2 mc mo PC c0 c1 c2 c3 c4 c5 c6 c7 c8 c9;go_wp2_with fail;refine PO.mono ?_;rintro e wb ⟨rfl,h1,h2⟩;have mc:=(h2 bc (by simp) HB.2.2.1).trans T9.2.1;have TB:=Hd (And.intro h1 (And.intro (T9.1.trans (h2.sub (R':=R) fun k hk=>by simp[hk])) mc));obtain⟨⟨c0,c1,c2,c3,c4,c5,c6,c7,c8,c9⟩,_⟩:=cM mc;clear h1 h2 mc PO y0 y1 y2 y3
  by_cases hx0:ex=0
  ·have hx1:(ex==0)=true:=by simpa using hx0
   have hx2:(ex != 0)=false:=by simpa using hx0
   obtain⟨wz,hwz⟩:∃ wz,wb=wz:=⟨_,rfl⟩
   subst hwz;have TZ:=Hd TB.1;have KZ:=Hd TB.2.1
   by_cases hp0:pa=0
   ·have hp1:(pa==0)=true:=by simpa using hp0
    have hp2:(pa != 0)=false:=by simpa using hp0
    have FIN:Hid (TxS w0 R wb t d s 640 (oN E id ⟨pa,ob,oi,ri,ba,de,ex,0,false⟩ oi ⟨nm,li,hb⟩)/\KeptT R t w wb):=Hd ⟨by
     unfold oN;simp only[if_pos hp0,HN.2.2,if_pos hx0];exact TZ.sub fun k hk=>by simp[hk],KZ.o⟩
    clear hp0 hx0;go_wp2_with fail;go_ret2;exact⟨rfl,FIN.o⟩
   ·have hp1:(pa==0)=false:=by simpa using hp0
    have hp2:(pa != 0)=true:=by simpa using hp0
    have HP0:=Hd (And.intro hp0 hx0);clear hp0 hx0;go_wp2_with fail;refine(jW 2 pa id _ _ rfl).mono ?_;rintro e w9 ⟨rfl,rfl⟩
    have PU:=Hd (pF (key:=aH 2 pa id) (val:=⟨#[]⟩) TZ (by have l1:=bP (aH 9 0 1) X E;have l2:=bP (aH 1 0 id) (dV ⟨pa,ob,oi,ri,ba,de,ex,0,false⟩) (aZ (aH 9 0 1) X E);have l3:=bP (aH 3 0 oi) (gC ⟨nm,li,hb⟩) (aZ (aH 1 0 id) (dV ⟨pa,ob,oi,ri,ba,de,ex,0,false⟩) (aZ (aH 9 0 1) X E));have l4:=bP (aH 5 ex id) ⟨#[]⟩ (aZ (aH 3 0 oi) (gC ⟨nm,li,hb⟩) (aZ (aH 1 0 id) (dV ⟨pa,ob,oi,ri,ba,de,ex,0,false⟩) (aZ (aH 9 0 1) X E)));have:=HN.1;omega) (cS _ _ _) (by decide))
    go_wp2_with fail;refine PU.mono ?_;rintro e w10 ⟨rfl,h1,h2⟩
    have FIN:Hid (TxS w0 R w10 t d s 640 (oN E id ⟨pa,ob,oi,ri,ba,de,ex,0,false⟩ oi ⟨nm,li,hb⟩)/\KeptT R t w w10):=Hd ⟨by
     unfold oN;simp only[if_neg HP0.1,HN.2.2,if_pos HP0.2];exact h1.sub fun k hk=>by simp[hk],KZ.trans (h2.sub fun k hk=>by simp[hk])⟩
    clear h1 h2 PU;go_wp2_with fail;go_ret2;exact⟨rfl,FIN.o⟩
  ·have hx1:(ex==0)=false:=by simpa using hx0
   have hx2:(ex != 0)=true:=by simpa using hx0
   have HX0:=Hd hx0;clear hx0;go_wp2_with fail;refine(jW 5 ex id _ _ rfl).mono ?_;rintro e wk ⟨rfl,rfl⟩
   have PU:=Hd (pF (key:=aH 5 ex id) (val:=⟨#[]⟩) TB.1 (by have l1:=bP (aH 9 0 1) X E;have l2:=bP (aH 1 0 id) (dV ⟨pa,ob,oi,ri,ba,de,ex,0,false⟩) (aZ (aH 9 0 1) X E);have l3:=bP (aH 3 0 oi) (gC ⟨nm,li,hb⟩) (aZ (aH 1 0 id) (dV ⟨pa,ob,oi,ri,ba,de,ex,0,false⟩) (aZ (aH 9 0 1) X E));have l4:=bP (aH 5 ex id) ⟨#[]⟩ (aZ (aH 3 0 oi) (gC ⟨nm,li,hb⟩) (aZ (aH 1 0 id) (dV ⟨pa,ob,oi,ri,ba,de,ex,0,false⟩) (aZ (aH 9 0 1) X E)));have:=HN.1;omega) (cS _ _ _) (by decide))
   go_wp2_with fail;refine PU.mono ?_;rintro e wz ⟨rfl,h1,h2⟩;have mc:=(h2 bc (by simp) HB.2.2.1).trans TB.2.2;have TZ:=Hd h1;have KZ:=Hd (TB.2.1.trans (h2.sub (R':=R) fun k hk=>by simp[hk]));clear c0 c1 c2 c3 c4 c5 c6 c7 c8 c9;obtain⟨⟨c0,c1,c2,c3,c4,c5,c6,c7,c8,c9⟩,_⟩:=cM mc;have hx0:=HX0.o;clear h1 h2 mc PU
   by_cases hp0:pa=0
   ·have hp1:(pa==0)=true:=by simpa using hp0
    have hp2:(pa != 0)=false:=by simpa using hp0
    have FIN:Hid (TxS w0 R wz t d s 640 (oN E id ⟨pa,ob,oi,ri,ba,de,ex,0,false⟩ oi ⟨nm,li,hb⟩)/\KeptT R t w wz):=Hd ⟨by
     unfold oN;simp only[if_pos hp0,HN.2.2,if_neg hx0];exact TZ.sub fun k hk=>by simp[hk],KZ.o⟩
    clear hp0 hx0;go_wp2_with fail;go_ret2;exact⟨rfl,FIN.o⟩
   ·have hp1:(pa==0)=false:=by simpa using hp0
    have hp2:(pa != 0)=true:=by simpa using hp0
    have HP0:=Hd (And.intro hp0 hx0);clear hp0 hx0;go_wp2_with fail;refine(jW 2 pa id _ _ rfl).mono ?_;rintro e w9 ⟨rfl,rfl⟩
    have PU:=Hd (pF (key:=aH 2 pa id) (val:=⟨#[]⟩) TZ (by have l1:=bP (aH 9 0 1) X E;have l2:=bP (aH 1 0 id) (dV ⟨pa,ob,oi,ri,ba,de,ex,0,false⟩) (aZ (aH 9 0 1) X E);have l3:=bP (aH 3 0 oi) (gC ⟨nm,li,hb⟩) (aZ (aH 1 0 id) (dV ⟨pa,ob,oi,ri,ba,de,ex,0,false⟩) (aZ (aH 9 0 1) X E));have l4:=bP (aH 5 ex id) ⟨#[]⟩ (aZ (aH 3 0 oi) (gC ⟨nm,li,hb⟩) (aZ (aH 1 0 id) (dV ⟨pa,ob,oi,ri,ba,de,ex,0,false⟩) (aZ (aH 9 0 1) X E)));have:=HN.1;omega) (cS _ _ _) (by decide))
    go_wp2_with fail;refine PU.mono ?_;rintro e w10 ⟨rfl,h1,h2⟩
    have FIN:Hid (TxS w0 R w10 t d s 640 (oN E id ⟨pa,ob,oi,ri,ba,de,ex,0,false⟩ oi ⟨nm,li,hb⟩)/\KeptT R t w w10):=Hd ⟨by
     unfold oN;simp only[if_neg HP0.1,HN.2.2,if_neg HP0.2];exact h1.sub fun k hk=>by simp[hk],KZ.trans (h2.sub fun k hk=>by simp[hk])⟩
    clear h1 h2 PU;go_wp2_with fail;go_ret2;exact⟨rfl,FIN.o⟩
theorem CpE.num1 {E:List Ent}{cs:List (Option aX)}{os:List dP}{ls:List Int}{m:Nat}(h:CpE E cs os ls m):NumE E 10376293541461622785 (cs.length:Int):=by
 have h1:eU 10376293541461622785 E=if cs.length=0 then none else some (Str (aK (cs.length:Int) 3)):=h.n1
 have:=h.cl
 by_cases e:cs.length=0
 ·rw[if_pos e] at h1
  exact .inl ⟨(MG h1).2,by omega⟩
 ·rw[if_neg e] at h1
  exact .inr ⟨(gM h1).2,(gM h1).1,by omega,by omega⟩
theorem CpE.num2 {E:List Ent}{cs:List (Option aX)}{os:List dP}{ls:List Int}{m:Nat}(h:CpE E cs os ls m):NumE E 10376293541461622786 (os.length:Int):=by
 have h1:eU 10376293541461622786 E=if os.length=0 then none else some (Str (aK (os.length:Int) 3)):=h.n2
 have:=h.ol
 by_cases e:os.length=0
 ·rw[if_pos e] at h1
  exact .inl ⟨(MG h1).2,by omega⟩
 ·rw[if_neg e] at h1
  exact .inr ⟨(gM h1).2,(gM h1).1,by omega,by omega⟩
theorem CpE.getO {E:List Ent}{cs:List (Option aX)}{os:List dP}{ls:List Int}{m:Nat}(h:CpE E cs os ls m){i:Nat}{o:dP}(ho:os[i]?=some o):aDD E ((i:Int)+1) o:=by
 have hi:=(List.getElem?_eq_some_iff.1 ho).1;have:=h.ol;refine⟨?_,h.ownOk i o ho⟩;rw[h.own _ (by omega) (by omega)];unfold pI;rw[if_pos (by omega),show((i:Int)+1-1).toNat=i by omega,ho]
 rfl
theorem CpE.getC {E:List Ent}{cs:List (Option aX)}{os:List dP}{ls:List Int}{m:Nat}(h:CpE E cs os ls m){i:Nat}{c:aX}(hc:cs[i]?=some (some c)):ED E ((i:Int)+1) c:=by
 have hi:=(List.getElem?_eq_some_iff.1 hc).1;have:=h.cl;refine⟨?_,h.capOk i c hc⟩;rw[h.cap _ (by omega) (by omega)];unfold pX;rw[show((i:Int)+1-1).toNat=i by omega,hc]
 rfl
theorem YC {w0 w:World}{R:List Nat}{t d s:Nat}{E:List Ent}{bo br bb be bt bw:Nat}{ob ri ba ex ow v id:Int}{p:dP}(h:TxS w0 R w t d s 640 E)(hbo:w.heap[bo]?=some (.cells #[.int .i64 ob] 3))(hbr:w.heap[br]?=some (.cells #[.int .i64 ri] 3))(hbb:w.heap[bb]?=some (.cells #[.int .i64 ba] 3))(hbe:w.heap[be]?=some (.cells #[.int .i64 ex] 3))(ht:w.heap[bt]?=some (.cells #[.pointer (some ⟨t,0,none⟩)] 24))(hw:w.heap[bw]?=some (.cells #[.int .i64 ow] 3))(hm:(bo∈R/\bo≠t/\w0.heap.size<=bo)/\(br∈R/\br≠t/\w0.heap.size<=br)/\(bb∈R/\bb≠t/\w0.heap.size<=bb)/\(be∈R/\be≠t/\w0.heap.size<=be)/\(bt∈R/\bt≠t/\w0.heap.size<=bt)/\(bw∈R/\bw≠t/\w0.heap.size<=bw))(hE:E.length<=290)(hob:1<=ob/\ob<=16777215)(hmay:(iQ ri ri&&(inB 0 4294967295 ba&&inB 0 268435455 ex))=true)
  (hg:aDD E ow p)(hq:p.ha<p.li)(hv:NumE E 10376293541461622785 v)(hv1:v<16777215)(hid:v+1=id)(hc:fX id ⟨0,ob,ow,ri,ba,1,ex,0,false⟩) :
  Calls Tryz.prog 30 #[.pointer (some ⟨bo,0,none⟩),.pointer (some ⟨br,0,none⟩),.pointer (some ⟨bb,0,none⟩),.pointer (some ⟨be,0,none⟩),.pointer (some ⟨bt,0,none⟩),.pointer (some ⟨bw,0,none⟩)] w fun e' w'=>e'=.returned (.tuple #[.int .i64 id,.int .i64 0])/\TxS w0 R w' t d s 640 (oN E id ⟨0,ob,ow,ri,ba,1,ex,0,false⟩ ow ⟨p.nm,p.li,p.ha+1⟩)/\KeptT R t w w':=by
 have ID:=Hd (fun w=>JT ob true w (by unfold inB;simp;omega));have MY:=Hd (fun w=>MP ri ba ex true w hmay);have OW:=Hd (wP h (show E.length<=600 by omega) hg);have ho:=fI.1 hg.2;have AD:=Hd (fun(R':List Nat) (wx:World) (hx:TxS w0 R' wx t d s 640 E)=>MS (pa:=0) (ob:=ob) (oi:=ow) (ri:=ri) (ba:=ba) (de:=1) (ex:=ex) (nm:=p.nm) (li:=p.li) (ha:=p.ha) hx hE hv hv1 hid hq rfl ⟨ho.2.2.2.2.1,ho.2.2.2.1.2⟩ hc (fI.2 ⟨ho.1,ho.2.1,ho.2.2.1,ho.2.2.2.1,by show 0<=p.ha+1;omega,by show p.ha+1<=p.li;omega⟩) rfl)
 have HB:=Hd (And.intro hbo (And.intro hbr (And.intro hbb (And.intro hbe (And.intro ht hw)))));have HM:=Hd hm;have c0:=(aD hbo).1;have c1:=(aD hbr).1;have c2:=(aD hbb).1;have c3:=(aD hbe).1;have c4:=(aD ht).1;have c5:=(aD hw).1;obtain⟨nm,li,ha⟩:=p;clear h hbo hbr hbb hbe ht hw hm hE hob hmay hg hq hv hv1 hid hc ho;go_enter Tryz.func30,Tryz.ntmps30;go_wp2_with fail;refine(ID _).mono ?_;rintro e w1 ⟨rfl,rfl⟩;go_wp2_with fail;refine(MY _).mono ?_;rintro e w1 ⟨rfl,rfl⟩;go_wp2_with fail;refine OW.mono ?_;rintro e w3 ⟨rfl,h1,h2⟩
 obtain⟨a1,a2,a3,a4,a5,a6,a7⟩:=h1.box (.cells #[.int .i64 ow,.string nm,.int .i64 li,.int .i64 ha] 54);obtain⟨x1,hx1⟩:∃ x,w3.alloc (.cells #[.int .i64 ow,.string nm,.int .i64 li,.int .i64 ha] 54)=x:=⟨_,rfl⟩
 rw[hx1] at a1 a2 a3 a5;have K1:=Hd (h2.trans a2);clear c0 c1 c2 c3 c4 c5;have c0:=(aD ((K1 bo HM.1.1 HM.1.2.1).trans HB.1)).1;have c1:=(aD ((K1 br HM.2.1.1 HM.2.1.2.1).trans HB.2.1)).1;have c2:=(aD ((K1 bb HM.2.2.1.1 HM.2.2.1.2.1).trans HB.2.2.1)).1;have c3:=(aD ((K1 be HM.2.2.2.1.1 HM.2.2.2.1.2.1).trans HB.2.2.2.1)).1;have c4:=(aD ((K1 bt HM.2.2.2.2.1.1 HM.2.2.2.2.1.2.1).trans HB.2.2.2.2.1)).1;obtain⟨⟨y0,y1,y2,y3⟩,_⟩:=fF a3;have AX:=Hd (AD _ _ a1);have X1:=Hd hx1
 clear h1 h2 a1 a2 a3 a4 a5 a6 a7 hx1 OW;go_upto_region 4 with fail
 rw[X1.o];go_wp2_with fail;refine AX.mono ?_;rintro e w4 ⟨rfl,h1,h2⟩;have FIN:=Hd (And.intro (h1.sub (R':=R) fun k hk=>by simp[hk]) (K1.trans (h2.sub (R':=R) fun k hk=>by simp[hk])));clear h1 h2 AX c0 c1 c2 c3 c4 y0 y1 y2 y3;go_wp2_with fail;go_ret2;exact⟨rfl,FIN.o⟩
theorem ZS {w0 w:World}{R:List Nat}{t d s:Nat}{E:List Ent}{ow ob ri ba ex:Int}{os:List dP}{cs:List (Option aX)}{ls:List Int}{m:Nat}{oi:Nat}{p:dP}(h:TxS w0 R w t d s 640 E)(hc:CpE E cs os ls m)(hm:m<=280)(hl:cs.length<90)(hp:os[oi]?=some p)(how:(oi:Int)+1=ow)(hq:p.ha<p.li)(hob:1<=ob/\ob<=16777215)(hri:0<=ri/\ri<=65535)(hba:0<=ba/\ba<=4294967295)(hex:0<=ex/\ex<=268435455) :
  Calls Tryz.prog 11 #[.pointer (some ⟨t,0,none⟩),.int .i64 ow,.int .i64 ob,.int .i64 ri,.int .i64 ba,.int .i64 ex] w fun e' w'=>∃ E',e'=.returned (.tuple #[.int .i64 ((cs.length:Int)+1),.int .i64 0])/\TxS w0 R w' t d s 640 E'/\KeptT R t w w'/\CpE E' (cs++[some ⟨0,ob,ow,ri,ba,1,ex,0,false⟩]) (os.set oi ⟨p.nm,p.li,p.ha+1⟩) (ls++[ex]) (m+5):=by
 have ho:=fI.1 (hc.ownOk oi p hp);have hi:=(List.getElem?_eq_some_iff.1 hp).1;have hol:=hc.ol;have hok:fX ((cs.length:Int)+1) ⟨0,ob,ow,ri,ba,1,ex,0,false⟩:=jB.2 ⟨by omega,(by decide:(0:Int)<=0/\(0:Int)<=16777215),by show(0:Int)≠_;omega,hob,by show 1<=ow/\ow<=16777215;omega,hri,hba,(by decide:(1:Int)<=1/\(1:Int)<=8),⟨fun _=>rfl,fun _=>rfl⟩,hex,(by decide:(0:Int)<=0/\(0:Int)<=16777215)⟩
 have hoo:gP ((oi:Int)+1) ⟨p.nm,p.li,p.ha+1⟩:=fI.2 ⟨ho.1,ho.2.1,ho.2.2.1,ho.2.2.2.1,by show 0<=p.ha+1;omega,by show p.ha+1<=p.li;omega⟩;have hE:=hc.len
 have hmay:(iQ ri ri&&(inB 0 4294967295 ba&&inB 0 268435455 ex))=true:=by
  rw[Bool.and_eq_true,Bool.and_eq_true];exact⟨kO.2 hri,fY.2 hba,fY.2 hex⟩
 have hg:=hc.getO hp;rw[how] at hg;have hmm:=hc.mint (c:=⟨0,ob,ow,ri,ba,1,ex,0,false⟩) (o:=⟨p.nm,p.li,p.ha+1⟩) (oi:=oi) hl hok hi hoo;rw[how] at hmm;refine(aCV h (.inl ⟨rfl,rfl⟩) fun R' wa b0 b1 b2 b3 b4 b5 hT g0 g1 g2 g3 g4 g5 gm=>YC hT g2 g3 g4 g5 g0 g1 ⟨gm.2.2.1,gm.2.2.2.1,gm.2.2.2.2.1,gm.2.2.2.2.2,gm.1,gm.2.1⟩ (by omega) hob hmay hg hq hc.num1 (by omega) rfl hok).mono ?_;rintro e' w' ⟨rfl,h1,h2⟩;exact⟨_,rfl,h1,h2,hmm⟩
section
attribute [local go_sem] Oper.semAt_some
theorem aB2 {w0 w:World}{R:List Nat}{t d s n:Nat}{E:List Ent}{id now:Int}{c:aX}{L:List (Int × aX)}(h:TxS w0 R w t d s n E)(hE:E.length<=600)(hc:ChainE E id L)(hl:L.length<=9)(hx:stV L now=0)(hg:ED E id c) :
  Calls Tryz.prog 36 #[.pointer (some ⟨t,0,none⟩),.int .i64 id,.int .i64 now] w fun e w'=>e=.returned (.tuple #[.agg #[.int .i64 id,.int .i64 c.pa,.int .i64 c.ob,.int .i64 c.ow,.int .i64 c.ri,.int .i64 c.ba,.int .i64 c.de,.int .i64 c.ex,.int .i64 c.cu,.bool c.rv],.int .i64 0])/\TxS w0 R w' t d s n E/\KeptT R t w w':=by
 obtain⟨a1,a2,a3,a4,a5,a6,a7⟩:=h.box (.cells #[.int .i64 0,.int .i64 0,.int .i64 0,.int .i64 0,.int .i64 0,.int .i64 0,.int .i64 0,.int .i64 0,.int .i64 0,.bool false] 65);obtain⟨r3,hr3⟩:∃ r3,w.heap.size=r3:=⟨_,rfl⟩
 obtain⟨x1,hx1⟩:∃ x1,w.alloc (.cells #[.int .i64 0,.int .i64 0,.int .i64 0,.int .i64 0,.int .i64 0,.int .i64 0,.int .i64 0,.int .i64 0,.int .i64 0,.bool false] 65)=x1:=⟨_,rfl⟩
 rw[hx1] at a1 a2 a3 a5;rw[hr3] at a1 a3 a4 a5 a6 a7;have X1:=Hd hx1;have HR4:=Hd (And.intro a6 a7);have A3:=Hd (And.intro a3 a4);have A2:=Hd (And.intro a2 a1);have ST:=qO (now:=now) a1 hE hc hl;rw[hx] at ST;have ST:=Hd ST;have GT:=Hd (fun(wx:World) (h:TxS w0 (r3::R) wx t d s n E)=>qP h hE hg);clear hg;clear h hE hc hl hx a1 a2 a3 a4 a5 a6 a7 hx1;go_enter Tryz.func36,Tryz.ntmps36;go_upto_region 1 with fail
 rw[X1.o];try rw[hr3]
 clear hr3;go_wp2_with fail;refine ST.mono ?_;rintro e w3 ⟨rfl,h1,h2⟩;have G3:=Hd (GT w3 h1);have F3:=Hd h2;clear h1 h2 ST GT;go_wp2_with fail;refine G3.mono ?_;rintro e w4 ⟨rfl,h1,h2⟩;have F4:=Hd (And.intro h1 (F3.trans h2));clear h1 h2 G3 F3;have r8:=(F4.2 r3 (by simp) A3.2).trans A3.1;obtain⟨⟨y0,y1,y2,y3,y4,y5,y6,y7,y8,y9⟩,u0,u1,u2,u3,u4,u5,u6,u7,u8,u9⟩:=cM r8
 obtain⟨n1,n2⟩:=VS r8 (.int .i64 id) (.int .i64 c.pa) (.int .i64 c.ob) (.int .i64 c.ow) (.int .i64 c.ri) (.int .i64 c.ba) (.int .i64 c.de) (.int .i64 c.ex) (.int .i64 c.cu) (.bool c.rv)
 have FIN:Hid ((stC w4 r3 (.int .i64 id) (.int .i64 c.pa) (.int .i64 c.ob) (.int .i64 c.ow) (.int .i64 c.ri) (.int .i64 c.ba) (.int .i64 c.de) (.int .i64 c.ex) (.int .i64 c.cu) (.bool c.rv)).heap[r3]?=some (.cells #[.int .i64 id,.int .i64 c.pa,.int .i64 c.ob,.int .i64 c.ow,.int .i64 c.ri,.int .i64 c.ba,.int .i64 c.de,.int .i64 c.ex,.int .i64 c.cu,.bool c.rv] 65)/\TxS w0 R (stC w4 r3 (.int .i64 id) (.int .i64 c.pa) (.int .i64 c.ob) (.int .i64 c.ow) (.int .i64 c.ri) (.int .i64 c.ba) (.int .i64 c.de) (.int .i64 c.ex) (.int .i64 c.cu) (.bool c.rv)) t d s n E/\KeptT R t w (stC w4 r3 (.int .i64 id) (.int .i64 c.pa) (.int .i64 c.ob) (.int .i64 c.ow) (.int .i64 c.ri) (.int .i64 c.ba) (.int .i64 c.de) (.int .i64 c.ex) (.int .i64 c.cu) (.bool c.rv))):=Hd (by
  refine⟨n1,((F4.1).turn (k:=r3) (by simp) A3.2 HR4.1 n2).sub (fun k hk=>by simp[hk]),fun k hk hn=>?_⟩;exact(n2.block k ((F4.1).lt.1 k (by simp[hk])) (HR4.2 k hk)).trans ((F4.2 k (by simp[hk]) hn).trans (A2.1 k hk hn)))
 unfold stC at FIN;clear n1 n2 r8;go_wp2_with fail;exact bodyPost_ret (v:=.tuple #[.agg #[.int .i64 id,.int .i64 c.pa,.int .i64 c.ob,.int .i64 c.ow,.int .i64 c.ri,.int .i64 c.ba,.int .i64 c.de,.int .i64 c.ex,.int .i64 c.cu,.bool c.rv],.int .i64 0]) (bM (fn:=Tryz.f36) rfl _ _ r3 65 _ (0,0) _ _ rfl rfl FIN.1 Tryz.underlying65 rfl kF) rfl ⟨rfl,FIN.2⟩
theorem JN {w0 w:World}{R:List Nat}{t d s:Nat}{E:List Ent}{br bb be bt bp bn bw:Nat}{ri ba ex pa now ow v id de x:Int}{c:aX}{p:dP}{L:List (Int × aX)}(h:TxS w0 R w t d s 640 E)(hbr:w.heap[br]?=some (.cells #[.int .i64 ri] 3))(hbb:w.heap[bb]?=some (.cells #[.int .i64 ba] 3))(hbe:w.heap[be]?=some (.cells #[.int .i64 ex] 3))(hbt:w.heap[bt]?=some (.cells #[.pointer (some ⟨t,0,none⟩)] 24))(hbp:w.heap[bp]?=some (.cells #[.int .i64 pa] 3))(hbn:w.heap[bn]?=some (.cells #[.int .i64 now] 3))(hbw:w.heap[bw]?=some (.cells #[.int .i64 ow] 3))(hm:(br∈R/\br≠t/\w0.heap.size<=br)/\(bb∈R/\bb≠t/\w0.heap.size<=bb)/\(be∈R/\be≠t/\w0.heap.size<=be)/\(bt∈R/\bt≠t/\w0.heap.size<=bt)/\(bp∈R/\bp≠t/\w0.heap.size<=bp)/\(bn∈R/\bn≠t/\w0.heap.size<=bn)/\(bw∈R/\bw≠t/\w0.heap.size<=bw))(hE:E.length<=290)(hmay:(iQ ri ri&&(inB 0 4294967295 ba&&inB 0 268435455 ex))=true)
  (hch:ChainE E pa L)(hl:L.length<=9)(hst:stV L now=0)(hgc:ED E pa c)(hg:aDD E ow p)(hu:(if iQ ri c.ri=true then(if 8<=c.de then 9 else 0) else 7)=(0:Int))(hq:p.ha<p.li)(hv:NumE E 10376293541461622785 v)(hv1:v<16777215)(hid:v+1=id)(hde:c.de+1=de)(hde1:0<=de/\de<=8)(hc2:fX id ⟨pa,c.ob,ow,ri,ba,de,ex,0,false⟩) :
  Calls Tryz.prog 35 #[.pointer (some ⟨br,0,none⟩),.pointer (some ⟨bb,0,none⟩),.pointer (some ⟨be,0,none⟩),.pointer (some ⟨bt,0,none⟩),.pointer (some ⟨bp,0,none⟩),.pointer (some ⟨bn,0,none⟩),.pointer (some ⟨bw,0,none⟩)] w fun e' w'=>e'=.returned (.tuple #[.int .i64 id,.int .i64 0])/\TxS w0 R w' t d s 640 (oN E id ⟨pa,c.ob,ow,ri,ba,de,ex,0,false⟩ ow ⟨p.nm,p.li,p.ha+1⟩)/\KeptT R t w w':=by
 have MY:=Hd (fun w=>MP ri ba ex true w hmay);have LV:=Hd (aB2 h (show E.length<=600 by omega) hch hl hst hgc);have OW:=Hd (fun(R':List Nat) (wx:World) (hx:TxS w0 R' wx t d s 640 E)=>wP hx (show E.length<=600 by omega) hg);have UN:=Hd (fun(R':List Nat) (wx:World) (hx:TxS w0 R' wx t d s 640 E)=>aCO (id:=pa) hx hu);have ho:=fI.1 hg.2
 have AD:=Hd (fun(R':List Nat) (wx:World) (hx:TxS w0 R' wx t d s 640 E)=>MS (pa:=pa) (ob:=c.ob) (oi:=ow) (ri:=ri) (ba:=ba) (de:=de) (ex:=ex) (nm:=p.nm) (li:=p.li) (ha:=p.ha) hx hE hv hv1 hid hq rfl ⟨ho.2.2.2.2.1,ho.2.2.2.1.2⟩ hc2 (fI.2 ⟨ho.1,ho.2.1,ho.2.2.1,ho.2.2.2.1,by show 0<=p.ha+1;omega,by show p.ha+1<=p.li;omega⟩) rfl);have ed:IntKind.i64.wrap (c.de+1)=de:=by rw[hde];exact IntWalk.i64_in _ (by omega)
 have HB:=Hd (And.intro hbr (And.intro hbb (And.intro hbe (And.intro hbt (And.intro hbp (And.intro hbn hbw))))));have HM:=Hd hm;have c0:=(aD hbr).1;have c1:=(aD hbb).1;have c2:=(aD hbe).1;have c3:=(aD hbt).1;have c4:=(aD hbp).1;have c5:=(aD hbn).1;have c6:=(aD hbw).1;obtain⟨nm,li,ha⟩:=p;clear h hbr hbb hbe hbt hbp hbn hbw hm hE hmay hch hl hst hgc hg hu hq hv hv1 hid hde hde1 hc2 ho;go_enter Tryz.func35,Tryz.ntmps35;go_wp2_with fail;refine(MY _).mono ?_;rintro e w1 ⟨rfl,rfl⟩;go_wp2_with fail;refine LV.mono ?_;rintro e w3 ⟨rfl,h1,h2⟩
 obtain⟨a1,a2,a3,a4,a5,a6,a7⟩:=h1.box (.cells #[.int .i64 pa,.int .i64 c.pa,.int .i64 c.ob,.int .i64 c.ow,.int .i64 c.ri,.int .i64 c.ba,.int .i64 c.de,.int .i64 c.ex,.int .i64 c.cu,.bool c.rv] 65);obtain⟨x1,hx1⟩:∃ x,w3.alloc (.cells #[.int .i64 pa,.int .i64 c.pa,.int .i64 c.ob,.int .i64 c.ow,.int .i64 c.ri,.int .i64 c.ba,.int .i64 c.de,.int .i64 c.ex,.int .i64 c.cu,.bool c.rv] 65)=x:=⟨_,rfl⟩
 obtain⟨bA,hbA⟩:∃ n,w3.heap.size=n:=⟨_,rfl⟩
 rw[hx1] at a1 a2 a3 a5;rw[hbA] at a1 a3 a4;have K1:=Hd (h2.trans a2);have OX:=Hd (OW _ _ a1);have X1:=Hd (And.intro hx1 hbA);have A3:=Hd (And.intro a3 a4);clear h1 h2 a1 a2 a3 a4 a5 a6 a7 hx1 hbA OW LV MY c0 c1 c2 c3 c4 c5 c6;go_upto_region 4 with fail
 rw[X1.1];try rw[X1.2]
 have c3:=(aD ((K1 bt (HM.2.2.2.1).1 (HM.2.2.2.1).2.1).trans (HB.2.2.2.1))).1;have c6:=(aD ((K1 bw (HM.2.2.2.2.2.2).1 (HM.2.2.2.2.2.2).2.1).trans (HB.2.2.2.2.2.2))).1;go_wp2_with fail;refine OX.mono ?_;rintro e w4 ⟨rfl,h1,h2⟩;obtain⟨a1,a2,a3,a4,a5,a6,a7⟩:=h1.box (.cells #[.int .i64 ow,.string nm,.int .i64 li,.int .i64 ha] 54);obtain⟨x2,hx2⟩:∃ x,w4.alloc (.cells #[.int .i64 ow,.string nm,.int .i64 li,.int .i64 ha] 54)=x:=⟨_,rfl⟩
 obtain⟨bB,hbB⟩:∃ n,w4.heap.size=n:=⟨_,rfl⟩
 rw[hx2] at a1 a2 a3 a5;rw[hbB] at a1 a3 a4;have KA:=Hd (h2.trans a2);have K2:=Hd (K1.trans (KA.sub (R':=R) fun k hk=>by simp[hk]));have UX:=Hd (UN _ _ a1);have X2:=Hd (And.intro hx2 hbB);have B3:=Hd (And.intro a3 a4);have mA:=(KA bA (by simp) A3.2).trans A3.1;have MA:=Hd mA;clear h1 h2 a1 a2 a3 a4 a5 a6 a7 hx2 hbB UN OX K1 KA c3 c6;go_upto_region 7 with fail
 rw[X2.1];try rw[X2.2]
 have c0:=(aD ((K2 br (HM.1).1 (HM.1).2.1).trans (HB.1))).1;obtain⟨⟨y0,y1,y2,y3,y4,y5,y6,y7,y8,y9⟩,_⟩:=cM mA;clear mA;go_wp2_with fail;refine UX.mono ?_;rintro e w5 ⟨rfl,h1,h2⟩;have K3:=Hd (K2.trans (h2.sub (R':=R) fun k hk=>by simp[hk]));have mA:=(h2 bA (by simp) A3.2).trans MA.o;have mB:=(h2 bB (by simp) B3.2).trans B3.1;obtain⟨a1,a2,a3,a4,a5,a6,a7⟩:=h1.box (.cells #[.int .i64 0,.int .i64 pa,.int .i64 c.ob,.int .i64 0,.int .i64 ri,.int .i64 ba,.int .i64 de,.int .i64 ex,.int .i64 0,.bool false] 65)
 obtain⟨x3,hx3⟩:∃ x,w5.alloc (.cells #[.int .i64 0,.int .i64 pa,.int .i64 c.ob,.int .i64 0,.int .i64 ri,.int .i64 ba,.int .i64 de,.int .i64 ex,.int .i64 0,.bool false] 65)=x:=⟨_,rfl⟩
 obtain⟨bC,hbC⟩:∃ n,w5.heap.size=n:=⟨_,rfl⟩
 rw[hx3] at a1 a2 a3 a5;rw[hbC] at a1 a3 a4;have AX:=Hd (AD _ _ a1);have X3:=Hd (And.intro hx3 hbC);have K4:=Hd (K3.trans (a2.sub (R':=R) fun k hk=>by simp[hk]));have MB:=Hd ((a2 bB (by simp) B3.2).trans mB);have MC:=Hd a3;clear h1 h2 a1 a2 a3 a4 a5 a6 a7 hx3 hbC AD UX K2 c0 y0 y1 y2 y3 y4 y5 y6 y7 y8 y9 mB MA;have c4:=(aD ((K3 bp (HM.2.2.2.2.1).1 (HM.2.2.2.2.1).2.1).trans (HB.2.2.2.2.1))).1;have c0:=(aD ((K3 br (HM.1).1 (HM.1).2.1).trans (HB.1))).1
 have c1:=(aD ((K3 bb (HM.2.1).1 (HM.2.1).2.1).trans (HB.2.1))).1;have c2:=(aD ((K3 be (HM.2.2.1).1 (HM.2.2.1).2.1).trans (HB.2.2.1))).1;obtain⟨⟨y0,y1,y2,y3,y4,y5,y6,y7,y8,y9⟩,g0,g1,g2,g3,g4,g5,g6,g7,g8,g9⟩:=cM mA;clear mA;go_upto_region 13 with fail
 rw[X3.1];try rw[X3.2]
 clear c4 c0 c1 c2 y0 y1 y2 y3 y4 y5 y6 y7 y8 y9 g0 g1 g2 g3 g4 g5 g6 g7 g8 g9;have c3:=(aD ((K4 bt (HM.2.2.2.1).1 (HM.2.2.2.1).2.1).trans (HB.2.2.2.1))).1;obtain⟨⟨y0,y1,y2,y3,y4,y5,y6,y7,y8,y9⟩,_⟩:=cM MC.o;obtain⟨⟨z0,z1,z2,z3⟩,_⟩:=fF MB.o;go_wp2_with fail;refine AX.mono ?_;rintro e w6 ⟨rfl,h1,h2⟩;have FIN:=Hd (And.intro (h1.sub (R':=R) fun k hk=>by simp[hk]) (K4.trans (h2.sub (R':=R) fun k hk=>by simp[hk])));clear h1 h2 AX c3 y0 y1 y2 y3 y4 y5 y6 y7 y8 y9 z0 z1 z2 z3;go_wp2_with fail;go_ret2;exact⟨rfl,FIN.o⟩
end
theorem aCY {w0 w:World}{R:List Nat}{t d s:Nat}{E:List Ent}{pa ow ri ba ex now de:Int}{os:List dP}{cs:List (Option aX)}{ls:List Int}{m:Nat}{oi i:Nat}{c:aX}{p:dP}{L:List (Int × aX)}(h:TxS w0 R w t d s 640 E)(hc:CpE E cs os ls m)(hm:m<=280)(hl:cs.length<90)(hp:os[oi]?=some p)(how:(oi:Int)+1=ow)(hq:p.ha<p.li)
  (hci:cs[i]?=some (some c))(hpa:(i:Int)+1=pa)(hch:ChainE E pa L)(hL:L.length<=9)(hst:stV L now=0)(hsub:iQ ri c.ri=true)(hde:c.de<8)(hde2:c.de+1=de)
  (hri:0<=ri/\ri<=65535)(hba:0<=ba/\ba<=4294967295)(hex:0<=ex/\ex<=268435455){id:Int}(hid:(cs.length:Int)+1=id) :
  Calls Tryz.prog 12 #[.pointer (some ⟨t,0,none⟩),.int .i64 pa,.int .i64 ow,.int .i64 ri,.int .i64 ba,.int .i64 ex,.int .i64 now] w fun e' w'=>∃ E',e'=.returned (.tuple #[.int .i64 id,.int .i64 0])/\TxS w0 R w' t d s 640 E'/\KeptT R t w w'/\CpE E' (cs++[some ⟨pa,c.ob,ow,ri,ba,de,ex,0,false⟩]) (os.set oi ⟨p.nm,p.li,p.ha+1⟩) (ls++[ex]) (m+5):=by
 have ho:=fI.1 (hc.ownOk oi p hp);have hi:=(List.getElem?_eq_some_iff.1 hp).1;have hi2:=(List.getElem?_eq_some_iff.1 hci).1;have hol:=hc.ol;have hC:=jB.1 (hc.capOk i c hci);have hdr:=hC.de;have hok:fX ((cs.length:Int)+1) ⟨pa,c.ob,ow,ri,ba,de,ex,0,false⟩:=jB.2 ⟨by omega,by show 0<=pa/\pa<=16777215;omega,by show pa≠_;omega,hC.ob,by show 1<=ow/\ow<=16777215;omega,hri,hba,by show 1<=de/\de<=8;omega,by show pa=0 ↔ de=1;omega,hex,(by decide:(0:Int)<=0/\(0:Int)<=16777215)⟩
 have hoo:gP ((oi:Int)+1) ⟨p.nm,p.li,p.ha+1⟩:=fI.2 ⟨ho.1,ho.2.1,ho.2.2.1,ho.2.2.2.1,by show 0<=p.ha+1;omega,by show p.ha+1<=p.li;omega⟩;have hE:=hc.len
 have hmay:(iQ ri ri&&(inB 0 4294967295 ba&&inB 0 268435455 ex))=true:=by
  rw[Bool.and_eq_true,Bool.and_eq_true];exact⟨kO.2 hri,fY.2 hba,fY.2 hex⟩
 have hg:=hc.getO hp;rw[how] at hg;have hgc:=hc.getC hci;rw[hpa] at hgc;have hmm:=hc.mint (c:=⟨pa,c.ob,ow,ri,ba,de,ex,0,false⟩) (o:=⟨p.nm,p.li,p.ha+1⟩) (oi:=oi) hl hok hi hoo;rw[how] at hmm;have hu:(if iQ ri c.ri=true then(if 8<=c.de then 9 else 0) else 7)=(0:Int):=by rw[if_pos hsub,if_neg (by omega)]
 rw[hid] at hok hmm;refine(aCZ h (.inl ⟨rfl,rfl⟩) fun R' wa b0 b1 b2 b3 b4 b5 b6 hT g0 g1 g2 g3 g4 g5 g6 gm=>JN (x:=0) hT g3 g4 g5 g0 g1 g6 g2 ⟨gm.2.2.2.1,gm.2.2.2.2.1,gm.2.2.2.2.2.1,gm.1,gm.2.1,gm.2.2.2.2.2.2,gm.2.2.1⟩ (by omega) hmay hch hL hst hgc hg hu hq hc.num1 (by omega) hid hde2 (by omega) hok).mono ?_;rintro e' w' ⟨rfl,h1,h2⟩;exact⟨_,rfl,h1,h2,hmm⟩
theorem QD {L:List (Int × aX)}(h:∀ p∈L,p.2.rv=false/\p.2.cu=0/\1<=p.1):xF L=false:=by
 unfold xF;rw[List.any_eq_false];intro j _;unfold kJ
 cases hj:L[j]? with
 | none=>simp
 | some p=>
  have hp:=h p (List.mem_of_getElem? hj);simp only[hp.1,hp.2.1,Bool.false_or]
  cases j with
  | zero=>simp
  | succ k=>
   cases hk:L[k]? with
   | none=>simp[hk]
   | some q=>
    have hq:=h q (List.mem_of_getElem? hk);have hd:decide (q.1<=0)=false:=decide_eq_false (by omega);simp[hk,hd]
def jM (f x:Int):Int:=if x≠0/\(f=0\/x<f) then x else f
theorem RK {f x y:Int}(hf:0<=f)(hx:0<=x)(hy:0<=y):jM (jM f x) y=jM (jM f y) x:=by
 unfold jM
 repeat' split
 all_goals omega
theorem LM {f x:Int}(hf:0<=f)(hx:0<=x):0<=jM f x:=by
 unfold jM;split <;> omega
theorem uB (f:Int)(p:Int × aX):uC f p=jM f p.2.ex:=rfl
theorem aFO (L:List (Int × aX)):∀ (f x:Int),0<=f->0<=x->(∀ p∈L,0<=p.2.ex)->L.foldl uC (jM f x)=jM (L.foldl uC f) x:=by
 induction L with
 | nil=>intro f x _ _ _;rfl
 | cons p L ih=>
  intro f x hf hx hL;have hp:=hL p (by simp);rw[List.foldl_cons,List.foldl_cons,uB,uB,RK hf hx hp,ih _ _ (LM hf hp) hx fun q hq=>hL q (by simp[hq])]
theorem uA (p:Int × aX)(L:List (Int × aX))(hp:0<=p.2.ex)(hL:∀ q∈L,0<=q.2.ex):eZ (p::L)=jM (eZ L) p.2.ex:=by
 show(p::L).foldl uC 0=_
 rw[List.foldl_cons,uB,aFO L 0 _ (by decide) hp hL]
 rfl
theorem CQ:∀ (L:List (Int × aX)),(∀ q∈L,0<=q.2.ex)->0<=eZ L
 | [],_=>by decide
 | p::L,h=>by
  rw[uA p L (h p (by simp)) fun q hq=>h q (by simp[hq])];exact LM (CQ L fun q hq=>h q (by simp[hq])) (h p (by simp))
theorem xC {L:List (Int × aX)}{now:Int}(h:∀ p∈L,p.2.rv=false/\p.2.cu=0/\1<=p.1):stV L now=if eZ L≠0/\eZ L<=now then 11 else 0:=by
 unfold stV;rw[QD h,if_neg (by decide)]
open Go.RowKit
theorem ZT {w0 w:World}{R:List Nat}{t d s n b c:Nat}{E E':List Ent}{caps:Array Value}{x e:Int}(h:TxS w0 R w t d s n E)(hb:w.heap[b]?=some (.cells #[.func (.func 57) #[] caps] 59))(hc:w.heap[c]?=some (.cells #[.int .i64 0] 3))(hcR:c∈R)(hct:c≠t)(hc0:w0.heap.size<=c)
  (HC:Calls Tryz.prog 57 caps w fun e' w'=>e'=.returned (.tuple #[.int .i64 x,.int .i64 e])/\TxS w0 R w' t d s n E'/\KeptT R t w w') :
  Calls Tryz.prog 67 #[.pointer (some ⟨b,0,none⟩),.pointer (some ⟨c,0,none⟩)] w fun e' w'=>e'=.returned (.int .i64 e)/\TxS w0 R w' t d s n E'/\w'.heap[c]?=some (.cells #[.int .i64 x] 3)/\∀ k∈R,k≠t->k≠c->w'.heap[k]?=w.heap[k]?:=by
 have cb:=(aD hb).1;have H:=Hd HC;have HX:=Hd (And.intro hc (And.intro hcR (And.intro hct hc0)));clear h hb hc hcR hct hc0 HC;go_enter Tryz.func67,Tryz.ntmps67;go_wp2_with fail;refine H.mono ?_;rintro e' w1 ⟨rfl,h1,h2⟩;have hc1:=(h2 c HX.2.1 HX.2.2.1).trans HX.1;obtain⟨c1,g1⟩:=aD hc1
 have FIN:Hid (TxS w0 R (w1.setCell ⟨c,0,none⟩ (.int .i64 x)) t d s n E'/\(w1.setCell ⟨c,0,none⟩ (.int .i64 x)).heap[c]?=some (.cells #[.int .i64 x] 3)/\∀ k∈R,k≠t->k≠c->(w1.setCell ⟨c,0,none⟩ (.int .i64 x)).heap[k]?=w.heap[k]?):=Hd (by
  have f:=fC (w:=w1) (b:=c) (i:=0) (.int .i64 x);refine⟨h1.turn HX.2.1 HX.2.2.1 HX.2.2.2 f,?_,fun k hk hn hnc=>(f.block k (h1.lt.1 k hk) hnc).trans (h2 k hk hn)⟩;rw[hss _ _ 0 _ _ _ hc1];rfl)
 clear h1 h2 hc1 cb;go_wp2_with fail;go_ret;exact⟨rfl,FIN.o⟩
theorem TU {w0 w:World}{R:List Nat}{t d s n:Nat}{E E':List Ent}{caps:Array Value}{e:Int}{Q:World->Prop}(h:TxS w0 R w t d s n E)
  (HC:Calls Tryz.prog 67 caps w fun e' w'=>e'=.returned (.int .i64 e)/\TxS w0 R w' t d s n E'/\Q w') :
  Calls Tryz.prog 41 #[.pointer (some ⟨t,0,none⟩),.func (.func 67) #[] caps] w fun e' w'=>e'=.returned (.int .i64 e)/\TxS w0 R w' t d s n E'/\Q w':=by
 have ER:=Hd (wN h);have H:=Hd HC;clear h HC;go_enter Tryz.func41,Tryz.ntmps41;go_wp2_with fail;refine ER.mono ?_;rintro e' w1 ⟨rfl,rfl⟩;clear ER;go_wp2_with fail;refine H.mono ?_;rintro e' w2 ⟨rfl,h1,h2⟩;have ER:=Hd (wN h1);have FIN:=Hd (And.intro h1 h2);clear h1 h2 H;go_wp2_with fail;refine ER.mono ?_;rintro e' w1 ⟨rfl,rfl⟩;clear ER;go_wp2_with fail;go_ret;exact⟨rfl,FIN.o⟩
theorem TR {w0 w:World}{R:List Nat}{t d s n:Nat}{E E':List Ent}{caps:Array Value}{x e y:Int}(h:TxS w0 R w t d s n E)(he:(e=0/\y=x)\/(e≠0/\y=0))
  (HC:∀ R' wa,(∀ k∈R,k∈R')->TxS w0 R' wa t d s n E->KeptT R t w wa->Calls Tryz.prog 57 caps wa fun e' w'=>e'=.returned (.tuple #[.int .i64 x,.int .i64 e])/\TxS w0 R' w' t d s n E'/\KeptT R' t wa w') :
  Calls Tryz.prog 23 #[.pointer (some ⟨t,0,none⟩),.func (.func 57) #[] caps] w fun e' w'=>e'=.returned (.tuple #[.int .i64 y,.int .i64 e])/\TxS w0 R w' t d s n E'/\KeptT R t w w':=by
 obtain⟨a1,a2,a3,a4,a5,a6,a7⟩:=h.box (.cells #[.func (.func 57) #[] caps] 59);obtain⟨x1,hx1⟩:∃ x1,w.alloc (.cells #[.func (.func 57) #[] caps] 59)=x1:=⟨_,rfl⟩
 rw[hx1] at a1 a2 a3 a5;obtain⟨b1,b2,b3,b4,b5,b6,b7⟩:=a1.box (.cells #[.int .i64 0] 3);obtain⟨x2,hx2⟩:∃ x2,x1.alloc (.cells #[.int .i64 0] 3)=x2:=⟨_,rfl⟩
 rw[hx2] at b1 b2 b3 b5;rw[a5] at b1 b3 b4 b5 b6 b7;have hbk:=(b2 w.heap.size (by simp) a4).trans a3;have HK:=HC ((w.heap.size+1)::w.heap.size::R) x2 (fun k hk=>by simp[hk]) b1 (a2.trans (b2.sub (fun k hk=>by simp[hk])));have V1:=Hd (TU b1 (ZT b1 hbk b3 (by simp) b4 b6 HK));have KP:=Hd (And.intro a2 (And.intro b2 (And.intro a7 b7)));have HE:=Hd he;have X1:=Hd hx1;have X2:=Hd hx2;clear h he HC a1 a2 a3 a4 a6 a7 b1 b2 b3 b4 b5 b6 b7 hbk HK hx1 hx2;have A5:=Hd a5;clear a5;go_enter Tryz.func23,Tryz.ntmps23;go_upto_region 2 with fail
 try simp only[Nat.add_assoc,Nat.reduceAdd,World.heap_size_alloc]
 rw[X1.o,X2.o];go_wp2_with fail;refine V1.mono ?_;rintro e' w4 ⟨rfl,h1,h2,h3⟩;have c2:=(aD h2).1;have FIN:Hid (TxS w0 R w4 t d s n E'/\KeptT R t w w4):=Hd ⟨h1.sub (fun k hk=>by simp[hk]),fun k hk hn=>(h3 k (by simp[hk]) hn (KP.2.2.2 k (by simp[hk]))).trans ((KP.2.1 k (by simp[hk]) hn).trans (KP.1 k hk hn))⟩;clear h1 h2 h3 V1
 rcases HE.o with⟨rfl,rfl⟩|⟨hne,rfl⟩
 ·go_wp2_with fail
  go_ret2;exact⟨rfl,FIN.o⟩
 ·have hn1:(e==0)=false:=by simpa using hne
  have hn2:(e != 0)=true:=by simp[hne]
  clear hne;go_wp2_with fail;go_ret2;exact⟨rfl,FIN.o⟩
theorem UY {w0 w:World}{R:List Nat}{t d s n b c:Nat}{E E':List Ent}{caps:Array Value}{x e:Int}(h:TxS w0 R w t d s n E)(hb:w.heap[b]?=some (.cells #[.func (.func 60) #[] caps] 59))(hc:w.heap[c]?=some (.cells #[.int .i64 0] 3))(hcR:c∈R)(hct:c≠t)(hc0:w0.heap.size<=c)
  (HC:Calls Tryz.prog 60 caps w fun e' w'=>e'=.returned (.tuple #[.int .i64 x,.int .i64 e])/\TxS w0 R w' t d s n E'/\KeptT R t w w') :
  Calls Tryz.prog 67 #[.pointer (some ⟨b,0,none⟩),.pointer (some ⟨c,0,none⟩)] w fun e' w'=>e'=.returned (.int .i64 e)/\TxS w0 R w' t d s n E'/\w'.heap[c]?=some (.cells #[.int .i64 x] 3)/\∀ k∈R,k≠t->k≠c->w'.heap[k]?=w.heap[k]?:=by
 have cb:=(aD hb).1;have H:=Hd HC;have HX:=Hd (And.intro hc (And.intro hcR (And.intro hct hc0)));clear h hb hc hcR hct hc0 HC;go_enter Tryz.func67,Tryz.ntmps67;go_wp2_with fail;refine H.mono ?_;rintro e' w1 ⟨rfl,h1,h2⟩;have hc1:=(h2 c HX.2.1 HX.2.2.1).trans HX.1;obtain⟨c1,g1⟩:=aD hc1
 have FIN:Hid (TxS w0 R (w1.setCell ⟨c,0,none⟩ (.int .i64 x)) t d s n E'/\(w1.setCell ⟨c,0,none⟩ (.int .i64 x)).heap[c]?=some (.cells #[.int .i64 x] 3)/\∀ k∈R,k≠t->k≠c->(w1.setCell ⟨c,0,none⟩ (.int .i64 x)).heap[k]?=w.heap[k]?):=Hd (by
  have f:=fC (w:=w1) (b:=c) (i:=0) (.int .i64 x);refine⟨h1.turn HX.2.1 HX.2.2.1 HX.2.2.2 f,?_,fun k hk hn hnc=>(f.block k (h1.lt.1 k hk) hnc).trans (h2 k hk hn)⟩;rw[hss _ _ 0 _ _ _ hc1];rfl)
 clear h1 h2 hc1 cb;go_wp2_with fail;go_ret;exact⟨rfl,FIN.o⟩
theorem OG {w0 w:World}{R:List Nat}{t d s n:Nat}{E E':List Ent}{caps:Array Value}{e:Int}{Q:World->Prop}(h:TxS w0 R w t d s n E)
  (HC:Calls Tryz.prog 67 caps w fun e' w'=>e'=.returned (.int .i64 e)/\TxS w0 R w' t d s n E'/\Q w') :
  Calls Tryz.prog 41 #[.pointer (some ⟨t,0,none⟩),.func (.func 67) #[] caps] w fun e' w'=>e'=.returned (.int .i64 e)/\TxS w0 R w' t d s n E'/\Q w':=by
 have ER:=Hd (wN h);have H:=Hd HC;clear h HC;go_enter Tryz.func41,Tryz.ntmps41;go_wp2_with fail;refine ER.mono ?_;rintro e' w1 ⟨rfl,rfl⟩;clear ER;go_wp2_with fail;refine H.mono ?_;rintro e' w2 ⟨rfl,h1,h2⟩;have ER:=Hd (wN h1);have FIN:=Hd (And.intro h1 h2);clear h1 h2 H;go_wp2_with fail;refine ER.mono ?_;rintro e' w1 ⟨rfl,rfl⟩;clear ER;go_wp2_with fail;go_ret;exact⟨rfl,FIN.o⟩
theorem vD {w0 w:World}{R:List Nat}{t d s n:Nat}{E E':List Ent}{caps:Array Value}{x e y:Int}(h:TxS w0 R w t d s n E)(he:(e=0/\y=x)\/(e≠0/\y=0))
  (HC:∀ R' wa,(∀ k∈R,k∈R')->TxS w0 R' wa t d s n E->KeptT R t w wa->Calls Tryz.prog 60 caps wa fun e' w'=>e'=.returned (.tuple #[.int .i64 x,.int .i64 e])/\TxS w0 R' w' t d s n E'/\KeptT R' t wa w') :
  Calls Tryz.prog 23 #[.pointer (some ⟨t,0,none⟩),.func (.func 60) #[] caps] w fun e' w'=>e'=.returned (.tuple #[.int .i64 y,.int .i64 e])/\TxS w0 R w' t d s n E'/\KeptT R t w w':=by
 obtain⟨a1,a2,a3,a4,a5,a6,a7⟩:=h.box (.cells #[.func (.func 60) #[] caps] 59);obtain⟨x1,hx1⟩:∃ x1,w.alloc (.cells #[.func (.func 60) #[] caps] 59)=x1:=⟨_,rfl⟩
 rw[hx1] at a1 a2 a3 a5;obtain⟨b1,b2,b3,b4,b5,b6,b7⟩:=a1.box (.cells #[.int .i64 0] 3);obtain⟨x2,hx2⟩:∃ x2,x1.alloc (.cells #[.int .i64 0] 3)=x2:=⟨_,rfl⟩
 rw[hx2] at b1 b2 b3 b5;rw[a5] at b1 b3 b4 b5 b6 b7;have hbk:=(b2 w.heap.size (by simp) a4).trans a3;have HK:=HC ((w.heap.size+1)::w.heap.size::R) x2 (fun k hk=>by simp[hk]) b1 (a2.trans (b2.sub (fun k hk=>by simp[hk])));have V1:=Hd (OG b1 (UY b1 hbk b3 (by simp) b4 b6 HK));have KP:=Hd (And.intro a2 (And.intro b2 (And.intro a7 b7)));have HE:=Hd he;have X1:=Hd hx1;have X2:=Hd hx2;clear h he HC a1 a2 a3 a4 a6 a7 b1 b2 b3 b4 b5 b6 b7 hbk HK hx1 hx2;have A5:=Hd a5;clear a5;go_enter Tryz.func23,Tryz.ntmps23;go_upto_region 2 with fail
 try simp only[Nat.add_assoc,Nat.reduceAdd,World.heap_size_alloc]
 rw[X1.o,X2.o];go_wp2_with fail;refine V1.mono ?_;rintro e' w4 ⟨rfl,h1,h2,h3⟩;have c2:=(aD h2).1;have FIN:Hid (TxS w0 R w4 t d s n E'/\KeptT R t w w4):=Hd ⟨h1.sub (fun k hk=>by simp[hk]),fun k hk hn=>(h3 k (by simp[hk]) hn (KP.2.2.2 k (by simp[hk]))).trans ((KP.2.1 k (by simp[hk]) hn).trans (KP.1 k hk hn))⟩;clear h1 h2 h3 V1
 rcases HE.o with⟨rfl,rfl⟩|⟨hne,rfl⟩
 ·go_wp2_with fail
  go_ret2;exact⟨rfl,FIN.o⟩
 ·have hn1:(e==0)=false:=by simpa using hne
  have hn2:(e != 0)=true:=by simp[hne]
  clear hne;go_wp2_with fail;go_ret2;exact⟨rfl,FIN.o⟩
theorem kQ (k a b q:Int)(w:World)(hq:aH k a b=q) :
  Calls Tryz.prog 50 #[.int .i64 k,.int .i64 a,.int .i64 b] w fun e w'=>e=.returned (.int .u64 q)/\w=w':=by
 have HQ:=Hd hq;clear hq;go_enter Tryz.func50,Tryz.ntmps50;go_wp2_with fail;refine(pP _ _ _ _).mono ?_;rw[HQ.o];rintro e w1 ⟨rfl,rfl⟩;go_wp2_with fail;go_ret;exact⟨rfl,rfl⟩
def ClkE (E:List Ent)(now:Int):Prop:=(eG 10376293541461622788 E=false/\now=0)\/(eG 10376293541461622788 E=true/\jH 10376293541461622788 E=Str (aK now 4)/\0<=now/\now<=268435455)
theorem ClkE.range {E:List Ent}{now:Int}(h:ClkE E now):0<=now/\now<=268435455:=by
 rcases h with⟨_,rfl⟩|⟨_,_,h⟩
 ·decide
 ·exact h
theorem ClkE.ins (E:List Ent){now:Int}(h0:0<=now)(h1:now<=268435455):ClkE (aZ 10376293541461622788 (Str (aK now 4)) E) now:=by
 refine .inr ⟨?_,?_,h0,h1⟩
 ·unfold eG;rw[tR,if_pos rfl];rfl
 ·unfold jH;rw[tR,if_pos rfl]
theorem MQ {now:Int}(h0:0<=now)(h1:now<=268435455):aT (Str (aK now 4)) 4=now/\aA (Str (aK now 4)) 4=⟨#[]⟩/\dF (Str (aK now 4)) 4=0/\(Str (aK now 4)).size=4:=by
 have hp:cV now 4=true:=by
  obtain⟨m,rfl⟩:=Int.eq_ofNat_of_zero_le h0;exact(fG m 4).2 ⟨by decide,by decide,by show m<4294967296;omega⟩
 have h2:=mF (n:=now) (k:=4) ⟨#[]⟩ h0 hp;rw[fN] at h2;have h3:=cW hp;refine⟨h2.1,h2.2,?_,by omega⟩;have hk:dD (Str (aK now 4)) 4=true:=by unfold dD;simp;omega
 unfold dF;rw[if_pos hk]
theorem DI {w0 w:World}{R:List Nat}{t d s n:Nat}{E:List Ent}{b:Nat}(h:TxS w0 R w t d s n E)(hb:w.heap[b]?=some (.cells #[.pointer (some ⟨t,0,none⟩)] 24))(hbR:b∈R)(hbt:b≠t)(hE:E.length<=600)(hg:eG 10376293541461622788 E=false) :
  Calls Tryz.prog 57 #[.pointer (some ⟨b,0,none⟩)] w fun e w'=>e=.returned (.tuple #[.int .i64 0,.int .i64 0])/\TxS w0 R w' t d s n E/\KeptT R t w w':=by
 have GE:=Hd (wJ (key:=10376293541461622788) (h.below Br.drew) hE (by decide) ⟨#[]⟩ false (by unfold jH eG at *;revert hg;cases eU 10376293541461622788 E <;> simp) hg);clear hg;have HB:=Hd (And.intro (show w.drew.heap[b]?=some (.cells #[.pointer (some ⟨t,0,none⟩)] 24) from hb) (And.intro hbR hbt));clear h hb hbR hbt hE;go_enter Tryz.func57,Tryz.ntmps57;go_upto_region 1 with fail
 refine wp_region_held_drew (S:=fun w'=>w'.heap[b]?=some (.cells #[.pointer (some ⟨t,0,none⟩)] 24)) (by kernel_rfl) HB.1 (fun hS=>?_);refine Hv 0 9 ?va0x1 hS ?ha0x1 ?_
 case ha0x1=>
  intro w9 s9;have k9:=(aD s9).1;clear s9;go_simp;try (with_reducible rfl)
 simp only[SL];refine Hs 1 (fun K HK=>?_);go_simp;go_wp2_with fail;refine(kQ 9 0 4 10376293541461622788 _ (by decide)).mono ?_;rintro e w6 ⟨rfl,rfl⟩;refine HK _ _ ?_ ?_
 ·exact hS
 clear HK K;try simp only[Act.put,SL]
 refine Hs 2 (fun K HK=>?_);go_simp;go_wp2_with fail;refine GE.mono ?_;rintro e w7 ⟨rfl,h1,h2⟩;refine HK _ _ ?_ ?_
 ·exact(h2 b HB.2.1 HB.2.2).trans hS
 clear HK K;try simp only[Act.put,SL]
 have hS9:=(h2 b HB.2.1 HB.2.2).trans hS;clear hS;have hS:=hS9;clear hS9;have FIN:=Hd (And.intro h1 (show KeptT R t w w7 from h2));clear h1 h2 GE;refine Hu 3 8 hS ?_;simp only[SL];refine Hu 4 12 hS ?_;simp only[SL];refine Hu 5 13 hS ?_;simp only[SL];refine Hu 6 3 hS ?_;simp only[SL];refine Hu 7 4 hS ?_;simp only[SL];refine wpAnyH_done (by kernel_rfl) ?_ _;clear hS;go_wp2_with fail;go_ret2;exact⟨rfl,FIN.o⟩
theorem DH {w0 w:World}{R:List Nat}{t d s n:Nat}{E:List Ent}{b:Nat}(h:TxS w0 R w t d s n E)(hb:w.heap[b]?=some (.cells #[.pointer (some ⟨t,0,none⟩)] 24))(hbR:b∈R)(hbt:b≠t)(hE:E.length<=600){now:Int}(hg:eG 10376293541461622788 E=true)(hv:jH 10376293541461622788 E=Str (aK now 4))(h0:0<=now)(h1:now<=268435455) :
  Calls Tryz.prog 57 #[.pointer (some ⟨b,0,none⟩)] w fun e w'=>e=.returned (.tuple #[.int .i64 now,.int .i64 0])/\TxS w0 R w' t d s n E/\KeptT R t w w':=by
 obtain⟨q1,q2,q3,q4⟩:=MQ h0 h1;obtain⟨X,hX⟩:∃ X,Str (aK now 4)=X:=⟨_,rfl⟩
 rw[hX] at q1 q2 q3 hv;have TA:=Hd (fun w=>by have:=lY X 4 w;rw[q1,q2,q3] at this;exact this);have GE:=Hd (wJ (key:=10376293541461622788) (h.below Br.drew) hE (by decide) X true hv hg);have hn1:¬ (268435455:Int)<now:=by omega
 have hw1:IntKind.i64.wrap now=now:=IntWalk.i64_in _ (by omega);clear hg hv h0 h1 q1 q2 q3 q4 hX;have HB:=Hd (And.intro (show w.drew.heap[b]?=some (.cells #[.pointer (some ⟨t,0,none⟩)] 24) from hb) (And.intro hbR hbt));clear h hb hbR hbt hE;go_enter Tryz.func57,Tryz.ntmps57;go_upto_region 1 with fail
 refine wp_region_held_drew (S:=fun w'=>w'.heap[b]?=some (.cells #[.pointer (some ⟨t,0,none⟩)] 24)) (by kernel_rfl) HB.1 (fun hS=>?_);refine Hv 0 9 ?va0x1 hS ?ha0x1 ?_
 case ha0x1=>
  intro w9 s9;have k9:=(aD s9).1;clear s9;go_simp;try (with_reducible rfl)
 simp only[SL];refine Hs 1 (fun K HK=>?_);go_simp;go_wp2_with fail;refine(kQ 9 0 4 10376293541461622788 _ (by decide)).mono ?_;rintro e w6 ⟨rfl,rfl⟩;refine HK _ _ ?_ ?_
 ·exact hS
 clear HK K;try simp only[Act.put,SL]
 refine Hs 2 (fun K HK=>?_);go_simp;go_wp2_with fail;refine GE.mono ?_;rintro e w7 ⟨rfl,h1,h2⟩;refine HK _ _ ?_ ?_
 ·exact(h2 b HB.2.1 HB.2.2).trans hS
 clear HK K;try simp only[Act.put,SL]
 have hS9:=(h2 b HB.2.1 HB.2.2).trans hS;clear hS;have hS:=hS9;clear hS9;have FIN:=Hd (And.intro h1 (show KeptT R t w w7 from h2));clear h1 h2 GE;refine Hu 3 8 hS ?_;simp only[SL];refine Hu 4 12 hS ?_;simp only[SL];refine Hu 5 13 hS ?_;simp only[SL];refine Hu 6 3 hS ?_;simp only[SL];refine Hu 7 4 hS ?_;simp only[SL];refine wpAnyH_done (by kernel_rfl) ?_ _;clear hS;go_wp2_with fail;refine(TA _).mono ?_;rintro e w8 ⟨rfl,b8⟩;have F8:=Hd (And.intro (FIN.1.below b8) (FIN.2.trans (FIN.1.kept b8)));clear b8 FIN;go_wp2_with fail;go_ret2;exact⟨rfl,F8.o⟩
theorem uH {w0 w:World}{R:List Nat}{t d s n:Nat}{E:List Ent}{now:Int}(h:TxS w0 R w t d s n E)(hE:E.length<=600)(hc:ClkE E now) :
  Calls Tryz.prog 18 #[.pointer (some ⟨t,0,none⟩)] w fun e w'=>e=.returned (.tuple #[.int .i64 now,.int .i64 0])/\TxS w0 R w' t d s n E/\KeptT R t w w':=by
 obtain⟨a1,a2,a3,a4,a5,a6,a7⟩:=h.box (.cells #[.pointer (some ⟨t,0,none⟩)] 24);obtain⟨x1,hx1⟩:∃ x1,w.alloc (.cells #[.pointer (some ⟨t,0,none⟩)] 24)=x1:=⟨_,rfl⟩
 rw[hx1] at a1 a2 a3 a5
 have VC:=Hd (TR (x:=now) (e:=0) (y:=now) a1 (.inl ⟨rfl,rfl⟩) (caps:=#[.pointer (some ⟨w.heap.size,0,none⟩)]) (E':=E) (fun R' wa hs hT hK=>by
  have hb:=(hK w.heap.size (by simp) a4).trans a3;have hm:=hs w.heap.size (by simp)
  rcases hc with⟨g1,rfl⟩|⟨g1,g2,g3,g4⟩
  ·exact DI hT hb hm a4 hE g1
  ·exact DH hT hb hm a4 hE g1 g2 g3 g4))
 have KP:=Hd a2;have X1:=Hd hx1;have bx:=(aD a3).1;clear h hE hc a1 a2 a3 a4 a5 a6 a7 hx1;go_enter Tryz.func18,Tryz.ntmps18;go_upto_region 1 with fail
 rw[X1.o];go_wp2_with fail;refine VC.mono ?_;rintro e w2 ⟨rfl,h1,h2⟩;have FIN:Hid (TxS w0 R w2 t d s n E/\KeptT R t w w2):=Hd ⟨h1.sub (fun k hk=>by simp[hk]),KP.trans (h2.sub (fun k hk=>by simp[hk]))⟩;clear h1 h2 VC bx;go_wp2_with fail;go_ret2;exact⟨rfl,FIN.o⟩
theorem OI {w0 w:World}{R:List Nat}{t d s:Nat}{E:List Ent}{bn bt:Nat}{a:Int}{now:Int}(h:TxS w0 R w t d s 640 E)(hn:w.heap[bn]?=some (.cells #[.int .i64 a] 3))(hb:w.heap[bt]?=some (.cells #[.pointer (some ⟨t,0,none⟩)] 24))(hm:(bn∈R/\bn≠t)/\(bt∈R/\bt≠t))(hE:E.length<=300)(hc:ClkE E now)(ha:0<=a)(hf:268435455-now<a) :
  Calls Tryz.prog 60 #[.pointer (some ⟨bn,0,none⟩),.pointer (some ⟨bt,0,none⟩)] w fun e w'=>e=.returned (.tuple #[.int .i64 0,.int .i64 12])/\TxS w0 R w' t d s 640 E/\KeptT R t w w':=by
 have c0:=(aD hn).1;have c1:=(aD hb).1;have hr:=hc.range;have hw:IntKind.i64.wrap (268435455-now)=268435455-now:=IntWalk.i64_in _ (by omega);have ha':¬ a<0:=by omega
 have CL:=Hd (uH h (by omega) hc);have HX:=Hd (And.intro hn (And.intro hb hm));clear h hn hb hm hE hc hr ha;go_enter Tryz.func60,Tryz.ntmps60;go_wp2_with fail;refine CL.mono ?_;rintro e w1 ⟨rfl,h1,h2⟩;have d0:=(aD ((h2 bn HX.2.2.1.1 HX.2.2.1.2).trans HX.1)).1;have FIN:=Hd (And.intro h1 h2);clear h1 h2 c0 c1 CL;go_wp2_with fail;go_ret2;exact⟨rfl,FIN.o⟩
theorem OH {w0 w:World}{R:List Nat}{t d s:Nat}{E:List Ent}{bn bt:Nat}{a:Int}{now m:Int}(h:TxS w0 R w t d s 640 E)(hn:w.heap[bn]?=some (.cells #[.int .i64 a] 3))(hb:w.heap[bt]?=some (.cells #[.pointer (some ⟨t,0,none⟩)] 24))(hm:(bn∈R/\bn≠t)/\(bt∈R/\bt≠t))(hE:E.length<=300)(hc:ClkE E now)(ha:0<=a)(hf:a<=268435455-now)(hsm:now+a=m) :
  Calls Tryz.prog 60 #[.pointer (some ⟨bn,0,none⟩),.pointer (some ⟨bt,0,none⟩)] w fun e w'=>e=.returned (.tuple #[.int .i64 m,.int .i64 0])/\TxS w0 R w' t d s 640 (aZ 10376293541461622788 (Str (aK m 4)) E)/\KeptT R t w w':=by
 have c0:=(aD hn).1;have c1:=(aD hb).1;have hr:=hc.range;have hw:IntKind.i64.wrap (268435455-now)=268435455-now:=IntWalk.i64_in _ (by omega);have hw2:IntKind.i64.wrap (now+a)=m:=by rw[hsm];exact IntWalk.i64_in _ (by omega)
 have hw3:IntKind.u64.wrap m=m:=IntWalk.u64_in _ (by omega);have ha':¬ a<0:=by omega
 have hf':¬ 268435455-now<a:=by omega
 have HM:Hid (0<=m/\m<=268435455):=Hd (by omega);have CL:=Hd (uH h (by omega) hc);have HX:=Hd (And.intro hn (And.intro hb hm));obtain⟨Y,hY⟩:∃ Y,Str (aK m 4)=Y:=⟨_,rfl⟩
 have PT:=Hd (fun w=>by have:=lD m 4 w HM.1;rw[hY] at this;exact this);have HY:Hid (Y.size<=40):=Hd (by rw[<-hY];have:=(MQ HM.1 HM.2).2.2.2;omega);have HE:=Hd hE;rw[hY];clear h hn hb hm hE hc hr ha hf hsm hY;go_enter Tryz.func60,Tryz.ntmps60;go_wp2_with fail;refine CL.mono ?_;rintro e w1 ⟨rfl,h1,h2⟩;have d0:=(aD ((h2 bn HX.2.2.1.1 HX.2.2.1.2).trans HX.1)).1;have FIN:=Hd (And.intro h1 h2);clear h1 h2 c0 c1 CL;go_wp2_with fail;refine(PT _).mono ?_;rintro e w3 ⟨rfl,b3⟩
 have F3:=Hd (And.intro (FIN.1.below b3) (FIN.2.trans (FIN.1.kept b3)));clear b3 FIN d0;have PU:=Hd (pF (key:=10376293541461622788) (val:=Y) (F3.1.below Br.drew) HE (by decide) HY.o);have HB:Hid (w3.drew.heap[bt]?=some (.cells #[.pointer (some ⟨t,0,none⟩)] 24)):=Hd ((F3.2 bt HX.2.2.2.1 HX.2.2.2.2).trans HX.2.1);go_upto_region 10 with fail
 refine wp_region_held_drew (S:=fun w'=>w'.heap[bt]?=some (.cells #[.pointer (some ⟨t,0,none⟩)] 24)) (by kernel_rfl) HB (fun hS=>?_);refine Hv 0 31 ?va0x1 hS ?ha0x1 ?_
 case ha0x1=>
  intro w9 s9;have k9:=(aD s9).1;clear s9;go_simp;try (with_reducible rfl)
 simp only[SL];refine Hu 2 33 hS ?_;simp only[SL];refine Hs 1 (fun K HK=>?_);go_simp;go_wp2_with fail;refine(kQ 9 0 4 10376293541461622788 _ (by decide)).mono ?_;rintro e w6 ⟨rfl,rfl⟩;refine HK _ _ ?_ ?_
 ·exact hS
 clear HK K;try simp only[Act.put,SL]
 refine Hs 3 (fun K HK=>?_);go_simp;go_wp2_with fail;refine PU.mono ?_;rintro e w7 ⟨rfl,h1,h2⟩;refine HK _ _ ?_ ?_
 ·exact(h2 bt HX.2.2.2.1 HX.2.2.2.2).trans hS
 clear HK K;try simp only[Act.put,SL]
 have FIN:=Hd (And.intro h1 (F3.2.trans (show KeptT R t w3 w7 from h2)));clear h1 h2 PU;refine wpAnyH_done (by kernel_rfl) ?_ _;clear hS;go_wp2_with fail;go_ret2;exact⟨rfl,FIN.o⟩
theorem VD {w0 w:World}{R:List Nat}{t d s:Nat}{E:List Ent}{a now m:Int}(h:TxS w0 R w t d s 640 E)(hE:E.length<=300)(hc:ClkE E now)(ha:0<=a)(hf:268435455-now<a) :
  Calls Tryz.prog 19 #[.pointer (some ⟨t,0,none⟩),.int .i64 a] w fun e w'=>e=.returned (.tuple #[.int .i64 0,.int .i64 12])/\TxS w0 R w' t d s 640 (E)/\KeptT R t w w':=by
 obtain⟨a1,a2,a3,a4,a5,a6,a7⟩:=h.box (.cells #[.pointer (some ⟨t,0,none⟩)] 24);obtain⟨x1,hx1⟩:∃ x1,w.alloc (.cells #[.pointer (some ⟨t,0,none⟩)] 24)=x1:=⟨_,rfl⟩
 rw[hx1] at a1 a2 a3 a5;obtain⟨b1,b2,b3,b4,b5,b6,b7⟩:=a1.box (.cells #[.int .i64 a] 3);obtain⟨x2,hx2⟩:∃ x2,x1.alloc (.cells #[.int .i64 a] 3)=x2:=⟨_,rfl⟩
 rw[hx2] at b1 b2 b3 b5;rw[a5] at b1 b3 b4 b5 b6 b7;have hbk:=(b2 w.heap.size (by simp) a4).trans a3
 have VC:=Hd (vD (x:=0) (e:=12) (y:=0) b1 (by first|exact .inl ⟨rfl,rfl⟩|exact .inr ⟨by decide,rfl⟩) (caps:=#[.pointer (some ⟨w.heap.size+1,0,none⟩),.pointer (some ⟨w.heap.size,0,none⟩)]) (E':=E) (fun R' wa hs hT hK=>by
  have g1:=(hK (w.heap.size+1) (by simp) b4).trans b3;have g2:=(hK w.heap.size (by simp) a4).trans hbk;exact OI hT g1 g2 ⟨⟨hs _ (by simp),b4⟩,⟨hs _ (by simp),a4⟩⟩ hE hc ha hf))
 have KP:=Hd (a2.trans (b2.sub (fun k hk=>by simp[hk])));have X1:=Hd hx1;have X2:=Hd hx2;have A5:=Hd a5;have bx:=(aD hbk).1;clear h hE hc a1 a2 a3 a4 a5 a6 a7 b1 b2 b3 b4 b5 b6 b7 hx1 hx2 hbk;go_enter Tryz.func19,Tryz.ntmps19;go_upto_region 1 with fail
 try simp only[World.heap_size_alloc]
 rw[X1.o,X2.o];go_wp2_with fail;refine VC.mono ?_;rintro e w2 ⟨rfl,h1,h2⟩;have FIN:Hid (TxS w0 R w2 t d s 640 (E)/\KeptT R t w w2):=Hd ⟨h1.sub (fun k hk=>by simp[hk]),KP.trans (h2.sub (fun k hk=>by simp[hk]))⟩;clear h1 h2 VC bx;go_wp2_with fail;go_ret2;exact⟨rfl,FIN.o⟩
theorem UZ {w0 w:World}{R:List Nat}{t d s:Nat}{E:List Ent}{a now m:Int}(h:TxS w0 R w t d s 640 E)(hE:E.length<=300)(hc:ClkE E now)(ha:0<=a)(hf:a<=268435455-now)(hsm:now+a=m) :
  Calls Tryz.prog 19 #[.pointer (some ⟨t,0,none⟩),.int .i64 a] w fun e w'=>e=.returned (.tuple #[.int .i64 m,.int .i64 0])/\TxS w0 R w' t d s 640 (aZ 10376293541461622788 (Str (aK m 4)) E)/\KeptT R t w w':=by
 obtain⟨a1,a2,a3,a4,a5,a6,a7⟩:=h.box (.cells #[.pointer (some ⟨t,0,none⟩)] 24);obtain⟨x1,hx1⟩:∃ x1,w.alloc (.cells #[.pointer (some ⟨t,0,none⟩)] 24)=x1:=⟨_,rfl⟩
 rw[hx1] at a1 a2 a3 a5;obtain⟨b1,b2,b3,b4,b5,b6,b7⟩:=a1.box (.cells #[.int .i64 a] 3);obtain⟨x2,hx2⟩:∃ x2,x1.alloc (.cells #[.int .i64 a] 3)=x2:=⟨_,rfl⟩
 rw[hx2] at b1 b2 b3 b5;rw[a5] at b1 b3 b4 b5 b6 b7;have hbk:=(b2 w.heap.size (by simp) a4).trans a3
 have VC:=Hd (vD (x:=m) (e:=0) (y:=m) b1 (by first|exact .inl ⟨rfl,rfl⟩|exact .inr ⟨by decide,rfl⟩) (caps:=#[.pointer (some ⟨w.heap.size+1,0,none⟩),.pointer (some ⟨w.heap.size,0,none⟩)]) (E':=aZ 10376293541461622788 (Str (aK m 4)) E) (fun R' wa hs hT hK=>by
  have g1:=(hK (w.heap.size+1) (by simp) b4).trans b3;have g2:=(hK w.heap.size (by simp) a4).trans hbk;exact OH hT g1 g2 ⟨⟨hs _ (by simp),b4⟩,⟨hs _ (by simp),a4⟩⟩ hE hc ha hf hsm))
 have KP:=Hd (a2.trans (b2.sub (fun k hk=>by simp[hk])));have X1:=Hd hx1;have X2:=Hd hx2;have A5:=Hd a5;have bx:=(aD hbk).1;clear h hE hc a1 a2 a3 a4 a5 a6 a7 b1 b2 b3 b4 b5 b6 b7 hx1 hx2 hbk;go_enter Tryz.func19,Tryz.ntmps19;go_upto_region 1 with fail
 try simp only[World.heap_size_alloc]
 rw[X1.o,X2.o];go_wp2_with fail;refine VC.mono ?_;rintro e w2 ⟨rfl,h1,h2⟩;have FIN:Hid (TxS w0 R w2 t d s 640 (aZ 10376293541461622788 (Str (aK m 4)) E)/\KeptT R t w w2):=Hd ⟨h1.sub (fun k hk=>by simp[hk]),KP.trans (h2.sub (fun k hk=>by simp[hk]))⟩;clear h1 h2 VC bx;go_wp2_with fail;go_ret2;exact⟨rfl,FIN.o⟩
theorem aEN (w:World)(t s:Nat)(root:Int)(caps:Array Value)(hc:w.heap[t]?=some (txC s root 0 false))(R:Int->World->Prop)
  (HC:Calls Tryz.prog 113 caps w fun e w'=>∃ c,e=.returned (.int .i64 c)/\R c w'/\∃ root',w'.heap[t]?=some (txC s root' 0 false)) :
  Calls Tryz.prog 86 #[.pointer (some ⟨t,0,none⟩),.func (.func 113) #[] caps] w fun e w'=>∃ c w1,e=.returned (.bool (c==0))/\R c w1/\w1.setCell ⟨t,2,none⟩ (.int .i64 c)=w':=by
 have H:=Hd HC;obtain⟨c0,c1,c2,c3,fz⟩:=eM hc;clear hc HC fz;go_enter Tryz.func86,Tryz.ntmps86;go_wp2_with fail;refine H.mono ?_;rintro e w1 ⟨c,rfl,hR,root',hc1⟩;have FIN:=Hd hR;obtain⟨d0,d1,d2,d3,g⟩:=eM hc1;have g2:=g 2;obtain⟨w2,hw2⟩:∃ w2,w1.setCell ⟨t,2,none⟩ (.int .i64 c)=w2:=⟨_,rfl⟩
 have e2:w2.cell? ⟨t,2,none⟩=some (.int .i64 c):=by
  unfold txC at hc1;have h9:=hss w1 t 2 _ _ (.int .i64 c) hc1;rw[hw2] at h9;rw[cob h9];rfl
 have HW:=Hd hw2;clear hR hc1 g c0 c1 c2 c3 H;go_upto_region 4 with fail
 try rw[hw2]
 clear hw2 d0 d1 d2 d3 g2;go_wp2_with fail;go_ret;exact⟨c,w1,rfl,FIN.o,HW.o⟩
theorem aCM {w0 w:World}{R:List Nat}{t d s n bt bk bw:Nat}{root key:Int}{E:List Ent}(h:TrR w0 R w d s n root E)(ps:GetS bt bk t s root key w)(hm:bt∈R/\bk∈R/\t∈R)(ht0:w0.heap.size<=t)(hw:w.heap[bw]?=some (.cells #[.bool false] 4)/\bw∈R/\w0.heap.size<=bw/\bw≠t)
  (H0:Nat)(h9:H0<=8)(hE:E.length<2 ^ (H0+1))(hn:2*E.length+2*H0+5<=n)(hk:0<=key/\key<=18446744073709551615)(gb:Bool)(hgb:eG key E=gb) :
  Calls Tryz.prog 113 #[.pointer (some ⟨bt,0,none⟩),.pointer (some ⟨bk,0,none⟩),.pointer (some ⟨bw,0,none⟩)] w fun e w'=>e=.returned (.int .i64 0)/\∃ q,TrR w0 R w' d s n q (kU key E)/\w'.heap[t]?=some (txC s q 0 false)/\w'.heap[bw]?=some (.cells #[.bool gb] 4)/\∀ k∈R,k≠t->k≠bw->w'.heap[k]?=w.heap[k]?:=by
 have PS:=Hd (show GetS bt bk t s root key w.drew from ps);have PT0:=aFT (h.below Br.drew) H0 h9 hE hn key hk;rw[hgb] at PT0;have PT:=Hd PT0;have HM:=Hd hm;have HT0:=Hd ht0;have HB:=Hd hw;clear h ps h9 hE hn hk ht0 hw hgb PT0;go_enter Tryz.func113,Tryz.ntmps113;go_upto_region 1 with fail
 refine wp_region_held_drew (S:=fun w'=>GetS bt bk t s root key w') (by kernel_rfl) PS (fun hS=>?_);refine Hv 0 8 ?va0x1 hS ?ha0x1 ?_
 case ha0x1=>
  intro w9 s9;have k9:=(aD s9.1).1;clear s9;go_simp;try (with_reducible rfl)
 simp only[SL];refine Hu 1 9 hS ?_;simp only[SL];refine Hu 2 10 hS ?_;simp only[SL];refine Hv 3 11 ?va3x4 hS ?ha3x4 ?_
 case ha3x4=>
  intro w9 s9;obtain⟨k0,k1,_,_,_⟩:=eM s9.2.2;clear s9;go_simp;try (with_reducible rfl)
 simp only[SL];refine Hv 4 12 ?va4x5 hS ?ha4x5 ?_
 case ha4x5=>
  intro w9 s9;have k9:=(aD s9.1).1;clear s9;go_simp;try (with_reducible rfl)
 simp only[SL];refine Hu 5 13 hS ?_;simp only[SL];refine Hu 6 14 hS ?_;simp only[SL];refine Hv 7 15 ?va7x8 hS ?ha7x8 ?_
 case ha7x8=>
  intro w9 s9;obtain⟨k0,k1,_,_,_⟩:=eM s9.2.2;clear s9;go_simp;try (with_reducible rfl)
 simp only[SL];refine Hv 8 16 ?va8x9 hS ?ha8x9 ?_
 case ha8x9=>
  intro w9 s9;have k9:=(aD s9.2.1).1;clear s9;go_simp;try (with_reducible rfl)
 simp only[SL];refine Hs 9 (fun K HK=>?_);go_simp;go_wp2_with fail;refine PT.mono ?_;rintro e w6 ⟨q,rfl,hT,hK⟩;refine HK _ _ ?_ ?_
 ·exact hS.kept hm hK
 clear HK K;try simp only[Act.put,SL]
 have hS':=hS.kept hm hK;clear hS;have hS:=hS';clear hS';refine Hu 10 7 hS ?_;simp only[SL];refine Hu 11 18 hS ?_;simp only[SL];refine Hu 12 19 hS ?_;simp only[SL];refine Hu 13 20 hS ?_;simp only[SL];refine Hu 14 4 hS ?_;simp only[SL];refine Hu 15 5 hS ?_;simp only[SL];refine Hu 16 6 hS ?_;simp only[SL];refine wpAnyH_done (by kernel_rfl) ?_ _;have bx:=(aD hS.1).1;obtain⟨d0,d1,d2,d3,g⟩:=eM hS.2.2;have g1:=g 1;have V0:=(hK bw HB.2.1).trans HB.1;obtain⟨u0,u1⟩:=aD V0
 have X0:(w6.setCell ⟨t,1,none⟩ (.int .i64 q)).heap[bw]?=some (.cells #[.bool false] 4):=(Below.heap_setCell _ _ _ _ HB.2.2.2).trans V0;obtain⟨y0,y1⟩:=aD X0;obtain⟨w8,hw8⟩:∃ w8,(w6.setCell ⟨t,1,none⟩ (.int .i64 q)).setCell ⟨bw,0,none⟩ (.bool gb)=w8:=⟨_,rfl⟩
 have FIN:Hid (∃ q,TrR w0 R w8 d s n q (kU key E)/\w8.heap[t]?=some (txC s q 0 false)/\w8.heap[bw]?=some (.cells #[.bool gb] 4)/\∀ k∈R,k≠t->k≠bw->w8.heap[k]?=w.heap[k]?):=Hd (by
  obtain⟨w7,hw7⟩:∃ w7,w6.setCell ⟨t,1,none⟩ (.int .i64 q)=w7:=⟨_,rfl⟩
  rw[hw7] at hw8 X0;have f7:Frm (fun k=>k=t) w6 w7:=by rw[<-hw7];exact fC _
  have f8:Frm (fun k=>k=bw) w7 w8:=by rw[<-hw8];exact fC _
  have h7:=hT.turn HM.2.2 HT0 f7;refine⟨q,h7.turn HB.2.1 HB.2.2.1 f8,?_,?_,fun k hk h1 h2=>(f8.block k (h7.lt k hk) h2).trans ((f7.block k (hT.lt k hk) h1).trans (hK k hk))⟩
  ·rw[f8.block t (h7.lt t HM.2.2) (Ne.symm HB.2.2.2)]
   have h1:=hS.2.2;unfold txC at h1 |-;rw[<-hw7,hss _ _ 1 _ _ _ h1]
   rfl
  ·rw[<-hw8,hss _ _ 0 _ _ _ X0]
   rfl)
 have HW:=Hd hw8;clear hS hT hK g hm V0 X0 hw8;go_upto_region 4 with fail
 rw[HW.o];clear bx d0 d1 d2 d3 g1 u0 u1 y0 y1;go_wp2_with fail;go_ret;exact⟨rfl,FIN.o⟩
theorem aET {w0 w:World}{R:List Nat}{t d s n:Nat}{root:Int}{E:List Ent}(h:TrR w0 (t::R) w d s n root E)(o1 o2 o3:Obj)(x3:World)(hx:((w.alloc o1).alloc o2).alloc o3=x3) :
  TrR w0 ((w.heap.size+2)::(w.heap.size+1)::w.heap.size::t::R) x3 d s n root E/\x3.heap[w.heap.size]?=some o1/\x3.heap[w.heap.size+1]?=some o2/\x3.heap[w.heap.size+2]?=some o3/\t<w.heap.size/\(∀ k∈t::R,k<w.heap.size)/\Below w.heap.size w x3:=by
 obtain⟨x1,hx1⟩:∃ x1,w.alloc o1=x1:=⟨_,rfl⟩
 obtain⟨x2,hx2⟩:∃ x2,x1.alloc o2=x2:=⟨_,rfl⟩
 rw[hx1,hx2] at hx;have z1:x1.heap.size=w.heap.size+1:=by rw[<-hx1];simp
 have z2:x2.heap.size=w.heap.size+2:=by rw[<-hx2];simp[z1]
 have z3:x3.heap.size=w.heap.size+3:=by rw[<-hx];simp[z2]
 have b1:Below w.heap.size w x1:=by rw[<-hx1];exact aB _ _
 have b2:Below x1.heap.size x1 x2:=by rw[<-hx2];exact aB _ _
 have b3:Below x2.heap.size x2 x3:=by rw[<-hx];exact aB _ _
 have m1:x1.heap[w.heap.size]?=some o1:=by rw[<-hx1];exact han w _
 have m2:x2.heap[w.heap.size+1]?=some o2:=by rw[<-hx2,<-z1];exact han x1 _
 have m3:x3.heap[w.heap.size+2]?=some o3:=by rw[<-hx,<-z2];exact han x2 _
 have hlt:=h.lt;have bw:Below w.heap.size w x3:=(b1.trans (b2.mono (by omega))).trans (b3.mono (by omega))
 exact⟨((h.more b1 w.heap.size (Nat.le_refl _) (by omega)).more b2 (w.heap.size+1) (by omega) (by omega)).more b3 (w.heap.size+2) (by omega) (by omega),
  (b3.block _ (by omega)).trans ((b2.block _ (by omega)).trans m1),(b3.block _ (by omega)).trans m2,m3,hlt t (by simp),hlt,bw⟩
theorem aFR {w0 w:World}{R:List Nat}{t d s n:Nat}{root key:Int}{E:List Ent}(h:TrR w0 (t::R) w d s n root E)(ht:w.heap[t]?=some (txC s root 0 false))(ht0:w0.heap.size<=t)
  (H0:Nat)(h9:H0<=8)(hE:E.length<2 ^ (H0+1))(hn:2*E.length+2*H0+5<=n)(hk:0<=key/\key<=18446744073709551615)(gb:Bool)(hgb:eG key E=gb) :
  Calls Tryz.prog 84 #[.pointer (some ⟨t,0,none⟩),.int .u64 key] w fun e w'=>e=.returned (.bool gb)/\∃ q,TrR w0 (t::R) w' d s n q (kU key E)/\w'.heap[t]?=some (txC s q 0 false)/\∀ k∈R,k≠t->w'.heap[k]?=w.heap[k]?:=by
 obtain⟨x3,hx3⟩:∃ x3,((w.alloc (.cells #[.pointer (some ⟨t,0,none⟩)] 24)).alloc (.cells #[.int .u64 key] 82)).alloc (.cells #[.bool false] 4)=x3:=⟨_,rfl⟩
 obtain⟨hT,m1,m2,m3,htl,hlt,bw⟩:=aET h _ _ _ x3 hx3;have ht4:=(bw.block t htl).trans ht;have hs0:=h.size.size
 have DO:=Hd (aEN x3 t s root #[.pointer (some ⟨w.heap.size,0,none⟩),.pointer (some ⟨w.heap.size+1,0,none⟩),.pointer (some ⟨w.heap.size+2,0,none⟩)] ht4
  (fun c w'=>c=0/\∃ q,TrR w0 ((w.heap.size+2)::(w.heap.size+1)::w.heap.size::t::R) w' d s n q (kU key E)/\w'.heap[t]?=some (txC s q 0 false)/\w'.heap[w.heap.size+2]?=some (.cells #[.bool gb] 4)/\∀ k∈((w.heap.size+2)::(w.heap.size+1)::w.heap.size::t::R),k≠t->k≠w.heap.size+2->w'.heap[k]?=x3.heap[k]?)
  ((aCM hT ⟨m1,m2,ht4⟩ (by simp) ht0 ⟨m3,by simp,by omega,by omega⟩ H0 h9 hE hn hk gb hgb).mono fun e w' ⟨h1,q,h2,h3,h4,h5⟩=>⟨0,h1,⟨rfl,q,h2,h3,h4,h5⟩,q,h3⟩))
 have HF:=Hd (And.intro bw (And.intro htl (And.intro hlt ht0)));have bx:=(aD m1).1;have HX:=Hd hx3;clear h ht hT m1 m2 m3 htl hlt ht0 bw hx3 h9 hE hn hk hgb ht4 hs0;go_enter Tryz.func84,Tryz.ntmps84;go_upto_region 2 with fail
 try simp only[Nat.add_assoc,Nat.reduceAdd,World.heap_size_alloc]
 rw[HX.o];go_wp2_with fail;refine DO.mono ?_;rintro e w6 ⟨c,w5,rfl,⟨rfl,q,h1,h2,h3,h4⟩,hw6⟩;have htl:=HF.2.1;obtain⟨g1,g2⟩:=aA0 h2 hw6;have cb:=(aD ((g2.block _ (h1.lt (w.heap.size+2) (by simp)) (by omega)).trans h3)).1
 have FIN:Hid (∃ q,TrR w0 (t::R) w6 d s n q (kU key E)/\w6.heap[t]?=some (txC s q 0 false)/\∀ k∈R,k≠t->w6.heap[k]?=w.heap[k]?):=Hd (by
  refine⟨q,(h1.turn (by simp) HF.2.2.2 g2).sub (fun k hk=>by simp only[List.mem_cons] at hk |-;rcases hk with hk|hk <;> simp[hk]),g1,fun k hk hne=>?_⟩;have hm:k∈((w.heap.size+2)::(w.heap.size+1)::w.heap.size::t::R):=by simp[hk]
  have hkl:=HF.2.2.1 k (by simp[hk]);exact(g2.block k (h1.lt k hm) hne).trans ((h4 k hm hne (by omega)).trans (HF.1.block k hkl)))
 clear h1 h2 h3 h4 hw6 g1 g2 bx htl;go_wp2_with fail;go_ret;exact⟨rfl,FIN.o⟩
theorem aFS {w0 w:World}{R:List Nat}{t d s:Nat}{E:List Ent}{key:Int}(h:TxS w0 R w t d s 640 E)(hE:E.length<=300)(hk:0<=key/\key<=18446744073709551615)(gb:Bool)(hgb:eG key E=gb) :
  Calls Tryz.prog 84 #[.pointer (some ⟨t,0,none⟩),.int .u64 key] w fun e w'=>e=.returned (.bool gb)/\TxS w0 R w' t d s 640 (kU key E)/\KeptT R t w w':=by
 obtain⟨⟨q,h1,h2⟩,h3⟩:=h;refine(aFR h1 h2 h3 8 (by decide) (by omega) (by omega) hk gb hgb).mono ?_;rintro e w' ⟨rfl,q',g1,g2,g3⟩;exact⟨rfl,⟨⟨q',g1,g2⟩,h3⟩,g3⟩
def jN (ex now:Int):Bool:=decide (ex=0) || (decide (0<ex)&&(decide (now<ex)&&decide (ex<=268435455)))
theorem LN (ex now:Int)(v:Bool)(w:World)(hv:jN ex now=v) :
  Calls Tryz.prog 45 #[.int .i64 ex,.int .i64 now] w fun e w'=>e=.returned (.bool v)/\w=w':=by
 have H:=Hd hv;clear hv
 by_cases h0:ex=0 <;> by_cases h1:0<ex <;> by_cases h2:now<ex
 all_goals try (exfalso;omega)
 all_goals
  go_enter Tryz.func45,Tryz.ntmps45;go_wp2_with fail;go_ret;refine⟨?_,rfl⟩;rw[<-H.o];exact aS (by rw[Bool.eq_iff_iff];first|(simp[jN,h0,h1,h2];done)|(simp[jN,h0,h1,h2];omega))
def xV (E:List Ent)(id:Int)(c:aX):List Ent:=if c.ex=0 then E else kU (aH 5 c.ex id) E
theorem CG (E:List Ent)(id:Int)(c:aX):(xV E id c).length<=E.length:=by
 unfold xV
 split
 ·exact Nat.le_refl _
 ·exact ZK _ _
theorem IM {w0 w:World}{R:List Nat}{t d s:Nat}{E:List Ent}{id:Int}{c:aX}(h:TxS w0 R w t d s 640 E)(hE:E.length<=300) :
  Calls Tryz.prog 47 #[.pointer (some ⟨t,0,none⟩),.agg #[.int .i64 id,.int .i64 c.pa,.int .i64 c.ob,.int .i64 c.ow,.int .i64 c.ri,.int .i64 c.ba,.int .i64 c.de,.int .i64 c.ex,.int .i64 c.cu,.bool c.rv]] w fun e w'=>e=.returned (.tuple #[])/\TxS w0 R w' t d s 640 (xV E id c)/\KeptT R t w w':=by
 obtain⟨a1,a2,a3,a4,a5,a6,a7⟩:=h.box (.cells #[.int .i64 id,.int .i64 c.pa,.int .i64 c.ob,.int .i64 c.ow,.int .i64 c.ri,.int .i64 c.ba,.int .i64 c.de,.int .i64 c.ex,.int .i64 c.cu,.bool c.rv] 65);obtain⟨x1,hx1⟩:∃ x1,w.alloc (.cells #[.int .i64 id,.int .i64 c.pa,.int .i64 c.ob,.int .i64 c.ow,.int .i64 c.ri,.int .i64 c.ba,.int .i64 c.de,.int .i64 c.ex,.int .i64 c.cu,.bool c.rv] 65)=x1:=⟨_,rfl⟩
 rw[hx1] at a1 a2 a3 a5;have KY:=Hd (fun w=>kQ 5 c.ex id _ w rfl);have DE:=Hd (aFS (key:=aH 5 c.ex id) a1 hE (cS _ _ _) _ rfl);have FIN0:=Hd (And.intro (a1.sub (R':=R) fun k hk=>by simp[hk]) a2);obtain⟨⟨k0,k1,k2,k3,k4,k5,k6,k7,k8,k9⟩,_⟩:=cM a3;obtain⟨ex,hex⟩:∃ ex,c.ex=ex:=⟨_,rfl⟩
 have HF:Hid (xV E id c=if ex=0 then E else kU (aH 5 ex id) E):=Hd (by rw[<-hex];rfl);have HX:=Hd hx1;rw[hex] at KY DE k7;clear hex h hE a1 a2 a3 a4 a5 a6 a7 hx1
 by_cases h0:ex=0
 ·have h0a:(ex==0)=true:=by simpa using h0
  have h0b:(ex != 0)=false:=by simpa using h0
  have HF2:=Hd (show xV E id c=E by rw[HF.o,if_pos h0]);clear h0;go_enter Tryz.func47,Tryz.ntmps47;go_upto_region 1 with fail
  rw[HX.o];go_wp2_with fail
  go_end0
  exact⟨rfl,by rw[HF2.o];exact FIN0.1,FIN0.2⟩
 ·have h0a:(ex==0)=false:=by simpa using h0
  have h0b:(ex != 0)=true:=by simpa using h0
  have HF2:=Hd (show xV E id c=kU (aH 5 ex id) E by rw[HF.o,if_neg h0]);clear h0;go_enter Tryz.func47,Tryz.ntmps47;go_upto_region 1 with fail
  rw[HX.o];go_wp2_with fail;refine(KY _).mono ?_;rintro e w9 ⟨rfl,rfl⟩;go_wp2_with fail;refine DE.mono ?_;rintro e w3 ⟨rfl,h1,h2⟩;have FIN:Hid (TxS w0 R w3 t d s 640 (xV E id c)/\KeptT R t w w3):=Hd ⟨by rw[HF2.o];exact h1.sub fun k hk=>by simp[hk],FIN0.2.trans (h2.sub (R':=R) fun k hk=>by simp[hk])⟩;clear h1 h2 DE;go_wp2_with fail
  go_end0
  exact⟨rfl,FIN.o⟩
theorem xG {w0 w:World}{R:List Nat}{t d s:Nat}{E:List Ent}{bt bi bn be:Nat}{id now ex x:Int}(h:TxS w0 R w t d s 640 E)(hb:w.heap[bt]?=some (.cells #[.pointer (some ⟨t,0,none⟩)] 24))(hi:w.heap[bi]?=some (.cells #[.int .i64 id] 3))(hn:w.heap[bn]?=some (.cells #[.int .i64 now] 3))(he:w.heap[be]?=some (.cells #[.int .i64 ex] 3))(hx:x≠0)
  (hst:∀ w,TxS w0 R w t d s 640 E->Calls Tryz.prog 14 #[.pointer (some ⟨t,0,none⟩),.int .i64 id,.int .i64 now] w fun e w'=>e=.returned (.int .i64 x)/\TxS w0 R w' t d s 640 E/\KeptT R t w w') :
  Calls Tryz.prog 44 #[.pointer (some ⟨bt,0,none⟩),.pointer (some ⟨bi,0,none⟩),.pointer (some ⟨bn,0,none⟩),.pointer (some ⟨be,0,none⟩)] w fun e w'=>e=.returned (.int .i64 x)/\TxS w0 R w' t d s 640 E/\KeptT R t w w':=by
 have ST:=Hd (hst w h);have c0:=(aD hb).1;have c1:=(aD hi).1;have c2:=(aD hn).1;have c3:=(aD he).1;have x1:(x==0)=false:=by simpa using hx
 have x2:(x != 0)=true:=by simpa using hx
 clear h hb hi hn he hx hst;go_enter Tryz.func44,Tryz.ntmps44;go_wp2_with fail;refine ST.mono ?_;rintro e w2 ⟨rfl,h1⟩;have FIN:=Hd h1;clear h1 ST c0 c1 c2 c3;go_wp2_with fail;go_ret;exact⟨rfl,FIN.o⟩
theorem GJ {w0 w:World}{R:List Nat}{t d s:Nat}{E:List Ent}{bt bi bn be:Nat}{id now ex:Int}(h:TxS w0 R w t d s 640 E)(hb:w.heap[bt]?=some (.cells #[.pointer (some ⟨t,0,none⟩)] 24))(hi:w.heap[bi]?=some (.cells #[.int .i64 id] 3))(hn:w.heap[bn]?=some (.cells #[.int .i64 now] 3))(he:w.heap[be]?=some (.cells #[.int .i64 ex] 3))(hm:(bt∈R/\bt≠t/\w0.heap.size<=bt)/\(bi∈R/\bi≠t/\w0.heap.size<=bi)/\(bn∈R/\bn≠t/\w0.heap.size<=bn)/\(be∈R/\be≠t/\w0.heap.size<=be))(hmay:jN ex now=false)
  (hst:∀ w,TxS w0 R w t d s 640 E->Calls Tryz.prog 14 #[.pointer (some ⟨t,0,none⟩),.int .i64 id,.int .i64 now] w fun e w'=>e=.returned (.int .i64 0)/\TxS w0 R w' t d s 640 E/\KeptT R t w w') :
  Calls Tryz.prog 44 #[.pointer (some ⟨bt,0,none⟩),.pointer (some ⟨bi,0,none⟩),.pointer (some ⟨bn,0,none⟩),.pointer (some ⟨be,0,none⟩)] w fun e w'=>e=.returned (.int .i64 1)/\TxS w0 R w' t d s 640 E/\KeptT R t w w':=by
 have ST:=Hd (hst w h);have MY:=Hd (fun w=>LN ex now false w hmay);have c0:=(aD hb).1;have c1:=(aD hi).1;have c2:=(aD hn).1;have c3:=(aD he).1;have HB:=Hd (And.intro hn (And.intro he hm));clear h hb hi hn he hm hst hmay;go_enter Tryz.func44,Tryz.ntmps44;go_wp2_with fail;refine ST.mono ?_;rintro e w2 ⟨rfl,h1,h2⟩;clear c0 c1 c2 c3;have c2:=(aD ((h2 bn HB.2.2.2.2.1.1 HB.2.2.2.2.1.2.1).trans HB.1)).1;have c3:=(aD ((h2 be HB.2.2.2.2.2.1 HB.2.2.2.2.2.2.1).trans HB.2.1)).1;have FIN:=Hd (And.intro h1 h2);clear h1 h2 ST
 go_wp2_with fail;refine(MY _).mono ?_;rintro e w3 ⟨rfl,rfl⟩;clear c2 c3;go_wp2_with fail;go_ret;exact⟨rfl,FIN.o⟩
def uW (c:aX)(ex:Int):aX:=⟨c.pa,c.ob,c.ow,c.ri,c.ba,c.de,ex,c.cu,c.rv⟩
def QF (E:List Ent)(id:Int)(c:aX)(ex:Int):List Ent:=(fun E2=>if ex=0 then E2 else aZ (aH 5 ex id) ⟨#[]⟩ E2) (aZ (aH 1 0 id) (dV (uW c ex)) (xV E id c))
theorem QE {w0 w:World}{R:List Nat}{t d s:Nat}{E:List Ent}{bt bi bn be:Nat}{id now ex:Int}{c:aX}(h:TxS w0 R w t d s 640 E)(hb:w.heap[bt]?=some (.cells #[.pointer (some ⟨t,0,none⟩)] 24))(hi:w.heap[bi]?=some (.cells #[.int .i64 id] 3))(hn:w.heap[bn]?=some (.cells #[.int .i64 now] 3))(he:w.heap[be]?=some (.cells #[.int .i64 ex] 3))(hm:(bt∈R/\bt≠t/\w0.heap.size<=bt)/\(bi∈R/\bi≠t/\w0.heap.size<=bi)/\(bn∈R/\bn≠t/\w0.heap.size<=bn)/\(be∈R/\be≠t/\w0.heap.size<=be))(hE:E.length<=290)(hmay:jN ex now=true)(hg:ED E id c)(hok:fX id (uW c ex))
  (hst:∀ w,TxS w0 R w t d s 640 E->Calls Tryz.prog 14 #[.pointer (some ⟨t,0,none⟩),.int .i64 id,.int .i64 now] w fun e w'=>e=.returned (.int .i64 0)/\TxS w0 R w' t d s 640 E/\KeptT R t w w') :
  Calls Tryz.prog 44 #[.pointer (some ⟨bt,0,none⟩),.pointer (some ⟨bi,0,none⟩),.pointer (some ⟨bn,0,none⟩),.pointer (some ⟨be,0,none⟩)] w fun e w'=>e=.returned (.int .i64 0)/\TxS w0 R w' t d s 640 (QF E id c ex)/\KeptT R t w w':=by
 have ST:=Hd (hst w h);have MY:=Hd (fun w=>LN ex now true w hmay);have PC:=Hd (fun w=>AR id (uW c ex) w hok);have hsz:=wQ hok;have c0:=(aD hb).1;have c1:=(aD hi).1;have c2:=(aD hn).1;have c3:=(aD he).1;have HB:=Hd (And.intro (And.intro hb (And.intro hi (And.intro hn he))) (And.intro hE hm));have HG:=Hd hg;have HE:=Hd hE;have HSZ:=Hd hsz;clear h hb hi hn he hm hst hmay hE hg hok hsz;go_enter Tryz.func44,Tryz.ntmps44;go_wp2_with fail;refine ST.mono ?_;rintro e w2 ⟨rfl,h1,h2⟩;clear c0 c1 c2 c3
 have q0:=(h2 bt HB.2.2.1.1 HB.2.2.1.2.1).trans HB.1.1;have q1:=(h2 bi HB.2.2.2.1.1 HB.2.2.2.1.2.1).trans HB.1.2.1;have q2:=(h2 bn HB.2.2.2.2.1.1 HB.2.2.2.2.1.2.1).trans HB.1.2.2.1;have q3:=(h2 be HB.2.2.2.2.2.1 HB.2.2.2.2.2.2.1).trans HB.1.2.2.2;have c0:=(aD q0).1;have c1:=(aD q1).1;have c2:=(aD q2).1;have c3:=(aD q3).1;have GE:=Hd (qP h1 (show E.length<=600 by have:=HE.o;omega) HG.o);have K2:=Hd h2;have Q2:=Hd (And.intro q0 (And.intro q1 q3));clear h1 h2 ST q0 q1 q2 q3;go_wp2_with fail
 refine(MY _).mono ?_;rintro e w3 ⟨rfl,rfl⟩;go_wp2_with fail;refine GE.mono ?_;rintro e w4 ⟨rfl,h1,h2⟩;obtain⟨a1,a2,a3,a4,a5,a6,a7⟩:=h1.box (.cells #[.int .i64 id,.int .i64 c.pa,.int .i64 c.ob,.int .i64 c.ow,.int .i64 c.ri,.int .i64 c.ba,.int .i64 c.de,.int .i64 c.ex,.int .i64 c.cu,.bool c.rv] 65);obtain⟨bx,hbx⟩:∃ b,w4.heap.size=b:=⟨_,rfl⟩
 obtain⟨x1,hx1⟩:∃ x,w4.alloc (.cells #[.int .i64 id,.int .i64 c.pa,.int .i64 c.ob,.int .i64 c.ow,.int .i64 c.ri,.int .i64 c.ba,.int .i64 c.de,.int .i64 c.ex,.int .i64 c.cu,.bool c.rv] 65)=x:=⟨_,rfl⟩
 rw[hx1] at a1 a2 a3 a5;rw[hbx] at a1 a3 a4 a5 a6 a7;have kk:=h2.trans a2;have q0:=(kk bt HB.2.2.1.1 HB.2.2.1.2.1).trans Q2.1;have q1:=(kk bi HB.2.2.2.1.1 HB.2.2.2.1.2.1).trans Q2.2.1;have q3:=(kk be HB.2.2.2.2.2.1 HB.2.2.2.2.2.2.1).trans Q2.2.2;have FO:=Hd (IM (id:=id) (c:=c) a1 (show E.length<=300 by have:=HE.o;omega));have K4:=Hd (And.intro (K2.trans kk) (And.intro a3 (And.intro a4 (And.intro a6 a7))));have Q4:=Hd (And.intro q0 (And.intro q1 q3));have X1:=Hd (And.intro hx1 hbx);clear c0 c1 c2 c3
 have c0:=(aD q0).1;obtain⟨⟨y0,y1,y2,y3,y4,y5,y6,y7,y8,y9⟩,_⟩:=cM a3;clear h1 h2 kk a1 a2 a3 a4 a5 a6 a7 hx1 hbx GE q0 q1 q3 K2 Q2;go_upto_region 7 with fail
 rw[X1.1,X1.2];go_wp2_with fail;refine FO.mono ?_;rintro e w5 ⟨rfl,h1,h2⟩;have m5:=(h2 bx (by simp) K4.2.2.1).trans K4.2.1;obtain⟨wy,hwy⟩:∃ wy,w5.setCell ⟨bx,7,none⟩ (.int .i64 ex)=wy:=⟨_,rfl⟩
 have f5:Frm (fun k=>k=bx) w5 wy:=by rw[<-hwy];exact(Frm.refl (fun k=>k=bx) w5).setCell _ _ (.inl rfl)
 have m6:wy.heap[bx]?=some (.cells #[.int .i64 id,.int .i64 c.pa,.int .i64 c.ob,.int .i64 c.ow,.int .i64 c.ri,.int .i64 c.ba,.int .i64 c.de,.int .i64 ex,.int .i64 c.cu,.bool c.rv] 65):=by rw[<-hwy,hss _ _ 7 _ _ _ m5];rfl
 have t6:=h1.turn (k:=bx) (by simp) K4.2.2.1 K4.2.2.2.1 f5;have k6:KeptT R t w wy:=fun k hk hn=>(f5.block k (h1.lt.1 k (by simp[hk])) (K4.2.2.2.2 k hk)).trans ((h2 k (by simp[hk]) hn).trans (K4.1 k hk hn))
 have q0:=(h2 bt (by simp[HB.2.2.1.1]) HB.2.2.1.2.1).trans Q4.1;have q1:=(h2 bi (by simp[HB.2.2.2.1.1]) HB.2.2.2.1.2.1).trans Q4.2.1;have q3:=(h2 be (by simp[HB.2.2.2.2.2.1]) HB.2.2.2.2.2.2.1).trans Q4.2.2;have r0:=(f5.block bt (h1.lt.1 bt (by simp[HB.2.2.1.1])) (K4.2.2.2.2 bt HB.2.2.1.1)).trans q0;have r1:=(f5.block bi (h1.lt.1 bi (by simp[HB.2.2.2.1.1])) (K4.2.2.2.2 bi HB.2.2.2.1.1)).trans q1;have r3:=(f5.block be (h1.lt.1 be (by simp[HB.2.2.2.2.2.1])) (K4.2.2.2.2 be HB.2.2.2.2.2.1)).trans q3
 have F6:=Hd (And.intro t6 (And.intro k6 (And.intro m6 (And.intro r0 (And.intro r1 r3)))));have HY:=Hd hwy;clear c0 y0 y1 y2 y3 y4 y5 y6 y7 y8 y9;have c3:=(aD q3).1;obtain⟨⟨y0,y1,y2,y3,y4,y5,y6,y7,y8,y9⟩,f0,f1,f2,f3,f4,f5,f6,f7,f8,f9⟩:=cM m5;clear h1 h2 m5 f5 m6 t6 k6 q0 q1 q3 r0 r1 r3 hwy FO K4 Q4;go_upto_region 11 with fail
 rw[HY.o];clear c3 y0 y1 y2 y3 y4 y5 y6 y7 y8 y9 f0 f1 f2 f3 f4 f5 f6 f7 f8 f9;obtain⟨⟨y0,y1,y2,y3,y4,y5,y6,y7,y8,y9⟩,_⟩:=cM F6.2.2.1;go_wp2_with fail;refine(PC _).mono ?_;rintro e w8 ⟨rfl,b8⟩;have hA:=Hd (show(fun w'=>w'.heap[bt]?=some (.cells #[.pointer (some ⟨t,0,none⟩)] 24)/\w'.heap[bi]?=some (.cells #[.int .i64 id] 3)/\w'.heap[be]?=some (.cells #[.int .i64 ex] 3)) w8.drew from⟨lQ F6.2.2.2.1 b8.drew,lQ F6.2.2.2.2.1 b8.drew,lQ F6.2.2.2.2.2 b8.drew⟩);have t8:=(F6.1.below b8).sub (R':=R) fun k hk=>by simp[hk]
 have PU:=Hd (pF (key:=aH 1 0 id) (val:=dV (uW c ex)) (t8.below Br.drew) (by have:=CG E id c;have:=HE.o;omega) (cS _ _ _) (by have:=HSZ.o;omega));have F8:=Hd (And.intro (t8.below Br.drew) (show KeptT R t w w8.drew from F6.2.1.trans ((F6.1.sub (R':=R) fun k hk=>by simp[hk]).kept b8.drew)));clear b8 t8 F6 y0 y1 y2 y3 y4 y5 y6 y7 y8 y9;go_upto_region 12 with fail
 refine wp_region_held_drew (S:=fun w'=>w'.heap[bt]?=some (.cells #[.pointer (some ⟨t,0,none⟩)] 24)/\w'.heap[bi]?=some (.cells #[.int .i64 id] 3)/\w'.heap[be]?=some (.cells #[.int .i64 ex] 3)) (by kernel_rfl) hA (fun hS=>?_);refine Hv 0 40 ?va0x1 hS ?ha0x1 ?_
 case ha0x1=>
  intro w9 s9;have k9:=(aD s9.1).1;clear s9;go_simp;try (with_reducible rfl)
 simp only[SL];refine Hv 1 41 ?va1x2 hS ?ha1x2 ?_
 case ha1x2=>
  intro w9 s9;have k9:=(aD s9.2.1).1;clear s9;go_simp;try (with_reducible rfl)
 simp only[SL];refine Hu 3 43 hS ?_;simp only[SL];refine Hs 2 (fun K HK=>?_);go_simp;go_wp2_with fail;refine(kQ 1 0 id _ _ rfl).mono ?_;rintro e w6 ⟨rfl,rfl⟩;refine HK _ _ ?_ ?_
 ·exact hS
 clear HK K;try simp only[Act.put,SL]
 refine Hs 4 (fun K HK=>?_);go_simp;go_wp2_with fail;refine PU.mono ?_;rintro e w7 ⟨rfl,h1,h2⟩;refine HK _ _ ?_ ?_
 ·exact⟨(h2 bt HB.2.2.1.1 HB.2.2.1.2.1).trans hS.1,(h2 bi HB.2.2.2.1.1 HB.2.2.2.1.2.1).trans hS.2.1,(h2 be HB.2.2.2.2.2.1 HB.2.2.2.2.2.2.1).trans hS.2.2⟩
 clear HK K;try simp only[Act.put,SL]
 have hS9:=(show(_/\_/\_) from⟨(h2 bt HB.2.2.1.1 HB.2.2.1.2.1).trans hS.1,(h2 bi HB.2.2.2.1.1 HB.2.2.2.1.2.1).trans hS.2.1,(h2 be HB.2.2.2.2.2.1 HB.2.2.2.2.2.2.1).trans hS.2.2⟩)
 clear hS;have hS:=hS9;clear hS9;have F12:=Hd (And.intro h1 (F8.2.trans (show KeptT R t _ w7 from h2)));clear h1 h2 PU F8;refine wpAnyH_done (by kernel_rfl) ?_ _;have cE:=(aD hS.2.2).1;have hA:=Hd (show(fun w'=>w'.heap[bt]?=some (.cells #[.pointer (some ⟨t,0,none⟩)] 24)/\w'.heap[bi]?=some (.cells #[.int .i64 id] 3)/\w'.heap[be]?=some (.cells #[.int .i64 ex] 3)) w7.drew from hS);clear hS
 by_cases hx0:ex=0
 ·have hx1:(ex==0)=true:=by simpa using hx0
  have hx2:(ex != 0)=false:=by simpa using hx0
  have FIN:Hid (TxS w0 R w7 t d s 640 (QF E id c ex)/\KeptT R t w w7):=Hd ⟨by
   have:=F12.1;unfold QF;simp only[if_pos hx0];exact this,F12.2⟩
  clear hx0;go_wp2_with fail;go_ret;exact⟨rfl,FIN.o⟩
 ·have hx1:(ex==0)=false:=by simpa using hx0
  have hx2:(ex != 0)=true:=by simpa using hx0
  have HX0:=Hd hx0;clear hx0;have PU2:=Hd (pF (key:=aH 5 ex id) (val:=⟨#[]⟩) (F12.1.below Br.drew) (by have l1:=bP (aH 1 0 id) (dV (uW c ex)) (xV E id c);have l2:=CG E id c;have:=HE.o;omega) (cS _ _ _) (by decide));have G12:=Hd (And.intro (F12.1.below Br.drew) (show KeptT R t w w7.drew from F12.2));clear F12;go_upto_region 14 with fail
  clear cE;refine wp_region_held_drew (S:=fun w'=>w'.heap[bt]?=some (.cells #[.pointer (some ⟨t,0,none⟩)] 24)/\w'.heap[bi]?=some (.cells #[.int .i64 id] 3)/\w'.heap[be]?=some (.cells #[.int .i64 ex] 3)) (by kernel_rfl) hA (fun hS=>?_);refine Hv 0 47 ?vb0x1 hS ?hb0x1 ?_
  case hb0x1=>
   intro w9 s9;have k9:=(aD s9.1).1;clear s9;go_simp;try (with_reducible rfl)
  simp only[SL];refine Hv 1 48 ?vb1x2 hS ?hb1x2 ?_
  case hb1x2=>
   intro w9 s9;have k9:=(aD s9.2.2).1;clear s9;go_simp;try (with_reducible rfl)
  simp only[SL];refine Hv 2 49 ?vb2x3 hS ?hb2x3 ?_
  case hb2x3=>
   intro w9 s9;have k9:=(aD s9.2.1).1;clear s9;go_simp;try (with_reducible rfl)
  simp only[SL];refine Hs 3 (fun K HK=>?_);go_simp;go_wp2_with fail;refine(kQ 5 ex id _ _ rfl).mono ?_;rintro e w6 ⟨rfl,rfl⟩;refine HK _ _ ?_ ?_
  ·exact hS
  clear HK K;try simp only[Act.put,SL]
  refine Hs 4 (fun K HK=>?_);go_simp;go_wp2_with fail;refine PU2.mono ?_;rintro e w7 ⟨rfl,h1,h2⟩;refine HK _ _ ?_ ?_
  ·exact⟨(h2 bt HB.2.2.1.1 HB.2.2.1.2.1).trans hS.1,(h2 bi HB.2.2.2.1.1 HB.2.2.2.1.2.1).trans hS.2.1,(h2 be HB.2.2.2.2.2.1 HB.2.2.2.2.2.2.1).trans hS.2.2⟩
  clear HK K;try simp only[Act.put,SL]
  have hS9:=(show(_/\_/\_) from⟨(h2 bt HB.2.2.1.1 HB.2.2.1.2.1).trans hS.1,(h2 bi HB.2.2.2.1.1 HB.2.2.2.1.2.1).trans hS.2.1,(h2 be HB.2.2.2.2.2.1 HB.2.2.2.2.2.2.1).trans hS.2.2⟩)
  clear hS;have hS:=hS9;clear hS9;have F14:=Hd (And.intro h1 (G12.2.trans (show KeptT R t _ w7 from h2)));clear h1 h2 PU2 G12;refine wpAnyH_done (by kernel_rfl) ?_ _;clear hS
  have FIN:Hid (TxS w0 R w7 t d s 640 (QF E id c ex)/\KeptT R t w w7):=Hd ⟨by
   have:=F14.1;unfold QF;simp only[if_neg HX0.o];exact this,F14.2⟩
  go_wp2_with fail;go_ret;exact⟨rfl,FIN.o⟩
 
theorem RN {w0 w:World}{R:List Nat}{t d s:Nat}{E:List Ent}{id ex now:Int}{c:aX}{L:List (Int × aX)}(h:TxS w0 R w t d s 640 E)(hE:E.length<=290)(hc:ChainE E id L)(hl:L.length<=9)(hg:ED E id c){x:Int}(hx:stV L now=x) :
  Calls Tryz.prog 15 #[.pointer (some ⟨t,0,none⟩),.int .i64 id,.int .i64 ex,.int .i64 now] w fun e' w'=>(x≠0/\e'=.returned (.int .i64 x)/\TxS w0 R w' t d s 640 E\/x=0/\jN ex now=false/\e'=.returned (.int .i64 1)/\TxS w0 R w' t d s 640 E\/x=0/\jN ex now=true/\e'=.returned (.int .i64 0)/\TxS w0 R w' t d s 640 (QF E id c ex))/\KeptT R t w w':=by
 have hst:∀ (R':List Nat) (w:World),TxS w0 R' w t d s 640 E->Calls Tryz.prog 14 #[.pointer (some ⟨t,0,none⟩),.int .i64 id,.int .i64 now] w fun e w'=>e=.returned (.int .i64 x)/\TxS w0 R' w' t d s 640 E/\KeptT R' t w w':=fun R' w h=>by
  have:=qO (now:=now) h (show E.length<=600 by omega) hc hl;rw[hx] at this;exact this
 by_cases h0:x=0
 ·subst h0
  cases hm:jN ex now with
  | false=>
   refine(xP h fun R' wa b0 b1 b2 b3 hT g0 g1 g2 g3 gm=>GJ hT g0 g1 g3 g2 ⟨gm.1,gm.2.1,gm.2.2.2,gm.2.2.1⟩ hm (fun w=>hst R' w)).mono ?_;rintro e' w' ⟨rfl,h1,h2⟩;exact⟨.inr (.inl ⟨rfl,rfl,rfl,h1⟩),h2⟩
  | true=>
   have hok:fX id (uW c ex):=by
    have h1:=jB.1 hg.2;unfold jN at hm;simp only[Bool.or_eq_true,Bool.and_eq_true,decide_eq_true_eq] at hm;exact jB.2 ⟨h1.id0,h1.pa,h1.np,h1.ob,h1.ow,h1.ri,h1.ba,h1.de,h1.pd,by show 0<=ex/\ex<=268435455;omega,h1.cu⟩
   refine(xP h fun R' wa b0 b1 b2 b3 hT g0 g1 g2 g3 gm=>QE hT g0 g1 g3 g2 ⟨gm.1,gm.2.1,gm.2.2.2,gm.2.2.1⟩ hE hm hg hok (fun w=>hst R' w)).mono ?_;rintro e' w' ⟨rfl,h1,h2⟩;exact⟨.inr (.inr ⟨rfl,rfl,rfl,h1⟩),h2⟩
 ·refine(xP h fun R' wa b0 b1 b2 b3 hT g0 g1 g2 g3 gm=>xG hT g0 g1 g3 g2 h0 (fun w=>hst R' w)).mono ?_
  rintro e' w' ⟨rfl,h1,h2⟩;exact⟨.inl ⟨h0,rfl,h1⟩,h2⟩
theorem wE (w:World) :
  Calls Tryz.prog 8 #[] w fun e w'=>∃ t d s,e=.returned (.pointer (some ⟨t,0,none⟩))/\TxS w [] w' t d s 640 []:=by
 have NY:=Hd fun w=>aBV w 640 (by decide) (by decide)
 have hln:(DkS.fresh 640).S.length=640:=by show(List.replicate 640 zs).length=640;rw[List.length_replicate]
 have FG:=Hd (YX (DkS.fresh 640) rfl rfl (by rw[hln];decide) (by rw[hln];decide));rw[hln] at FG;clear hln;go_enter Tryz.func8,Tryz.ntmps8;go_wp2_with fail;refine(NY _).mono ?_;intro e w1 hm;obtain⟨d,rfl,hd⟩:=aD5 Br hm;clear hm NY;have HD:=Hd hd;clear hd;have pn:=WY ⟨d,0,none⟩;go_wp2_with fail;refine(YU HD FG.1).mono ?_;rintro e w3 ⟨s,rfl,hs⟩;have BG:=Hd (aC6 hs FG.2.1 FG.2.2.1 FG.2.2.2);clear hs HD;have sn:=WX ⟨s,0,none⟩;go_wp2_with fail;refine BG.mono ?_;rintro e w4 ⟨t,rfl,h1,h2,h3⟩
 have FIN:=Hd (show TxS w [] w4 t d s 640 [] from⟨⟨0,h1,h2⟩,h3⟩);clear h1 h2 h3 BG;go_wp2_with fail;go_ret;exact⟨t,d,s,rfl,FIN.o⟩
theorem tZ (w:World) :
  Calls Tryz.prog 7 #[] w fun e w'=>e=.returned (.bool true)/\Below w.heap.size w w':=by
 have MD:=Hd (wE w);have c0:ClkE [] 0:=.inl ⟨by decide,rfl⟩;have c5:ClkE (aZ 10376293541461622788 (Str (aK 5 4)) []) 5:=ClkE.ins [] (by decide) (by decide);have C0:=Hd c0;have C5:=Hd c5;clear c0 c5;go_enter Tryz.func7,Tryz.ntmps7;try simp only[List.append_eq,List.cons_append,List.nil_append]
 go_wp2_with fail;refine MD.mono ?_;rintro e w1 ⟨t,d,s,rfl,h1⟩;have pn:=AT ⟨t,0,none⟩;have CL:=Hd (uH h1 (by simp) C0.o);clear h1 MD;go_wp2_with fail;refine CL.mono ?_;rintro e w2 ⟨rfl,h1,_⟩;have TK:=Hd (UZ (a:=5) (m:=5) h1 (by simp) C0 (by decide) (by decide) (by decide));clear h1 CL;go_wp2_with fail;refine TK.mono ?_;rintro e w3 ⟨rfl,h1,_⟩;have TF:=Hd (VD (a:=268435455) (m:=0) h1 (by have:=bP 10376293541461622788 (Str (aK 5 4)) [];simp at this |-;omega) C5 (by decide) (by decide));clear h1 TK;go_wp2_with fail
 refine TF.mono ?_;rintro e w4 ⟨rfl,h1,_⟩;have FIN:=Hd h1.from;clear h1 TF;go_wp2_with fail;go_ret;exact⟨rfl,FIN.o⟩
theorem YL {w:World}{a:Option Addr}{len cap:Nat}{zs:List Int}(hk:IsInts .i64 w a len cap zs)(j:Nat)(hj:j<len):∃ (x:Addr) (z:Int),a=some x/\zs.getD j 0=z/\(-9223372036854775808<=z/\z<=9223372036854775807)/\Hid (∀ wr,Below w.heap.size w wr->wr.cell? (x.add j)=some (.int .i64 z)):=by
 rcases hk with⟨rfl,rfl,rfl,rfl⟩|⟨x,rfl,h1,h2,h3,h4,h5⟩
 ·omega
 ·have hjl:j<zs.length:=by omega
  refine⟨x,_,rfl,rfl,?_,Hd fun wr hb=>?_⟩
  ·have hm:zs.getD j 0∈zs:=by
    rw[List.getD_eq_getElem?_getD,List.getElem?_eq_getElem hjl];exact List.getElem_mem hjl
   have hw:=h5 _ hm;generalize zs.getD j 0=z at hw |-;simp[Lit.wf] at hw;have e1:IntKind.i64.min=-9223372036854775808:=by rfl
   have e2:IntKind.i64.max=9223372036854775807:=by rfl
   omega
  ·have hc:=h4 j hjl
   have hlt:(x.add j).block<w.heap.size:=by
    unfold World.cell? at hc
    cases hq:w.heap[(x.add j).block]? with
    | none=>rw[hq] at hc;simp at hc
    | some b=>exact(zl hq)
   exact(hb.cell hlt).trans hc
theorem GZ (a:Int)(k:Nat)(hk:0<k):∃ f:Nat,f<k/\((a<0/\-((a+1).tmod (k:Int))=(f:Int))\/(0<=a/\a % (k:Int)=(f:Int))):=by
 by_cases h0:a<0
 ·refine⟨((-(a+1)) % (k:Int)).toNat,?_,.inl ⟨h0,?_⟩⟩
  ·have:=Int.emod_lt_of_pos (-(a+1)) (show(0:Int)<(k:Int) by omega)
   omega
  ·have e:(a+1).tmod (k:Int)=-((-(a+1)).tmod (k:Int)):=by rw[Int.neg_tmod,Int.neg_neg]
   rw[e,Int.tmod_eq_emod_of_nonneg (by omega)];have:=Int.emod_nonneg (-(a+1)) (show(k:Int)≠0 by omega);omega
 ·refine⟨(a % (k:Int)).toNat,?_,.inr ⟨by omega,?_⟩⟩
  ·have:=Int.emod_lt_of_pos a (show(0:Int)<(k:Int) by omega)
   omega
  ·have:=Int.emod_nonneg a (show(k:Int)≠0 by omega)
   omega
theorem rH (a:Int)(v:(Lit.int .i64 a).wf=true):-9223372036854775808<=a/\a<=9223372036854775807:=by
 simp only[Lit.wf,Bool.and_eq_true,decide_eq_true_eq] at v;exact v
def aDO (a:Int)(k m:Nat):Prop:=m<k/\((a<0/\-((a+1).tmod (k:Int))=(m:Int))\/(0<=a/\a % (k:Int)=(m:Int)))
theorem tB (a:Int)(k:Nat)(hk:0<k):∃ m,aDO a k m:=GZ a k hk


section
attribute [local go_sem] Oper.semAt_some
end
