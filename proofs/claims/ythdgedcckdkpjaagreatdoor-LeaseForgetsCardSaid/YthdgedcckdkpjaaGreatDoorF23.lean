import Derived.Test.YthdgedcckdkpjaaGreatDoorF22
namespace Go.Proofs.YthdgedcckdkpjaaGreatDoor
open Go Go.RowKit
set_option maxRecDepth 20000
set_option maxHeartbeats 12800000
set_option linter.unusedVariables false
set_option linter.unusedSimpArgs false
theorem aCZ {w0 w:World}{R:List Nat}{t d s:Nat}{E:List Ent}{pa ob oi ri ba de ex li ha hb v id:Int}{nm X:ByteArray}(h:TxS w0 R w t d s 640 E)(hE:E.length<=290)(hn:NumE E 10376293541461622785 v)(hv:v<16777215)(hid:v+1=id)(hq:ha<li)(hhb:ha+1=hb)(hl:0<=ha/\li<=1000)(hc:iL id ⟨pa,ob,oi,ri,ba,de,ex,0,false⟩)(ho:gS oi ⟨nm,li,hb⟩)(hX:Str (aK id 3)=X) :
  Calls Tryz.prog 34 #[.pointer (some ⟨t,0,none⟩),.agg #[.int .i64 0,.int .i64 pa,.int .i64 ob,.int .i64 0,.int .i64 ri,.int .i64 ba,.int .i64 de,.int .i64 ex,.int .i64 0,.bool false],.agg #[.int .i64 oi,.string nm,.int .i64 li,.int .i64 ha]] w fun e w'=>e=.returned (.tuple #[.int .i64 id,.int .i64 0])/\TxS w0 R w' t d s 640 (qD E id ⟨pa,ob,oi,ri,ba,de,ex,0,false⟩ oi ⟨nm,li,hb⟩)/\KeptT R t w w':=by
 obtain⟨a1,a2,a3,a4,a5,a6,a7⟩:=h.box (.cells #[.int .i64 0,.int .i64 pa,.int .i64 ob,.int .i64 0,.int .i64 ri,.int .i64 ba,.int .i64 de,.int .i64 ex,.int .i64 0,.bool false] 65);obtain⟨bc,hbc⟩:∃ b,w.heap.size=b:=⟨_,rfl⟩
 obtain⟨x1,hx1⟩:∃ x,w.alloc (.cells #[.int .i64 0,.int .i64 pa,.int .i64 ob,.int .i64 0,.int .i64 ri,.int .i64 ba,.int .i64 de,.int .i64 ex,.int .i64 0,.bool false] 65)=x:=⟨_,rfl⟩
 rw[hx1] at a1 a2 a3 a5;rw[hbc] at a1 a3 a4 a5 a6 a7;obtain⟨b1,b2,b3,b4,b5,b6,b7⟩:=a1.box (.cells #[.int .i64 oi,.string nm,.int .i64 li,.int .i64 ha] 54);obtain⟨bo,hbo⟩:∃ b,x1.heap.size=b:=⟨_,rfl⟩
 obtain⟨x2,hx2⟩:∃ x,x1.alloc (.cells #[.int .i64 oi,.string nm,.int .i64 li,.int .i64 ha] 54)=x:=⟨_,rfl⟩
 rw[hx2] at b1 b2 b3 b5;rw[hbo] at b1 b3 b4 b5 b6 b7;have mc:=(b2 bc (by simp) a4).trans a3;have NU:=Hd (MI b1 (show E.length<=600 by omega) (m:=1) ⟨by decide,by decide⟩ hn hv hid);have HX:=Hd (And.intro hx1 (And.intro hbc (And.intro hx2 (show bc+1=bo from a5.symm.trans hbo))));have HK:=Hd (a2.trans (b2.sub (R':=R) fun k hk=>by simp[hk]));have HB:=Hd (And.intro mc (And.intro b3 (And.intro a4 (And.intro b4 (And.intro a6 (And.intro b6 (show bo≠bc from fun e=>b7 bc (by simp) e.symm)))))));have e1:¬ li<=ha:=by omega
 have e2:IntKind.i64.wrap (ha+1)=hb:=by rw[hhb];exact IntWalk.i64_in _ (by omega)
 obtain⟨⟨y0,y1,y2,y3⟩,_⟩:=fO b3;have hrid:=DT hc;have HN:Hid (E.length<=290/\(0<=id/\id<=16777215)/\Str (aK id 3)=X):=Hd ⟨hE,by omega,hX⟩;have HC:=Hd (And.intro hc ho);have HRK:=Hd (show(∀ k∈R,k≠bc)/\∀ k∈R,k≠bo from⟨a7,fun k hk=>b7 k (by simp[hk])⟩);clear h hE hn hv hid hq hhb hl hc ho hX a1 a2 a3 a4 a5 a6 a7 b1 b2 b3 b4 b5 b6 b7 mc hx1 hx2 hrid hbc hbo;go_enter Tryz.func34,Tryz.ntmps34;go_upto_region 1 with fail
 rw[HX.1,HX.2.1,HX.2.2.1,HX.2.2.2];go_wp2_with fail;refine NU.mono ?_;rintro e w3 ⟨rfl,h1,h2⟩;have m3:=(h2 bc (by simp) HB.2.2.1).trans HB.1;have m4:=(h2 bo (by simp) HB.2.2.2.1).trans HB.2.1;have T3:=Hd (And.intro h1 (And.intro (HK.trans (h2.sub (R':=R) fun k hk=>by simp[hk])) (And.intro m3 m4)));clear h1 h2 NU y0 y1 y2 y3;obtain⟨⟨y0,y1,y2,y3⟩,_⟩:=fO m4;obtain⟨⟨c0,c1,c2,c3,c4,c5,c6,c7,c8,c9⟩,f0,f1,f2,f3,f4,f5,f6,f7,f8,f9⟩:=dF m3;clear m3 m4;go_upto_region 6 with fail
 go_cut [] from 10 (fun wx=>Hid (TxS w0 (bo::bc::R) wx t d s 640 E/\KeptT R t w wx/\wx.heap[bc]?=some (.cells #[.int .i64 id,.int .i64 pa,.int .i64 ob,.int .i64 oi,.int .i64 ri,.int .i64 ba,.int .i64 de,.int .i64 ex,.int .i64 0,.bool false] 65)/\wx.heap[bo]?=some (.cells #[.int .i64 oi,.string nm,.int .i64 li,.int .i64 ha] 54)))
 case first=>
  have SA:Hid (∀ wx:World,(wx.heap=((w3.setCell ⟨bc,0,none⟩ (.int .i64 id)).setCell ⟨bc,3,none⟩ (.int .i64 oi)).heap\/wx.heap=((w3.setCell ⟨bc,3,none⟩ (.int .i64 oi)).setCell ⟨bc,0,none⟩ (.int .i64 id)).heap)->Frm (fun k=>k=bc) w3 wx->Hid (TxS w0 (bo::bc::R) wx t d s 640 E/\KeptT R t w wx/\wx.heap[bc]?=some (.cells #[.int .i64 id,.int .i64 pa,.int .i64 ob,.int .i64 oi,.int .i64 ri,.int .i64 ba,.int .i64 de,.int .i64 ex,.int .i64 0,.bool false] 65)/\wx.heap[bo]?=some (.cells #[.int .i64 oi,.string nm,.int .i64 li,.int .i64 ha] 54))):=Hd fun wx hw f=>Hd ⟨T3.1.turn (k:=bc) (by simp) HB.2.2.1 HB.2.2.2.2.1 f,fun k hk hn=>(f.block k (T3.1.lt.1 k (by simp[hk])) (HRK.1 k hk)).trans (T3.2.1 k hk hn),by
   rcases hw with e|e
   ·rw[e,hss _ _ 3 _ _ _ (hss _ _ 0 _ _ _ T3.2.2.1)];rfl
   ·rw[e,hss _ _ 0 _ _ _ (hss _ _ 3 _ _ _ T3.2.2.1)];rfl,(f.block bo (T3.1.lt.1 bo (by simp)) HB.2.2.2.2.2.2).trans T3.2.2.2⟩
  have m4:=T3.2.2.2;have m3:=T3.2.2.1;have nbc:=HB.2.2.2.2.2.2;obtain⟨⟨p0,_⟩,_⟩:=fO (show(w3.setCell ⟨bc,0,none⟩ (.int .i64 id)).heap[bo]?=some (.cells #[.int .i64 oi,.string nm,.int .i64 li,.int .i64 ha] 54) from(heap_setCell_other _ _ _ _ nbc).trans m4)
  obtain⟨⟨r0,r1,r2,r3,r4,r5,r6,r7,r8,r9⟩,s0,s1,s2,s3,s4,s5,s6,s7,s8,s9⟩:=dF (show(w3.setCell ⟨bc,0,none⟩ (.int .i64 id)).heap[bc]?=some (.cells #[.int .i64 id,.int .i64 pa,.int .i64 ob,.int .i64 0,.int .i64 ri,.int .i64 ba,.int .i64 de,.int .i64 ex,.int .i64 0,.bool false] 65) by rw[hss _ _ 0 _ _ _ m3];rfl)
  obtain⟨⟨u0,u1,u2,u3,u4,u5,u6,u7,u8,u9⟩,v0,v1,v2,v3,v4,v5,v6,v7,v8,v9⟩:=dF (show(w3.setCell ⟨bc,3,none⟩ (.int .i64 oi)).heap[bc]?=some (.cells #[.int .i64 0,.int .i64 pa,.int .i64 ob,.int .i64 oi,.int .i64 ri,.int .i64 ba,.int .i64 de,.int .i64 ex,.int .i64 0,.bool false] 65) by rw[hss _ _ 3 _ _ _ m3];rfl);clear m3 m4
  go_region
  all_goals
   go_wp2_with fail
   go_meet
   first|exact SA _ (.inl rfl) (((Frm.refl (fun k=>k=bc) w3).setCell _ _ (.inl rfl)).setCell _ _ (.inl rfl)).drew|exact SA _ (.inr rfl) (((Frm.refl (fun k=>k=bc) w3).setCell _ _ (.inl rfl)).setCell _ _ (.inl rfl)).drew
 case rest=>
  have HW:=hcut;clear hcut T3 HK y0 y1 y2 y3 c0 c1 c2 c3 c4 c5 c6 c7 c8 c9 f0 f1 f2 f3 f4 f5 f6 f7 f8 f9;have m4:=HW.2.2.2;obtain⟨⟨y0,y1,y2,y3⟩,f0,f1,f2,f3⟩:=fO m4;obtain⟨wy,hwy⟩:∃ wy,wc.setCell ⟨bo,3,none⟩ (.int .i64 hb)=wy:=⟨_,rfl⟩
  have f7:Frm (fun k=>k=bo) wc wy:=by rw[<-hwy];exact(Frm.refl _ wc).setCell _ _ (.inl rfl)
  have o7:wy.heap[bo]?=some (.cells #[.int .i64 oi,.string nm,.int .i64 li,.int .i64 hb] 54):=by rw[<-hwy,hss _ _ 3 _ _ _ m4];rfl
  have t7:=HW.1.turn (k:=bo) (by simp) HB.2.2.2.1 HB.2.2.2.2.2.1 f7;have c7:=(f7.block bc (HW.1.lt.1 bc (by simp)) (Ne.symm HB.2.2.2.2.2.2)).trans HW.2.2.1;have k7:KeptT R t w wy:=fun k hk hn=>(f7.block k (HW.1.lt.1 k (by simp[hk])) (HRK.2 k hk)).trans (HW.2.1 k hk hn)
  have HY:=Hd hwy;have T7:=Hd (And.intro t7 (And.intro k7 (And.intro c7 o7)));have GV:=Hd (DP t7 (show E.length<=300 by have:=HN.1;omega) (m:=1) rfl HN.2.1 HN.2.2);clear m4 f7 o7 t7 c7 k7 hwy HW;go_upto_region 8 with fail
  rw[HY.o];clear y0 y1 y2 y3 f0 f1 f2 f3;go_wp2_with fail;refine GV.mono ?_;rintro e w8 ⟨rfl,h1,h2⟩;have mc:=(h2 bc (by simp) HB.2.2.1).trans T7.2.2.1;have mo:=(h2 bo (by simp) HB.2.2.2.1).trans T7.2.2.2;have PC:=Hd (ZN (c:=⟨pa,ob,oi,ri,ba,de,ex,0,false⟩) h1 (show(aZ (aE 9 0 1) X E).length<=300 by have:=bQ (aE 9 0 1) X E;have:=HN.1;omega) HC.1 rfl (rfl:aE 1 0 id=aE 1 0 id));have T8:=Hd (And.intro (T7.2.1.trans (h2.sub (R':=R) fun k hk=>by simp[hk])) (And.intro mc mo))
  obtain⟨⟨c0,c1,c2,c3,c4,c5,c6,c7,c8,c9⟩,_⟩:=dF mc;clear h1 h2 mc mo GV;go_wp2_with fail;refine PC.mono ?_;rintro e w9 ⟨rfl,h1,h2⟩;have mc:=(h2 bc (by simp) HB.2.2.1).trans T8.2.1;have mo:=(h2 bo (by simp) HB.2.2.2.1).trans T8.2.2
  have PO:=Hd (DG (p:=⟨nm,li,hb⟩) h1 (show(aZ (aE 1 0 id) (eE ⟨pa,ob,oi,ri,ba,de,ex,0,false⟩) (aZ (aE 9 0 1) X E)).length<=300 by have l1:=bQ (aE 9 0 1) X E;have l2:=bQ (aE 1 0 id) (eE ⟨pa,ob,oi,ri,ba,de,ex,0,false⟩) (aZ (aE 9 0 1) X E);have l3:=bQ (aE 3 0 oi) (fW ⟨nm,li,hb⟩) (aZ (aE 1 0 id) (eE ⟨pa,ob,oi,ri,ba,de,ex,0,false⟩) (aZ (aE 9 0 1) X E));have l4:=bQ (aE 5 ex id) ⟨#[]⟩ (aZ (aE 3 0 oi) (fW ⟨nm,li,hb⟩) (aZ (aE 1 0 id) (eE ⟨pa,ob,oi,ri,ba,de,ex,0,false⟩) (aZ (aE 9 0 1) X E)));have:=HN.1;omega) HC.2 rfl (rfl:aE 3 0 oi=aE 3 0 oi))
  have T9:=Hd (And.intro (T8.1.trans (h2.sub (R':=R) fun k hk=>by simp[hk])) (And.intro mc mo));obtain⟨⟨y0,y1,y2,y3⟩,_⟩:=fO mo;clear h1 h2 mc mo PC c0 c1 c2 c3 c4 c5 c6 c7 c8 c9;go_wp2_with fail;refine PO.mono ?_;rintro e wb ⟨rfl,h1,h2⟩;have mc:=(h2 bc (by simp) HB.2.2.1).trans T9.2.1;have TB:=Hd (And.intro h1 (And.intro (T9.1.trans (h2.sub (R':=R) fun k hk=>by simp[hk])) mc));obtain⟨⟨c0,c1,c2,c3,c4,c5,c6,c7,c8,c9⟩,_⟩:=dF mc;clear h1 h2 mc PO y0 y1 y2 y3
  by_cases hx0:ex=0
  ·have hx1:(ex==0)=true:=by simpa using hx0
   have hx2:(ex != 0)=false:=by simpa using hx0
   obtain⟨wz,hwz⟩:∃ wz,wb=wz:=⟨_,rfl⟩
   subst hwz;have TZ:=Hd TB.1;have KZ:=Hd TB.2.1
   by_cases hp0:pa=0
   ·have hp1:(pa==0)=true:=by simpa using hp0
    have hp2:(pa != 0)=false:=by simpa using hp0
    have FIN:Hid (TxS w0 R wb t d s 640 (qD E id ⟨pa,ob,oi,ri,ba,de,ex,0,false⟩ oi ⟨nm,li,hb⟩)/\KeptT R t w wb):=Hd ⟨by
     unfold qD;simp only[if_pos hp0,HN.2.2,if_pos hx0];exact TZ.sub fun k hk=>by simp[hk],KZ.o⟩
    clear hp0 hx0;go_wp2_with fail;go_ret2;exact⟨rfl,FIN.o⟩
   ·have hp1:(pa==0)=false:=by simpa using hp0
    have hp2:(pa != 0)=true:=by simpa using hp0
    have HP0:=Hd (And.intro hp0 hx0);clear hp0 hx0;go_wp2_with fail;refine(iW 2 pa id _ _ rfl).mono ?_;rintro e w9 ⟨rfl,rfl⟩
    have PU:=Hd (tB (key:=aE 2 pa id) (val:=⟨#[]⟩) TZ (by have l1:=bQ (aE 9 0 1) X E;have l2:=bQ (aE 1 0 id) (eE ⟨pa,ob,oi,ri,ba,de,ex,0,false⟩) (aZ (aE 9 0 1) X E);have l3:=bQ (aE 3 0 oi) (fW ⟨nm,li,hb⟩) (aZ (aE 1 0 id) (eE ⟨pa,ob,oi,ri,ba,de,ex,0,false⟩) (aZ (aE 9 0 1) X E));have l4:=bQ (aE 5 ex id) ⟨#[]⟩ (aZ (aE 3 0 oi) (fW ⟨nm,li,hb⟩) (aZ (aE 1 0 id) (eE ⟨pa,ob,oi,ri,ba,de,ex,0,false⟩) (aZ (aE 9 0 1) X E)));have:=HN.1;omega) (cP _ _ _) (by decide))
    go_wp2_with fail;refine PU.mono ?_;rintro e w10 ⟨rfl,h1,h2⟩
    have FIN:Hid (TxS w0 R w10 t d s 640 (qD E id ⟨pa,ob,oi,ri,ba,de,ex,0,false⟩ oi ⟨nm,li,hb⟩)/\KeptT R t w w10):=Hd ⟨by
     unfold qD;simp only[if_neg HP0.1,HN.2.2,if_pos HP0.2];exact h1.sub fun k hk=>by simp[hk],KZ.trans (h2.sub fun k hk=>by simp[hk])⟩
    clear h1 h2 PU;go_wp2_with fail;go_ret2;exact⟨rfl,FIN.o⟩
  ·have hx1:(ex==0)=false:=by simpa using hx0
   have hx2:(ex != 0)=true:=by simpa using hx0
   have HX0:=Hd hx0;clear hx0;go_wp2_with fail;refine(iW 5 ex id _ _ rfl).mono ?_;rintro e wk ⟨rfl,rfl⟩
   have PU:=Hd (tB (key:=aE 5 ex id) (val:=⟨#[]⟩) TB.1 (by have l1:=bQ (aE 9 0 1) X E;have l2:=bQ (aE 1 0 id) (eE ⟨pa,ob,oi,ri,ba,de,ex,0,false⟩) (aZ (aE 9 0 1) X E);have l3:=bQ (aE 3 0 oi) (fW ⟨nm,li,hb⟩) (aZ (aE 1 0 id) (eE ⟨pa,ob,oi,ri,ba,de,ex,0,false⟩) (aZ (aE 9 0 1) X E));have l4:=bQ (aE 5 ex id) ⟨#[]⟩ (aZ (aE 3 0 oi) (fW ⟨nm,li,hb⟩) (aZ (aE 1 0 id) (eE ⟨pa,ob,oi,ri,ba,de,ex,0,false⟩) (aZ (aE 9 0 1) X E)));have:=HN.1;omega) (cP _ _ _) (by decide))
   go_wp2_with fail;refine PU.mono ?_;rintro e wz ⟨rfl,h1,h2⟩;have mc:=(h2 bc (by simp) HB.2.2.1).trans TB.2.2;have TZ:=Hd h1;have KZ:=Hd (TB.2.1.trans (h2.sub (R':=R) fun k hk=>by simp[hk]));clear c0 c1 c2 c3 c4 c5 c6 c7 c8 c9;obtain⟨⟨c0,c1,c2,c3,c4,c5,c6,c7,c8,c9⟩,_⟩:=dF mc;have hx0:=HX0.o;clear h1 h2 mc PU
   by_cases hp0:pa=0
   ·have hp1:(pa==0)=true:=by simpa using hp0
    have hp2:(pa != 0)=false:=by simpa using hp0
    have FIN:Hid (TxS w0 R wz t d s 640 (qD E id ⟨pa,ob,oi,ri,ba,de,ex,0,false⟩ oi ⟨nm,li,hb⟩)/\KeptT R t w wz):=Hd ⟨by
     unfold qD;simp only[if_pos hp0,HN.2.2,if_neg hx0];exact TZ.sub fun k hk=>by simp[hk],KZ.o⟩
    clear hp0 hx0;go_wp2_with fail;go_ret2;exact⟨rfl,FIN.o⟩
   ·have hp1:(pa==0)=false:=by simpa using hp0
    have hp2:(pa != 0)=true:=by simpa using hp0
    have HP0:=Hd (And.intro hp0 hx0);clear hp0 hx0;go_wp2_with fail;refine(iW 2 pa id _ _ rfl).mono ?_;rintro e w9 ⟨rfl,rfl⟩
    have PU:=Hd (tB (key:=aE 2 pa id) (val:=⟨#[]⟩) TZ (by have l1:=bQ (aE 9 0 1) X E;have l2:=bQ (aE 1 0 id) (eE ⟨pa,ob,oi,ri,ba,de,ex,0,false⟩) (aZ (aE 9 0 1) X E);have l3:=bQ (aE 3 0 oi) (fW ⟨nm,li,hb⟩) (aZ (aE 1 0 id) (eE ⟨pa,ob,oi,ri,ba,de,ex,0,false⟩) (aZ (aE 9 0 1) X E));have l4:=bQ (aE 5 ex id) ⟨#[]⟩ (aZ (aE 3 0 oi) (fW ⟨nm,li,hb⟩) (aZ (aE 1 0 id) (eE ⟨pa,ob,oi,ri,ba,de,ex,0,false⟩) (aZ (aE 9 0 1) X E)));have:=HN.1;omega) (cP _ _ _) (by decide))
    go_wp2_with fail;refine PU.mono ?_;rintro e w10 ⟨rfl,h1,h2⟩
    have FIN:Hid (TxS w0 R w10 t d s 640 (qD E id ⟨pa,ob,oi,ri,ba,de,ex,0,false⟩ oi ⟨nm,li,hb⟩)/\KeptT R t w w10):=Hd ⟨by
     unfold qD;simp only[if_neg HP0.1,HN.2.2,if_neg HP0.2];exact h1.sub fun k hk=>by simp[hk],KZ.trans (h2.sub fun k hk=>by simp[hk])⟩
    clear h1 h2 PU;go_wp2_with fail;go_ret2;exact⟨rfl,FIN.o⟩
theorem CpE.num1 {E:List Ent}{cs:List (Option bJ)}{os:List dS}{ls:List Int}{m:Nat}(h:CpE E cs os ls m):NumE E 10376293541461622785 (cs.length:Int):=by
 have h1:cO 10376293541461622785 E=if cs.length=0 then none else some (Str (aK (cs.length:Int) 3)):=h.n1
 have:=h.cl
 by_cases e:cs.length=0
 ·rw[if_pos e] at h1
  exact .inl ⟨(rZ h1).2,by omega⟩
 ·rw[if_neg e] at h1
  exact .inr ⟨(gD h1).2,(gD h1).1,by omega,by omega⟩
theorem CpE.num2 {E:List Ent}{cs:List (Option bJ)}{os:List dS}{ls:List Int}{m:Nat}(h:CpE E cs os ls m):NumE E 10376293541461622786 (os.length:Int):=by
 have h1:cO 10376293541461622786 E=if os.length=0 then none else some (Str (aK (os.length:Int) 3)):=h.n2
 have:=h.ol
 by_cases e:os.length=0
 ·rw[if_pos e] at h1
  exact .inl ⟨(rZ h1).2,by omega⟩
 ·rw[if_neg e] at h1
  exact .inr ⟨(gD h1).2,(gD h1).1,by omega,by omega⟩
theorem CpE.getO {E:List Ent}{cs:List (Option bJ)}{os:List dS}{ls:List Int}{m:Nat}(h:CpE E cs os ls m){i:Nat}{o:dS}(ho:os[i]?=some o):aE3 E ((i:Int)+1) o:=by
 have hi:=(List.getElem?_eq_some_iff.1 ho).1;have:=h.ol;refine⟨?_,h.ownOk i o ho⟩;rw[h.own _ (by omega) (by omega)];unfold pJ;rw[if_pos (by omega),show((i:Int)+1-1).toNat=i by omega,ho]
 rfl
theorem CpE.getC {E:List Ent}{cs:List (Option bJ)}{os:List dS}{ls:List Int}{m:Nat}(h:CpE E cs os ls m){i:Nat}{c:bJ}(hc:cs[i]?=some (some c)):TR E ((i:Int)+1) c:=by
 have hi:=(List.getElem?_eq_some_iff.1 hc).1;have:=h.cl;refine⟨?_,h.capOk i c hc⟩;rw[h.cap _ (by omega) (by omega)];unfold nZ;rw[show((i:Int)+1-1).toNat=i by omega,hc]
 rfl
theorem CpE.noC {E:List Ent}{cs:List (Option bJ)}{os:List dS}{ls:List Int}{m:Nat}(h:CpE E cs os ls m){id:Int}(hn:id<1\/16777215<id\/nZ cs id=none):NoC E id:=by
 by_cases hi:1<=id/\id<=16777215
 ·refine .inr ?_
  rw[h.cap id hi.1 hi.2,hn.resolve_left (by omega) |>.resolve_left (by omega)]
  rfl
 ·exact .inl (by omega)
theorem XS {w0 w:World}{R:List Nat}{t d s:Nat}{E:List Ent}{bo br bb be bt bw:Nat}{ob ri ba ex ow v id:Int}{p:dS}(h:TxS w0 R w t d s 640 E)(hbo:w.heap[bo]?=some (.cells #[.int .i64 ob] 3))(hbr:w.heap[br]?=some (.cells #[.int .i64 ri] 3))(hbb:w.heap[bb]?=some (.cells #[.int .i64 ba] 3))(hbe:w.heap[be]?=some (.cells #[.int .i64 ex] 3))(ht:w.heap[bt]?=some (.cells #[.pointer (some ⟨t,0,none⟩)] 24))(hw:w.heap[bw]?=some (.cells #[.int .i64 ow] 3))(hm:(bo∈R/\bo≠t/\w0.heap.size<=bo)/\(br∈R/\br≠t/\w0.heap.size<=br)/\(bb∈R/\bb≠t/\w0.heap.size<=bb)/\(be∈R/\be≠t/\w0.heap.size<=be)/\(bt∈R/\bt≠t/\w0.heap.size<=bt)/\(bw∈R/\bw≠t/\w0.heap.size<=bw))(hE:E.length<=290)(hob:1<=ob/\ob<=16777215)(hmay:(nT ri ri&&(inB 0 4294967295 ba&&inB 0 268435455 ex))=true)
  (hg:aE3 E ow p)(hq:p.ha<p.li)(hv:NumE E 10376293541461622785 v)(hv1:v<16777215)(hid:v+1=id)(hc:iL id ⟨0,ob,ow,ri,ba,1,ex,0,false⟩) :
  Calls Tryz.prog 30 #[.pointer (some ⟨bo,0,none⟩),.pointer (some ⟨br,0,none⟩),.pointer (some ⟨bb,0,none⟩),.pointer (some ⟨be,0,none⟩),.pointer (some ⟨bt,0,none⟩),.pointer (some ⟨bw,0,none⟩)] w fun e' w'=>e'=.returned (.tuple #[.int .i64 id,.int .i64 0])/\TxS w0 R w' t d s 640 (qD E id ⟨0,ob,ow,ri,ba,1,ex,0,false⟩ ow ⟨p.nm,p.li,p.ha+1⟩)/\KeptT R t w w':=by
 have ID:=Hd (fun w=>uG ob true w (by unfold inB;simp;omega));have MY:=Hd (fun w=>aCW ri ba ex true w hmay);have OW:=Hd (SS h (show E.length<=600 by omega) hg);have ho:=kK.1 hg.2;have AD:=Hd (fun(R':List Nat) (wx:World) (hx:TxS w0 R' wx t d s 640 E)=>aCZ (pa:=0) (ob:=ob) (oi:=ow) (ri:=ri) (ba:=ba) (de:=1) (ex:=ex) (nm:=p.nm) (li:=p.li) (ha:=p.ha) hx hE hv hv1 hid hq rfl ⟨ho.2.2.2.2.1,ho.2.2.2.1.2⟩ hc (kK.2 ⟨ho.1,ho.2.1,ho.2.2.1,ho.2.2.2.1,by show 0<=p.ha+1;omega,by show p.ha+1<=p.li;omega⟩) rfl)
 have HB:=Hd (And.intro hbo (And.intro hbr (And.intro hbb (And.intro hbe (And.intro ht hw)))));have HM:=Hd hm;have c0:=(aF hbo).1;have c1:=(aF hbr).1;have c2:=(aF hbb).1;have c3:=(aF hbe).1;have c4:=(aF ht).1;have c5:=(aF hw).1;obtain⟨nm,li,ha⟩:=p;clear h hbo hbr hbb hbe ht hw hm hE hob hmay hg hq hv hv1 hid hc ho;go_enter Tryz.func30,Tryz.ntmps30;go_wp2_with fail;refine(ID _).mono ?_;rintro e w1 ⟨rfl,rfl⟩;go_wp2_with fail;refine(MY _).mono ?_;rintro e w1 ⟨rfl,rfl⟩;go_wp2_with fail;refine OW.mono ?_;rintro e w3 ⟨rfl,h1,h2⟩
 obtain⟨a1,a2,a3,a4,a5,a6,a7⟩:=h1.box (.cells #[.int .i64 ow,.string nm,.int .i64 li,.int .i64 ha] 54);obtain⟨x1,hx1⟩:∃ x,w3.alloc (.cells #[.int .i64 ow,.string nm,.int .i64 li,.int .i64 ha] 54)=x:=⟨_,rfl⟩
 rw[hx1] at a1 a2 a3 a5;have K1:=Hd (h2.trans a2);clear c0 c1 c2 c3 c4 c5;have c0:=(aF ((K1 bo HM.1.1 HM.1.2.1).trans HB.1)).1;have c1:=(aF ((K1 br HM.2.1.1 HM.2.1.2.1).trans HB.2.1)).1;have c2:=(aF ((K1 bb HM.2.2.1.1 HM.2.2.1.2.1).trans HB.2.2.1)).1;have c3:=(aF ((K1 be HM.2.2.2.1.1 HM.2.2.2.1.2.1).trans HB.2.2.2.1)).1;have c4:=(aF ((K1 bt HM.2.2.2.2.1.1 HM.2.2.2.2.1.2.1).trans HB.2.2.2.2.1)).1;obtain⟨⟨y0,y1,y2,y3⟩,_⟩:=fO a3;have AX:=Hd (AD _ _ a1);have X1:=Hd hx1
 clear h1 h2 a1 a2 a3 a4 a5 a6 a7 hx1 OW;go_upto_region 4 with fail
 rw[X1.o];go_wp2_with fail;refine AX.mono ?_;rintro e w4 ⟨rfl,h1,h2⟩;have FIN:=Hd (And.intro (h1.sub (R':=R) fun k hk=>by simp[hk]) (K1.trans (h2.sub (R':=R) fun k hk=>by simp[hk])));clear h1 h2 AX c0 c1 c2 c3 c4 y0 y1 y2 y3;go_wp2_with fail;go_ret2;exact⟨rfl,FIN.o⟩
theorem ZP {w0 w:World}{R:List Nat}{t d s:Nat}{E:List Ent}{ow ob ri ba ex:Int}{os:List dS}{cs:List (Option bJ)}{ls:List Int}{m:Nat}{oi:Nat}{p:dS}(h:TxS w0 R w t d s 640 E)(hc:CpE E cs os ls m)(hm:m<=280)(hl:cs.length<90)(hp:os[oi]?=some p)(how:(oi:Int)+1=ow)(hq:p.ha<p.li)(hob:1<=ob/\ob<=16777215)(hri:0<=ri/\ri<=65535)(hba:0<=ba/\ba<=4294967295)(hex:0<=ex/\ex<=268435455) :
  Calls Tryz.prog 11 #[.pointer (some ⟨t,0,none⟩),.int .i64 ow,.int .i64 ob,.int .i64 ri,.int .i64 ba,.int .i64 ex] w fun e' w'=>∃ E',e'=.returned (.tuple #[.int .i64 ((cs.length:Int)+1),.int .i64 0])/\TxS w0 R w' t d s 640 E'/\KeptT R t w w'/\CpE E' (cs++[some ⟨0,ob,ow,ri,ba,1,ex,0,false⟩]) (os.set oi ⟨p.nm,p.li,p.ha+1⟩) (ls++[ex]) (m+5):=by
 have ho:=kK.1 (hc.ownOk oi p hp);have hi:=(List.getElem?_eq_some_iff.1 hp).1;have hol:=hc.ol;have hok:iL ((cs.length:Int)+1) ⟨0,ob,ow,ri,ba,1,ex,0,false⟩:=qR.2 ⟨by omega,(by decide:(0:Int)<=0/\(0:Int)<=16777215),by show(0:Int)≠_;omega,hob,by show 1<=ow/\ow<=16777215;omega,hri,hba,(by decide:(1:Int)<=1/\(1:Int)<=8),⟨fun _=>rfl,fun _=>rfl⟩,hex,(by decide:(0:Int)<=0/\(0:Int)<=16777215)⟩
 have hoo:gS ((oi:Int)+1) ⟨p.nm,p.li,p.ha+1⟩:=kK.2 ⟨ho.1,ho.2.1,ho.2.2.1,ho.2.2.2.1,by show 0<=p.ha+1;omega,by show p.ha+1<=p.li;omega⟩;have hE:=hc.len
 have hmay:(nT ri ri&&(inB 0 4294967295 ba&&inB 0 268435455 ex))=true:=by
  rw[Bool.and_eq_true,Bool.and_eq_true];exact⟨nJ.2 hri,iG.2 hba,iG.2 hex⟩
 have hg:=hc.getO hp;rw[how] at hg;have hmm:=hc.mint (c:=⟨0,ob,ow,ri,ba,1,ex,0,false⟩) (o:=⟨p.nm,p.li,p.ha+1⟩) (oi:=oi) hl hok hi hoo;rw[how] at hmm;refine(aCV h (.inl ⟨rfl,rfl⟩) fun R' wa b0 b1 b2 b3 b4 b5 hT g0 g1 g2 g3 g4 g5 gm=>XS hT g2 g3 g4 g5 g0 g1 ⟨gm.2.2.1,gm.2.2.2.1,gm.2.2.2.2.1,gm.2.2.2.2.2,gm.1,gm.2.1⟩ (by omega) hob hmay hg hq hc.num1 (by omega) rfl hok).mono ?_;rintro e' w' ⟨rfl,h1,h2⟩;exact⟨_,rfl,h1,h2,hmm⟩
open Go.RowKit
theorem ZQ {w0 w:World}{R:List Nat}{t d s n b c:Nat}{E E':List Ent}{caps:Array Value}{x e:Int}(h:TxS w0 R w t d s n E)(hb:w.heap[b]?=some (.cells #[.func (.func 57) #[] caps] 59))(hc:w.heap[c]?=some (.cells #[.int .i64 0] 3))(hcR:c∈R)(hct:c≠t)(hc0:w0.heap.size<=c)
  (HC:Calls Tryz.prog 57 caps w fun e' w'=>e'=.returned (.tuple #[.int .i64 x,.int .i64 e])/\TxS w0 R w' t d s n E'/\KeptT R t w w') :
  Calls Tryz.prog 67 #[.pointer (some ⟨b,0,none⟩),.pointer (some ⟨c,0,none⟩)] w fun e' w'=>e'=.returned (.int .i64 e)/\TxS w0 R w' t d s n E'/\w'.heap[c]?=some (.cells #[.int .i64 x] 3)/\∀ k∈R,k≠t->k≠c->w'.heap[k]?=w.heap[k]?:=by
 have cb:=(aF hb).1;have H:=Hd HC;have HX:=Hd (And.intro hc (And.intro hcR (And.intro hct hc0)));clear h hb hc hcR hct hc0 HC;go_enter Tryz.func67,Tryz.ntmps67;go_wp2_with fail;refine H.mono ?_;rintro e' w1 ⟨rfl,h1,h2⟩;have hc1:=(h2 c HX.2.1 HX.2.2.1).trans HX.1;obtain⟨c1,g1⟩:=aF hc1
 have FIN:Hid (TxS w0 R (w1.setCell ⟨c,0,none⟩ (.int .i64 x)) t d s n E'/\(w1.setCell ⟨c,0,none⟩ (.int .i64 x)).heap[c]?=some (.cells #[.int .i64 x] 3)/\∀ k∈R,k≠t->k≠c->(w1.setCell ⟨c,0,none⟩ (.int .i64 x)).heap[k]?=w.heap[k]?):=Hd (by
  have f:=eS (w:=w1) (b:=c) (i:=0) (.int .i64 x);refine⟨h1.turn HX.2.1 HX.2.2.1 HX.2.2.2 f,?_,fun k hk hn hnc=>(f.block k (h1.lt.1 k hk) hnc).trans (h2 k hk hn)⟩;rw[hss _ _ 0 _ _ _ hc1];rfl)
 clear h1 h2 hc1 cb;go_wp2_with fail;go_ret;exact⟨rfl,FIN.o⟩
theorem SW {w0 w:World}{R:List Nat}{t d s n:Nat}{E E':List Ent}{caps:Array Value}{e:Int}{Q:World->Prop}(h:TxS w0 R w t d s n E)
  (HC:Calls Tryz.prog 67 caps w fun e' w'=>e'=.returned (.int .i64 e)/\TxS w0 R w' t d s n E'/\Q w') :
  Calls Tryz.prog 41 #[.pointer (some ⟨t,0,none⟩),.func (.func 67) #[] caps] w fun e' w'=>e'=.returned (.int .i64 e)/\TxS w0 R w' t d s n E'/\Q w':=by
 have ER:=Hd (wO h);have H:=Hd HC;clear h HC;go_enter Tryz.func41,Tryz.ntmps41;go_wp2_with fail;refine ER.mono ?_;rintro e' w1 ⟨rfl,rfl⟩;clear ER;go_wp2_with fail;refine H.mono ?_;rintro e' w2 ⟨rfl,h1,h2⟩;have ER:=Hd (wO h1);have FIN:=Hd (And.intro h1 h2);clear h1 h2 H;go_wp2_with fail;refine ER.mono ?_;rintro e' w1 ⟨rfl,rfl⟩;clear ER;go_wp2_with fail;go_ret;exact⟨rfl,FIN.o⟩
theorem SV {w0 w:World}{R:List Nat}{t d s n:Nat}{E E':List Ent}{caps:Array Value}{x e y:Int}(h:TxS w0 R w t d s n E)(he:(e=0/\y=x)\/(e≠0/\y=0))
  (HC:∀ R' wa,(∀ k∈R,k∈R')->TxS w0 R' wa t d s n E->KeptT R t w wa->Calls Tryz.prog 57 caps wa fun e' w'=>e'=.returned (.tuple #[.int .i64 x,.int .i64 e])/\TxS w0 R' w' t d s n E'/\KeptT R' t wa w') :
  Calls Tryz.prog 23 #[.pointer (some ⟨t,0,none⟩),.func (.func 57) #[] caps] w fun e' w'=>e'=.returned (.tuple #[.int .i64 y,.int .i64 e])/\TxS w0 R w' t d s n E'/\KeptT R t w w':=by
 obtain⟨a1,a2,a3,a4,a5,a6,a7⟩:=h.box (.cells #[.func (.func 57) #[] caps] 59);obtain⟨x1,hx1⟩:∃ x1,w.alloc (.cells #[.func (.func 57) #[] caps] 59)=x1:=⟨_,rfl⟩
 rw[hx1] at a1 a2 a3 a5;obtain⟨b1,b2,b3,b4,b5,b6,b7⟩:=a1.box (.cells #[.int .i64 0] 3);obtain⟨x2,hx2⟩:∃ x2,x1.alloc (.cells #[.int .i64 0] 3)=x2:=⟨_,rfl⟩
 rw[hx2] at b1 b2 b3 b5;rw[a5] at b1 b3 b4 b5 b6 b7;have hbk:=(b2 w.heap.size (by simp) a4).trans a3;have HK:=HC ((w.heap.size+1)::w.heap.size::R) x2 (fun k hk=>by simp[hk]) b1 (a2.trans (b2.sub (fun k hk=>by simp[hk])));have V1:=Hd (SW b1 (ZQ b1 hbk b3 (by simp) b4 b6 HK));have KP:=Hd (And.intro a2 (And.intro b2 (And.intro a7 b7)));have HE:=Hd he;have X1:=Hd hx1;have X2:=Hd hx2;clear h he HC a1 a2 a3 a4 a6 a7 b1 b2 b3 b4 b5 b6 b7 hbk HK hx1 hx2;have A5:=Hd a5;clear a5;go_enter Tryz.func23,Tryz.ntmps23;go_upto_region 2 with fail
 try simp only[Nat.add_assoc,Nat.reduceAdd,World.heap_size_alloc]
 rw[X1.o,X2.o];go_wp2_with fail;refine V1.mono ?_;rintro e' w4 ⟨rfl,h1,h2,h3⟩;have c2:=(aF h2).1;have FIN:Hid (TxS w0 R w4 t d s n E'/\KeptT R t w w4):=Hd ⟨h1.sub (fun k hk=>by simp[hk]),fun k hk hn=>(h3 k (by simp[hk]) hn (KP.2.2.2 k (by simp[hk]))).trans ((KP.2.1 k (by simp[hk]) hn).trans (KP.1 k hk hn))⟩;clear h1 h2 h3 V1
 rcases HE.o with⟨rfl,rfl⟩|⟨hne,rfl⟩
 ·go_wp2_with fail
  go_ret2;exact⟨rfl,FIN.o⟩
 ·have hn1:(e==0)=false:=by simpa using hne
  have hn2:(e != 0)=true:=by simp[hne]
  clear hne;go_wp2_with fail;go_ret2;exact⟨rfl,FIN.o⟩
theorem UO {w0 w:World}{R:List Nat}{t d s n b c:Nat}{E E':List Ent}{caps:Array Value}{x e:Int}(h:TxS w0 R w t d s n E)(hb:w.heap[b]?=some (.cells #[.func (.func 60) #[] caps] 59))(hc:w.heap[c]?=some (.cells #[.int .i64 0] 3))(hcR:c∈R)(hct:c≠t)(hc0:w0.heap.size<=c)
  (HC:Calls Tryz.prog 60 caps w fun e' w'=>e'=.returned (.tuple #[.int .i64 x,.int .i64 e])/\TxS w0 R w' t d s n E'/\KeptT R t w w') :
  Calls Tryz.prog 67 #[.pointer (some ⟨b,0,none⟩),.pointer (some ⟨c,0,none⟩)] w fun e' w'=>e'=.returned (.int .i64 e)/\TxS w0 R w' t d s n E'/\w'.heap[c]?=some (.cells #[.int .i64 x] 3)/\∀ k∈R,k≠t->k≠c->w'.heap[k]?=w.heap[k]?:=by
 have cb:=(aF hb).1;have H:=Hd HC;have HX:=Hd (And.intro hc (And.intro hcR (And.intro hct hc0)));clear h hb hc hcR hct hc0 HC;go_enter Tryz.func67,Tryz.ntmps67;go_wp2_with fail;refine H.mono ?_;rintro e' w1 ⟨rfl,h1,h2⟩;have hc1:=(h2 c HX.2.1 HX.2.2.1).trans HX.1;obtain⟨c1,g1⟩:=aF hc1
 have FIN:Hid (TxS w0 R (w1.setCell ⟨c,0,none⟩ (.int .i64 x)) t d s n E'/\(w1.setCell ⟨c,0,none⟩ (.int .i64 x)).heap[c]?=some (.cells #[.int .i64 x] 3)/\∀ k∈R,k≠t->k≠c->(w1.setCell ⟨c,0,none⟩ (.int .i64 x)).heap[k]?=w.heap[k]?):=Hd (by
  have f:=eS (w:=w1) (b:=c) (i:=0) (.int .i64 x);refine⟨h1.turn HX.2.1 HX.2.2.1 HX.2.2.2 f,?_,fun k hk hn hnc=>(f.block k (h1.lt.1 k hk) hnc).trans (h2 k hk hn)⟩;rw[hss _ _ 0 _ _ _ hc1];rfl)
 clear h1 h2 hc1 cb;go_wp2_with fail;go_ret;exact⟨rfl,FIN.o⟩
theorem OA {w0 w:World}{R:List Nat}{t d s n:Nat}{E E':List Ent}{caps:Array Value}{e:Int}{Q:World->Prop}(h:TxS w0 R w t d s n E)
  (HC:Calls Tryz.prog 67 caps w fun e' w'=>e'=.returned (.int .i64 e)/\TxS w0 R w' t d s n E'/\Q w') :
  Calls Tryz.prog 41 #[.pointer (some ⟨t,0,none⟩),.func (.func 67) #[] caps] w fun e' w'=>e'=.returned (.int .i64 e)/\TxS w0 R w' t d s n E'/\Q w':=by
 have ER:=Hd (wO h);have H:=Hd HC;clear h HC;go_enter Tryz.func41,Tryz.ntmps41;go_wp2_with fail;refine ER.mono ?_;rintro e' w1 ⟨rfl,rfl⟩;clear ER;go_wp2_with fail;refine H.mono ?_;rintro e' w2 ⟨rfl,h1,h2⟩;have ER:=Hd (wO h1);have FIN:=Hd (And.intro h1 h2);clear h1 h2 H;go_wp2_with fail;refine ER.mono ?_;rintro e' w1 ⟨rfl,rfl⟩;clear ER;go_wp2_with fail;go_ret;exact⟨rfl,FIN.o⟩
theorem vC {w0 w:World}{R:List Nat}{t d s n:Nat}{E E':List Ent}{caps:Array Value}{x e y:Int}(h:TxS w0 R w t d s n E)(he:(e=0/\y=x)\/(e≠0/\y=0))
  (HC:∀ R' wa,(∀ k∈R,k∈R')->TxS w0 R' wa t d s n E->KeptT R t w wa->Calls Tryz.prog 60 caps wa fun e' w'=>e'=.returned (.tuple #[.int .i64 x,.int .i64 e])/\TxS w0 R' w' t d s n E'/\KeptT R' t wa w') :
  Calls Tryz.prog 23 #[.pointer (some ⟨t,0,none⟩),.func (.func 60) #[] caps] w fun e' w'=>e'=.returned (.tuple #[.int .i64 y,.int .i64 e])/\TxS w0 R w' t d s n E'/\KeptT R t w w':=by
 obtain⟨a1,a2,a3,a4,a5,a6,a7⟩:=h.box (.cells #[.func (.func 60) #[] caps] 59);obtain⟨x1,hx1⟩:∃ x1,w.alloc (.cells #[.func (.func 60) #[] caps] 59)=x1:=⟨_,rfl⟩
 rw[hx1] at a1 a2 a3 a5;obtain⟨b1,b2,b3,b4,b5,b6,b7⟩:=a1.box (.cells #[.int .i64 0] 3);obtain⟨x2,hx2⟩:∃ x2,x1.alloc (.cells #[.int .i64 0] 3)=x2:=⟨_,rfl⟩
 rw[hx2] at b1 b2 b3 b5;rw[a5] at b1 b3 b4 b5 b6 b7;have hbk:=(b2 w.heap.size (by simp) a4).trans a3;have HK:=HC ((w.heap.size+1)::w.heap.size::R) x2 (fun k hk=>by simp[hk]) b1 (a2.trans (b2.sub (fun k hk=>by simp[hk])));have V1:=Hd (OA b1 (UO b1 hbk b3 (by simp) b4 b6 HK));have KP:=Hd (And.intro a2 (And.intro b2 (And.intro a7 b7)));have HE:=Hd he;have X1:=Hd hx1;have X2:=Hd hx2;clear h he HC a1 a2 a3 a4 a6 a7 b1 b2 b3 b4 b5 b6 b7 hbk HK hx1 hx2;have A5:=Hd a5;clear a5;go_enter Tryz.func23,Tryz.ntmps23;go_upto_region 2 with fail
 try simp only[Nat.add_assoc,Nat.reduceAdd,World.heap_size_alloc]
 rw[X1.o,X2.o];go_wp2_with fail;refine V1.mono ?_;rintro e' w4 ⟨rfl,h1,h2,h3⟩;have c2:=(aF h2).1;have FIN:Hid (TxS w0 R w4 t d s n E'/\KeptT R t w w4):=Hd ⟨h1.sub (fun k hk=>by simp[hk]),fun k hk hn=>(h3 k (by simp[hk]) hn (KP.2.2.2 k (by simp[hk]))).trans ((KP.2.1 k (by simp[hk]) hn).trans (KP.1 k hk hn))⟩;clear h1 h2 h3 V1
 rcases HE.o with⟨rfl,rfl⟩|⟨hne,rfl⟩
 ·go_wp2_with fail
  go_ret2;exact⟨rfl,FIN.o⟩
 ·have hn1:(e==0)=false:=by simpa using hne
  have hn2:(e != 0)=true:=by simp[hne]
  clear hne;go_wp2_with fail;go_ret2;exact⟨rfl,FIN.o⟩
theorem pN (k a b q:Int)(w:World)(hq:aE k a b=q) :
  Calls Tryz.prog 50 #[.int .i64 k,.int .i64 a,.int .i64 b] w fun e w'=>e=.returned (.int .u64 q)/\w=w':=by
 have HQ:=Hd hq;clear hq;go_enter Tryz.func50,Tryz.ntmps50;go_wp2_with fail;refine(nM _ _ _ _).mono ?_;rw[HQ.o];rintro e w1 ⟨rfl,rfl⟩;go_wp2_with fail;go_ret;exact⟨rfl,rfl⟩
def ClkE (E:List Ent)(now:Int):Prop:=(dY 10376293541461622788 E=false/\now=0)\/(dY 10376293541461622788 E=true/\jF 10376293541461622788 E=Str (aK now 4)/\0<=now/\now<=268435455)
theorem ClkE.range {E:List Ent}{now:Int}(h:ClkE E now):0<=now/\now<=268435455:=by
 rcases h with⟨_,rfl⟩|⟨_,_,h⟩
 ·decide
 ·exact h
theorem ClkE.ins (E:List Ent){now:Int}(h0:0<=now)(h1:now<=268435455):ClkE (aZ 10376293541461622788 (Str (aK now 4)) E) now:=by
 refine .inr ⟨?_,?_,h0,h1⟩
 ·unfold dY;rw[tT,if_pos rfl];rfl
 ·unfold jF;rw[tT,if_pos rfl]
theorem MJ {now:Int}(h0:0<=now)(h1:now<=268435455):aS (Str (aK now 4)) 4=now/\aA (Str (aK now 4)) 4=⟨#[]⟩/\dC (Str (aK now 4)) 4=0/\(Str (aK now 4)).size=4:=by
 have hp:cT now 4=true:=by
  obtain⟨m,rfl⟩:=Int.eq_ofNat_of_zero_le h0;exact(fB m 4).2 ⟨by decide,by decide,by show m<4294967296;omega⟩
 have h2:=mE (n:=now) (k:=4) ⟨#[]⟩ h0 hp;rw[fI] at h2;have h3:=cU hp;refine⟨h2.1,h2.2,?_,by omega⟩;have hk:cZ (Str (aK now 4)) 4=true:=by unfold cZ;simp;omega
 unfold dC;rw[if_pos hk]
theorem DK {w0 w:World}{R:List Nat}{t d s n:Nat}{E:List Ent}{b:Nat}(h:TxS w0 R w t d s n E)(hb:w.heap[b]?=some (.cells #[.pointer (some ⟨t,0,none⟩)] 24))(hbR:b∈R)(hbt:b≠t)(hE:E.length<=600)(hg:dY 10376293541461622788 E=false) :
  Calls Tryz.prog 57 #[.pointer (some ⟨b,0,none⟩)] w fun e w'=>e=.returned (.tuple #[.int .i64 0,.int .i64 0])/\TxS w0 R w' t d s n E/\KeptT R t w w':=by
 have GE:=Hd (tS (key:=10376293541461622788) (h.below Br.drew) hE (by decide) ⟨#[]⟩ false (by unfold jF dY at *;revert hg;cases cO 10376293541461622788 E <;> simp) hg);clear hg;have HB:=Hd (And.intro (show w.drew.heap[b]?=some (.cells #[.pointer (some ⟨t,0,none⟩)] 24) from hb) (And.intro hbR hbt));clear h hb hbR hbt hE;go_enter Tryz.func57,Tryz.ntmps57;go_upto_region 1 with fail
 refine wp_region_held_drew (S:=fun w'=>w'.heap[b]?=some (.cells #[.pointer (some ⟨t,0,none⟩)] 24)) (by kernel_rfl) HB.1 (fun hS=>?_);refine Hv 0 9 ?va0x1 hS ?ha0x1 ?_
 case ha0x1=>
  intro w9 s9;have k9:=(aF s9).1;clear s9;go_simp;try (with_reducible rfl)
 simp only[SL];refine Hs 1 (fun K HK=>?_);go_simp;go_wp2_with fail;refine(pN 9 0 4 10376293541461622788 _ (by decide)).mono ?_;rintro e w6 ⟨rfl,rfl⟩;refine HK _ _ ?_ ?_
 ·exact hS
 clear HK K;try simp only[Act.put,SL]
 refine Hs 2 (fun K HK=>?_);go_simp;go_wp2_with fail;refine GE.mono ?_;rintro e w7 ⟨rfl,h1,h2⟩;refine HK _ _ ?_ ?_
 ·exact(h2 b HB.2.1 HB.2.2).trans hS
 clear HK K;try simp only[Act.put,SL]
 have hS9:=(h2 b HB.2.1 HB.2.2).trans hS;clear hS;have hS:=hS9;clear hS9;have FIN:=Hd (And.intro h1 (show KeptT R t w w7 from h2));clear h1 h2 GE;refine Hu 3 8 hS ?_;simp only[SL];refine Hu 4 12 hS ?_;simp only[SL];refine Hu 5 13 hS ?_;simp only[SL];refine Hu 6 3 hS ?_;simp only[SL];refine Hu 7 4 hS ?_;simp only[SL];refine wpAnyH_done (by kernel_rfl) ?_ _;clear hS;go_wp2_with fail;go_ret2;exact⟨rfl,FIN.o⟩
theorem DJ {w0 w:World}{R:List Nat}{t d s n:Nat}{E:List Ent}{b:Nat}(h:TxS w0 R w t d s n E)(hb:w.heap[b]?=some (.cells #[.pointer (some ⟨t,0,none⟩)] 24))(hbR:b∈R)(hbt:b≠t)(hE:E.length<=600){now:Int}(hg:dY 10376293541461622788 E=true)(hv:jF 10376293541461622788 E=Str (aK now 4))(h0:0<=now)(h1:now<=268435455) :
  Calls Tryz.prog 57 #[.pointer (some ⟨b,0,none⟩)] w fun e w'=>e=.returned (.tuple #[.int .i64 now,.int .i64 0])/\TxS w0 R w' t d s n E/\KeptT R t w w':=by
 obtain⟨q1,q2,q3,q4⟩:=MJ h0 h1;obtain⟨X,hX⟩:∃ X,Str (aK now 4)=X:=⟨_,rfl⟩
 rw[hX] at q1 q2 q3 hv;have TA:=Hd (fun w=>by have:=lZ X 4 w;rw[q1,q2,q3] at this;exact this);have GE:=Hd (tS (key:=10376293541461622788) (h.below Br.drew) hE (by decide) X true hv hg);have hn1:¬ (268435455:Int)<now:=by omega
 have hw1:IntKind.i64.wrap now=now:=IntWalk.i64_in _ (by omega);clear hg hv h0 h1 q1 q2 q3 q4 hX;have HB:=Hd (And.intro (show w.drew.heap[b]?=some (.cells #[.pointer (some ⟨t,0,none⟩)] 24) from hb) (And.intro hbR hbt));clear h hb hbR hbt hE;go_enter Tryz.func57,Tryz.ntmps57;go_upto_region 1 with fail
 refine wp_region_held_drew (S:=fun w'=>w'.heap[b]?=some (.cells #[.pointer (some ⟨t,0,none⟩)] 24)) (by kernel_rfl) HB.1 (fun hS=>?_);refine Hv 0 9 ?va0x1 hS ?ha0x1 ?_
 case ha0x1=>
  intro w9 s9;have k9:=(aF s9).1;clear s9;go_simp;try (with_reducible rfl)
 simp only[SL];refine Hs 1 (fun K HK=>?_);go_simp;go_wp2_with fail;refine(pN 9 0 4 10376293541461622788 _ (by decide)).mono ?_;rintro e w6 ⟨rfl,rfl⟩;refine HK _ _ ?_ ?_
 ·exact hS
 clear HK K;try simp only[Act.put,SL]
 refine Hs 2 (fun K HK=>?_);go_simp;go_wp2_with fail;refine GE.mono ?_;rintro e w7 ⟨rfl,h1,h2⟩;refine HK _ _ ?_ ?_
 ·exact(h2 b HB.2.1 HB.2.2).trans hS
 clear HK K;try simp only[Act.put,SL]
 have hS9:=(h2 b HB.2.1 HB.2.2).trans hS;clear hS;have hS:=hS9;clear hS9;have FIN:=Hd (And.intro h1 (show KeptT R t w w7 from h2));clear h1 h2 GE;refine Hu 3 8 hS ?_;simp only[SL];refine Hu 4 12 hS ?_;simp only[SL];refine Hu 5 13 hS ?_;simp only[SL];refine Hu 6 3 hS ?_;simp only[SL];refine Hu 7 4 hS ?_;simp only[SL];refine wpAnyH_done (by kernel_rfl) ?_ _;clear hS;go_wp2_with fail;refine(TA _).mono ?_;rintro e w8 ⟨rfl,b8⟩;have F8:=Hd (And.intro (FIN.1.below b8) (FIN.2.trans (FIN.1.kept b8)));clear b8 FIN;go_wp2_with fail;go_ret2;exact⟨rfl,F8.o⟩
theorem uF {w0 w:World}{R:List Nat}{t d s n:Nat}{E:List Ent}{now:Int}(h:TxS w0 R w t d s n E)(hE:E.length<=600)(hc:ClkE E now) :
  Calls Tryz.prog 18 #[.pointer (some ⟨t,0,none⟩)] w fun e w'=>e=.returned (.tuple #[.int .i64 now,.int .i64 0])/\TxS w0 R w' t d s n E/\KeptT R t w w':=by
 obtain⟨a1,a2,a3,a4,a5,a6,a7⟩:=h.box (.cells #[.pointer (some ⟨t,0,none⟩)] 24);obtain⟨x1,hx1⟩:∃ x1,w.alloc (.cells #[.pointer (some ⟨t,0,none⟩)] 24)=x1:=⟨_,rfl⟩
 rw[hx1] at a1 a2 a3 a5
 have VC:=Hd (SV (x:=now) (e:=0) (y:=now) a1 (.inl ⟨rfl,rfl⟩) (caps:=#[.pointer (some ⟨w.heap.size,0,none⟩)]) (E':=E) (fun R' wa hs hT hK=>by
  have hb:=(hK w.heap.size (by simp) a4).trans a3;have hm:=hs w.heap.size (by simp)
  rcases hc with⟨g1,rfl⟩|⟨g1,g2,g3,g4⟩
  ·exact DK hT hb hm a4 hE g1
  ·exact DJ hT hb hm a4 hE g1 g2 g3 g4))
 have KP:=Hd a2;have X1:=Hd hx1;have bx:=(aF a3).1;clear h hE hc a1 a2 a3 a4 a5 a6 a7 hx1;go_enter Tryz.func18,Tryz.ntmps18;go_upto_region 1 with fail
 rw[X1.o];go_wp2_with fail;refine VC.mono ?_;rintro e w2 ⟨rfl,h1,h2⟩;have FIN:Hid (TxS w0 R w2 t d s n E/\KeptT R t w w2):=Hd ⟨h1.sub (fun k hk=>by simp[hk]),KP.trans (h2.sub (fun k hk=>by simp[hk]))⟩;clear h1 h2 VC bx;go_wp2_with fail;go_ret2;exact⟨rfl,FIN.o⟩
theorem OC {w0 w:World}{R:List Nat}{t d s:Nat}{E:List Ent}{bn bt:Nat}{a:Int}{now:Int}(h:TxS w0 R w t d s 640 E)(hn:w.heap[bn]?=some (.cells #[.int .i64 a] 3))(hb:w.heap[bt]?=some (.cells #[.pointer (some ⟨t,0,none⟩)] 24))(hm:(bn∈R/\bn≠t)/\(bt∈R/\bt≠t))(hE:E.length<=300)(hc:ClkE E now)(ha:0<=a)(hf:268435455-now<a) :
  Calls Tryz.prog 60 #[.pointer (some ⟨bn,0,none⟩),.pointer (some ⟨bt,0,none⟩)] w fun e w'=>e=.returned (.tuple #[.int .i64 0,.int .i64 12])/\TxS w0 R w' t d s 640 E/\KeptT R t w w':=by
 have c0:=(aF hn).1;have c1:=(aF hb).1;have hr:=hc.range;have hw:IntKind.i64.wrap (268435455-now)=268435455-now:=IntWalk.i64_in _ (by omega);have ha':¬ a<0:=by omega
 have CL:=Hd (uF h (by omega) hc);have HX:=Hd (And.intro hn (And.intro hb hm));clear h hn hb hm hE hc hr ha;go_enter Tryz.func60,Tryz.ntmps60;go_wp2_with fail;refine CL.mono ?_;rintro e w1 ⟨rfl,h1,h2⟩;have d0:=(aF ((h2 bn HX.2.2.1.1 HX.2.2.1.2).trans HX.1)).1;have FIN:=Hd (And.intro h1 h2);clear h1 h2 c0 c1 CL;go_wp2_with fail;go_ret2;exact⟨rfl,FIN.o⟩
theorem OB {w0 w:World}{R:List Nat}{t d s:Nat}{E:List Ent}{bn bt:Nat}{a:Int}{now m:Int}(h:TxS w0 R w t d s 640 E)(hn:w.heap[bn]?=some (.cells #[.int .i64 a] 3))(hb:w.heap[bt]?=some (.cells #[.pointer (some ⟨t,0,none⟩)] 24))(hm:(bn∈R/\bn≠t)/\(bt∈R/\bt≠t))(hE:E.length<=300)(hc:ClkE E now)(ha:0<=a)(hf:a<=268435455-now)(hsm:now+a=m) :
  Calls Tryz.prog 60 #[.pointer (some ⟨bn,0,none⟩),.pointer (some ⟨bt,0,none⟩)] w fun e w'=>e=.returned (.tuple #[.int .i64 m,.int .i64 0])/\TxS w0 R w' t d s 640 (aZ 10376293541461622788 (Str (aK m 4)) E)/\KeptT R t w w':=by
 have c0:=(aF hn).1;have c1:=(aF hb).1;have hr:=hc.range;have hw:IntKind.i64.wrap (268435455-now)=268435455-now:=IntWalk.i64_in _ (by omega);have hw2:IntKind.i64.wrap (now+a)=m:=by rw[hsm];exact IntWalk.i64_in _ (by omega)
 have hw3:IntKind.u64.wrap m=m:=IntWalk.u64_in _ (by omega);have ha':¬ a<0:=by omega
 have hf':¬ 268435455-now<a:=by omega
 have HM:Hid (0<=m/\m<=268435455):=Hd (by omega);have CL:=Hd (uF h (by omega) hc);have HX:=Hd (And.intro hn (And.intro hb hm));obtain⟨Y,hY⟩:∃ Y,Str (aK m 4)=Y:=⟨_,rfl⟩
 have PT:=Hd (fun w=>by have:=lD m 4 w HM.1;rw[hY] at this;exact this);have HY:Hid (Y.size<=40):=Hd (by rw[<-hY];have:=(MJ HM.1 HM.2).2.2.2;omega);have HE:=Hd hE;rw[hY];clear h hn hb hm hE hc hr ha hf hsm hY;go_enter Tryz.func60,Tryz.ntmps60;go_wp2_with fail;refine CL.mono ?_;rintro e w1 ⟨rfl,h1,h2⟩;have d0:=(aF ((h2 bn HX.2.2.1.1 HX.2.2.1.2).trans HX.1)).1;have FIN:=Hd (And.intro h1 h2);clear h1 h2 c0 c1 CL;go_wp2_with fail;refine(PT _).mono ?_;rintro e w3 ⟨rfl,b3⟩
 have F3:=Hd (And.intro (FIN.1.below b3) (FIN.2.trans (FIN.1.kept b3)));clear b3 FIN d0;have PU:=Hd (tB (key:=10376293541461622788) (val:=Y) (F3.1.below Br.drew) HE (by decide) HY.o);have HB:Hid (w3.drew.heap[bt]?=some (.cells #[.pointer (some ⟨t,0,none⟩)] 24)):=Hd ((F3.2 bt HX.2.2.2.1 HX.2.2.2.2).trans HX.2.1);go_upto_region 10 with fail
 refine wp_region_held_drew (S:=fun w'=>w'.heap[bt]?=some (.cells #[.pointer (some ⟨t,0,none⟩)] 24)) (by kernel_rfl) HB (fun hS=>?_);refine Hv 0 31 ?va0x1 hS ?ha0x1 ?_
 case ha0x1=>
  intro w9 s9;have k9:=(aF s9).1;clear s9;go_simp;try (with_reducible rfl)
 simp only[SL];refine Hu 2 33 hS ?_;simp only[SL];refine Hs 1 (fun K HK=>?_);go_simp;go_wp2_with fail;refine(pN 9 0 4 10376293541461622788 _ (by decide)).mono ?_;rintro e w6 ⟨rfl,rfl⟩;refine HK _ _ ?_ ?_
 ·exact hS
 clear HK K;try simp only[Act.put,SL]
 refine Hs 3 (fun K HK=>?_);go_simp;go_wp2_with fail;refine PU.mono ?_;rintro e w7 ⟨rfl,h1,h2⟩;refine HK _ _ ?_ ?_
 ·exact(h2 bt HX.2.2.2.1 HX.2.2.2.2).trans hS
 clear HK K;try simp only[Act.put,SL]
 have FIN:=Hd (And.intro h1 (F3.2.trans (show KeptT R t w3 w7 from h2)));clear h1 h2 PU;refine wpAnyH_done (by kernel_rfl) ?_ _;clear hS;go_wp2_with fail;go_ret2;exact⟨rfl,FIN.o⟩
theorem UQ {w0 w:World}{R:List Nat}{t d s:Nat}{E:List Ent}{a now m:Int}(h:TxS w0 R w t d s 640 E)(hE:E.length<=300)(hc:ClkE E now)(ha:0<=a)(hf:268435455-now<a) :
  Calls Tryz.prog 19 #[.pointer (some ⟨t,0,none⟩),.int .i64 a] w fun e w'=>e=.returned (.tuple #[.int .i64 0,.int .i64 12])/\TxS w0 R w' t d s 640 (E)/\KeptT R t w w':=by
 obtain⟨a1,a2,a3,a4,a5,a6,a7⟩:=h.box (.cells #[.pointer (some ⟨t,0,none⟩)] 24);obtain⟨x1,hx1⟩:∃ x1,w.alloc (.cells #[.pointer (some ⟨t,0,none⟩)] 24)=x1:=⟨_,rfl⟩
 rw[hx1] at a1 a2 a3 a5;obtain⟨b1,b2,b3,b4,b5,b6,b7⟩:=a1.box (.cells #[.int .i64 a] 3);obtain⟨x2,hx2⟩:∃ x2,x1.alloc (.cells #[.int .i64 a] 3)=x2:=⟨_,rfl⟩
 rw[hx2] at b1 b2 b3 b5;rw[a5] at b1 b3 b4 b5 b6 b7;have hbk:=(b2 w.heap.size (by simp) a4).trans a3
 have VC:=Hd (vC (x:=0) (e:=12) (y:=0) b1 (by first|exact .inl ⟨rfl,rfl⟩|exact .inr ⟨by decide,rfl⟩) (caps:=#[.pointer (some ⟨w.heap.size+1,0,none⟩),.pointer (some ⟨w.heap.size,0,none⟩)]) (E':=E) (fun R' wa hs hT hK=>by
  have g1:=(hK (w.heap.size+1) (by simp) b4).trans b3;have g2:=(hK w.heap.size (by simp) a4).trans hbk;exact OC hT g1 g2 ⟨⟨hs _ (by simp),b4⟩,⟨hs _ (by simp),a4⟩⟩ hE hc ha hf))
 have KP:=Hd (a2.trans (b2.sub (fun k hk=>by simp[hk])));have X1:=Hd hx1;have X2:=Hd hx2;have A5:=Hd a5;have bx:=(aF hbk).1;clear h hE hc a1 a2 a3 a4 a5 a6 a7 b1 b2 b3 b4 b5 b6 b7 hx1 hx2 hbk;go_enter Tryz.func19,Tryz.ntmps19;go_upto_region 1 with fail
 try simp only[World.heap_size_alloc]
 rw[X1.o,X2.o];go_wp2_with fail;refine VC.mono ?_;rintro e w2 ⟨rfl,h1,h2⟩;have FIN:Hid (TxS w0 R w2 t d s 640 (E)/\KeptT R t w w2):=Hd ⟨h1.sub (fun k hk=>by simp[hk]),KP.trans (h2.sub (fun k hk=>by simp[hk]))⟩;clear h1 h2 VC bx;go_wp2_with fail;go_ret2;exact⟨rfl,FIN.o⟩
theorem UP {w0 w:World}{R:List Nat}{t d s:Nat}{E:List Ent}{a now m:Int}(h:TxS w0 R w t d s 640 E)(hE:E.length<=300)(hc:ClkE E now)(ha:0<=a)(hf:a<=268435455-now)(hsm:now+a=m) :
  Calls Tryz.prog 19 #[.pointer (some ⟨t,0,none⟩),.int .i64 a] w fun e w'=>e=.returned (.tuple #[.int .i64 m,.int .i64 0])/\TxS w0 R w' t d s 640 (aZ 10376293541461622788 (Str (aK m 4)) E)/\KeptT R t w w':=by
 obtain⟨a1,a2,a3,a4,a5,a6,a7⟩:=h.box (.cells #[.pointer (some ⟨t,0,none⟩)] 24);obtain⟨x1,hx1⟩:∃ x1,w.alloc (.cells #[.pointer (some ⟨t,0,none⟩)] 24)=x1:=⟨_,rfl⟩
 rw[hx1] at a1 a2 a3 a5;obtain⟨b1,b2,b3,b4,b5,b6,b7⟩:=a1.box (.cells #[.int .i64 a] 3);obtain⟨x2,hx2⟩:∃ x2,x1.alloc (.cells #[.int .i64 a] 3)=x2:=⟨_,rfl⟩
 rw[hx2] at b1 b2 b3 b5;rw[a5] at b1 b3 b4 b5 b6 b7;have hbk:=(b2 w.heap.size (by simp) a4).trans a3
 have VC:=Hd (vC (x:=m) (e:=0) (y:=m) b1 (by first|exact .inl ⟨rfl,rfl⟩|exact .inr ⟨by decide,rfl⟩) (caps:=#[.pointer (some ⟨w.heap.size+1,0,none⟩),.pointer (some ⟨w.heap.size,0,none⟩)]) (E':=aZ 10376293541461622788 (Str (aK m 4)) E) (fun R' wa hs hT hK=>by
  have g1:=(hK (w.heap.size+1) (by simp) b4).trans b3;have g2:=(hK w.heap.size (by simp) a4).trans hbk;exact OB hT g1 g2 ⟨⟨hs _ (by simp),b4⟩,⟨hs _ (by simp),a4⟩⟩ hE hc ha hf hsm))
 have KP:=Hd (a2.trans (b2.sub (fun k hk=>by simp[hk])));have X1:=Hd hx1;have X2:=Hd hx2;have A5:=Hd a5;have bx:=(aF hbk).1;clear h hE hc a1 a2 a3 a4 a5 a6 a7 b1 b2 b3 b4 b5 b6 b7 hx1 hx2 hbk;go_enter Tryz.func19,Tryz.ntmps19;go_upto_region 1 with fail
 try simp only[World.heap_size_alloc]
 rw[X1.o,X2.o];go_wp2_with fail;refine VC.mono ?_;rintro e w2 ⟨rfl,h1,h2⟩;have FIN:Hid (TxS w0 R w2 t d s 640 (aZ 10376293541461622788 (Str (aK m 4)) E)/\KeptT R t w w2):=Hd ⟨h1.sub (fun k hk=>by simp[hk]),KP.trans (h2.sub (fun k hk=>by simp[hk]))⟩;clear h1 h2 VC bx;go_wp2_with fail;go_ret2;exact⟨rfl,FIN.o⟩
theorem aEL (w:World)(t s:Nat)(root:Int)(caps:Array Value)(hc:w.heap[t]?=some (txC s root 0 false))(R:Int->World->Prop)
  (HC:Calls Tryz.prog 113 caps w fun e w'=>∃ c,e=.returned (.int .i64 c)/\R c w'/\∃ root',w'.heap[t]?=some (txC s root' 0 false)) :
  Calls Tryz.prog 86 #[.pointer (some ⟨t,0,none⟩),.func (.func 113) #[] caps] w fun e w'=>∃ c w1,e=.returned (.bool (c==0))/\R c w1/\w1.setCell ⟨t,2,none⟩ (.int .i64 c)=w':=by
 have H:=Hd HC;obtain⟨c0,c1,c2,c3,fz⟩:=eI hc;clear hc HC fz;go_enter Tryz.func86,Tryz.ntmps86;go_wp2_with fail;refine H.mono ?_;rintro e w1 ⟨c,rfl,hR,root',hc1⟩;have FIN:=Hd hR;obtain⟨d0,d1,d2,d3,g⟩:=eI hc1;have g2:=g 2;obtain⟨w2,hw2⟩:∃ w2,w1.setCell ⟨t,2,none⟩ (.int .i64 c)=w2:=⟨_,rfl⟩
 have e2:w2.cell? ⟨t,2,none⟩=some (.int .i64 c):=by
  unfold txC at hc1;have h9:=hss w1 t 2 _ _ (.int .i64 c) hc1;rw[hw2] at h9;rw[cob h9];rfl
 have HW:=Hd hw2;clear hR hc1 g c0 c1 c2 c3 H;go_upto_region 4 with fail
 try rw[hw2]
 clear hw2 d0 d1 d2 d3 g2;go_wp2_with fail;go_ret;exact⟨c,w1,rfl,FIN.o,HW.o⟩
theorem aCN {w0 w:World}{R:List Nat}{t d s n bt bk bw:Nat}{root key:Int}{E:List Ent}(h:TrR w0 R w d s n root E)(ps:GetS bt bk t s root key w)(hm:bt∈R/\bk∈R/\t∈R)(ht0:w0.heap.size<=t)(hw:w.heap[bw]?=some (.cells #[.bool false] 4)/\bw∈R/\w0.heap.size<=bw/\bw≠t)
  (H0:Nat)(h9:H0<=8)(hE:E.length<2 ^ (H0+1))(hn:2*E.length+2*H0+5<=n)(hk:0<=key/\key<=18446744073709551615)(gb:Bool)(hgb:dY key E=gb) :
  Calls Tryz.prog 113 #[.pointer (some ⟨bt,0,none⟩),.pointer (some ⟨bk,0,none⟩),.pointer (some ⟨bw,0,none⟩)] w fun e w'=>e=.returned (.int .i64 0)/\∃ q,TrR w0 R w' d s n q (iK key E)/\w'.heap[t]?=some (txC s q 0 false)/\w'.heap[bw]?=some (.cells #[.bool gb] 4)/\∀ k∈R,k≠t->k≠bw->w'.heap[k]?=w.heap[k]?:=by
 have PS:=Hd (show GetS bt bk t s root key w.drew from ps);have PT0:=aFR (h.below Br.drew) H0 h9 hE hn key hk;rw[hgb] at PT0;have PT:=Hd PT0;have HM:=Hd hm;have HT0:=Hd ht0;have HB:=Hd hw;clear h ps h9 hE hn hk ht0 hw hgb PT0;go_enter Tryz.func113,Tryz.ntmps113;go_upto_region 1 with fail
 refine wp_region_held_drew (S:=fun w'=>GetS bt bk t s root key w') (by kernel_rfl) PS (fun hS=>?_);refine Hv 0 8 ?va0x1 hS ?ha0x1 ?_
 case ha0x1=>
  intro w9 s9;have k9:=(aF s9.1).1;clear s9;go_simp;try (with_reducible rfl)
 simp only[SL];refine Hu 1 9 hS ?_;simp only[SL];refine Hu 2 10 hS ?_;simp only[SL];refine Hv 3 11 ?va3x4 hS ?ha3x4 ?_
 case ha3x4=>
  intro w9 s9;obtain⟨k0,k1,_,_,_⟩:=eI s9.2.2;clear s9;go_simp;try (with_reducible rfl)
 simp only[SL];refine Hv 4 12 ?va4x5 hS ?ha4x5 ?_
 case ha4x5=>
  intro w9 s9;have k9:=(aF s9.1).1;clear s9;go_simp;try (with_reducible rfl)
 simp only[SL];refine Hu 5 13 hS ?_;simp only[SL];refine Hu 6 14 hS ?_;simp only[SL];refine Hv 7 15 ?va7x8 hS ?ha7x8 ?_
 case ha7x8=>
  intro w9 s9;obtain⟨k0,k1,_,_,_⟩:=eI s9.2.2;clear s9;go_simp;try (with_reducible rfl)
 simp only[SL];refine Hv 8 16 ?va8x9 hS ?ha8x9 ?_
 case ha8x9=>
  intro w9 s9;have k9:=(aF s9.2.1).1;clear s9;go_simp;try (with_reducible rfl)
 simp only[SL];refine Hs 9 (fun K HK=>?_);go_simp;go_wp2_with fail;refine PT.mono ?_;rintro e w6 ⟨q,rfl,hT,hK⟩;refine HK _ _ ?_ ?_
 ·exact hS.kept hm hK
 clear HK K;try simp only[Act.put,SL]
 have hS':=hS.kept hm hK;clear hS;have hS:=hS';clear hS';refine Hu 10 7 hS ?_;simp only[SL];refine Hu 11 18 hS ?_;simp only[SL];refine Hu 12 19 hS ?_;simp only[SL];refine Hu 13 20 hS ?_;simp only[SL];refine Hu 14 4 hS ?_;simp only[SL];refine Hu 15 5 hS ?_;simp only[SL];refine Hu 16 6 hS ?_;simp only[SL];refine wpAnyH_done (by kernel_rfl) ?_ _;have bx:=(aF hS.1).1;obtain⟨d0,d1,d2,d3,g⟩:=eI hS.2.2;have g1:=g 1;have V0:=(hK bw HB.2.1).trans HB.1;obtain⟨u0,u1⟩:=aF V0
 have X0:(w6.setCell ⟨t,1,none⟩ (.int .i64 q)).heap[bw]?=some (.cells #[.bool false] 4):=(Below.heap_setCell _ _ _ _ HB.2.2.2).trans V0;obtain⟨y0,y1⟩:=aF X0;obtain⟨w8,hw8⟩:∃ w8,(w6.setCell ⟨t,1,none⟩ (.int .i64 q)).setCell ⟨bw,0,none⟩ (.bool gb)=w8:=⟨_,rfl⟩
 have FIN:Hid (∃ q,TrR w0 R w8 d s n q (iK key E)/\w8.heap[t]?=some (txC s q 0 false)/\w8.heap[bw]?=some (.cells #[.bool gb] 4)/\∀ k∈R,k≠t->k≠bw->w8.heap[k]?=w.heap[k]?):=Hd (by
  obtain⟨w7,hw7⟩:∃ w7,w6.setCell ⟨t,1,none⟩ (.int .i64 q)=w7:=⟨_,rfl⟩
  rw[hw7] at hw8 X0;have f7:Frm (fun k=>k=t) w6 w7:=by rw[<-hw7];exact eS _
  have f8:Frm (fun k=>k=bw) w7 w8:=by rw[<-hw8];exact eS _
  have h7:=hT.turn HM.2.2 HT0 f7;refine⟨q,h7.turn HB.2.1 HB.2.2.1 f8,?_,?_,fun k hk h1 h2=>(f8.block k (h7.lt k hk) h2).trans ((f7.block k (hT.lt k hk) h1).trans (hK k hk))⟩
  ·rw[f8.block t (h7.lt t HM.2.2) (Ne.symm HB.2.2.2)]
   have h1:=hS.2.2;unfold txC at h1 |-;rw[<-hw7,hss _ _ 1 _ _ _ h1]
   rfl
  ·rw[<-hw8,hss _ _ 0 _ _ _ X0]
   rfl)
 have HW:=Hd hw8;clear hS hT hK g hm V0 X0 hw8;go_upto_region 4 with fail
 rw[HW.o];clear bx d0 d1 d2 d3 g1 u0 u1 y0 y1;go_wp2_with fail;go_ret;exact⟨rfl,FIN.o⟩
theorem aER {w0 w:World}{R:List Nat}{t d s n:Nat}{root:Int}{E:List Ent}(h:TrR w0 (t::R) w d s n root E)(o1 o2 o3:Obj)(x3:World)(hx:((w.alloc o1).alloc o2).alloc o3=x3) :
  TrR w0 ((w.heap.size+2)::(w.heap.size+1)::w.heap.size::t::R) x3 d s n root E/\x3.heap[w.heap.size]?=some o1/\x3.heap[w.heap.size+1]?=some o2/\x3.heap[w.heap.size+2]?=some o3/\t<w.heap.size/\(∀ k∈t::R,k<w.heap.size)/\Below w.heap.size w x3:=by
 obtain⟨x1,hx1⟩:∃ x1,w.alloc o1=x1:=⟨_,rfl⟩
 obtain⟨x2,hx2⟩:∃ x2,x1.alloc o2=x2:=⟨_,rfl⟩
 rw[hx1,hx2] at hx;have z1:x1.heap.size=w.heap.size+1:=by rw[<-hx1];simp
 have z2:x2.heap.size=w.heap.size+2:=by rw[<-hx2];simp[z1]
 have z3:x3.heap.size=w.heap.size+3:=by rw[<-hx];simp[z2]
 have b1:Below w.heap.size w x1:=by rw[<-hx1];exact aB _ _
 have b2:Below x1.heap.size x1 x2:=by rw[<-hx2];exact aB _ _
 have b3:Below x2.heap.size x2 x3:=by rw[<-hx];exact aB _ _
 have m1:x1.heap[w.heap.size]?=some o1:=by rw[<-hx1];exact han w _
 have m2:x2.heap[w.heap.size+1]?=some o2:=by rw[<-hx2,<-z1];exact han x1 _
 have m3:x3.heap[w.heap.size+2]?=some o3:=by rw[<-hx,<-z2];exact han x2 _
 have hlt:=h.lt;have bw:Below w.heap.size w x3:=(b1.trans (b2.mono (by omega))).trans (b3.mono (by omega))
 exact⟨((h.more b1 w.heap.size (Nat.le_refl _) (by omega)).more b2 (w.heap.size+1) (by omega) (by omega)).more b3 (w.heap.size+2) (by omega) (by omega),
  (b3.block _ (by omega)).trans ((b2.block _ (by omega)).trans m1),(b3.block _ (by omega)).trans m2,m3,hlt t (by simp),hlt,bw⟩
theorem aFP {w0 w:World}{R:List Nat}{t d s n:Nat}{root key:Int}{E:List Ent}(h:TrR w0 (t::R) w d s n root E)(ht:w.heap[t]?=some (txC s root 0 false))(ht0:w0.heap.size<=t)
  (H0:Nat)(h9:H0<=8)(hE:E.length<2 ^ (H0+1))(hn:2*E.length+2*H0+5<=n)(hk:0<=key/\key<=18446744073709551615)(gb:Bool)(hgb:dY key E=gb) :
  Calls Tryz.prog 84 #[.pointer (some ⟨t,0,none⟩),.int .u64 key] w fun e w'=>e=.returned (.bool gb)/\∃ q,TrR w0 (t::R) w' d s n q (iK key E)/\w'.heap[t]?=some (txC s q 0 false)/\∀ k∈R,k≠t->w'.heap[k]?=w.heap[k]?:=by
 obtain⟨x3,hx3⟩:∃ x3,((w.alloc (.cells #[.pointer (some ⟨t,0,none⟩)] 24)).alloc (.cells #[.int .u64 key] 82)).alloc (.cells #[.bool false] 4)=x3:=⟨_,rfl⟩
 obtain⟨hT,m1,m2,m3,htl,hlt,bw⟩:=aER h _ _ _ x3 hx3;have ht4:=(bw.block t htl).trans ht;have hs0:=h.size.size
 have DO:=Hd (aEL x3 t s root #[.pointer (some ⟨w.heap.size,0,none⟩),.pointer (some ⟨w.heap.size+1,0,none⟩),.pointer (some ⟨w.heap.size+2,0,none⟩)] ht4
  (fun c w'=>c=0/\∃ q,TrR w0 ((w.heap.size+2)::(w.heap.size+1)::w.heap.size::t::R) w' d s n q (iK key E)/\w'.heap[t]?=some (txC s q 0 false)/\w'.heap[w.heap.size+2]?=some (.cells #[.bool gb] 4)/\∀ k∈((w.heap.size+2)::(w.heap.size+1)::w.heap.size::t::R),k≠t->k≠w.heap.size+2->w'.heap[k]?=x3.heap[k]?)
  ((aCN hT ⟨m1,m2,ht4⟩ (by simp) ht0 ⟨m3,by simp,by omega,by omega⟩ H0 h9 hE hn hk gb hgb).mono fun e w' ⟨h1,q,h2,h3,h4,h5⟩=>⟨0,h1,⟨rfl,q,h2,h3,h4,h5⟩,q,h3⟩))
 have HF:=Hd (And.intro bw (And.intro htl (And.intro hlt ht0)));have bx:=(aF m1).1;have HX:=Hd hx3;clear h ht hT m1 m2 m3 htl hlt ht0 bw hx3 h9 hE hn hk hgb ht4 hs0;go_enter Tryz.func84,Tryz.ntmps84;go_upto_region 2 with fail
 try simp only[Nat.add_assoc,Nat.reduceAdd,World.heap_size_alloc]
 rw[HX.o];go_wp2_with fail;refine DO.mono ?_;rintro e w6 ⟨c,w5,rfl,⟨rfl,q,h1,h2,h3,h4⟩,hw6⟩;have htl:=HF.2.1;obtain⟨g1,g2⟩:=aAX h2 hw6;have cb:=(aF ((g2.block _ (h1.lt (w.heap.size+2) (by simp)) (by omega)).trans h3)).1
 have FIN:Hid (∃ q,TrR w0 (t::R) w6 d s n q (iK key E)/\w6.heap[t]?=some (txC s q 0 false)/\∀ k∈R,k≠t->w6.heap[k]?=w.heap[k]?):=Hd (by
  refine⟨q,(h1.turn (by simp) HF.2.2.2 g2).sub (fun k hk=>by simp only[List.mem_cons] at hk |-;rcases hk with hk|hk <;> simp[hk]),g1,fun k hk hne=>?_⟩;have hm:k∈((w.heap.size+2)::(w.heap.size+1)::w.heap.size::t::R):=by simp[hk]
  have hkl:=HF.2.2.1 k (by simp[hk]);exact(g2.block k (h1.lt k hm) hne).trans ((h4 k hm hne (by omega)).trans (HF.1.block k hkl)))
 clear h1 h2 h3 h4 hw6 g1 g2 bx htl;go_wp2_with fail;go_ret;exact⟨rfl,FIN.o⟩
theorem aFQ {w0 w:World}{R:List Nat}{t d s:Nat}{E:List Ent}{key:Int}(h:TxS w0 R w t d s 640 E)(hE:E.length<=300)(hk:0<=key/\key<=18446744073709551615)(gb:Bool)(hgb:dY key E=gb) :
  Calls Tryz.prog 84 #[.pointer (some ⟨t,0,none⟩),.int .u64 key] w fun e w'=>e=.returned (.bool gb)/\TxS w0 R w' t d s 640 (iK key E)/\KeptT R t w w':=by
 obtain⟨⟨q,h1,h2⟩,h3⟩:=h;refine(aFP h1 h2 h3 8 (by decide) (by omega) (by omega) hk gb hgb).mono ?_;rintro e w' ⟨rfl,q',g1,g2,g3⟩;exact⟨rfl,⟨⟨q',g1,g2⟩,h3⟩,g3⟩
def pT (E:List Ent)(id:Int)(c:bJ):List Ent:=if c.ex=0 then E else iK (aE 5 c.ex id) E
theorem YS (E:List Ent)(id:Int)(c:bJ):(pT E id c).length<=E.length:=by
 unfold pT
 split
 ·exact Nat.le_refl _
 ·exact ZI _ _
theorem IJ {w0 w:World}{R:List Nat}{t d s:Nat}{E:List Ent}{id:Int}{c:bJ}(h:TxS w0 R w t d s 640 E)(hE:E.length<=300) :
  Calls Tryz.prog 47 #[.pointer (some ⟨t,0,none⟩),.agg #[.int .i64 id,.int .i64 c.pa,.int .i64 c.ob,.int .i64 c.ow,.int .i64 c.ri,.int .i64 c.ba,.int .i64 c.de,.int .i64 c.ex,.int .i64 c.cu,.bool c.rv]] w fun e w'=>e=.returned (.tuple #[])/\TxS w0 R w' t d s 640 (pT E id c)/\KeptT R t w w':=by
 obtain⟨a1,a2,a3,a4,a5,a6,a7⟩:=h.box (.cells #[.int .i64 id,.int .i64 c.pa,.int .i64 c.ob,.int .i64 c.ow,.int .i64 c.ri,.int .i64 c.ba,.int .i64 c.de,.int .i64 c.ex,.int .i64 c.cu,.bool c.rv] 65);obtain⟨x1,hx1⟩:∃ x1,w.alloc (.cells #[.int .i64 id,.int .i64 c.pa,.int .i64 c.ob,.int .i64 c.ow,.int .i64 c.ri,.int .i64 c.ba,.int .i64 c.de,.int .i64 c.ex,.int .i64 c.cu,.bool c.rv] 65)=x1:=⟨_,rfl⟩
 rw[hx1] at a1 a2 a3 a5;have KY:=Hd (fun w=>pN 5 c.ex id _ w rfl);have DE:=Hd (aFQ (key:=aE 5 c.ex id) a1 hE (cP _ _ _) _ rfl);have FIN0:=Hd (And.intro (a1.sub (R':=R) fun k hk=>by simp[hk]) a2);obtain⟨⟨k0,k1,k2,k3,k4,k5,k6,k7,k8,k9⟩,_⟩:=dF a3;obtain⟨ex,hex⟩:∃ ex,c.ex=ex:=⟨_,rfl⟩
 have HF:Hid (pT E id c=if ex=0 then E else iK (aE 5 ex id) E):=Hd (by rw[<-hex];rfl);have HX:=Hd hx1;rw[hex] at KY DE k7;clear hex h hE a1 a2 a3 a4 a5 a6 a7 hx1
 by_cases h0:ex=0
 ·have h0a:(ex==0)=true:=by simpa using h0
  have h0b:(ex != 0)=false:=by simpa using h0
  have HF2:=Hd (show pT E id c=E by rw[HF.o,if_pos h0]);clear h0;go_enter Tryz.func47,Tryz.ntmps47;go_upto_region 1 with fail
  rw[HX.o];go_wp2_with fail
  go_end0
  exact⟨rfl,by rw[HF2.o];exact FIN0.1,FIN0.2⟩
 ·have h0a:(ex==0)=false:=by simpa using h0
  have h0b:(ex != 0)=true:=by simpa using h0
  have HF2:=Hd (show pT E id c=iK (aE 5 ex id) E by rw[HF.o,if_neg h0]);clear h0;go_enter Tryz.func47,Tryz.ntmps47;go_upto_region 1 with fail
  rw[HX.o];go_wp2_with fail;refine(KY _).mono ?_;rintro e w9 ⟨rfl,rfl⟩;go_wp2_with fail;refine DE.mono ?_;rintro e w3 ⟨rfl,h1,h2⟩;have FIN:Hid (TxS w0 R w3 t d s 640 (pT E id c)/\KeptT R t w w3):=Hd ⟨by rw[HF2.o];exact h1.sub fun k hk=>by simp[hk],FIN0.2.trans (h2.sub (R':=R) fun k hk=>by simp[hk])⟩;clear h1 h2 DE;go_wp2_with fail
  go_end0
  exact⟨rfl,FIN.o⟩
theorem JD {w0 w:World}{R:List Nat}{t d s:Nat}{E:List Ent}{bt bi:Nat}{id:Int}{c:bJ}(h:TxS w0 R w t d s 640 E)(hb:w.heap[bt]?=some (.cells #[.pointer (some ⟨t,0,none⟩)] 24))(hi:w.heap[bi]?=some (.cells #[.int .i64 id] 3))(hm:(bt∈R/\bt≠t/\w0.heap.size<=bt)/\(bi∈R/\bi≠t/\w0.heap.size<=bi))(hE:E.length<=300)(hg:TR E id c) :
  Calls Tryz.prog 56 #[.pointer (some ⟨bt,0,none⟩),.pointer (some ⟨bi,0,none⟩)] w fun e w'=>e=.returned (.int .i64 0)/\TxS w0 R w' t d s 640 (pT E id c)/\KeptT R t w w':=by
 have GE:=Hd (wT h (show E.length<=600 by omega) hg);have c0:=(aF hb).1;have c1:=(aF hi).1;have HB:=Hd (And.intro hb (And.intro hi hm));have HE:=Hd hE;clear h hb hi hm hE hg;go_enter Tryz.func56,Tryz.ntmps56;go_wp2_with fail;refine GE.mono ?_;rintro e w2 ⟨rfl,h1,h2⟩;obtain⟨a1,a2,a3,a4,a5,a6,a7⟩:=h1.box (.cells #[.int .i64 id,.int .i64 c.pa,.int .i64 c.ob,.int .i64 c.ow,.int .i64 c.ri,.int .i64 c.ba,.int .i64 c.de,.int .i64 c.ex,.int .i64 c.cu,.bool c.rv] 65)
 obtain⟨x1,hx1⟩:∃ x,w2.alloc (.cells #[.int .i64 id,.int .i64 c.pa,.int .i64 c.ob,.int .i64 c.ow,.int .i64 c.ri,.int .i64 c.ba,.int .i64 c.de,.int .i64 c.ex,.int .i64 c.cu,.bool c.rv] 65)=x:=⟨_,rfl⟩
 rw[hx1] at a1 a2 a3 a5;have FO:=Hd (IJ (id:=id) (c:=c) a1 HE.o);have K1:=Hd (h2.trans a2);have X1:=Hd hx1;clear c0 c1;have c0:=(aF ((K1 bt HB.2.2.1.1 HB.2.2.1.2.1).trans HB.1)).1;obtain⟨⟨y0,y1,y2,y3,y4,y5,y6,y7,y8,y9⟩,_⟩:=dF a3;clear h1 h2 a1 a2 a3 a4 a5 a6 a7 hx1 GE;go_upto_region 2 with fail
 rw[X1.o];go_wp2_with fail;refine FO.mono ?_;rintro e w3 ⟨rfl,h1,h2⟩;have FIN:=Hd (And.intro (h1.sub (R':=R) fun k hk=>by simp[hk]) (K1.trans (h2.sub (R':=R) fun k hk=>by simp[hk])));clear h1 h2 FO c0 y0 y1 y2 y3 y4 y5 y6 y7 y8 y9;go_wp2_with fail;go_ret;exact⟨rfl,FIN.o⟩
theorem xY {w0 w:World}{R:List Nat}{t d s:Nat}{E:List Ent}{bt bi:Nat}{id:Int}(h:TxS w0 R w t d s 640 E)(hb:w.heap[bt]?=some (.cells #[.pointer (some ⟨t,0,none⟩)] 24))(hi:w.heap[bi]?=some (.cells #[.int .i64 id] 3))(hE:E.length<=300)(hg:NoC E id) :
  Calls Tryz.prog 56 #[.pointer (some ⟨bt,0,none⟩),.pointer (some ⟨bi,0,none⟩)] w fun e w'=>e=.returned (.int .i64 3)/\TxS w0 R w' t d s 640 E/\KeptT R t w w':=by
 have GE:=Hd (TH h (show E.length<=600 by omega) hg);have c0:=(aF hb).1;have c1:=(aF hi).1;clear h hb hi hE hg;go_enter Tryz.func56,Tryz.ntmps56;go_wp2_with fail;refine GE.mono ?_;rintro e w2 ⟨rfl,h1,h2⟩;obtain⟨a1,a2,a3,a4,a5,a6,a7⟩:=h1.box (.cells #[.int .i64 0,.int .i64 0,.int .i64 0,.int .i64 0,.int .i64 0,.int .i64 0,.int .i64 0,.int .i64 0,.int .i64 0,.bool false] 65);have FIN:=Hd (And.intro (a1.sub (R':=R) fun k hk=>by simp[hk]) (h2.trans a2));clear h1 h2 a1 a2 a3 a4 a5 a6 a7 GE c0 c1;go_wp2_with fail;go_ret;exact⟨rfl,FIN.o⟩
theorem II {w0 w:World}{R:List Nat}{t d s:Nat}{E:List Ent}{id:Int}{c:bJ}(h:TxS w0 R w t d s 640 E)(hE:E.length<=300)(hg:TR E id c) :
  Calls Tryz.prog 17 #[.pointer (some ⟨t,0,none⟩),.int .i64 id] w fun e' w'=>e'=.returned (.int .i64 0)/\TxS w0 R w' t d s 640 (pT E id c)/\KeptT R t w w':=
 LN h fun R' wa b0 b1 hT g0 g1 gm=>JD hT g0 g1 gm hE hg
theorem xR {w0 w:World}{R:List Nat}{t d s:Nat}{E:List Ent}{id:Int}(h:TxS w0 R w t d s 640 E)(hE:E.length<=300)(hg:NoC E id) :
  Calls Tryz.prog 17 #[.pointer (some ⟨t,0,none⟩),.int .i64 id] w fun e' w'=>e'=.returned (.int .i64 3)/\TxS w0 R w' t d s 640 E/\KeptT R t w w':=
 LN h fun R' wa b0 b1 hT g0 g1 gm=>xY hT g0 g1 hE hg
def atE (a:Int):Nat->List Int->List Int
 | _,[]=>[]
 | j,x::r=>if x=a then((j:Int)+1)::atE a (j+1) r else atE a (j+1) r
def jU (ls:List Int):Nat->List (Int × Int)
 | 0=>[]
 | n+1=>jU ls n++(atE ((n:Int)+1) 0 ls).map fun i=>((n:Int)+1,i)
theorem qB (a:Int)(j:Nat)(x:Int)(r:List Int):atE a j (x::r)=if x=a then((j:Int)+1)::atE a (j+1) r else atE a (j+1) r:=rfl
theorem lM (ls:List Int)(n:Nat):jU ls (n+1)=jU ls n++(atE ((n:Int)+1) 0 ls).map fun i=>((n:Int)+1,i):=rfl
theorem jW (a:Int):∀ (ls:List Int) (j:Nat) (i:Int),i∈atE a j ls ↔ ∃ k:Nat,ls[k]?=some a/\i=((j+k:Nat):Int)+1
 | [],j,i=>by simp[atE]
 | x::r,j,i=>by
  have ih:=jW a r (j+1) i
  have step:(∃ k:Nat,(x::r)[k]?=some a/\i=((j+k:Nat):Int)+1) ↔ (x=a/\i=(j:Int)+1)\/∃ k:Nat,r[k]?=some a/\i=((j+1+k:Nat):Int)+1:=by
   constructor
   ·rintro⟨k,h1,h2⟩
    cases k with
    | zero=>exact .inl ⟨by simpa using h1,by simpa using h2⟩
    | succ k=>exact .inr ⟨k,by simpa using h1,by rw[h2];omega⟩
   ·rintro(⟨h1,h2⟩|⟨k,h1,h2⟩)
    ·exact⟨0,by simpa using h1,by simpa using h2⟩
    ·exact⟨k+1,by simpa using h1,by rw[h2];omega⟩
  rw[step,<-ih];rw[qB]
  by_cases e:x=a
  ·rw[if_pos e,List.mem_cons]
   exact⟨fun h=>h.imp (fun h=>⟨e,h⟩) id,fun h=>h.imp (fun h=>h.2) id⟩
  ·rw[if_neg e]
   exact⟨.inr,fun h=>h.resolve_left fun h=>e h.1⟩
theorem uJ (a:Int):∀ (ls:List Int) (j:Nat),(atE a j ls).Pairwise (·<·)
 | [],j=>List.Pairwise.nil
 | x::r,j=>by
  rw[qB]
  by_cases e:x=a
  ·rw[if_pos e]
   refine List.Pairwise.cons (fun i hi=>?_) (uJ a r (j+1));obtain⟨k,_,h2⟩:=(jW a r (j+1) i).1 hi;omega
  ·rw[if_neg e];exact uJ a r (j+1)
theorem yS (a:Int):∀ (ls:List Int) (j:Nat),(atE a j ls).length=ls.countP fun x=>decide (x=a)
 | [],j=>rfl
 | x::r,j=>by
  rw[qB]
  by_cases e:x=a
  ·rw[if_pos e,List.length_cons,yS a r (j+1),List.countP_cons_of_pos (by simpa using e)]
  ·rw[if_neg e,yS a r (j+1),List.countP_cons_of_neg (by simpa using e)]
theorem wV (a:Int):∀ (ls:List Int) (j k:Nat),(atE a j ls).count (((j+k:Nat):Int)+1)=if ls[k]?=some a then 1 else 0
 | [],j,k=>by simp[atE]
 | x::r,j,k=>by
  rw[qB]
  cases k with
  | zero=>
   have hz:(atE a (j+1) r).count (((j+0:Nat):Int)+1)=0:=List.count_eq_zero.2 fun hm=>by
    obtain⟨k,_,h2⟩:=(jW a r (j+1) _).1 hm;omega
   by_cases e:x=a
   ·rw[if_pos e,show((j+0:Nat):Int)+1=(j:Int)+1 by omega,List.count_cons_self,show(j:Int)+1=((j+0:Nat):Int)+1 by omega,hz]
    simp[e]
   ·rw[if_neg e,hz];simp[e]
  | succ k=>
   have ih:=wV a r (j+1) k;rw[show j+1+k=j+(k+1) by omega] at ih
   by_cases e:x=a
   ·rw[if_pos e,List.count_cons_of_ne (by omega),ih];simp
   ·rw[if_neg e,ih];simp
theorem kT (ls:List Int):∀ (n:Nat) (a i:Int),(a,i)∈jU ls n ↔ 1<=a/\a<=n/\∃ k:Nat,ls[k]?=some a/\i=(k:Int)+1
 | 0,a,i=>⟨fun h=>(List.not_mem_nil h).elim,fun h=>by have h1:=h.1;have h2:=h.2.1;simp at h2;omega⟩
 | n+1,a,i=>by
  rw[lM,List.mem_append,kT ls n a i,List.mem_map];constructor
  ·rintro(⟨h1,h2,h3⟩|⟨y,hy,e⟩)
   ·exact⟨h1,by omega,h3⟩
   ·simp only[Prod.mk.injEq] at e
    obtain⟨e1,e2⟩:=e;obtain⟨k,g1,g2⟩:=(jW _ ls 0 y).1 hy;exact⟨by omega,by omega,k,by rw[g1,e1],by rw[<-e2,g2,Nat.zero_add]⟩
  ·rintro⟨h1,h2,k,h3,h4⟩
   by_cases e:a=(n:Int)+1
   ·exact .inr ⟨i,(jW _ ls 0 i).2 ⟨k,by rw[h3,e],by rw[h4,Nat.zero_add]⟩,by rw[e]⟩
   ·exact .inl ⟨h1,by omega,k,h3,h4⟩
theorem wP (ls:List Int):∀ n:Nat,(jU ls n).length=ls.countP fun x=>decide (1<=x)&&decide (x<=(n:Int))
 | 0=>by
  unfold jU;refine(List.countP_eq_zero.2 fun x _=>?_).symm;simp only[Bool.and_eq_true,decide_eq_true_eq];omega
 | n+1=>by
  rw[lM,List.length_append,List.length_map,wP ls n,yS]
  induction ls with
  | nil=>rfl
  | cons x r ih=>
   simp only[List.countP_cons,Bool.and_eq_true,decide_eq_true_eq];rw[show((n+1:Nat):Int)=(n:Int)+1 by omega] at ih |-
   split <;> split <;> split <;> omega
theorem rK (ls:List Int)(k:Nat):∀ n:Nat,((jU ls n).map (·.2)).count ((k:Int)+1)=if((ls[k]?).any fun a=>decide (1<=a)&&decide (a<=(n:Int)))=true then 1 else 0
 | 0=>by
  rw[if_neg]
  ·rfl
  ·cases ls[k]? with
   | none=>simp
   | some x=>simp only[Option.any_some,Bool.and_eq_true,decide_eq_true_eq];omega
 | n+1=>by
  rw[lM,List.map_append,List.count_append,rK ls k n,List.map_map]
  have e0:(atE ((n:Int)+1) 0 ls).map ((fun x=>x.2) ∘ fun i=>((n:Int)+1,i))=atE ((n:Int)+1) 0 ls:=by
   rw[show((fun x:Int × Int=>x.2) ∘ fun i:Int=>((n:Int)+1,i))=id from rfl,List.map_id]
  have e1:=wV ((n:Int)+1) ls 0 k;rw[Nat.zero_add] at e1;rw[e0,e1];clear e1
  cases hk:ls[k]? with
  | none=>simp
  | some x=>
   simp only[Option.any_some,Bool.and_eq_true,decide_eq_true_eq,Option.some.injEq]
   split <;> split <;> split <;> omega
theorem rH {a b:Int}(ha:0<=a/\a<=268435455)(hb:0<=b/\b<=4294967295):bT 5 a b=true:=fF.2 ⟨by omega,ha,hb⟩
theorem kQ {a b:Int}(h:bT 5 a b=true):aE 5 a b=5*1152921504606846976+a*4294967296+b:=by unfold aE;rw[if_pos h]
def JN (ls:List Int)(n:Nat):List Ent:=(jU ls n).map fun p=>(aE 5 p.1 p.2,(⟨#[]⟩:ByteArray))
theorem wR {ls:List Int}(hl:ls.length<=90):∀ n:Nat,n<=1000->jX (JN ls n)
 | 0,_=>List.Pairwise.nil
 | n+1,hn=>by
  have ih:=wR hl n (by omega);unfold JN;rw[lM,List.map_append];refine List.pairwise_append.2 ⟨ih,?_,fun x hx y hy=>?_⟩
  ·rw[List.map_map]
   refine List.pairwise_map.2 ((List.Pairwise.and_mem.1 (uJ _ ls 0)).imp ?_);rintro i j ⟨hi,hj,hij⟩;obtain⟨k,g1,g2⟩:=(jW _ ls 0 i).1 hi;obtain⟨k',g3,g4⟩:=(jW _ ls 0 j).1 hj;have b1:=(List.getElem?_eq_some_iff.1 g1).1;have b2:=(List.getElem?_eq_some_iff.1 g3).1;have a1:=kQ (rH (a:=(n:Int)+1) (b:=i) (by omega) (by omega));have a2:=kQ (rH (a:=(n:Int)+1) (b:=j) (by omega) (by omega))
   dsimp only[Function.comp_apply]
   omega
  ·obtain⟨⟨a,i⟩,hp,rfl⟩:=List.mem_map.1 hx
   obtain⟨⟨b,j⟩,hq,rfl⟩:=List.mem_map.1 hy;obtain⟨h1,h2,k,g1,g2⟩:=(kT ls n a i).1 hp;obtain⟨y,hy,e⟩:=List.mem_map.1 hq;simp only[Prod.mk.injEq] at e;obtain⟨e1,e2⟩:=e;obtain⟨k',g3,g4⟩:=(jW _ ls 0 y).1 hy;have b1:=(List.getElem?_eq_some_iff.1 g1).1;have b2:=(List.getElem?_eq_some_iff.1 g3).1;have a1:=kQ (rH (a:=a) (b:=i) (by omega) (by omega));have a2:=kQ (rH (a:=b) (b:=j) (by omega) (by omega))
   dsimp only
   omega
theorem CpE.due {E:List Ent}{cs:List (Option bJ)}{os:List dS}{ls:List Int}{m:Nat}(h:CpE E cs os ls m){n:Nat}(hn:n<=1000):((bB (aE 5 0 0) E).takeWhile fun(e:Ent)=>(spK e.1==5)&&decide (spA e.1<=(n:Int)))=JN ls n:=by
 have hl:ls.length<=90:=by have:=h.ll;have:=h.cl;omega
 have k0:=kQ (rH (a:=0) (b:=0) (by decide) (by decide));rw[aA0 h.keys]
 ·have hs:=wR hl n hn
  refine OP (List.Pairwise.filter _ h.keys.1) hs fun x=>?_
  have hf:=CM (fun x=>decide (aE 5 0 0<=x)&&((spK x==5)&&decide (spA x<=(n:Int)))) E x;rw[hf]
  cases hg:cO x (JN ls n) with
  | some v=>
   obtain⟨⟨a,i⟩,hp,he⟩:=List.mem_map.1 ((mK hs).2 hg);simp only[Prod.mk.injEq] at he;obtain⟨hx1,hv1⟩:=he;obtain⟨h1,h2,k,g1,g2⟩:=(kT ls n a i).1 hp;have b1:=(List.getElem?_eq_some_iff.1 g1).1;have kk:bT 5 a i=true:=rH (by omega) (by omega);obtain⟨e1,e2,e3⟩:=rX kk;have e4:=kQ kk;rw[<-hx1,<-hv1]
   have hin:(decide (aE 5 0 0<=aE 5 a i)&&((spK (aE 5 a i)==5)&&decide (spA (aE 5 a i)<=(n:Int))))=true:=by
    rw[e1,e2];simp only[beq_self_eq_true,Bool.true_and,Bool.and_eq_true,decide_eq_true_eq];omega
   rw[if_pos hin,h.lease _ _ kk,if_pos];unfold gQ;rw[show(i-1).toNat=k by omega,decide_eq_true_eq];exact⟨by omega,g1,by omega⟩
  | none=>
   by_cases hp:(decide (aE 5 0 0<=x)&&((spK x==5)&&decide (spA x<=(n:Int))))=true
   ·rw[if_pos hp]
    cases hx:cO x E with
    | none=>rfl
    | some v=>
     have hr:0<=x/\x<=18446744073709551615:=h.keys.2 _ ((mK h.keys.1).2 hx);simp only[Bool.and_eq_true,beq_iff_eq,decide_eq_true_eq] at hp;obtain⟨q1,q2⟩:=aB7 hr.1 hr.2 hp.2.1 rfl rfl;have hb:=fF.1 q2;rw[<-q1,h.lease _ _ q2] at hx
     by_cases hL:gQ ls (spA x) (spB x)=true
     ·unfold gQ at hL
      rw[decide_eq_true_eq] at hL;have hm:(x,(⟨#[]⟩:ByteArray))∈JN ls n:=List.mem_map.2 ⟨(spA x,spB x),(kT ls n _ _).2 ⟨by omega,hp.2.2,_,hL.2.1,by omega⟩,by rw[q1]⟩;rw[(mK hs).1 hm] at hg
      cases hg
     ·rw[if_neg hL] at hx;cases hx
   ·rw[if_neg hp]
 ·intro a b h1 h2 h3 h4
  unfold spK spA;simp only[Bool.and_eq_true,beq_iff_eq,decide_eq_true_eq];rw[k0] at h1;omega
theorem ZE {ls:List Int}(hl:ls.length<=90){n:Nat}(hn:n<=1000):((JN ls n).map fun(e:Ent)=>spB e.1)=(jU ls n).map (·.2):=by
 unfold JN;rw[List.map_map];refine List.map_congr_left fun p hp=>?_
 obtain⟨a,i⟩:=p;obtain⟨h1,h2,k,g1,g2⟩:=(kT ls n a i).1 hp;have b1:=(List.getElem?_eq_some_iff.1 g1).1;exact(rX (rH (a:=a) (b:=i) (by omega) (by omega))).2.2
theorem CpE.forget {E:List Ent}{cs:List (Option bJ)}{os:List dS}{ls:List Int}{m:Nat}(h:CpE E cs os ls m){i:Nat}{c:bJ}(hc:cs[i]?=some (some c)):CpE (pT E ((i:Int)+1) c) cs os (ls.set i 0) m:=by
 have hi:=(List.getElem?_eq_some_iff.1 hc).1;have hcl:=h.cl;have hR:=qR.1 (h.capOk i c hc);have hli:i<ls.length:=by have:=h.ll;omega
 have hlx:=h.lsx i c hc
 have hls:∀ (j:Nat) (c':bJ),cs[j]?=some (some c')->(ls.set i 0)[j]?=some c'.ex\/(ls.set i 0)[j]?=some 0:=fun j c' hj=>by
  by_cases e:i=j
  ·subst e;right;simp[hli]
  ·rw[List.getElem?_set_ne e];exact h.lsx j c' hj
 by_cases e0:c.ex=0
 ·have:pT E ((i:Int)+1) c=E:=by unfold pT;rw[if_pos e0]
  rw[this]
  have e1:ls.set i 0=ls:=by
   rw[e0] at hlx;have e2:ls[i]?=some 0:=hlx.elim id id;obtain⟨_,e3⟩:=List.getElem?_eq_some_iff.1 e2;rw[<-e3];exact List.set_getElem_self _
  rw[e1];exact h
 ·have hf:pT E ((i:Int)+1) c=iK (aE 5 c.ex ((i:Int)+1)) E:=by unfold pT;rw[if_neg e0]
  have q5:bT 5 c.ex ((i:Int)+1)=true:=rH (by have:=hR.ex;omega) (by omega);rw[hf];have q9:∀ b:Int,0<=b->b<=4294967295->bT 9 0 b=true:=fun b h1 h2=>k9 b h1 h2
  refine⟨QY h.keys _,?_,h.cl,h.ol,by rw[List.length_set];exact h.ll,?_,?_,fun id h0 h1=>?_,fun b h0 h1=>?_,fun a b hk=>?_,fun a b hk=>?_,h.capOk,h.ownOk,hls⟩
  ·exact Nat.le_trans (by rw[<-hf];exact YS _ _ _) h.len
  ·rw[kS (q9 1 (by decide) (by decide)) q5,if_neg (by omega)];exact h.n1
  ·rw[kS (q9 2 (by decide) (by decide)) q5,if_neg (by omega)];exact h.n2
  ·rw[kS (k1 (by omega) (by omega)) q5,if_neg (by omega)];exact h.cap id h0 h1
  ·rw[kS (k3 h0 h1) q5,if_neg (by omega)];exact h.own b h0 h1
  ·rw[kS hk q5,if_neg (by omega)];exact h.kid a b hk
  ·rw[kS hk q5,IL ls 0 hli,h.lease a b hk]
   by_cases e1:b=(i:Int)+1
   ·rw[if_pos e1,show decide ((0:Int)=a/\a≠0)=false by rw[decide_eq_false_iff_not];omega]
    by_cases e2:c.ex=a
    ·rw[if_pos ⟨rfl,e2.symm,e1⟩];rfl
    ·rw[if_neg (by omega),if_neg]
     ·simp
     ·unfold gQ
      rw[e1,show((i:Int)+1-1).toNat=i by omega,decide_eq_true_eq];rintro⟨_,g1,g2⟩
      rcases hlx with g3|g3
      ·rw[g3] at g1;injection g1 with g1;exact e2 g1
      ·rw[g3] at g1;injection g1 with g1;exact g2 g1.symm
   ·rw[if_neg (by omega),if_neg e1]
theorem tsoX {w0 w W4 Wz:World}{F G:Nat->Prop}{R Xb Cb Rb:List Nat}{t d s n D:Nat}{E:List Ent}
  (hl:(∀ k∈R,k<w.heap.size)/\t<w.heap.size)(f0:Below w0.heap.size w0 w)(hnF:∀ k∈R,¬ F k)(hFl:∀ k,F k->k<w.heap.size)
  (q:Below w.heap.size w W4)(hCb:∀ k∈Cb,w.heap.size<=k/\k<W4.heap.size)(hX:∀ k∈Xb,w.heap.size<=k/\k<Wz.heap.size)(hRb:∀ k∈Rb,Wz.heap[k]?=w.heap[k]?)
  (hV:TxF w0 F Wz t d s n E)(hfr:Frm (fun k=>(k∈Cb\/k∈Rb)\/G k) W4 Wz)(hG:∀ k,G k->F k\/k=t\/k<w0.heap.size\/w.heap.size<=k)
  (hD:W4.heap.size<=D)(hdef:D<Wz.heap.size):TxS w0 (D::(Xb++(Cb++R))) Wz t d s n E/\KeptT R t w Wz:=by
 obtain⟨h1,h2⟩:=tso hl f0 hnF hFl q hCb hRb hV hfr hG hD hdef;refine⟨hV.hide fun k hk=>?_,h2⟩;obtain⟨F',hF',hn',_⟩:=h1.said;have hz:=hfr.size;have qs:=q.size;simp only[List.mem_cons,List.mem_append] at hk
 rcases hk with rfl|hk|hk|hk
 ·exact⟨hdef,fun e=>by have:=hFl _ e;omega⟩
 ·exact⟨(hX k hk).2,fun e=>by have:=hFl _ e;have:=(hX k hk).1;omega⟩
 ·have:=hCb k hk
  exact⟨by omega,fun e=>by have:=hFl _ e;omega⟩
 ·exact⟨by have:=hl.1 k hk;omega,hnF k hk⟩
theorem xK {w:World}{B:Nat}{e:TypeId}{z:Nat}{v:Value}{n:Nat}{xs:List Value}(h:w.ownsRow B e z v n xs){a:Addr}(ha:v.ownBlock≠some a.block)(u:Value):(w.setCell a u).ownsRow B e z v n xs:=
 lG h fun k hk=>Below.heap_setCell _ _ _ _ fun e=>ha (by rw[hk,e])
def ZrI (lb:Nat)(Y:List (Nat × Obj))(L:List Int)(D:Nat->Prop)(W:World):Prop:=
 ∃ v,W.heap[lb]?=some (.cells #[v] 22)/\(∀ p∈Y,W.heap[p.1]?=some p.2)/\W.ownsRow (lb+1) 3 1 v L.length (L.map fun(x:Int)=>Value.int .i64 x)/\∀ k,D k ↔ k=lb\/k∈Y.map (·.1)\/v.ownBlock=some k
theorem ZrI.on {lb:Nat}{Y:List (Nat × Obj)}{L:List Int}{D:Nat->Prop}{A B:World}(h:ZrI lb Y L D A)(ho:OnC D A B):ZrI lb Y L D B:=by
 obtain⟨v,h1,h2,h3,h4⟩:=h;have lt:∀ {k:Nat} {o:Obj},A.heap[k]?=some o->k<A.heap.size:=fun h=>(zl h)
 exact⟨v,(ho.block _ (lt h1) ((h4 _).2 (.inl rfl))).trans h1,fun p hp=>(ho.block _ (lt (h2 p hp)) ((h4 _).2 (.inr (.inl (List.mem_map.2 ⟨p,hp,rfl⟩))))).trans (h2 p hp),lG h3 fun k hk=>ho.block k (h3.lt k hk).2 ((h4 k).2 (.inr (.inr hk))),h4⟩
theorem ZrI.lt {lb:Nat}{Y:List (Nat × Obj)}{L:List Int}{D:Nat->Prop}{A:World}(h:ZrI lb Y L D A){k:Nat}(hk:D k):k<A.heap.size:=by
 obtain⟨v,h1,h2,h3,h4⟩:=h
 rcases(h4 k).1 hk with rfl|h5|h5
 ·exact(zl h1)
 ·obtain⟨p,hp,rfl⟩:=List.mem_map.1 h5
  exact(zl (h2 p hp))
 ·exact(h3.lt k h5).2
theorem YE:∃ i z,Tryz.prog.info? 3=some i/\i.zero=some z/\i.size=1/\i.bytes=8/\z.cells.size=1:=by
 have h:(Tryz.prog.info? 3).bind (fun i=>i.zero.map fun z=>(i.size,i.bytes,z.cells.size))=some (1,8,1):=by kernel_rfl
 cases hq:Tryz.prog.info? 3 with
 | none=>rw[hq] at h;cases h
 | some i=>
  rw[hq] at h
  cases hz:i.zero with
  | none=>simp[hz] at h
  | some z=>simp[hz] at h;exact⟨i,z,rfl,hz,h.1,h.2.1,h.2.2⟩
theorem ZrI.more {lb:Nat}{Y:List (Nat × Obj)}{L:List Int}{D:Nat->Prop}{Wb w9 wf:World}{v v':Value}{y:Int}{o:Obj}(hI:ZrI lb Y L D Wb)(hv:Wb.heap[lb]?=some (.cells #[v] 22))(hY:∀ p∈Y,p.1<lb)
  (hown:w9.ownsRow (lb+1) 3 1 v' (L.length+1) ((L.map fun(x:Int)=>Value.int .i64 x)++[.int .i64 y]))(hgrow:(Wb.alloc o).grownBy w9 v.ownBlock)(hat:v'.ownBlock=v.ownBlock\/v'.ownBlock=some (Wb.heap.size+1))(hf:w9.setCell ⟨lb,0,none⟩ v'=wf) :
  w9.heap[lb]?=some (.cells #[v] 22)/\(∀ p∈Y,w9.heap[p.1]?=some p.2)/\(∀ p∈Y,wf.heap[p.1]?=some p.2)/\wf.heap[lb]?=some (.cells #[v'] 22)/\Own1 D Wb (fun k=>k=lb\/k∈Y.map (·.1)\/v'.ownBlock=some k) wf/\ZrI lb Y (L++[y]) (fun k=>k=lb\/k∈Y.map (·.1)\/v'.ownBlock=some k) wf:=by
 have hlt:=fun k hk=>ZrI.lt hI (k:=k) hk
 obtain⟨v0,h1,h2,h3,h4⟩:=hI
 have e0:v0=v:=by
  rw[hv] at h1
  simpa using h1.symm
 subst e0;have olt:∀ k,v0.ownBlock=some k->lb+1<=k/\k<Wb.heap.size:=fun k hk=>h3.lt k hk
 have ks:∀ k,k<lb+1->k<Wb.heap.size->w9.heap[k]?=Wb.heap[k]?:=fun k g1 g2=>(hgrow.block k (by simp;omega) (fun e=>by have:=olt k e.symm;omega)).trans (hao _ _ g2)
 have a1:=(ks lb (by omega) (hlt lb ((h4 lb).2 (.inl rfl)))).trans h1;have a2:∀ p∈Y,w9.heap[p.1]?=some p.2:=fun p hp=>(ks p.1 (by have:=hY p hp;omega) (hlt p.1 ((h4 _).2 (.inr (.inl (List.mem_map.2 ⟨p,hp,rfl⟩)))))).trans (h2 p hp)
 have og:=fun k hk=>World.ownsRow.lt hown k hk
 have a3:∀ p∈Y,wf.heap[p.1]?=some p.2:=fun p hp=>by
  rw[<-hf,Below.heap_setCell _ _ _ _ (by show p.1≠lb;have:=hY p hp;omega)];exact a2 p hp
 have a4:wf.heap[lb]?=some (.cells #[v'] 22):=by rw[<-hf,hss _ _ 0 _ _ _ a1];rfl
 refine⟨a1,a2,a3,a4,⟨?_,fun k hk=>?_⟩,v',a4,a3,?_,fun k=>Iff.rfl⟩
 ·rw[<-hf]
  exact(((Frm.refl _ Wb).alloc _).grown hgrow fun k hk=>.inl ((h4 k).2 (.inr (.inr hk)))).setCell ⟨lb,0,none⟩ _ (.inl ((h4 _).2 (.inl rfl)))
 ·rcases hk with rfl|hk|hk
  ·exact .inl ((h4 _).2 (.inl rfl))
  ·exact .inl ((h4 _).2 (.inr (.inl hk)))
  ·rcases hat with g1|g1
   ·exact .inl ((h4 k).2 (.inr (.inr (g1 ▸ hk))))
   ·rw[g1] at hk;injection hk with hk;exact .inr (by omega)
 ·rw[<-hf,List.length_append,List.map_append]
  exact xK hown (fun e=>by have h9:lb+1<=lb:=(og _ e).1;omega) _
theorem ZrI.done {lb:Nat}{Y:List (Nat × Obj)}{L:List Int}{C':Nat->Prop}{w0 w W4 Wz W':World}{F G:Nat->Prop}{R Rb:List Nat}{t d s n D:Nat}{E:List Ent}(hI:ZrI lb Y L C' Wz)(hnD:¬ C' D)
  (hl:(∀ k∈R,k<w.heap.size)/\t<w.heap.size)(f0:Below w0.heap.size w0 w)(hnF:∀ k∈R,¬ F k)(hFl:∀ k,F k->k<w.heap.size)
  (q:Below w.heap.size w W4)(hlb:w.heap.size<=lb/\lb<W4.heap.size)(hRb:∀ k∈Rb,Wz.heap[k]?=w.heap[k]?)
  (hV:TxF w0 F Wz t d s n E)(hfr:Frm (fun k=>(k∈[lb]\/k∈Rb)\/G k) W4 Wz)(hG:∀ k,G k->F k\/k=t\/k<w0.heap.size\/w.heap.size<=k)
  (hD:W4.heap.size<=D)(hdef:D<Wz.heap.size)(hm:Frm (fun k=>k∈[D]) Wz W'){v:Value}(hv:Wz.heap[lb]?=some (.cells #[v] 22)) :
  RowZ W' v L/\FreshB w0 R t v/\TxS w0 (v.ownBlock.toList++R) W' t d s n E/\KeptT R t w W':=by
 obtain⟨v0,h1,h2,h3,h4⟩:=hI
 have e0:v0=v:=by
  rw[hv] at h1
  simpa using h1.symm
 subst e0;have olt:∀ k,v0.ownBlock=some k->lb+1<=k/\k<Wz.heap.size:=fun k hk=>h3.lt k hk
 obtain⟨T0,K0⟩:=tsoX (Xb:=v0.ownBlock.toList) (Cb:=[lb]) (Rb:=Rb) hl f0 hnF hFl q (fun k hk=>by rw[List.mem_singleton] at hk;subst hk;exact hlb) (fun k hk=>by have:=olt k (by simpa using hk);omega) hRb hV hfr hG hD hdef;have f0s:=f0.size;have lt6:=T0.lt.1;have hDt:D≠t:=by have:=q.size;omega
 refine⟨?_,fun k hk=>?_,?_,fun k hk hn=>?_⟩
 ·have h5:W'.ownsRow (lb+1) 3 1 v0 L.length (L.map fun(x:Int)=>Value.int .i64 x):=lG h3 fun k hk=>hm.block k (olt k hk).2 fun e=>hnD (by rw[List.mem_singleton] at e;rw[<-e];exact(h4 k).2 (.inr (.inr hk)))
  exact⟨h5.1,h5.2.imp id fun⟨g,cap,cur,hv,_,r⟩=>⟨g,cap,cur,hv,Nat.zero_le _,r⟩⟩
 ·have:=olt k hk
  exact⟨fun hx=>by have:=hl.1 k hx;omega,by omega,by omega⟩
 ·exact(T0.turn (k:=D) (by simp) hDt (by have:=q.size;omega) (hm.mono fun k hk=>by simpa using hk)).sub fun k hk=>by
   rcases List.mem_append.1 hk with hk|hk
   ·exact List.mem_cons_of_mem _ (List.mem_append_left _ hk)
   ·exact List.mem_cons_of_mem _ (List.mem_append_right _ (List.mem_append_right _ hk))
 ·refine(hm.block k (lt6 k (by simp[hk])) (fun e=>?_)).trans (K0 k hk hn)
  rw[List.mem_singleton] at e;have:=hl.1 k hk;have:=q.size;omega
section
attribute [local go_sem] Oper.semAt_some
theorem aCL {w0 w:World}{R:List Nat}{t d s n:Nat}{E:List Ent}{bm bt bn:Nat}{mo now:Int}  (h:TxS w0 R w t d s n E)(hbm:w.heap[bm]?=some (.cells #[.int .i64 mo] 3))(hbt:w.heap[bt]?=some (.cells #[.pointer (some ⟨t,0,none⟩)] 24))(hbn:w.heap[bn]?=some (.cells #[.int .i64 now] 3))(hm:(bm∈R/\bm≠t/\w0.heap.size<=bm)/\(bt∈R/\bt≠t/\w0.heap.size<=bt)/\(bn∈R/\bn≠t/\w0.heap.size<=bn))(hE:E.length<=600)(hK:kY E)(hmo:1<=mo)  :
  Calls Tryz.prog 52 #[.pointer (some ⟨bm,0,none⟩),.pointer (some ⟨bt,0,none⟩),.pointer (some ⟨bn,0,none⟩)] w fun e' w'=>∃ v,e'=.returned (.tuple #[v,.int .i64 0])/\RowZ w' v ((((bB (aE 5 0 0) E).takeWhile fun(e:Ent)=>(spK e.1==5)&&decide (spA e.1<=now)).map fun(e:Ent)=>spB e.1).take mo.toNat)/\FreshB w0 R t v/\TxS w0 (v.ownBlock.toList++R) w' t d s n E/\KeptT R t w w':=by
 obtain⟨lb,hlb⟩:∃ n0,w.heap.size=n0:=⟨_,rfl⟩
 obtain⟨x1,hx1⟩:∃ x,w.alloc (.cells #[.slice none 0 0] 22)=x:=⟨_,rfl⟩
 obtain⟨s1,m1,b1⟩:=jH hx1 hlb;have hl:=h.lt;obtain⟨F,hF,hnF,hFl⟩:=h.said;have lF3:=hF.lt;have HF:=Hd (And.intro hF (And.intro hnF (And.intro lF3 (And.intro hl h.from))));have HB:=Hd (And.intro s1 (And.intro m1 b1));have HX:=Hd hx1;have HN:=Hd hlb;have HM:=Hd hm;have HEK:=Hd (And.intro hE (And.intro hK hmo));obtain⟨Ys,hYs⟩:∃ Ys,(bB (aE 5 0 0) E)=Ys:=⟨_,rfl⟩
 rw[hYs];obtain⟨RS,hRS⟩:∃ RS,((Ys.takeWhile fun(e:Ent)=>(spK e.1==5)&&decide (spA e.1<=now)).map fun(e:Ent)=>spB e.1).take mo.toNat=RS:=⟨_,rfl⟩
 rw[hRS];have HRS:=Hd hRS;have HYS:=Hd hYs;clear hRS hYs;have HBX:=Hd (And.intro hbm (And.intro hbn ((b1.block bt (hl.1 bt hm.2.1.1)).trans hbt)));have d0:=(aF hbm).1;have e0:¬ mo<1:=by omega
 clear h hbm hbt hbn hm hE hK hmo hx1 s1 m1 b1 hl hF hnF hFl lF3;refine(callsIn_wide (n:=0)).1 (callsIn_of_wp_marks (F:=Fence.wide) (n:=0) Tryz.func52 rfl trivial (wpIn_wide.2 ?_) rfl);simp only[Tryz.ntmps52,List.size_toArray,List.length_cons,List.length_nil,Nat.reduceAdd,Nat.reduceSub,Array.replicate_succ,Array.replicate_zero,List.push_toArray,List.append_toArray,List.nil_append,List.cons_append];go_wp2_with fail;go_upto_region 4 with fail
 try rw[HX.o]
 try rw[hlb]
 clear hlb d0;have d0:=(aF HBX.2.2).1
 go_cut [14] from 12 to 15 (fun v wx=>v=(.func (.func 91) #[] #[.pointer (some ⟨x1.heap.size,0,none⟩),.pointer (some ⟨x1.heap.size+1,0,none⟩)])/\∃ w5,w5=wx/\w5.heap[x1.heap.size]?=some (.cells #[.pointer (some ⟨t,0,none⟩)] 24)/\w5.heap[x1.heap.size+1]?=some (.cells #[.int .u64 (aE 5 0 0)] 82)/\Below x1.heap.size x1 w5/\w5.heap.size=x1.heap.size+2)
 case first=>
  go_region_with (first|(refine(SE 5 _).mono ?_;rintro e w6 ⟨rfl,rfl⟩)|(refine(wH _ t (aE 5 0 0)).mono ?_;rintro e w5 ⟨rfl,m5,m6,q5,s5⟩))
  all_goals
   go_wp2_with fail
   go_meet
   exact⟨rfl,_,rfl,m5,m6,Br.drew.trans q5,s5⟩
 obtain⟨rfl,w5,hw5,m5,m6,q5,s5⟩:=hcut;subst hw5;clear d0;go_wp2_with fail;obtain⟨nb,hnb⟩:∃ n,x1.heap.size=n:=⟨_,rfl⟩
 have hnb':lb+1=nb:=by rw[<-hnb];exact HB.1.symm
 rw[hnb] at m5 m6 q5 s5 |-;have hF:=HF.o;have hn:=HN.o;have q5w:Below w.heap.size w w5:=HB.2.2.trans (q5.mono (by omega));have hT5:=hF.1.below q5w;have f0:=hF.2.2.2.2.size;have lF:=hT5.lt;have hnF':∀ k,F k->k<lb:=fun k hk=>by have:=hF.2.2.1.1 k hk;omega
 have htn:=hF.2.2.2.1.2;have hRl:=hF.2.2.2.1.1;have hit:=wG hT5 HEK.1 HEK.2.1.1 HEK.2.1.2 (cP 5 0 0) m5 m6 ⟨fun e=>by have:=hnF' _ e;omega,fun e=>by have:=hnF' _ e;omega,by omega,by omega,by omega⟩ ⟨by omega,by omega⟩;have hYl:((bB (aE 5 0 0) E)).length<=600:=Nat.le_trans (vN _ _) HEK.1
 have HYE:Hid (∀ e∈Ys,0<=e.1/\e.1<=18446744073709551615):=Hd fun e he=>by
  rw[<-HYS.o] at he;exact HEK.2.1.2 e (List.mem_filter.1 (he)).1
 rw[HYS.o] at hit hYl;have HYL:=Hd hYl;clear hYl
 have hYb:∀ p∈([(bm,.cells #[.int .i64 mo] 3),(bn,.cells #[.int .i64 now] 3)]:List (Nat × Obj)),p.1<lb:=fun p hp=>by
  simp only[List.mem_cons,List.not_mem_nil,or_false] at hp
  rcases hp with rfl|rfl
  all_goals (first|(show bm<lb;have:=hRl bm HM.1.1;omega)|(show bn<lb;have:=hRl bn HM.2.2.1;omega))
 have i5:ZrI lb [(bm,.cells #[.int .i64 mo] 3),(bn,.cells #[.int .i64 now] 3)] (([]:List Ent).map fun(e:Ent)=>spB e.1) (fun k=>k∈[lb]\/k∈[bm,bn]) w5:=by
  refine⟨.slice none 0 0,(q5.block _ (by omega)).trans HB.2.1,fun p hp=>?_,World.ownsRow_nil _ _ _ _,fun k=>?_⟩
  ·have h8:=hYb p hp
   simp only[List.mem_cons,List.not_mem_nil,or_false] at hp
   rcases hp with rfl|rfl
   all_goals (first|exact(q5w.block bm (hRl bm HM.1.1)).trans HBX.1|exact(q5w.block bn (hRl bn HM.2.2.1)).trans HBX.2.1)
  ·simp only[List.mem_singleton,List.map_cons,List.map_nil,List.mem_cons,List.not_mem_nil,or_false,Value.ownBlock,reduceCtorEq]
 have DONE:∀ (D:Nat) (C':Nat->Prop) (Wz W':World) (L:List Int) (v:Value),w5.heap.size<=D->ZrI lb [(bm,.cells #[.int .i64 mo] 3),(bn,.cells #[.int .i64 now] 3)] L C' Wz->TxF w0 F Wz t d s n E->Frm (fun k=>(k∈[lb]\/k∈[bm,bn])\/GK w0 F t nb (nb+1) k) w5 Wz->¬ C' D->Wz.heap[D]?=some (.deferred (some []))->Frm (fun k=>k∈[D]) Wz W'->Wz.heap[lb]?=some (.cells #[v] 22)->RowZ W' v L/\FreshB w0 R t v/\TxS w0 (v.ownBlock.toList++R) W' t d s n E/\KeptT R t w W':=fun D C' Wz W' L v hDz hI hV hfr hnD hdef hm hv=>by
  refine ZrI.done hI hnD hF.2.2.2.1 hF.2.2.2.2 hF.2.1 (fun k hk=>by rw[hn];exact hnF' k hk) q5w ⟨by omega,by rw[s5];omega⟩ (fun k hk=>?_) hV hfr (fun k hk=>?_) hDz (zl hdef) hm hv
  ·obtain⟨_,_,g2,_,_⟩:=hI
   simp only[List.mem_cons,List.not_mem_nil,or_false] at hk
   rcases hk with e9|e9
   all_goals rw[e9]
   all_goals (first|exact(g2 (bm,.cells #[.int .i64 mo] 3) (by simp)).trans HBX.1.symm|exact(g2 (bn,.cells #[.int .i64 now] 3) (by simp)).trans HBX.2.1.symm)
  ·unfold GK at hk
   rcases hk with hk|hk|hk|hk|hk
   ·exact .inl hk
   ·exact .inr (.inl hk)
   all_goals first|exact .inr (.inr (.inl hk))|exact .inr (.inr (.inr (by omega)))
 refine(wpIn_wide (n:=0)).1 (sZ rfl (enters_of Tryz.func91 (by kernel_rfl) rfl) hit (fun Wz lz o hz hv=>?_) (fun k hk=>?_) (by intro _;rfl) (fun k=>k∈[lb]\/k∈[bm,bn]) (fun k hk hg=>?_) (fun pre C W=>pre <+: Ys.takeWhile (fun(e:Ent)=>(spK e.1==5)&&decide (spA e.1<=now))/\ZrI lb [(bm,.cells #[.int .i64 mo] 3),(bn,.cells #[.int .i64 now] 3)] (pre.map fun(e:Ent)=>spB e.1) C W/\(pre.length:Int)<mo) (fun c pre C W=>c=.exit 0/\∃ L,L=RS/\ZrI lb [(bm,.cells #[.int .i64 mo] 3),(bn,.cells #[.int .i64 now] 3)] L C W) (fun s D A B hh ho=>⟨hh.1,hh.2.1.on ho,hh.2.2⟩) (fun c s D A B hh ho=>⟨hh.1,let ⟨L,e1,e2⟩:=hh.2;⟨L,e1,e2.on ho⟩⟩) (fun s D A hh k hk=>hh.2.1.lt hk) (fun c s D A hh k hk=>let ⟨L,_,e2⟩:=hh.2;e2.lt hk) ⟨List.nil_prefix,i5,by have:=HEK.2.2;simp;omega⟩ ?_ ?_ ?_)
 ·exact hv.frm (cM Wz lz o) fun k hk=>by subst hk;exact⟨fun e=>by have:=lF.1 _ e;omega,by have:=lF.2.1;omega,by have:=hT5.from.size;omega⟩
 ·unfold GK at hk
  rcases hk with hk|hk|hk|hk|hk
  ·exact lF.1 _ hk
  ·have:=lF.2.1;omega
  all_goals (have:=hT5.from.size;omega)
 ·have h5:=hnF' k
  have h6:=hF.2.1 k;have hbm:=HM.1;have hbn:=HM.2.2;have hrm:=hRl bm hbm.1;have hrn:=hRl bn hbn.1;simp only[List.mem_cons,List.not_mem_nil,or_false] at hk;unfold GK at hg
  rcases hk with rfl|rfl|rfl
  all_goals (rcases hg with hg|hg|hg|hg|hg)
  all_goals first|exact absurd hg (h6 hbm.1)|exact absurd hg (h6 hbn.1)|(have:=h5 hg;omega)|exact absurd hg hbm.2.1|exact absurd hg hbn.2.1|omega
 ·intro l' pre x D Wz hpre hI hD hz hnl hll
  have HNB:=Hd hnb';clear hnb';have hxm:x∈Ys:=hpre.subset (by simp);have hxk:=HYE x hxm;obtain⟨xk,xv⟩:=x
  have hlen:pre.length<=600:=by
   have h1:=hpre.length_le;have:=HYL.o;rw[List.length_append] at h1;omega
  have HLN:=Hd hlen;have HPR:=Hd hpre;obtain⟨y,hy⟩:∃ y:Int,spB xk=y:=⟨_,rfl⟩
  have HY:=Hd hy;obtain⟨kd,hkd⟩:∃ y:Int,spK xk=y:=⟨_,rfl⟩
  obtain⟨en,hen⟩:∃ y:Int,spA xk=y:=⟨_,rfl⟩
  have SP:=Hd (fun w=>by have:=qG xk w hxk.1 hxk.2;rw[hkd,hen,hy] at this;exact this);have HKE:=Hd (And.intro hkd hen);unfold aCJ;clear hxm hxk hlen hpre hy hkd hen
  gi_wp2_with fail
  refine⟨Br,fun Wb hfb hIb=>?_⟩;obtain⟨hpp,hIb,hlm⟩:=hIb;have HPP:=Hd hpp;have HI0:=Hd hIb;have HLT:=Hd hlm;obtain⟨v,e1,e2,hown,hDi⟩:=hIb;have HLB:=Hd ((hDi lb).2 (.inl rfl));have TN:=Hd (KV (p:=fun(e:Ent)=>(spK e.1==5)&&decide (spA e.1<=now)) HPR hpp);rw[List.length_map] at hown;have n2:=(aF (e2 _ (by simp:(bn,Obj.cells #[.int .i64 now] 3)∈([(bm,.cells #[.int .i64 mo] 3),(bn,.cells #[.int .i64 now] 3)]:List (Nat × Obj))))).1;clear hpp hfb
  have BRK:Hid (∀ w',(kd≠5\/now<en)->w'=Wb->∃ C',Own1 D Wb C' w'/\∃ L,L=RS/\ZrI lb [(bm,.cells #[.int .i64 mo] 3),(bn,.cells #[.int .i64 now] 3)] L C' w'):=Hd fun w' hb hw=>by
   subst hw
   have hf:(fun(e:Ent)=>(spK e.1==5)&&decide (spA e.1<=now)) (xk,xv)=false:=by
    show((spK xk==5)&&decide (spA xk<=now))=false
    rw[HKE.1,HKE.2]
    rcases hb with hb|hb
    ·simp[hb]
    ·simp;omega
   have e9:=TN.2 hf;refine⟨D,Own1.refl _ _,_,?_,HI0.o⟩;rw[<-HRS.o,e9,List.take_of_length_le];rw[List.length_map];have:=HLT.o;omega
  gi_wp2_with fail
  refine⟨trivial,rfl,?_⟩;refine(CallsIn.inRound l' (callsIn_wide.2 (SP _))).mono ?_;rintro e w8 ⟨rfl,hw8⟩;subst hw8
  by_cases hk5:kd=5
  ·have hk5a:(kd==5)=true:=by simpa using hk5
   have hk5b:(kd != 5)=false:=by simpa using hk5
   by_cases hen:now<en
   ·clear hk5 hown e1 e2 hDi
    gi_wp2_with fail
    obtain⟨C',g1,g2⟩:=BRK _ (.inr hen) rfl;exact⟨C',g1,rfl,g2⟩
   ·have TK:Hid ((pre++[(xk,xv)]) <+: Ys.takeWhile (fun(e:Ent)=>(spK e.1==5)&&decide (spA e.1<=now))):=Hd (TN.1 (by
     show((spK xk==5)&&decide (spA xk<=now))=true
     rw[HKE.1,HKE.2,hk5]
     simpa using hen))
    clear hk5;obtain⟨va,vc,rfl,hv1,hv2⟩:=bM hown;obtain⟨ii,zz,hi,hz0,hz1,hz2,hz3⟩:=YE;obtain⟨cy,cyf⟩:=aF e1;have OWN:=Hd hown;have HB1:=Hd e1;clear hown e1 e2 hDi
    gi_wp2_with (gi_at_builtin;refine wpListIn_append_own_at _ rfl (.tmp 30) (.tmp 32) 22 rfl (lb+1) 3 ii zz 1 8 Tryz.underlying22 hi hz0 hz1 hz2 hz3 (by decide) _ _ _ rfl (OWN.alloc _) ⟨Wb.heap.size,0,none⟩ 1 1 [.int .i64 y] rfl rfl ?c1 ?c2 ?c3 ?c4 ?c5 ?_)
    case c1=>exact cell_one_new _ _ _
    case c2=>
     intro u hu;simp only[List.mem_cons,List.not_mem_nil,or_false] at hu;subst hu
     rfl
    case c3=>have:=HLN.o;unfold maxLen;omega
    case c4=>have:=HLN.o;omega
    case c5=>
     have h9:=ZrI.lt HI0 (HLB.o);simp;omega
    intro v' w9 hown' hgrow hnil hat;obtain⟨va',vc',rfl,_,_⟩:=bM hown';have FR:=Hd (ZrI.more (o:=_) HI0 HB1 hYb (by rw[List.length_map,List.map_map];exact hown') hgrow (by simpa using hat) rfl);obtain⟨a1,a2,a3,a4,_,_⟩:=FR.o;obtain⟨d1,d1f⟩:=aF a1;have d2:=(aF (a2 _ (by simp:(bm,Obj.cells #[.int .i64 mo] 3)∈([(bm,.cells #[.int .i64 mo] 3),(bn,.cells #[.int .i64 now] 3)]:List (Nat × Obj))))).1
    have d3:=(aF (a3 _ (by simp:(bm,Obj.cells #[.int .i64 mo] 3)∈([(bm,.cells #[.int .i64 mo] 3),(bn,.cells #[.int .i64 now] 3)]:List (Nat × Obj))))).1;have d4:=(aF a4).1;clear hown' hgrow hnil hat a1 a2 a3 a4 OWN HB1 hi hz0 hz1 hz2 hz3 hv1 hv2 hlm n2
    by_cases hbr:((pre.length+1:Nat):Int)=mo
    ·have hbr2:(pre.length:Int)+1=mo:=by omega
     have hbr3:((pre.length:Int)+1==mo)=true:=beq_iff_eq.2 hbr2;have HBR:=Hd hbr;clear hbr
     gi_wp2_with fail
     obtain⟨_,_,_,_,f1,f2⟩:=FR.o
     have e9:(pre.map fun(e:Ent)=>spB e.1)++[y]=RS:=by
      rw[<-HRS.o];have hq:=List.prefix_iff_eq_take.1 (TK.o);rw[<-List.map_take,show mo.toNat=pre.length+1 by have:=HBR.o;omega];rw[List.length_append,List.length_singleton] at hq;rw[<-hq,List.map_append,<-HY.o]
      rfl
     rw[e9] at f2
     first|exact⟨_,f1,rfl,_,rfl,f2⟩|exact⟨_,f1,rfl,f2⟩
    ·have hbr2:¬ (pre.length:Int)+1=mo:=by omega
     have hbr3:((pre.length:Int)+1==mo)=false:=beq_eq_false_iff_ne.2 hbr2;have HBR:=Hd hbr;clear hbr
     gi_wp2_with fail
     obtain⟨_,_,_,_,f1,f2⟩:=FR.o;refine⟨_,f1,TK.o,?_,?_⟩
     ·rw[List.map_append]
      rw[<-HY.o] at f2;exact f2
     ·have:=HLT.o
      have:=HBR.o;rw[List.length_append,List.length_singleton];omega
  ·have hk5a:(kd==5)=false:=by simpa using hk5
   have hk5b:(kd != 5)=true:=by simpa using hk5
   have HK5:=Hd hk5;clear hk5 hown e1 e2 hDi n2
   gi_wp2_with fail
   obtain⟨C',g1,g2⟩:=BRK _ (.inl HK5.o) rfl;exact⟨C',g1,rfl,g2⟩
 ·intro D C' Wz hDz hI hV hfr hC' hnD hdef
  obtain⟨hpp,hZ,hlm⟩:=hI
  have HLE:Hid ((Ys.map fun(e:Ent)=>spB e.1)=RS):=Hd (by
   rw[<-HRS.o,show Ys.takeWhile (fun(e:Ent)=>(spK e.1==5)&&decide (spA e.1<=now))=Ys from(List.takeWhile_prefix _).eq_of_length (Nat.le_antisymm (List.takeWhile_prefix _).length_le hpp.length_le),List.take_of_length_le];rw[List.length_map];omega)
  obtain⟨v,g1,g2,g3,g4⟩:=hZ;have HFN:=Hd (fun W' hm=>DONE D C' Wz W' _ v hDz ⟨v,g1,g2,g3,g4⟩ hV hfr hnD hdef hm g1);have c1:=(aF g1).1;have HMK:Hid (Marks Wz [D]):=Hd ((Marks.nil Wz).cons (by simp) hdef);obtain⟨va,vc,hva,_,_⟩:=bM g3;try rw[List.length_map] at hva
  subst hva;clear hit hfr hnD hdef hV i5 DONE hF hnF' q5w lF htn f0 hnb' hn hnb hT5 m5 q5 s5 hC' hDz hRl hYb m6 g1 g2 g3 g4;go_wp2_with fail;refine jS [D] _ HMK.o fun W' hm=>⟨_,results_tmp2 (fn:=Tryz.f52) rfl _ _ _,?_⟩
  rw[<-HLE.o];exact⟨_,rfl,HFN W' hm⟩
 ·rintro D c pre C' Wz hDz hpre ⟨rfl,L,rfl,hZ⟩ hV hfr hC' hnD hdef
  obtain⟨v,g1,g2,g3,g4⟩:=hZ;have HFN:=Hd (fun W' hm=>DONE D C' Wz W' _ v hDz ⟨v,g1,g2,g3,g4⟩ hV hfr hnD hdef hm g1);have c1:=(aF g1).1;have HMK:Hid (Marks Wz [D]):=Hd ((Marks.nil Wz).cons (by simp) hdef);obtain⟨va,vc,hva,_,_⟩:=bM g3;try rw[List.length_map] at hva
  subst hva;clear hit hfr hnD hdef hV i5 DONE hF hnF' q5w lF htn f0 hnb' hn hnb hT5 m5 q5 s5 hC' hDz hRl hYb m6 g1 g2 g3 g4;refine wpIn_wide.2 ?_;go_wp2_with fail;refine jS [D] _ HMK.o fun W' hm=>⟨_,results_tmp2 (fn:=Tryz.f52) rfl _ _ _,?_⟩
  exact⟨_,rfl,HFN W' hm⟩
end
