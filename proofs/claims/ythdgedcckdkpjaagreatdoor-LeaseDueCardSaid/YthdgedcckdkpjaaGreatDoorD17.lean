import Derived.Test.YthdgedcckdkpjaaGreatDoorD16
namespace Go.Proofs.YthdgedcckdkpjaaGreatDoor
open Go.RowKit
set_option maxRecDepth 20000
set_option maxHeartbeats 12800000
set_option linter.unusedVariables false
set_option linter.unusedSimpArgs false
def aFP (lo:Nat)(lf:Bool)(X1 X2 X3:List Value):SP:=⟨fun v w=>∃ xa xb xc ja jb jc,v=.agg #[lf,.slice xa X1.length ja,.slice xb X2.length jb,.slice xc X3.length jc]/\Rd w xa X1/\Rd w xb X2/\Rd w xc X3/\X1.length<=ja/\ja<=maxLen/\X2.length<=jb/\jb<=maxLen/\X3.length<=jc/\jc<=maxLen/\(∀ x,xa=some x->lo<=x.block)/\(∀ x,xb=some x->lo<=x.block)/\∀ x,xc=some x->lo<=x.block,
 fun _ _ _ ⟨xa,xb,xc,ja,jb,jc,h,q1,q2,q3,q⟩ hb=>⟨xa,xb,xc,ja,jb,jc,h,q1.below hb,q2.below hb,q3.below hb,q⟩⟩
def aAG (lo:Nat)(lf:Bool)(X1 X2 X3:List Value)(e:Ending)(w':World):Prop:=∃ xa xb xc ja jb jc,e=.returned (.agg #[lf,.slice xa X1.length ja,.slice xb X2.length jb,.slice xc X3.length jc])/\Rd w' xa X1/\Rd w' xb X2/\Rd w' xc X3/\X1.length<=ja/\ja<=maxLen/\X2.length<=jb/\jb<=maxLen/\X3.length<=jc/\jc<=maxLen/\(∀ x,xa=some x->lo<=x.block)/\(∀ x,xb=some x->lo<=x.block)/\∀ x,xc=some x->lo<=x.block
theorem uW (ak av ac bk bv bc:Option Addr)(ck cv cc dk dv dc lk lv lc mk mv mc:Nat)(lb:Bool)(mid:Int)(X1 X2 X3:List Value)(w:World)
  (C1:Hid (∀ wx a,Below w.heap.size w wx->Rd wx a [ak lk ck,.slice none 0 0,bk mk dk]->() 161 #[.slice a 3 3] wx fun e w'=>aZ wx.heap.size 82 X1 e w'/\Below wx.heap.size wx w'))
  (C2:Hid (∀ wx a,Below w.heap.size w wx->Rd wx a [av lv cv,bv mv dv]->() 162 #[.slice a 2 2] wx fun e w'=>aZ wx.heap.size 9 X2 e w'/\Below wx.heap.size wx w'))
  (C3:Hid (∀ wx a,Below w.heap.size w wx->Rd wx a [ac lc cc,bc mc dc]->() 176 #[.slice a 2 2] wx fun e w'=>aZ wx.heap.size 3 X3 e w'/\Below wx.heap.size wx w')) :
  () 164 #[.agg #[true,ak lk ck,av lv cv,ac lc cc],.int .u64 mid,.agg #[lb,bk mk dk,bv mv dv,bc mc dc]] w fun e w'=>aAG w.heap.size true X1 X2 X3 e w'/\Below w.heap.size w w':=by
 obtain⟨W,hW⟩:∃ W,((w.alloc (.cells #[true,ak lk ck,av lv cv,ac lc cc] 170)).alloc (.cells #[lb,bk mk dk,bv mv dv,bc mc dc] 170)).alloc (.cells #[false,.slice none 0 0,.slice none 0 0,.slice none 0 0] 170)=W:=⟨_,rfl⟩
 have hsz:(w.alloc (.cells #[true,ak lk ck,av lv cv,ac lc cc] 170)).heap.size=w.heap.size+1:=by simp
 have hsz2:((w.alloc (.cells #[true,ak lk ck,av lv cv,ac lc cc] 170)).alloc (.cells #[lb,bk mk dk,bv mv dv,bc mc dc] 170)).heap.size=w.heap.size+2:=by simp
 have hsz3:W.heap.size=w.heap.size+3:=by rw[<-hW];simp
 have bW:Below w.heap.size w W:=by rw[<-hW];exact((Br.alloc (Nat.le_refl _) _).alloc (by simp) _).alloc (by simp;omega) _
 have XA:Hid (W.heap[w.heap.size]?=some (.cells #[true,ak lk ck,av lv cv,ac lc cc] 170)):=Hd (by rw[<-hW];exact(hao _ _ (by simp;omega)).trans ((hao _ _ (by simp)).trans (han w _)));have XB:Hid (W.heap[w.heap.size+1]?=some (.cells #[lb,bk mk dk,bv mv dv,bc mc dc] 170)):=Hd (by rw[<-hW,<-hsz];exact(hao _ _ (by simp)).trans (han _ _))
 have XZ:Hid (W.heap[w.heap.size+2]?=some (.cells #[false,.slice none 0 0,.slice none 0 0,.slice none 0 0] 170)):=Hd (by rw[<-hW,<-hsz2];exact han _ _);have b2:Below W.heap.size W W:=Br;have XA2:=Hd (kept XA b2);have XB2:=Hd (kept XB b2);have XZ2:=Hd (kept XZ b2);have B2:=Hd (bW.trans (b2.mono bW.size));have za0:=cl XA 0 rfl;have za1:=cl XA 1 rfl;have za2:=cl XA 2 rfl;have za3:=cl XA 3 rfl;clear bW b2 hsz hsz2;go_enter Tryz.func164,Tryz.ntmps164;go_upto_region 4 with fail
 try rw[hW]
 try rw[hsz3]
 try rw[show w.heap.size+1+1=w.heap.size+2 from rfl]
 skip
 clear za0 za1 za2 za3 hW hsz3 XA XB XZ;have lt0:w.heap.size<W.heap.size:=(zl XA2.o);have lt1:w.heap.size+1<W.heap.size:=(zl XB2.o);have lt2:w.heap.size+2<W.heap.size:=(zl XZ2.o);have ca0:=cl XA2 0 rfl;have ca1:=cl XA2 1 rfl;have ca2:=cl XA2 2 rfl;have ca3:=cl XA2 3 rfl;have cb0:=cl XB2 0 rfl;have cb1:=cl XB2 1 rfl;have cb2:=cl XB2 2 rfl;have cb3:=cl XB2 3 rfl
 refine dF 22 35 [eqV (.pointer (some ⟨w.heap.size,0,none⟩)),eqV (.bool true),eqV (.pointer (some ⟨w.heap.size,1,none⟩)),eqV (.slice ak lk ck),eqV (.slice none 0 0),eqV (.pointer (some ⟨w.heap.size+1,1,none⟩)),eqV (.slice bk mk dk),jB [ak lk ck,.slice none 0 0,bk mk dk],iQ W.heap.size X1,eqV (.pointer (some ⟨w.heap.size,2,none⟩)),eqV (.slice av lv cv),eqV (.pointer (some ⟨w.heap.size+1,2,none⟩)),eqV (.slice bv mv dv),jB [av lv cv,bv mv dv],iQ W.heap.size X2,eqV (.pointer (some ⟨w.heap.size,3,none⟩)),eqV (.slice ac lc cc),eqV (.pointer (some ⟨w.heap.size+1,3,none⟩)),eqV (.slice bc mc dc),jB [ac lc cc,bc mc dc],iQ W.heap.size X3,aFP W.heap.size true X1 X2 X3,nB] (by kernel_rfl) (by kernel_rfl) (by rfl) ?owes ?ends
 case owes=>
  refine Fo 0 (fun a wx hS xo xd K HK=>?_) ?_
  ·have d3:=Fl xo 3
   clear xo xd;go_simp;exact Hr HK
  refine Fo 1 (fun a wx hS xo xd K HK=>?_) ?_
  ·have d13:=Fq xd 0
   clear xo xd;have c0:=hC ca0 hS lt0;go_simp;exact Hr HK
  refine Fo 2 (fun a wx hS xo xd K HK=>?_) ?_
  ·have d3:=Fl xo 3
   clear xo xd;go_simp;exact Hr HK
  refine Fo 3 (fun a wx hS xo xd K HK=>?_) ?_
  ·have d15:=Fq xd 2
   clear xo xd;have c0:=hC ca1 hS lt0;go_simp;exact Hr HK
  refine Fo 4 (fun a wx hS xo xd K HK=>?_) ?_
  ·have d7:=Fl xo 7
   clear xo xd;go_simp;exact Hr HK
  refine Fo 5 (fun a wx hS xo xd K HK=>?_) ?_
  ·have d5:=Fl xo 5
   clear xo xd;go_simp;exact Hr HK
  refine Fo 6 (fun a wx hS xo xd K HK=>?_) ?_
  ·have d18:=Fq xd 5
   clear xo xd;have c0:=hC cb1 hS lt1;go_simp;exact Hr HK
  refine Fo 7 (fun a wx hS xo xd K HK=>?_) ?_
  ·have d16:=Fq xd 3
   have d17:=Fq xd 4;have d19:=Fq xd 6;clear xo xd;go_simp;exact HK _ _ ⟨_,rfl,Rd.made _ _ _⟩ (aB _ _)
  refine Fo 8 (fun a wx hS xo xd K HK=>?_) ?_
  ·obtain⟨a20,d20,r20⟩:=Fr xd 7
   clear xo xd;have CA:=C1 wx a20 (chain B2 hS) r20;clear r20;go_simp;go_wp2_with fail;refine CA.mono ?_;rintro e w9 ⟨⟨v9,rfl,h9⟩,b9⟩;exact HK _ _ (cF h9 hS.size) b9
  refine Fo 9 (fun a wx hS xo xd K HK=>?_) ?_
  ·have d3:=Fl xo 3
   clear xo xd;go_simp;exact Hr HK
  refine Fo 10 (fun a wx hS xo xd K HK=>?_) ?_
  ·have d22:=Fq xd 9
   clear xo xd;have c0:=hC ca2 hS lt0;go_simp;exact Hr HK
  refine Fo 11 (fun a wx hS xo xd K HK=>?_) ?_
  ·have d5:=Fl xo 5
   clear xo xd;go_simp;exact Hr HK
  refine Fo 12 (fun a wx hS xo xd K HK=>?_) ?_
  ·have d24:=Fq xd 11
   clear xo xd;have c0:=hC cb2 hS lt1;go_simp;exact Hr HK
  refine Fo 13 (fun a wx hS xo xd K HK=>?_) ?_
  ·have d23:=Fq xd 10
   have d25:=Fq xd 12;clear xo xd;go_simp;exact HK _ _ ⟨_,rfl,Rd.made _ _ _⟩ (aB _ _)
  refine Fo 14 (fun a wx hS xo xd K HK=>?_) ?_
  ·obtain⟨a26,d26,r26⟩:=Fr xd 13
   clear xo xd;have CA:=C2 wx a26 (chain B2 hS) r26;clear r26;go_simp;go_wp2_with fail;refine CA.mono ?_;rintro e w9 ⟨⟨v9,rfl,h9⟩,b9⟩;exact HK _ _ (cF h9 hS.size) b9
  refine Fo 15 (fun a wx hS xo xd K HK=>?_) ?_
  ·have d3:=Fl xo 3
   clear xo xd;go_simp;exact Hr HK
  refine Fo 16 (fun a wx hS xo xd K HK=>?_) ?_
  ·have d28:=Fq xd 15
   clear xo xd;have c0:=hC ca3 hS lt0;go_simp;exact Hr HK
  refine Fo 17 (fun a wx hS xo xd K HK=>?_) ?_
  ·have d5:=Fl xo 5
   clear xo xd;go_simp;exact Hr HK
  refine Fo 18 (fun a wx hS xo xd K HK=>?_) ?_
  ·have d30:=Fq xd 17
   clear xo xd;have c0:=hC cb3 hS lt1;go_simp;exact Hr HK
  refine Fo 19 (fun a wx hS xo xd K HK=>?_) ?_
  ·have d29:=Fq xd 16
   have d31:=Fq xd 18;clear xo xd;go_simp;exact HK _ _ ⟨_,rfl,Rd.made _ _ _⟩ (aB _ _)
  refine Fo 20 (fun a wx hS xo xd K HK=>?_) ?_
  ·obtain⟨a32,d32,r32⟩:=Fr xd 19
   clear xo xd;have CA:=C3 wx a32 (chain B2 hS) r32;clear r32;go_simp;go_wp2_with fail;refine CA.mono ?_;rintro e w9 ⟨⟨v9,rfl,h9⟩,b9⟩;exact HK _ _ (cF h9 hS.size) b9
  refine Fo 21 (fun a wx hS xo xd K HK=>?_) ?_
  ·have d14:=Fq xd 1
   obtain⟨a21,c21,d21,r21,l21,m21,n21⟩:=Fr xd 8;obtain⟨a27,c27,d27,r27,l27,m27,n27⟩:=Fr xd 14;obtain⟨a33,c33,d33,r33,l33,m33,n33⟩:=Fr xd 20;clear xo xd;go_simp;exact HK _ _ ⟨_,_,_,_,_,_,rfl,r21,r27,r33,l21,m21,l27,m27,l33,m33,n21,n27,n33⟩ Br
  refine OwesAll.skip (f:=22) ?_;exact OwesAll.nil
 case ends=>
  intro a wx hS hsz hdf hold hdone;simp only[List.getElem?_toArray,List.getElem?_cons_succ,List.getElem?_cons_zero,List.getElem?_nil];have hsz':a.tmps.size=35:=hsz;have hdf':a.defers=[]:=hdf;have ha:=MQ hsz' hdf';have e0:=hold 0 (aV (by kernel_rfl));have e1:=hold 1 (aV (by kernel_rfl));have e2:=hold 2 (aV (by kernel_rfl));have e3:=hold 3 (aV (by kernel_rfl));have e4:=hold 4 (aV (by kernel_rfl));have e5:=hold 5 (aV (by kernel_rfl));have e6:=hold 6 (aV (by kernel_rfl));have e7:=hold 7 (aV (by kernel_rfl))
  have e8:=hold 8 (aV (by kernel_rfl));have e9:=hold 9 (aV (by kernel_rfl));have e10:=hold 10 (aV (by kernel_rfl));have e11:=hold 11 (aV (by kernel_rfl));have e12:=hold 12 (aV (by kernel_rfl));obtain⟨xa,xb,xc,ja,jb,jc,d34,q1,q2,q3,q4,q5,q6,q7,q8,q9,p1,p2,p3⟩:=hdone 21 _ 34 rfl (by decide) rfl;clear hold hdone hsz hdf hsz' hdf';simp only[Array.getD_eq_getD_getElem?,List.getElem?_toArray,List.getElem?_cons_succ,List.getElem?_cons_zero,Option.getD_some] at e0 e1 e2 e3 e4 e5 e6 e7 e8 e9 e10 e11 e12 d34
  simp only[show(List.range 35)=[0,1,2,3,4,5,6,7,8,9,10,11,12,13,14,15,16,17,18,19,20,21,22,23,24,25,26,27,28,29,30,31,32,33,34] from rfl,List.map_cons,List.map_nil] at ha;simp only[e0,e1,e2,e3,e4,e5,e6,e7,e8,e9,e10,e11,e12,d34] at ha;clear e0 e1 e2 e3 e4 e5 e6 e7 e8 e9 e10 e11 e12 d34;generalize a.tmps[13]?.getD undef=u13 at ha;generalize a.tmps[14]?.getD undef=u14 at ha;generalize a.tmps[15]?.getD undef=u15 at ha;generalize a.tmps[16]?.getD undef=u16 at ha;generalize a.tmps[17]?.getD undef=u17 at ha
  generalize a.tmps[18]?.getD undef=u18 at ha;generalize a.tmps[19]?.getD undef=u19 at ha;generalize a.tmps[20]?.getD undef=u20 at ha;generalize a.tmps[21]?.getD undef=u21 at ha;generalize a.tmps[22]?.getD undef=u22 at ha;generalize a.tmps[23]?.getD undef=u23 at ha;generalize a.tmps[24]?.getD undef=u24 at ha;generalize a.tmps[25]?.getD undef=u25 at ha;generalize a.tmps[26]?.getD undef=u26 at ha;generalize a.tmps[27]?.getD undef=u27 at ha;generalize a.tmps[28]?.getD undef=u28 at ha;generalize a.tmps[29]?.getD undef=u29 at ha;generalize a.tmps[30]?.getD undef=u30 at ha
  generalize a.tmps[31]?.getD undef=u31 at ha;generalize a.tmps[32]?.getD undef=u32 at ha;generalize a.tmps[33]?.getD undef=u33 at ha;subst ha;intro K hK;have HK:=Hd hK;clear hK;have YZ:=kept XZ2 hS;have y0:=cl YZ 0 rfl;have y1:=cl YZ 1 rfl;have y2:=cl YZ 2 rfl;have y3:=cl YZ 3 rfl;have f0:=ufb YZ 0;have f1:=ufb YZ 1;have f2:=ufb YZ 2;have f3:=ufb YZ 3;have Y:=Hd (cM (jE YZ (.bool true) (.slice xa X1.length ja) (.slice xb X2.length jb) (.slice xc X3.length jc)))
  have f4:Frm (fun k=>k=w.heap.size+2) wx (mN wx (w.heap.size+2) (.bool true) (.slice xa X1.length ja) (.slice xb X2.length jb) (.slice xc X3.length jc)):=kM (Frm.refl _ wx) _ _ _ _ _ (.inl rfl);have nb:∀ (xo:Option Addr),(∀ x,xo=some x->W.heap.size<=x.block)->∀ x,xo=some x->¬ x.block=w.heap.size+2:=fun xo h x hx e=>by have:=h x hx;omega
  have FIN:Hid (aAG w.heap.size true X1 X2 X3 (.returned (.agg #[true,xa X1.length ja,xb X2.length jb,xc X3.length jc])) (mN wx (w.heap.size+2) (.bool true) (.slice xa X1.length ja) (.slice xb X2.length jb) (.slice xc X3.length jc))/\Below w.heap.size w (mN wx (w.heap.size+2) (.bool true) (.slice xa X1.length ja) (.slice xb X2.length jb) (.slice xc X3.length jc))):=Hd ⟨⟨xa,xb,xc,ja,jb,jc,rfl,q1.frm f4 (fun x hx _=>nb _ p1 x hx),q2.frm f4 (fun x hx _=>nb _ p2 x hx),q3.frm f4 (fun x hx _=>nb _ p3 x hx),q4,q5,q6,q7,q8,q9,fun x hx=>by have:=p1 x hx;omega,fun x hx=>by have:=p2 x hx;omega,fun x hx=>by have:=p3 x hx;omega⟩,iB (chain B2 hS) _ _ _ _ _ (by omega)⟩
  unfold mN at Y FIN;clear q1 q2 q3 q4 q5 q6 q7 q8 q9 p1 p2 p3 nb f4 YZ ca0 ca1 ca2 ca3 cb0 cb1 cb2 cb3 C1 C2 C3 XA2 XB2 XZ2 B2 hS;rw[if_pos (by rfl)];go_simp;refine HK _ _ ?_;clear y0 y1 y2 y3 f0 f1 f2 f3 HK K;go_wp2_with fail;exact bodyPost_ret (v:=.agg #[true,xa X1.length ja,xb X2.length jb,xc X3.length jc]) (by simp[results,Tryz.results164,go_sem,Y.1,Y.2.1,Y.2.2.1,Y.2.2.2]) rfl FIN.o
theorem rW (ak av ac bk bv bc:Option Addr)(ck cv cc dk dv dc lk lv lc mk mv mc:Nat)(lb:Bool)(mid:Int)(X1 X2 X3:List Value)(w:World)
  (C1:Hid (∀ wx a,Below w.heap.size w wx->Rd wx a [ak lk ck,.slice (some ⟨w.heap.size+3,0,none⟩) 1 1,bk mk dk]->Rd wx (some ⟨w.heap.size+3,0,none⟩) [.int .u64 mid]->() 161 #[.slice a 3 3] wx fun e w'=>aZ wx.heap.size 82 X1 e w'/\Below wx.heap.size wx w'))
  (C2:Hid (∀ wx a,Below w.heap.size w wx->Rd wx a [av lv cv,bv mv dv]->() 162 #[.slice a 2 2] wx fun e w'=>aZ wx.heap.size 9 X2 e w'/\Below wx.heap.size wx w'))
  (C3:Hid (∀ wx a,Below w.heap.size w wx->Rd wx a [ac lc cc,bc mc dc]->() 176 #[.slice a 2 2] wx fun e w'=>aZ wx.heap.size 3 X3 e w'/\Below wx.heap.size wx w')) :
  () 164 #[.agg #[false,ak lk ck,av lv cv,ac lc cc],.int .u64 mid,.agg #[lb,bk mk dk,bv mv dv,bc mc dc]] w fun e w'=>aAG w.heap.size false X1 X2 X3 e w'/\Below w.heap.size w w':=by
 obtain⟨W,hW⟩:∃ W,((w.alloc (.cells #[false,ak lk ck,av lv cv,ac lc cc] 170)).alloc (.cells #[lb,bk mk dk,bv mv dv,bc mc dc] 170)).alloc (.cells #[false,.slice none 0 0,.slice none 0 0,.slice none 0 0] 170)=W:=⟨_,rfl⟩
 have hsz:(w.alloc (.cells #[false,ak lk ck,av lv cv,ac lc cc] 170)).heap.size=w.heap.size+1:=by simp
 have hsz2:((w.alloc (.cells #[false,ak lk ck,av lv cv,ac lc cc] 170)).alloc (.cells #[lb,bk mk dk,bv mv dv,bc mc dc] 170)).heap.size=w.heap.size+2:=by simp
 have hsz3:W.heap.size=w.heap.size+3:=by rw[<-hW];simp
 have bW:Below w.heap.size w W:=by rw[<-hW];exact((Br.alloc (Nat.le_refl _) _).alloc (by simp) _).alloc (by simp;omega) _
 have XA:Hid (W.heap[w.heap.size]?=some (.cells #[false,ak lk ck,av lv cv,ac lc cc] 170)):=Hd (by rw[<-hW];exact(hao _ _ (by simp;omega)).trans ((hao _ _ (by simp)).trans (han w _)));have XB:Hid (W.heap[w.heap.size+1]?=some (.cells #[lb,bk mk dk,bv mv dv,bc mc dc] 170)):=Hd (by rw[<-hW,<-hsz];exact(hao _ _ (by simp)).trans (han _ _))
 have XZ:Hid (W.heap[w.heap.size+2]?=some (.cells #[false,.slice none 0 0,.slice none 0 0,.slice none 0 0] 170)):=Hd (by rw[<-hW,<-hsz2];exact han _ _);obtain⟨w2,hw2⟩:∃ w2,W.alloc (.cells #[.int .u64 mid] 82)=w2:=⟨_,rfl⟩
 have b2:Below W.heap.size W w2:=by rw[<-hw2];exact(Below.refl _ W).alloc (Nat.le_refl _) _
 have RQ:Hid (Rd w2 (some ⟨w.heap.size+3,0,none⟩) [.int .u64 mid]):=Hd (by rw[<-hw2,<-hsz3];exact Rd.made W _ _);have XA2:=Hd (kept XA b2);have XB2:=Hd (kept XB b2);have XZ2:=Hd (kept XZ b2);have B2:=Hd (bW.trans (b2.mono bW.size));have za0:=cl XA 0 rfl;have za1:=cl XA 1 rfl;have za2:=cl XA 2 rfl;have za3:=cl XA 3 rfl;clear bW b2 hsz hsz2;go_enter Tryz.func164,Tryz.ntmps164;go_upto_region 4 with fail
 try rw[hW]
 try rw[hsz3]
 try rw[show w.heap.size+1+1=w.heap.size+2 from rfl]
 try rw[hw2]
 clear za0 za1 za2 za3 hW hw2 hsz3 XA XB XZ;have lt0:w.heap.size<w2.heap.size:=(zl XA2.o);have lt1:w.heap.size+1<w2.heap.size:=(zl XB2.o);have lt2:w.heap.size+2<w2.heap.size:=(zl XZ2.o);have ca0:=cl XA2 0 rfl;have ca1:=cl XA2 1 rfl;have ca2:=cl XA2 2 rfl;have ca3:=cl XA2 3 rfl;have cb0:=cl XB2 0 rfl;have cb1:=cl XB2 1 rfl;have cb2:=cl XB2 2 rfl;have cb3:=cl XB2 3 rfl
 refine dF 22 35 [eqV (.pointer (some ⟨w.heap.size,0,none⟩)),eqV (.bool false),eqV (.pointer (some ⟨w.heap.size,1,none⟩)),eqV (.slice ak lk ck),eqV (.slice (some ⟨w.heap.size+3,0,none⟩) 1 1),eqV (.pointer (some ⟨w.heap.size+1,1,none⟩)),eqV (.slice bk mk dk),jB [ak lk ck,.slice (some ⟨w.heap.size+3,0,none⟩) 1 1,bk mk dk],iQ w2.heap.size X1,eqV (.pointer (some ⟨w.heap.size,2,none⟩)),eqV (.slice av lv cv),eqV (.pointer (some ⟨w.heap.size+1,2,none⟩)),eqV (.slice bv mv dv),jB [av lv cv,bv mv dv],iQ w2.heap.size X2,eqV (.pointer (some ⟨w.heap.size,3,none⟩)),eqV (.slice ac lc cc),eqV (.pointer (some ⟨w.heap.size+1,3,none⟩)),eqV (.slice bc mc dc),jB [ac lc cc,bc mc dc],iQ w2.heap.size X3,aFP w2.heap.size false X1 X2 X3,nB] (by kernel_rfl) (by kernel_rfl) (by rfl) ?owes ?ends
 case owes=>
  refine Fo 0 (fun a wx hS xo xd K HK=>?_) ?_
  ·have d3:=Fl xo 3
   clear xo xd;go_simp;exact Hr HK
  refine Fo 1 (fun a wx hS xo xd K HK=>?_) ?_
  ·have d13:=Fq xd 0
   clear xo xd;have c0:=hC ca0 hS lt0;go_simp;exact Hr HK
  refine Fo 2 (fun a wx hS xo xd K HK=>?_) ?_
  ·have d3:=Fl xo 3
   clear xo xd;go_simp;exact Hr HK
  refine Fo 3 (fun a wx hS xo xd K HK=>?_) ?_
  ·have d15:=Fq xd 2
   clear xo xd;have c0:=hC ca1 hS lt0;go_simp;exact Hr HK
  refine Fo 4 (fun a wx hS xo xd K HK=>?_) ?_
  ·have d7:=Fl xo 7
   clear xo xd;go_simp;exact Hr HK
  refine Fo 5 (fun a wx hS xo xd K HK=>?_) ?_
  ·have d5:=Fl xo 5
   clear xo xd;go_simp;exact Hr HK
  refine Fo 6 (fun a wx hS xo xd K HK=>?_) ?_
  ·have d18:=Fq xd 5
   clear xo xd;have c0:=hC cb1 hS lt1;go_simp;exact Hr HK
  refine Fo 7 (fun a wx hS xo xd K HK=>?_) ?_
  ·have d16:=Fq xd 3
   have d17:=Fq xd 4;have d19:=Fq xd 6;clear xo xd;go_simp;exact HK _ _ ⟨_,rfl,Rd.made _ _ _⟩ (aB _ _)
  refine Fo 8 (fun a wx hS xo xd K HK=>?_) ?_
  ·obtain⟨a20,d20,r20⟩:=Fr xd 7
   clear xo xd;have CA:=C1 wx a20 (chain B2 hS) r20 (RQ.below hS);clear r20;go_simp;go_wp2_with fail;refine CA.mono ?_;rintro e w9 ⟨⟨v9,rfl,h9⟩,b9⟩;exact HK _ _ (cF h9 hS.size) b9
  refine Fo 9 (fun a wx hS xo xd K HK=>?_) ?_
  ·have d3:=Fl xo 3
   clear xo xd;go_simp;exact Hr HK
  refine Fo 10 (fun a wx hS xo xd K HK=>?_) ?_
  ·have d22:=Fq xd 9
   clear xo xd;have c0:=hC ca2 hS lt0;go_simp;exact Hr HK
  refine Fo 11 (fun a wx hS xo xd K HK=>?_) ?_
  ·have d5:=Fl xo 5
   clear xo xd;go_simp;exact Hr HK
  refine Fo 12 (fun a wx hS xo xd K HK=>?_) ?_
  ·have d24:=Fq xd 11
   clear xo xd;have c0:=hC cb2 hS lt1;go_simp;exact Hr HK
  refine Fo 13 (fun a wx hS xo xd K HK=>?_) ?_
  ·have d23:=Fq xd 10
   have d25:=Fq xd 12;clear xo xd;go_simp;exact HK _ _ ⟨_,rfl,Rd.made _ _ _⟩ (aB _ _)
  refine Fo 14 (fun a wx hS xo xd K HK=>?_) ?_
  ·obtain⟨a26,d26,r26⟩:=Fr xd 13
   clear xo xd;have CA:=C2 wx a26 (chain B2 hS) r26;clear r26;go_simp;go_wp2_with fail;refine CA.mono ?_;rintro e w9 ⟨⟨v9,rfl,h9⟩,b9⟩;exact HK _ _ (cF h9 hS.size) b9
  refine Fo 15 (fun a wx hS xo xd K HK=>?_) ?_
  ·have d3:=Fl xo 3
   clear xo xd;go_simp;exact Hr HK
  refine Fo 16 (fun a wx hS xo xd K HK=>?_) ?_
  ·have d28:=Fq xd 15
   clear xo xd;have c0:=hC ca3 hS lt0;go_simp;exact Hr HK
  refine Fo 17 (fun a wx hS xo xd K HK=>?_) ?_
  ·have d5:=Fl xo 5
   clear xo xd;go_simp;exact Hr HK
  refine Fo 18 (fun a wx hS xo xd K HK=>?_) ?_
  ·have d30:=Fq xd 17
   clear xo xd;have c0:=hC cb3 hS lt1;go_simp;exact Hr HK
  refine Fo 19 (fun a wx hS xo xd K HK=>?_) ?_
  ·have d29:=Fq xd 16
   have d31:=Fq xd 18;clear xo xd;go_simp;exact HK _ _ ⟨_,rfl,Rd.made _ _ _⟩ (aB _ _)
  refine Fo 20 (fun a wx hS xo xd K HK=>?_) ?_
  ·obtain⟨a32,d32,r32⟩:=Fr xd 19
   clear xo xd;have CA:=C3 wx a32 (chain B2 hS) r32;clear r32;go_simp;go_wp2_with fail;refine CA.mono ?_;rintro e w9 ⟨⟨v9,rfl,h9⟩,b9⟩;exact HK _ _ (cF h9 hS.size) b9
  refine Fo 21 (fun a wx hS xo xd K HK=>?_) ?_
  ·have d14:=Fq xd 1
   obtain⟨a21,c21,d21,r21,l21,m21,n21⟩:=Fr xd 8;obtain⟨a27,c27,d27,r27,l27,m27,n27⟩:=Fr xd 14;obtain⟨a33,c33,d33,r33,l33,m33,n33⟩:=Fr xd 20;clear xo xd;go_simp;exact HK _ _ ⟨_,_,_,_,_,_,rfl,r21,r27,r33,l21,m21,l27,m27,l33,m33,n21,n27,n33⟩ Br
  refine OwesAll.skip (f:=22) ?_;exact OwesAll.nil
 case ends=>
  intro a wx hS hsz hdf hold hdone;simp only[List.getElem?_toArray,List.getElem?_cons_succ,List.getElem?_cons_zero,List.getElem?_nil];have hsz':a.tmps.size=35:=hsz;have hdf':a.defers=[]:=hdf;have ha:=MQ hsz' hdf';have e0:=hold 0 (aV (by kernel_rfl));have e1:=hold 1 (aV (by kernel_rfl));have e2:=hold 2 (aV (by kernel_rfl));have e3:=hold 3 (aV (by kernel_rfl));have e4:=hold 4 (aV (by kernel_rfl));have e5:=hold 5 (aV (by kernel_rfl));have e6:=hold 6 (aV (by kernel_rfl));have e7:=hold 7 (aV (by kernel_rfl))
  have e8:=hold 8 (aV (by kernel_rfl));have e9:=hold 9 (aV (by kernel_rfl));have e10:=hold 10 (aV (by kernel_rfl));have e11:=hold 11 (aV (by kernel_rfl));have e12:=hold 12 (aV (by kernel_rfl));obtain⟨xa,xb,xc,ja,jb,jc,d34,q1,q2,q3,q4,q5,q6,q7,q8,q9,p1,p2,p3⟩:=hdone 21 _ 34 rfl (by decide) rfl;clear hold hdone hsz hdf hsz' hdf';simp only[Array.getD_eq_getD_getElem?,List.getElem?_toArray,List.getElem?_cons_succ,List.getElem?_cons_zero,Option.getD_some] at e0 e1 e2 e3 e4 e5 e6 e7 e8 e9 e10 e11 e12 d34
  simp only[show(List.range 35)=[0,1,2,3,4,5,6,7,8,9,10,11,12,13,14,15,16,17,18,19,20,21,22,23,24,25,26,27,28,29,30,31,32,33,34] from rfl,List.map_cons,List.map_nil] at ha;simp only[e0,e1,e2,e3,e4,e5,e6,e7,e8,e9,e10,e11,e12,d34] at ha;clear e0 e1 e2 e3 e4 e5 e6 e7 e8 e9 e10 e11 e12 d34;generalize a.tmps[13]?.getD undef=u13 at ha;generalize a.tmps[14]?.getD undef=u14 at ha;generalize a.tmps[15]?.getD undef=u15 at ha;generalize a.tmps[16]?.getD undef=u16 at ha;generalize a.tmps[17]?.getD undef=u17 at ha
  generalize a.tmps[18]?.getD undef=u18 at ha;generalize a.tmps[19]?.getD undef=u19 at ha;generalize a.tmps[20]?.getD undef=u20 at ha;generalize a.tmps[21]?.getD undef=u21 at ha;generalize a.tmps[22]?.getD undef=u22 at ha;generalize a.tmps[23]?.getD undef=u23 at ha;generalize a.tmps[24]?.getD undef=u24 at ha;generalize a.tmps[25]?.getD undef=u25 at ha;generalize a.tmps[26]?.getD undef=u26 at ha;generalize a.tmps[27]?.getD undef=u27 at ha;generalize a.tmps[28]?.getD undef=u28 at ha;generalize a.tmps[29]?.getD undef=u29 at ha;generalize a.tmps[30]?.getD undef=u30 at ha
  generalize a.tmps[31]?.getD undef=u31 at ha;generalize a.tmps[32]?.getD undef=u32 at ha;generalize a.tmps[33]?.getD undef=u33 at ha;subst ha;intro K hK;have HK:=Hd hK;clear hK;have YZ:=kept XZ2 hS;have y0:=cl YZ 0 rfl;have y1:=cl YZ 1 rfl;have y2:=cl YZ 2 rfl;have y3:=cl YZ 3 rfl;have f0:=ufb YZ 0;have f1:=ufb YZ 1;have f2:=ufb YZ 2;have f3:=ufb YZ 3;have Y:=Hd (cM (jE YZ (.bool false) (.slice xa X1.length ja) (.slice xb X2.length jb) (.slice xc X3.length jc)))
  have f4:Frm (fun k=>k=w.heap.size+2) wx (mN wx (w.heap.size+2) (.bool false) (.slice xa X1.length ja) (.slice xb X2.length jb) (.slice xc X3.length jc)):=kM (Frm.refl _ wx) _ _ _ _ _ (.inl rfl);have nb:∀ (xo:Option Addr),(∀ x,xo=some x->w2.heap.size<=x.block)->∀ x,xo=some x->¬ x.block=w.heap.size+2:=fun xo h x hx e=>by have:=h x hx;omega
  have FIN:Hid (aAG w.heap.size false X1 X2 X3 (.returned (.agg #[false,xa X1.length ja,xb X2.length jb,xc X3.length jc])) (mN wx (w.heap.size+2) (.bool false) (.slice xa X1.length ja) (.slice xb X2.length jb) (.slice xc X3.length jc))/\Below w.heap.size w (mN wx (w.heap.size+2) (.bool false) (.slice xa X1.length ja) (.slice xb X2.length jb) (.slice xc X3.length jc))):=Hd ⟨⟨xa,xb,xc,ja,jb,jc,rfl,q1.frm f4 (fun x hx _=>nb _ p1 x hx),q2.frm f4 (fun x hx _=>nb _ p2 x hx),q3.frm f4 (fun x hx _=>nb _ p3 x hx),q4,q5,q6,q7,q8,q9,fun x hx=>by have:=p1 x hx;omega,fun x hx=>by have:=p2 x hx;omega,fun x hx=>by have:=p3 x hx;omega⟩,iB (chain B2 hS) _ _ _ _ _ (by omega)⟩
  unfold mN at Y FIN;clear q1 q2 q3 q4 q5 q6 q7 q8 q9 p1 p2 p3 nb f4 YZ ca0 ca1 ca2 ca3 cb0 cb1 cb2 cb3 C1 C2 C3 XA2 XB2 XZ2 B2 hS;rw[if_pos (by rfl)];go_simp;refine HK _ _ ?_;clear y0 y1 y2 y3 f0 f1 f2 f3 HK K;go_wp2_with fail;exact bodyPost_ret (v:=.agg #[false,xa X1.length ja,xb X2.length jb,xc X3.length jc]) (by simp[results,Tryz.results164,go_sem,Y.1,Y.2.1,Y.2.2.1,Y.2.2.2]) rfl FIN.o
theorem aC8 {a b:Nod}{mid:Int}(ha:cZ a)(hb:cZ b)(hm:0<=mid/\mid<=18446744073709551615)(h1:a.K.length+b.K.length<=900)(h2:a.V.length+b.V.length<=900)(h3:a.C.length+b.C.length<=900):cZ (aF a mid b):=by
 refine⟨?_,by simp[aF];omega,by simp[aF];omega,fun x hx=>?_,fun x hx=>?_,fun x hx=>?_⟩
 ·unfold aF
  dsimp only
  split <;> simp <;> omega
 ·unfold aF at hx
  dsimp only at hx
  simp only[List.mem_append] at hx
  rcases hx with(hx|hx)|hx
  ·exact ha.kb x hx
  ·split at hx
   ·cases hx
   ·rw[List.mem_singleton] at hx;subst hx;exact hm
  ·exact hb.kb x hx
 ·exact(List.mem_append.1 hx).elim (ha.vb x) (hb.vb x)
 ·exact(List.mem_append.1 hx).elim (ha.cb x) (hb.cb x)
theorem zY (a b:Nod)(ak av ac bk bv bc:Option Addr)(ck cv cc dk dv dc:Nat)(w:World)(hA:NodR w a ak av ac ck cv cc)(hB:NodR w b bk bv bc dk dv dc)(mid:Int)(hm:0<=mid/\mid<=18446744073709551615)(h1:a.K.length+b.K.length<=900)(h2:a.V.length+b.V.length<=900)(h3:a.C.length+b.C.length<=900) :
  () 164 #[aI a ak av ac ck cv cc,.int .u64 mid,aI b bk bv bc dk dv dc] w fun e w'=>eZ w.heap.size (aF a mid b) e w'/\Below w.heap.size w w':=by
 have hok:=aC8 hA.ok hB.ok hm h1 h2 h3
 have C2:Hid (∀ wx al,Below w.heap.size w wx->Rd wx al [av a.V.length cv,bv b.V.length dv]->() 162 #[.slice al 2 2] wx fun e w'=>aZ wx.heap.size 9 ((aF a mid b).V.map Value.string) e w'/\Below wx.heap.size wx w'):=Hd (fun wx al hb hr=>by
  have:=DT al 2 [⟨av,a.V.map Value.string,cv⟩,⟨bv,b.V.map Value.string,dv⟩] wx (by simpa[Src.val] using hr) (fun s hs=>by
   simp only[List.mem_cons,List.not_mem_nil,or_false] at hs
   rcases hs with rfl|rfl
   ·exact hA.v.below hb
   ·exact hB.v.below hb) (fun s hs=>by
   simp only[List.mem_cons,List.not_mem_nil,or_false] at hs
   rcases hs with rfl|rfl <;> exact BU _) (by simp[aO];omega) (by simp)
  have e:aO [⟨av,a.V.map Value.string,cv⟩,⟨bv,b.V.map Value.string,dv⟩]=(aF a mid b).V.map Value.string:=by simp[aO,aF]
  rw[e] at this;exact this)
 have C3:Hid (∀ wx al,Below w.heap.size w wx->Rd wx al [ac a.C.length cc,bc b.C.length dc]->() 176 #[.slice al 2 2] wx fun e w'=>aZ wx.heap.size 3 ((aF a mid b).C.map dO) e w'/\Below wx.heap.size wx w'):=Hd (fun wx al hb hr=>by
  have:=DV al 2 [⟨ac,a.C.map dO,cc⟩,⟨bc,b.C.map dO,dc⟩] wx (by simpa[Src.val] using hr) (fun s hs=>by
   simp only[List.mem_cons,List.not_mem_nil,or_false] at hs
   rcases hs with rfl|rfl
   ·exact hA.c.below hb
   ·exact hB.c.below hb) (fun s hs=>by
   simp only[List.mem_cons,List.not_mem_nil,or_false] at hs
   rcases hs with rfl|rfl <;> exact wL _) (by simp[aO];omega) (by simp)
  have e:aO [⟨ac,a.C.map dO,cc⟩,⟨bc,b.C.map dO,dc⟩]=(aF a mid b).C.map dO:=by simp[aO,aF]
  rw[e] at this;exact this)
 have FIN:∀ e w',aAG w.heap.size a.leaf ((aF a mid b).K.map bF) ((aF a mid b).V.map Value.string) ((aF a mid b).C.map dO) e w'/\Below w.heap.size w w'->eZ w.heap.size (aF a mid b) e w'/\Below w.heap.size w w':=by
  rintro e w' ⟨⟨xa,xb,xc,ja,jb,jc,rfl,q1,q2,q3,q4,q5,q6,q7,q8,q9,p1,p2,p3⟩,hb⟩;refine⟨⟨xa,xb,xc,ja,jb,jc,?_,⟨q1,q2,q3,by simpa using q4,q5,by simpa using q6,q7,by simpa using q8,q9,hok⟩,p1,p2,p3⟩,hb⟩;unfold aI;simp only[List.length_map]
  rfl
 cases hl:a.leaf with
 | true=>
  have C1:Hid (∀ wx al,Below w.heap.size w wx->Rd wx al [ak a.K.length ck,.slice none 0 0,bk b.K.length dk]->() 161 #[.slice al 3 3] wx fun e w'=>aZ wx.heap.size 82 ((aF a mid b).K.map bF) e w'/\Below wx.heap.size wx w'):=Hd (fun wx al hb hr=>by
   have:=uP al 3 [⟨ak,a.K.map bF,ck⟩,⟨none,[],0⟩,⟨bk,b.K.map bF,dk⟩] wx (by simpa[Src.val] using hr) (fun s hs=>by
    simp only[List.mem_cons,List.not_mem_nil,or_false] at hs
    rcases hs with rfl|rfl|rfl
    ·exact hA.k.below hb
    ·exact .inl rfl
    ·exact hB.k.below hb) (fun s hs=>by
    simp only[List.mem_cons,List.not_mem_nil,or_false] at hs
    rcases hs with rfl|rfl|rfl
    ·exact lZ _
    ·exact fun u hu=>(by cases hu)
    ·exact lZ _) (by simp[aO];omega) (by simp)
   have e:aO [⟨ak,a.K.map bF,ck⟩,⟨none,[],0⟩,⟨bk,b.K.map bF,dk⟩]=(aF a mid b).K.map bF:=by simp[aO,aF,hl]
   rw[e] at this;exact this)
  rw[hl] at FIN;unfold aI;rw[hl];exact(uW ak av ac bk bv bc ck cv cc dk dv dc _ _ _ _ _ _ b.leaf mid _ _ _ w C1 C2 C3).mono FIN
 | false=>
  have C1:Hid (∀ wx al,Below w.heap.size w wx->Rd wx al [ak a.K.length ck,.slice (some ⟨w.heap.size+3,0,none⟩) 1 1,bk b.K.length dk]->Rd wx (some ⟨w.heap.size+3,0,none⟩) [.int .u64 mid]->() 161 #[.slice al 3 3] wx fun e w'=>aZ wx.heap.size 82 ((aF a mid b).K.map bF) e w'/\Below wx.heap.size wx w'):=Hd (fun wx al hb hr hq=>by
   have:=uP al 3 [⟨ak,a.K.map bF,ck⟩,⟨some ⟨w.heap.size+3,0,none⟩,[.int .u64 mid],1⟩,⟨bk,b.K.map bF,dk⟩] wx (by simpa[Src.val] using hr) (fun s hs=>by
    simp only[List.mem_cons,List.not_mem_nil,or_false] at hs
    rcases hs with rfl|rfl|rfl
    ·exact hA.k.below hb
    ·exact hq
    ·exact hB.k.below hb) (fun s hs=>by
    simp only[List.mem_cons,List.not_mem_nil,or_false] at hs
    rcases hs with rfl|rfl|rfl
    ·exact lZ _
    ·exact fun u hu=>(by rw[List.mem_singleton] at hu;subst hu;rfl)
    ·exact lZ _) (by simp[aO];omega) (by simp)
   have e:aO [⟨ak,a.K.map bF,ck⟩,⟨some ⟨w.heap.size+3,0,none⟩,[.int .u64 mid],1⟩,⟨bk,b.K.map bF,dk⟩]=(aF a mid b).K.map bF:=by simp[aO,aF,hl,bF]
   rw[e] at this;exact this)
  rw[hl] at FIN;unfold aI;rw[hl];exact(rW ak av ac bk bv bc ck cv cc dk dv dc _ _ _ _ _ _ b.leaf mid _ _ _ w C1 C2 C3).mono FIN
theorem aBS {R:Int->Option Nod}{h:Nat}{N:Nod}{F X Y:List Mk}{P:List Int}(h2:fK R h N F P)(h3:bT (X++F++Y))(hb:NB N 320)(hl:cH N.leaf<=N.K.length):bU (aP N (cI N))=true/\bU (aU N (cI N))=true:=by
 have hw:=eR h2;obtain⟨mid,FA,FB,PA,PB,s1,s2,s3,s4,s5,s6,s7,s8⟩:=nP h2 hl;obtain⟨z1,z2⟩:=xF N hw hb.1 hl hb.2.2;have hs:=(aG.1 (aG.1 (s8 X Y h3)).1).2.1;obtain⟨t1,t2,_⟩:=aG.1 hs;have t2':=(eM.1 t2).2;refine⟨kK s2 t1 (fun v hv=>?_) (fun c hc=>?_) s4 z1,kK s3 t2' (fun v hv=>?_) (fun c hc=>?_) s5 z2⟩
 ·refine hb.1 v ?_
  unfold aP at hv
  split at hv
  ·exact List.mem_of_mem_take hv
  ·cases hv
 ·refine hb.2.1 c ?_
  unfold aP at hc
  split at hc
  ·cases hc
  ·exact List.mem_of_mem_take hc
 ·refine hb.1 v ?_
  unfold aU at hv
  split at hv
  ·exact List.mem_of_mem_drop hv
  ·cases hv
 ·refine hb.2.1 c ?_
  unfold aU at hc
  split at hc
  ·cases hc
  ·exact List.mem_of_mem_drop hc
section
variable {dk:DkS} {st:ShS} {fs:List aL} {h:Nat} {pg k pl pr:Int} {KA KB:List Int} {A B:List Kid} {NL NR:Nod} {E:List Ent}
theorem PairI.parts (hp:PairI dk st fs h pg KA k KB A B pl NL pr NR E)(hb:NB (aF NL k NR) 320)(hl:cH (aF NL k NR).leaf<=(aF NL k NR).K.length):bU (aP (aF NL k NR) (cI (aF NL k NR)))=true/\bU (aU (aF NL k NR) (cI (aF NL k NR)))=true:=by
 obtain⟨FL,FR,PC,F1,P1,F2,P2,c1,c2,c3,c4,c5,h1,h2,h3,h4,h5⟩:=hp;obtain⟨F,t1,t2,t3⟩:=rH h1 h2 k;exact aBS t1 (t3 (FL++bX KA A) (dJ KB B++FR) (by simpa using h3)) hb hl
theorem aC9 (hk:NL.K≠[]\/NR.K≠[]):(aF NL k NR).K≠[]:=by
 unfold aF;intro e;have:=congrArg List.length e;simp only[List.length_append,List.length_nil] at this
 rcases hk with hk|hk
 ·have:=List.length_pos_iff.2 hk;omega
 ·have:=List.length_pos_iff.2 hk;omega
theorem PairI.right (hp:PairI dk st fs h pg KA k KB A B pl NL pr NR E)(hb:NB (aF NL k NR) 240)(hk:NL.K≠[]\/NR.K≠[]):bU (aF NL k NR)=true:=by
 obtain⟨FL,FR,PC,F1,P1,F2,P2,c1,c2,c3,c4,c5,h1,h2,h3,h4,h5⟩:=hp;obtain⟨F,t1,t2,t3⟩:=rH h1 h2 k;have hs:=t3 (FL++bX KA A) (dJ KB B++FR) (by simpa using h3);exact kK t1 (aG.1 (aG.1 hs).1).2.1 hb.1 hb.2.1 (aC9 hk) hb.2.2
theorem PairI.nb (hp:PairI dk st fs h pg KA k KB A B pl NL pr NR E)(h1:NB NL 240)(h2:NB NR 240)(hz:aH NL<80\/aH NR<80):NB (aF NL k NR) 320/\NL.K.length<=100/\NR.K.length<=100/\NL.V.length<=100/\NR.V.length<=100/\NL.C.length<=101/\NR.C.length<=101:=by
 obtain⟨b1,b2,b3,b4,_⟩:=hp.both;have z1:=h1.2.2;have z2:=h2.2.2
 have hV:∀ v∈(aF NL k NR).V,v.size<=40:=by
  intro v hv;unfold aF at hv
  rcases List.mem_append.1 hv with hv|hv
  ·exact h1.1 v hv
  ·exact h2.1 v hv
 have hC:∀ c∈(aF NL k NR).C,2<=c/\c<640:=by
  intro v hv;unfold aF at hv
  rcases List.mem_append.1 hv with hv|hv
  ·exact h1.2.1 v hv
  ·exact h2.2.1 v hv
 by_cases h0:h=0
 ·have l1:NL.leaf=true:=by rw[b1];exact decide_eq_true h0
  have l2:NR.leaf=true:=by rw[b2];exact decide_eq_true h0
  have w1:=(bC l1).1 b3;have w2:=(bC l2).1 b4;unfold aH at z1 z2 hz;rw[l1] at z1 hz;rw[l2] at z2 hz;simp only[if_true] at z1 z2 hz
  have e1:aH (aF NL k NR)=1+9*(NL.K.length+NR.K.length)+(bI NL.V+bI NR.V):=by
   unfold aH aF;simp only[l1,if_true,List.append_nil,List.length_append];rw[eW]
  refine⟨⟨hV,hC,?_⟩,?_⟩
  ·rw[e1];omega
  ·have:=w1.1;have:=w1.2;have:=w2.1;have:=w2.2
   refine⟨by omega,by omega,by omega,by omega,by omega,by omega⟩
 ·have l1:NL.leaf=false:=by rw[b1];exact decide_eq_false h0
  have l2:NR.leaf=false:=by rw[b2];exact decide_eq_false h0
  have w1:=(aQ l1).1 b3;have w2:=(aQ l2).1 b4;unfold aH at z1 z2 hz;rw[l1] at z1 hz;rw[l2] at z2 hz;simp only[Bool.false_eq_true,if_false] at z1 z2 hz
  have e1:aH (aF NL k NR)=1+8*(NL.K.length+1+NR.K.length)+2*(NL.C.length+NR.C.length):=by
   unfold aH aF;simp[l1];omega
  refine⟨⟨hV,hC,?_⟩,?_⟩
  ·rw[e1];have:=w1.1;have:=w2.1;omega
  ·have:=w1.1;have:=w1.2;have:=w2.1;have:=w2.2
   refine⟨by omega,by omega,by omega,by omega,by omega,by omega⟩
theorem PairI.heads (hp:PairI dk st fs h pg KA k KB A B pl NL pr NR E)(g:eU dk st):(2<=pl/\pl<640)/\(2<=pr/\pr<640)/\A.length=KA.length/\B.length=KB.length:=by
 obtain⟨FL,FR,PC,F1,P1,F2,P2,c1,c2,c3,c4,c5,h1,h2,h3,h4,h5⟩:=hp;exact⟨h5.rng g (by simp),h5.rng g (by simp),c2,c3⟩
theorem PairI.then {dk1:DkS}{st1:ShS}{q:Int}{N:Nod}(hp:PairI dk st fs h pg KA k KB A B pl NL pr NR E)(hl:jM dk st pl N dk1 st1 q):nH st1 pr:=by
 obtain⟨FL,FR,PC,F1,P1,F2,P2,c1,c2,c3,c4,c5,h1,h2,h3,h4,h5⟩:=hp;exact((hl.lv _ h5).1.2 pr).1 (by simp)
end
def xU (M:Nod)(i:Nat)(v:Int):Nod:={ leaf:=M.leaf,K:=M.K.set i v,V:=M.V,C:=M.C }
theorem aCB {w:World}{M:Nod}{av ac:Option Addr}{b off ck cv cc i:Nat}{Z:Nat->Prop}(h:RowsA w M (some ⟨b,off,none⟩) av ac ck cv cc Z)(hv:M.V=[])(hi:i<M.K.length)(v:Int)(hvb:0<=v/\v<=18446744073709551615) :
  RowsA (w.setCell ⟨b,off+i,none⟩ (.int .u64 v)) (xU M i v) (some ⟨b,off,none⟩) av ac ck cv cc Z:=by
 have hc:=h.r.k;obtain⟨b',off',e1,e2,e3⟩:=hc.at i (by simpa using hi);injection e1 with e1;injection e1 with e1 e4;subst e1 e4;refine⟨⟨?_,by show Rd _ _ (M.V.map _);rw[hv];exact .inl rfl,h.r.c.setOther b (off+i) _ _ e3 (fun u hu=>?_),by show(M.K.set i v).length<=_;rw[List.length_set];exact h.r.k2,h.r.k3,h.r.v2,h.r.v3,h.r.c2,h.r.c3,?_⟩,fun x hx hL=>h.zk x hx (fun e=>hL (by show M.K.set i v=[];rw[e];rfl)),h.zv,h.zc⟩
 ·show Rd _ _ ((M.K.set i v).map bF)
  rw[List.map_set];exact hc.setSame i (by simpa using hi) _
 ·obtain⟨k,_,rfl⟩:=List.mem_map.1 hu
  rw[List.getElem_map];intro e;cases e
 ·have ho:=h.r.ok
  refine⟨by show(M.K.set i v).length<=_;rw[List.length_set];exact ho.k1,ho.v1,ho.c1,fun c hc=>?_,ho.vb,ho.cb⟩
  rcases List.mem_or_eq_of_mem_set hc with hc|rfl
  ·exact ho.kb c hc
  ·exact hvb
theorem AM {w5:World}{x:StepV}{U:Nod}{Z:Nat->Prop}{i:Nat}{q1 q2 mid:Int}(hA:StepA w5 x U Z)(hV:U.V=[])(hi:i+1<U.C.length)(hk:i<U.K.length)(b1:2<=q1/\q1<640)(b2:2<=q2/\q2<640)(b3:0<=mid/\mid<=18446744073709551615) :
  ∃ (cb off kb ko:Nat),x.ac=some ⟨cb,off,none⟩/\x.ak=some ⟨kb,ko,none⟩/\¬ Z cb/\¬ Z kb/\cb<w5.heap.size/\kb<w5.heap.size/\(∃ c,w5.cell? ⟨cb,off+i,none⟩=some (.int .i64 c))/\w5.frozen? ⟨cb,off+i,none⟩=false /\
   ∀ w6,w5.setCell ⟨cb,off+i,none⟩ (.int .i64 q1)=w6->(∃ c,w6.cell? ⟨cb,off+(i+1),none⟩=some (.int .i64 c))/\w6.frozen? ⟨cb,off+(i+1),none⟩=false/\Frm (fun y=>y=cb\/y=kb) w5 w6 /\
    ∀ w7,w6.setCell ⟨cb,off+(i+1),none⟩ (.int .i64 q2)=w7->(∃ c,w7.cell? ⟨kb,ko+i,none⟩=some (.int .u64 c))/\w7.frozen? ⟨kb,ko+i,none⟩=false/\Frm (fun y=>y=cb\/y=kb) w5 w7 /\
     ∀ w8,w7.setCell ⟨kb,ko+i,none⟩ (.int .u64 mid)=w8->RowsA w8 (xU (aW (aW U i q1) (i+1) q2) i mid) x.ak x.av x.ac x.ck x.cv x.cc Z/\Frm (fun y=>y=cb\/y=kb) w5 w8:=by
 obtain⟨cb,off,e1,e2,e3⟩:=hA.a.r.c.at i (by simp;omega);obtain⟨kb,ko,f1,f2,f3⟩:=hA.a.r.k.at i (by simpa using hk);have uc:=hA.uc _ e1;have uk:=hA.uk _ f1;have r5:=hA.a;rw[e1,f1] at r5;refine⟨cb,off,kb,ko,e1,f1,hA.zc _ e1,hA.zk _ f1,e2,f2,⟨_,by rw[e3,List.getElem_map];rfl⟩,uc.2 _,fun w6 h6=>?_⟩;have F6:Frm (fun y=>y=cb\/y=kb) w5 w6:=by rw[<-h6];exact(Frm.refl _ w5).setCell _ _ (.inl (.inl rfl))
 have r6:RowsA w6 (aW U i q1) (some ⟨kb,ko,none⟩) x.av (some ⟨cb,off,none⟩) x.ck x.cv x.cc Z:=by rw[<-h6];exact sE r5 hV (by omega) q1 (by omega)
 have l6:i+1<(aW U i q1).C.length:=by unfold aW;simp;exact hi
 have c6:∃ c,w6.cell? ⟨cb,off+(i+1),none⟩=some (.int .i64 c):=by
  obtain⟨cb',off',g1,g2,g3⟩:=r6.r.c.at (i+1) (by simpa using l6);injection g1 with g1;injection g1 with g1 g4;subst g1 g4;exact⟨_,by rw[g3,List.getElem_map];rfl⟩
 refine⟨c6,by rw[<-h6,World.frozen?_setCell];exact uc.2 _,F6,fun w7 h7=>?_⟩;have F7:Frm (fun y=>y=cb\/y=kb) w5 w7:=by rw[<-h7];exact F6.setCell _ _ (.inl (.inl rfl))
 have r7:RowsA w7 (aW (aW U i q1) (i+1) q2) (some ⟨kb,ko,none⟩) x.av (some ⟨cb,off,none⟩) x.ck x.cv x.cc Z:=by rw[<-h7];exact sE r6 hV l6 q2 (by omega)
 have c7:∃ c,w7.cell? ⟨kb,ko+i,none⟩=some (.int .u64 c):=by
  obtain⟨kb',ko',g1,g2,g3⟩:=r7.r.k.at i (by rw[List.length_map];exact hk);injection g1 with g1;injection g1 with g1 g4;subst g1 g4;exact⟨_,by rw[g3,List.getElem_map];rfl⟩
 refine⟨c7,by rw[<-h7,World.frozen?_setCell,<-h6,World.frozen?_setCell];exact uk.2 _,F7,fun w8 h8=>?_⟩;refine⟨?_,by rw[<-h8];exact F7.setCell _ _ (.inl (.inr rfl))⟩;rw[e1,f1,<-h8];exact aCB r7 hV hk mid b3
structure UpS (U:Nod)(KA:List Int)(k:Int)(KB:List Int)(A:List Kid)(c1 c2:Int)(B:List Kid):Prop where
 lf:U.leaf=false
 v:U.V=[]
 k:U.K=KA++[k]++KB
 c:U.C=kP A++[c1,c2]++kP B
 a:A.length=KA.length
 b:B.length=KB.length
theorem UpS.shared {U:Nod}{KA KB:List Int}{k c1 c2:Int}{A B:List Kid}(h:UpS U KA k KB A c1 c2 B)(q1 q2 mid:Int):xU (aW (aW U KA.length q1) (KA.length+1) q2) KA.length mid={ leaf:=false,K:=KA++[mid]++KB,V:=[],C:=kP A++[q1,q2]++kP B }:=by
 unfold xU aW;rw[h.lf,h.v,h.k,h.c];have la:(kP A).length=KA.length:=by rw[cL,h.a]
 simp only[Nod.mk.injEq,true_and];constructor
 ·rw[List.append_assoc,List.append_assoc,List.set_append_right _ _ (Nat.le_refl _),Nat.sub_self];rfl
 ·rw[List.append_assoc,List.append_assoc,List.set_append_right _ _ (by omega),la,Nat.sub_self,List.set_append_right _ _ (by omega),la]
  rw[show KA.length+1-KA.length=1 by omega]
  rfl
theorem UpS.sizes {U:Nod}{KA KB:List Int}{k c1 c2:Int}{A B:List Kid}(h:UpS U KA k KB A c1 c2 B):KA.length+1<U.C.length/\KA.length<U.K.length:=by
 rw[h.k,h.c];simp only[List.length_append,List.length_cons,List.length_nil,cL,h.a];omega
theorem UpS.nb {U:Nod}{KA KB:List Int}{k c1 c2:Int}{A B:List Kid}(h:UpS U KA k KB A c1 c2 B)(hn:NB U 240)(q1 q2 mid:Int)(b1:2<=q1/\q1<640)(b2:2<=q2/\q2<640):NB { leaf:=false,K:=KA++[mid]++KB,V:=[],C:=kP A++[q1,q2]++kP B } 240:=by
 have h1:=hn.2.1;have h2:=hn.2.2;unfold aH at h2;rw[h.lf,h.k,h.c] at h2;rw[h.c] at h1;refine⟨fun v hv=>(by cases hv),fun c hc=>?_,?_⟩
 ·simp only[List.mem_append,List.mem_cons,List.not_mem_nil,or_false] at hc
  rcases hc with(hc|hc|hc)|hc
  ·exact h1 c (by simp[hc])
  ·exact hc ▸ b1
  ·exact hc ▸ b2
  ·exact h1 c (by simp[hc])
 ·unfold aH
  simp only[Bool.false_eq_true,if_false,List.length_append,List.length_cons,List.length_nil] at h2 |-;omega
theorem UpS.nb1 {U:Nod}{KA KB:List Int}{k c1 c2:Int}{A B:List Kid}(h:UpS U KA k KB A c1 c2 B)(hn:NB U 240)(q:Int)(b1:2<=q/\q<640):NB { leaf:=false,K:=KA++KB,V:=[],C:=kP A++[q]++kP B } 240:=by
 have h1:=hn.2.1;have h2:=hn.2.2;unfold aH at h2;rw[h.lf,h.k,h.c] at h2;rw[h.c] at h1;refine⟨fun v hv=>(by cases hv),fun c hc=>?_,?_⟩
 ·simp only[List.mem_append,List.mem_cons,List.not_mem_nil,or_false] at hc
  rcases hc with(hc|hc)|hc
  ·exact h1 c (by simp[hc])
  ·exact hc ▸ b1
  ·exact h1 c (by simp[hc])
 ·unfold aH
  simp only[Bool.false_eq_true,if_false,List.length_append,List.length_cons,List.length_nil] at h2 |-;omega
def XB (x:StepV)(k:Nat):Prop:=(∃ y,x.ak=some y/\y.block=k)\/∃ y,x.ac=some y/\y.block=k
structure ShrS (w:World)(d s g:Nat)(dk:DkS)(st:ShS)(F:Nat->Prop)(x:StepV)(p:Int)(fs:List aL)(h:Nat)(E:List Ent)(m:Nat)(w':World)(N:Nod)(bk bv bc:Option Addr)(jk jv jc:Nat)(dk':DkS)(st':ShS)(r':Nat)(F':Nat->Prop):Prop where
 ts:TS w' d s g dk' st' r' F'
 fr:Frm (fun k=>F k\/XB x k) w w'
 fn:∀ k,F' k->F k\/w.heap.size<=k
 rows:RowsA w' N bk bv bc jk jv jc F'
 nv:N.V=[]
 ka:∀ y,bk=some y->XB x y.block\/w.heap.size<=y.block
 kc:∀ y,bc=some y->XB x y.block\/w.heap.size<=y.block
 at_:AtI dk' st' fs h p N E
 nb:NB N 240
 tt:To dk st dk' st'
 rm:∀ k,Room dk st (k+m)->Room dk' st' k
def fR (w:World)(d s g:Nat)(dk:DkS)(st:ShS)(F:Nat->Prop)(x:StepV)(p:Int)(fs:List aL)(h:Nat)(E:List Ent)(m:Nat)(rr:Nat->Prop)(e:Ending)(w':World):Prop:=
 ∃ i fd N bk bv bc jk jv jc dk' st' r' F',e=.returned (.tuple #[.agg #[p,.int .i64 i,.bool fd,.bool N.leaf,.slice bk N.K.length jk,.slice bv N.V.length jv,.slice bc N.C.length jc],(0:Int)])/\rr r'/\ShrS w d s g dk st F x p fs h E m w' N bk bv bc jk jv jc dk' st' r' F'
theorem RowsA.frm2 {w w':World}{n:Nod}{ak av ac:Option Addr}{ck cv cc:Nat}{Z G:Nat->Prop}(h:RowsA w n ak av ac ck cv cc Z)(hf:Frm G w w')(hv:n.V=[])(hk:∀ y,ak=some y->¬ G y.block)(hc:∀ y,ac=some y->¬ G y.block):RowsA w' n ak av ac ck cv cc Z:=
 { h with r:={ h.r with
   k:=h.r.k.frm hf fun y hy _=>hk y hy
   v:=by rw[hv];exact .inl rfl
   c:=h.r.c.frm hf fun y hy _=>hc y hy } }
theorem ShrS.boxed {w wg w5 we:World}{d s g:Nat}{dk dk':DkS}{st st':ShS}{F F':Nat->Prop}{x:StepV}{p:Int}{fs:List aL}{h m r' b:Nat}{E:List Ent}{N:Nod}{bk bv bc:Option Addr}{jk jv jc:Nat}
  (hs:ShrS wg d s g dk st F x p fs h E m w5 N bk bv bc jk jv jc dk' st' r' F')(hb:Below w.heap.size w wg)(h0:w.heap.size<=b)(h1:b<wg.heap.size)(hX:∀ k,XB x k->k<w.heap.size)(hF:∀ k,F k->k<w.heap.size)(hf:Frm (fun k=>k=b) w5 we):ShrS w d s g dk st F x p fs h E m we N bk bv bc jk jv jc dk' st' r' F':=by
 have nb:¬ F' b:=fun hx=>by
  rcases hs.fn _ hx with h2|h2
  ·have:=hF _ h2;omega
  ·omega
 have nk:∀ y:Addr,(XB x y.block\/wg.heap.size<=y.block)->¬ y.block=b:=fun y hy e=>by
  rcases hy with h2|h2
  ·have:=hX _ h2;omega
  ·omega
 exact{ hs with
  ts:=hs.ts.frm hf (fun k hk e=>nb (e ▸ hk))
  fr:=((Frm.of_below hb:Frm (fun k=>F k\/XB x k) w wg).trans hs.fr (fun k hk=>.inl hk)).trans hf (fun k hk=>.inr (by subst hk;exact h0))
  fn:=fun k hk=>(hs.fn k hk).imp id (fun h2=>Nat.le_trans hb.size h2)
  rows:=hs.rows.frm2 hf hs.nv (fun y hy=>nk y (hs.ka y hy)) (fun y hy=>nk y (hs.kc y hy))
  ka:=fun y hy=>(hs.ka y hy).imp id (fun h2=>Nat.le_trans hb.size h2)
  kc:=fun y hy=>(hs.kc y hy).imp id (fun h2=>Nat.le_trans hb.size h2) }
theorem UpS.hung {U:Nod}{KA KB:List Int}{k c1 c2:Int}{A B:List Kid}(h:UpS U KA k KB A c1 c2 B)(q:Int):iU (aW U KA.length q) KA.length={ leaf:=false,K:=KA++KB,V:=[],C:=kP A++[q]++kP B }:=by
 have la:(kP A).length=KA.length:=by rw[cL,h.a]
 unfold iU aW
 dsimp only
 rw[h.k,h.c];have e1:(KA++[k]++KB).take KA.length=KA:=by rw[List.append_assoc];exact List.take_left' rfl
 have e2:(KA++[k]++KB).drop (KA.length+1)=KB:=List.drop_left' (by simp)
 have e3:(kP A++[c1,c2]++kP B).set KA.length q=(kP A++[q])++([c2]++kP B):=by
  rw[List.append_assoc,List.set_append_right _ _ (by omega),la,Nat.sub_self];simp
 rw[e1,e2,e3];have e4:((kP A++[q])++([c2]++kP B)).take (KA.length+1)=kP A++[q]:=List.take_left' (by simp[la]);have e5:((kP A++[q])++([c2]++kP B)).drop (KA.length+2)=kP B:=by rw[<-List.append_assoc];exact List.drop_left' (by simp[la])
 rw[e4,e5]
theorem UpS.whole {U:Nod}{KA KB:List Int}{k c1 c2:Int}{A B:List Kid}(h:UpS U KA k KB A c1 c2 B)(q:Int):bD (aW U KA.length q)=true/\(aW U KA.length q).leaf=false/\KA.length+1<=(aW U KA.length q).K.length:=by
 refine⟨(aQ (n:=aW U KA.length q) h.lf).2 ⟨?_,?_⟩,h.lf,?_⟩
 ·unfold aW;dsimp only;rw[List.length_set,h.k,h.c];simp only[List.length_append,List.length_cons,List.length_nil,cL,h.a,h.b];omega
 ·unfold aW;dsimp only;rw[h.v];rfl
 ·unfold aW;dsimp only;rw[h.k];simp
theorem gJ {w5:World}{x:StepV}{U:Nod}{Z:Nat->Prop}{i:Nat}{q1:Int}(hA:StepA w5 x U Z)(hV:U.V=[])(hi:i<U.C.length)(b1:2<=q1/\q1<640) :
  ∃ (cb off:Nat),x.ac=some ⟨cb,off,none⟩/\¬ Z cb/\cb<w5.heap.size/\(∃ c,w5.cell? ⟨cb,off+i,none⟩=some (.int .i64 c))/\w5.frozen? ⟨cb,off+i,none⟩=false /\
   ∀ w6,w5.setCell ⟨cb,off+i,none⟩ (.int .i64 q1)=w6->Frm (fun y=>y=cb) w5 w6/\RowsA w6 (aW U i q1) x.ak x.av x.ac x.ck x.cv x.cc Z:=by
 obtain⟨cb,off,e1,e2,e3⟩:=hA.a.r.c.at i (by simpa using hi);have uc:=hA.uc _ e1;have r5:=hA.a;rw[e1] at r5;refine⟨cb,off,e1,hA.zc _ e1,e2,⟨_,by rw[e3,List.getElem_map];rfl⟩,uc.2 _,fun w6 h6=>⟨by rw[<-h6];exact(Frm.refl _ w5).setCell _ _ (.inl rfl),?_⟩⟩;rw[e1,<-h6];exact sE r5 hV hi q1 (by omega)
theorem aEB {w:World}{x:StepV}{U:Nod}{Z:Nat->Prop}{KA KB:List Int}{k c1 c2:Int}{A B:List Kid}(hA:StepA w x U Z)(h:UpS U KA k KB A c1 c2 B):∃ kb ko,x.ak=some ⟨kb,ko,none⟩/\kb<w.heap.size/\w.cell? ⟨kb,ko+KA.length,none⟩=some (.int .u64 k)/\0<=k/\k<=18446744073709551615:=by
 obtain⟨kb,ko,f1,f2,f3⟩:=hA.a.r.k.at KA.length (by rw[List.length_map];exact h.sizes.2);refine⟨kb,ko,f1,f2,?_,hA.a.r.ok.kb k (by rw[h.k];simp)⟩;rw[f3,List.getElem_map]
 have:U.K[KA.length]'(h.sizes.2)=k:=by
  have e:U.K[KA.length]?=some k:=by rw[h.k,List.append_assoc,List.getElem?_append_right (Nat.le_refl _),Nat.sub_self];rfl
  rw[List.getElem?_eq_getElem h.sizes.2] at e;injection e
 rw[this]
 rfl
theorem NM (w:World)(d s g:Nat)(dk:DkS)(st:ShS)(r:Nat)(F:Nat->Prop)(h:TS w d s g dk st r F)(G:eU dk st)(x:StepV)(U:Nod)(hX:StepA w x U F)(fs:List aL)(hh:Nat)(KA KB:List Int)(k pl pr c1 c2:Int)(A B:List Kid)(NL NR:Nod)(E:List Ent)
  (hp:PairI dk st fs hh x.p KA k KB A B pl NL pr NR E)(hU:UpS U KA k KB A c1 c2 B)(hN:NB U 240)(hb:NB (aF NL k NR) 320)(hz:240<aH (aF NL k NR))(ak av ac:Option Addr)(ck cv cc:Nat)(hM:NodR w (aF NL k NR) ak av ac ck cv cc)(hroom:Room dk st 2) :
  () 165 #[g,x.val,(KA.length:Int),pl,pr,aI (aF NL k NR) ak av ac ck cv cc] w (fR w d s g dk st F x x.p fs (hh+1) E 2 (fun r'=>r'=r)):=by
 have hw:=hp.both.2.2.2.2.1;have hl:=wO hw hb.1 hz;obtain⟨rA,rB⟩:=hp.parts hb hl
 obtain⟨mid,hm⟩:∃ mid,(aF NL k NR).K[cI (aF NL k NR)]?=some mid:=by
  obtain⟨FL,FR,PC,F1,P1,F2,P2,a1,a2,a3,a4,a5,h1,h2,h3,h4,h5⟩:=hp;obtain⟨F0,t1,_⟩:=rH h1 h2 k;obtain⟨mid,_,_,_,_,s1,_⟩:=nP t1 hl;exact⟨mid,s1⟩
 have hmb:0<=mid/\mid<=18446744073709551615:=hM.ok.kb mid (List.mem_of_getElem? hm);obtain⟨hp1,hp2,hA1,hB1⟩:=hp.heads G;have hsz:=hU.sizes;have two:=fun dk1 st1 dk' st' q1 q2 (a1:jM dk st pl (aP (aF NL k NR) (cI (aF NL k NR))) dk1 st1 q1) (a2:jM dk1 st1 pr (aU (aF NL k NR) (cI (aF NL k NR))) dk' st' q2)=>QX (dk':=dk') (N:={ leaf:=false,K:=KA++[mid]++KB,V:=[],C:=kP A++[q1,q2]++kP B }) hp hl hm a1 a2 rfl rfl rfl rfl
 have lv:=hp.both.2.2.2.2.2.2.1;have lvr:=fun dk1 st1 q1 (a1:jM dk st pl (aP (aF NL k NR) (cI (aF NL k NR))) dk1 st1 q1)=>hp.then a1
 obtain⟨w1,hw1⟩:∃ w1,(((w.alloc (.cells #[.int .i64 x.p,x.i,x.fd,x.lf,x.ak x.lk x.ck,x.av x.lv x.cv,x.ac x.lc x.cc] 172)).alloc (.cells #[.bool (aF NL k NR).leaf,.slice ak (aF NL k NR).K.length ck,.slice av (aF NL k NR).V.length cv,.slice ac (aF NL k NR).C.length cc] 170)).alloc (.cells #[(0:Int),(0:Int),false,false,.slice none 0 0,.slice none 0 0,.slice none 0 0] 172))=w1:=⟨_,rfl⟩
 have B1:Below w.heap.size w w1:=by rw[<-hw1];exact(((Below.refl _ w).alloc (Nat.le_refl _) _).alloc (by simp) _).alloc (by simp;omega) _
 have z1:w1.heap.size=w.heap.size+3:=by rw[<-hw1];simp
 have XU1:w1.heap[w.heap.size]?=some (.cells #[.int .i64 x.p,x.i,x.fd,x.lf,x.ak x.lk x.ck,x.av x.lv x.cv,x.ac x.lc x.cc] 172):=by rw[<-hw1];exact(hao _ _ (by simp;omega)).trans ((hao _ _ (by simp)).trans (han w _))
 have XM1:w1.heap[w.heap.size+1]?=some (.cells #[.bool (aF NL k NR).leaf,.slice ak (aF NL k NR).K.length ck,.slice av (aF NL k NR).V.length cv,.slice ac (aF NL k NR).C.length cc] 170):=by
  rw[<-hw1];have:=han (w.alloc (.cells #[.int .i64 x.p,x.i,x.fd,x.lf,x.ak x.lk x.ck,x.av x.lv x.cv,x.ac x.lc x.cc] 172)) (.cells #[.bool (aF NL k NR).leaf,.slice ak (aF NL k NR).K.length ck,.slice av (aF NL k NR).V.length cv,.slice ac (aF NL k NR).C.length cc] 170);rw[World.size_alloc] at this;exact(hao _ _ (by simp)).trans this
 have XZ1:w1.heap[w.heap.size+2]?=some (.cells #[(0:Int),(0:Int),false,false,.slice none 0 0,.slice none 0 0,.slice none 0 0] 172):=by
  rw[<-hw1];have:=han ((w.alloc (.cells #[.int .i64 x.p,x.i,x.fd,x.lf,x.ak x.lk x.ck,x.av x.lv x.cv,x.ac x.lc x.cc] 172)).alloc (.cells #[.bool (aF NL k NR).leaf,.slice ak (aF NL k NR).K.length ck,.slice av (aF NL k NR).V.length cv,.slice ac (aF NL k NR).C.length cc] 170)) (.cells #[(0:Int),(0:Int),false,false,.slice none 0 0,.slice none 0 0,.slice none 0 0] 172);rw[World.size_alloc,World.size_alloc] at this;exact this
 have SP:=Hd (tE (aF NL k NR) ak av ac ck cv cc w1 (hM.below B1) hw hl mid hm);obtain⟨m0,m1,m2,m3⟩:=cM XM1;have HLT:=Hd h.lt;have HX:=Hd hX;have HUN:=Hd (hU.nb hN);have HUS:=Hd hU.shared;generalize hMM:aF NL k NR=M at *;generalize aP M (cI M)=NA at *;generalize aU M (cI M)=Nb at *
 have LA:Hid (∀ w5 xk xv xc dk0 dv dc yk yv yc ek ev ec,Below w1.heap.size w1 w5->NodR w5 NA xk xv xc dk0 dv dc->LoR w1.heap.size xk xv xc->NodR w5 Nb yk yv yc ek ev ec->LoR w1.heap.size yk yv yc ->
   () 150 #[g,pl,aI NA xk xv xc dk0 dv dc] w5 fun e w6=>∃ q1,e=.returned (.tuple #[.int .i64 q1,(0:Int)])/\Frm F w5 w6 /\
    () 150 #[g,pr,aI Nb yk yv yc ek ev ec] w6 fun e w7=>∃ q2,e=.returned (.tuple #[.int .i64 q2,(0:Int)])/\Frm F w5 w7/\(2<=q1/\q1<640)/\(2<=q2/\q2<640) /\
     ∃ dk' st' F',TS w7 d s g dk' st' r F'/\(∀ k,F' k->F k\/w5.heap.size<=k)/\To dk st dk' st'/\(∀ k,Room dk st (k+2)->Room dk' st' k)/\AtI dk' st' fs (hh+1) x.p { leaf:=false,K:=KA++[mid]++KB,V:=[],C:=kP A++[q1,q2]++kP B } E):=Hd (fun w5 xk xv xc dk0 dv dc yk yv yc ek ev ec b5 hA hloA hB hloB=>by
  have ltF:∀ k,F k->k<w.heap.size:=HLT.o;have b05:=B1.trans (b5.mono B1.size);have hRA:RowsA w5 NA xk xv xc dk0 dv dc F:=RowsA.new hA hloA.1 hloA.2.1 hloA.2.2 (fun k hk=>by have:=ltF k hk;omega);have hRB:RowsA w5 Nb yk yv yc ek ev ec F:=RowsA.new hB hloB.1 hloB.2.1 hloB.2.2 (fun k hk=>by have:=ltF k hk;omega);refine(lJ w5 d s g dk st r F (h.below b05) G pl lv (hroom.le (by omega)) NA rA xk xv xc dk0 dv dc hRA).mono ?_;rintro e w6 ⟨q1,dk1,st1,rfl,⟨F1,t1,t2,t3⟩,l1,r1⟩;refine⟨q1,rfl,t2,?_⟩
  have hRB6:RowsA w6 Nb yk yv yc ek ev ec F1:=by
   have hz:=hRB.grow t3;exact⟨(hRB.frm t2 (fun k hk=>hk)).r,hz.zk,hz.zv,hz.zc⟩
  refine(lJ w6 d s g dk1 st1 r F1 t1 l1.tt.g pr (lvr _ _ _ l1) (r1 1 hroom) Nb rB yk yv yc ek ev ec hRB6).mono ?_;rintro e w7 ⟨q2,dk',st',rfl,⟨F2,t4,t5,t6⟩,l2,r2⟩;refine⟨q2,rfl,t2.trans t5 t3,⟨l1.lo,l1.hi⟩,⟨l2.lo,l2.hi⟩,dk',st',F2,t4,fun k hk=>?_,l1.tt.trans l2.tt,fun k hk=>r2 k (r1 (k+1) hk),two dk1 st1 dk' st' q1 q2 l1 l2⟩
  rcases t6 k hk with h1|h1
  ·exact t3 k h1
  ·exact .inr (by have:=t2.size;omega))
 have HK:Hid (KA.length+1<U.C.length/\KA.length<U.K.length/\U.V=[]/\(0<=mid/\mid<=18446744073709551615)/\U.C.length<=1000):=Hd ⟨hsz.1,hsz.2,hU.v,hmb,hX.a.r.ok.c1⟩;have HLN:Hid (x.lf=false/\x.lk=U.K.length/\x.lv=0/\x.lc=U.C.length):=Hd ⟨by rw[hX.lf,hU.lf],hX.lk,by rw[hX.lv,hU.v];rfl,hX.lc⟩;have HB1:=Hd B1;have HXU:=Hd XU1;have HXZ:=Hd XZ1;have HZ1:=Hd z1;obtain⟨j,hj⟩:∃ j,KA.length=j:=⟨_,rfl⟩
 have HLQ:Hid (∀ q1 q2:Int,({ leaf:=false,K:=KA++[mid]++KB,V:=[],C:=kP A++[q1,q2]++kP B }:Nod).K.length=U.K.length/\({ leaf:=false,K:=KA++[mid]++KB,V:=[],C:=kP A++[q1,q2]++kP B }:Nod).C.length=U.C.length):=Hd (fun q1 q2=>by rw[hU.k,hU.c];simp);rw[hj] at HK HUS |-;clear h G hX hp hU hN hb hz hM hroom hw hl rA rB hm hmb hp1 hp2 hA1 hB1 hsz two lv lvr B1 XU1 XM1 XZ1 z1 hj hMM;unfold aI StepV.val at *;go_enter Tryz.func165,Tryz.ntmps165;go_wp2_with fail;refine SP.mono ?_
 rintro e w4 ⟨⟨xk,xv,xc,dk0,dv,dc,yk,yv,yc,ek,ev,ec,rfl,hA,hB,hloA,hloB⟩,b4⟩;unfold aI;go_upto_region 2 with fail
 obtain⟨w5,hw5⟩:∃ w5,(w4.alloc (.cells #[NA.leaf,.slice xk NA.K.length dk0,.slice xv NA.V.length dv,.slice xc NA.C.length dc] 170)).alloc (.cells #[Nb.leaf,.slice yk Nb.K.length ek,.slice yv Nb.V.length ev,.slice yc Nb.C.length ec] 170)=w5:=⟨_,rfl⟩
 have B5:Below w4.heap.size w4 w5:=by rw[<-hw5];exact((Below.refl _ w4).alloc (Nat.le_refl _) _).alloc (by simp) _
 have z5:w5.heap.size=w4.heap.size+2:=by rw[<-hw5];simp
 have XA5:w5.heap[w4.heap.size]?=some (.cells #[NA.leaf,.slice xk NA.K.length dk0,.slice xv NA.V.length dv,.slice xc NA.C.length dc] 170):=by rw[<-hw5];exact(hao _ _ (by simp)).trans (han w4 _)
 have XB5:w5.heap[w4.heap.size+1]?=some (.cells #[Nb.leaf,.slice yk Nb.K.length ek,.slice yv Nb.V.length ev,.slice yc Nb.C.length ec] 170):=by
  rw[<-hw5];have:=han (w4.alloc (.cells #[NA.leaf,.slice xk NA.K.length dk0,.slice xv NA.V.length dv,.slice xc NA.C.length dc] 170)) (.cells #[Nb.leaf,.slice yk Nb.K.length ek,.slice yv Nb.V.length ev,.slice yc Nb.C.length ec] 170);rw[World.size_alloc] at this;exact this
 have s14:=b4.size;have B15:Below w1.heap.size w1 w5:=b4.trans (B5.mono s14);have L5:=Hd (LA w5 xk xv xc dk0 dv dc yk yv yc ek ev ec B15 (hA.below B5) hloA (hB.below B5) hloB);have HXB:=Hd XB5;have S45:Hid (w4.heap.size+1<w5.heap.size/\w.heap.size+3<=w4.heap.size):=Hd ⟨by omega,by have:=HZ1.o;omega⟩;have H15:=Hd B15;obtain⟨a0,a1,a2,a3⟩:=cM XA5;rw[hw5];clear hw5 B5 z5 XA5 XB5 s14 B15 b4 hA hB hloA hloB LA SP m0 m1 m2 m3;unfold aI at L5;go_wp2_with fail;refine L5.mono ?_;rintro e w6 ⟨q1,rfl,f56,hl2⟩
 have XB6:=(f56.block _ S45.1 (fun hx=>by have:=HLT _ hx;have:=S45.o;omega)).trans HXB.o;have L6:=Hd hl2;obtain⟨b0,b1,b2,b3⟩:=cM XB6;clear hl2 f56 XB6 a0 a1 a2 a3;go_wp2_with fail;refine L6.mono ?_;rintro e w7 ⟨q2,rfl,f57,bq1,bq2,dk',st',F',T7,tF,tt,rm,hat⟩;have f07:Frm F w w7:=(Frm.of_below (HB1.trans (H15.mono HB1.size)):Frm F w w5).trans f57 (fun k hk=>.inl hk);have s57:=f57.size
 have XU7:Hid (w7.heap[w.heap.size]?=some (.cells #[.int .i64 x.p,x.i,x.fd,x.lf,x.ak x.lk x.ck,x.av x.lv x.cv,x.ac x.lc x.cc] 172)):=Hd ((f57.block _ (by have:=S45.o;omega) (fun hx=>by have:=HLT _ hx;omega)).trans (kept HXU (H15.mono (Nat.le_refl _))))
 have XZ7:Hid (w7.heap[w.heap.size+2]?=some (.cells #[(0:Int),(0:Int),false,false,.slice none 0 0,.slice none 0 0,.slice none 0 0] 172)):=Hd ((f57.block _ (by have:=S45.o;omega) (fun hx=>by have:=HLT _ hx;omega)).trans (kept HXZ (H15.mono (Nat.le_refl _))))
 have X7:StepA w7 x U (fun k=>F k\/F' k\/k=w.heap.size+2):=(HX.grow (fun k hk=>by
  rcases hk with hk|hk|hk
  ·exact .inl hk
  ·exact(tF k hk).imp id (fun hy=>by have:=S45.o;omega)
  ·exact .inr (by omega))).frm f07 (fun k hk=>.inl hk)
 obtain⟨cb,off,kb,ko,e1,e2,zc,zk,zl,zm,⟨c1',e0⟩,u0,hry⟩:=AM (q1:=q1) (q2:=q2) (i:=j) (X7.frm (G:=fun _=>False) (Frm.refl _ w7).drew (fun _ hx=>hx.elim)) HK.2.2.1 HK.1 HK.2.1 bq1 bq2 HK.2.2.2.1;have RY:=Hd hry;have cbl:cb<w.heap.size:=(HX.uc _ e1).1;have kbl:kb<w.heap.size:=(HX.uk _ e2).1
 have HCB:Hid (cb<w.heap.size/\kb<w.heap.size/\¬ F' cb/\¬ F' kb/\¬ F' (w.heap.size+2)/\XB x cb/\XB x kb):=Hd ⟨cbl,kbl,fun hx=>zc (.inr (.inl hx)),fun hx=>zk (.inr (.inl hx)),fun hx=>by
  rcases tF _ hx with h1|h1
  ·have:=HLT _ h1;omega
  ·have:=S45.o;omega,.inr ⟨_,e1,rfl⟩,.inl ⟨_,e2,rfl⟩⟩
 have BL7:Hid (w.heap.size<w7.heap.size):=Hd (by have:=S45.o;omega);have BL8:Hid (w.heap.size+2<w7.heap.size):=Hd (by have:=S45.o;omega);have BN7:Hid (¬ (w.heap.size=cb\/w.heap.size=kb)):=Hd (by omega);have BN8:Hid (¬ (w.heap.size+2=cb\/w.heap.size+2=kb)):=Hd (by omega);have ltj:(j:Int)<(x.lc:Int):=by have:=HLN.2.2.2;have:=HK.1;omega
 have ltj1:(j:Int)+1<(x.lc:Int):=by have:=HLN.2.2.2;have:=HK.1;omega
 have ltjk:(j:Int)<(x.lk:Int):=by have:=HLN.2.1;have:=HK.2.1;omega
 have hwr:IntKind.i64.wrap ((j:Int)+1)=(j:Int)+1:=IntWalk.i64_in _ (by have:=HK.2.2.2.2;have:=HK.1;omega);have hj0:(0:Int)<=(j:Int)+1:=by omega
 have EE:=Hd (And.intro e1 e2);rw[e1,e2] at XU7;have TT:=Hd T7;have TE:=Hd tF;have FF:=Hd f07;have TG:=Hd (And.intro tt (And.intro rm hat));have BQ:=Hd (And.intro bq1 bq2);clear X7 e1 e2 zc zk zl zm hry cbl kbl T7 tF f07 f57 s57 tt rm hat bq1 bq2 b0 b1 b2 b3 L5 L6 HXB;go_upto_region 6 with fail
 refine wp_region_held_drew (S:=fun wz=>Frm (fun y=>y=cb\/y=kb) w7 wz) (by kernel_rfl) ((Frm.refl (fun y=>y=cb\/y=kb) w7).drew) (fun hS=>?_);refine Hu 0 46 hS ?_;simp only[SL];refine Hu 1 47 hS ?_;simp only[SL];refine Hv 2 48 ?v2x3 hS ?h2x3 ?_
 case h2x3=>
  intro w9 s9;have cN:=cl ((s9.block _ BL7 BN7.o).trans XU7.o) 6 rfl;clear s9;go_simp;try (with_reducible rfl)
 simp only[SL];refine Hu 3 49 hS ?_;simp only[SL];refine Hu 4 50 hS ?_;simp only[SL];refine Hu 5 51 hS ?_;simp only[SL];refine Hv 6 52 ?v6x7 hS ?h6x7 ?_
 case h6x7=>
  intro w9 s9;have cN:=cl ((s9.block _ BL7 BN7.o).trans XU7.o) 6 rfl;clear s9;go_simp;try (with_reducible rfl)
 simp only[SL];refine Hu 7 53 hS ?_;simp only[SL];refine Hu 8 54 hS ?_;simp only[SL];refine Hu 9 55 hS ?_;simp only[SL];refine Hu 10 56 hS ?_;simp only[SL];refine Hu 11 57 hS ?_;simp only[SL];refine Hs 12 (fun K HK=>?_);go_simp;refine HK _ _ ?_ ?_
 ·exact hS.setCell _ _ (.inl (.inl rfl))
 clear HK K;try simp only[Act.put,SL]
 have hS9:Frm (fun y=>y=cb\/y=kb) w7 (w7.setCell ⟨cb,off+j,none⟩ (.int .i64 q1)).drew:=hS.setCell ⟨cb,off+j,none⟩ (.int .i64 q1) (.inl (.inl rfl));clear hS;obtain⟨w8,hw8⟩:∃ w8,(w7.setCell ⟨cb,off+j,none⟩ (.int .i64 q1)).drew=w8:=⟨_,rfl⟩
 obtain⟨⟨c2,e2⟩,u2,_,R8⟩:=RY w8 hw8;have RZ:=Hd R8;clear R8;rw[hw8] at hS9;rw[hw8];have hS:=hS9;clear hS9 hw8 e0 u0;refine Hu 13 58 hS ?_;simp only[SL];refine Hs 14 (fun K HK=>?_);go_simp;refine HK _ _ ?_ ?_
 ·exact hS.setCell _ _ (.inl (.inl rfl))
 clear HK K;try simp only[Act.put,SL]
 clear hS e2 u2;refine wpAnyH_done (by kernel_rfl) ?_ _
 skip
 obtain⟨wa,hwa⟩:∃ wa,w8.setCell ⟨cb,off+(j+1),none⟩ (.int .i64 q2)=wa:=⟨_,rfl⟩
 obtain⟨⟨c3,e3⟩,u3,fa,Ra⟩:=RZ wa hwa;have RW:=Hd Ra;have XUa:wa.heap[w.heap.size]?=some (.cells #[.int .i64 x.p,x.i,x.fd,x.lf,.slice (some ⟨kb,ko,none⟩) x.lk x.ck,x.av x.lv x.cv,.slice (some ⟨cb,off,none⟩) x.lc x.cc] 172):=(fa.block w.heap.size BL7 BN7.o).trans XU7.o;obtain⟨_,_,_,_,d4,_,d6⟩:=aM XUa;rw[hwa];clear hwa fa Ra XUa;go_upto_region 8 with fail
 obtain⟨wb,hwb⟩:∃ wb,wa.setCell ⟨kb,ko+j,none⟩ (.int .u64 mid)=wb:=⟨_,rfl⟩
 obtain⟨rB,fb⟩:=RW wb hwb;rw[HUS q1 q2 mid] at rB;have XUb:wb.heap[w.heap.size]?=some (.cells #[.int .i64 x.p,x.i,x.fd,x.lf,.slice (some ⟨kb,ko,none⟩) x.lk x.ck,x.av x.lv x.cv,.slice (some ⟨cb,off,none⟩) x.lc x.cc] 172):=(fb.block w.heap.size BL7 BN7.o).trans XU7.o;have XZb:wb.heap[w.heap.size+2]?=some (.cells #[(0:Int),(0:Int),false,false,.slice none 0 0,.slice none 0 0,.slice none 0 0] 172):=(fb.block (w.heap.size+2) BL8 BN8.o).trans XZ7.o
 have F7e:Frm (fun y=>(y=cb\/y=kb)\/y=w.heap.size+2) w7 (fT wb (w.heap.size+2) x):=cC ((((Frm.refl (fun y=>(y=cb\/y=kb)\/y=w.heap.size+2) w7).drew).trans fb (fun y hy=>.inl (.inl hy)))) _ _ (.inl (.inr rfl));have Fbe:Frm (fun y=>y=w.heap.size+2) wb (fT wb (w.heap.size+2) x):=cC (Frm.refl _ wb) _ _ (.inl rfl);have Z:=Hd (aM (dG XZb x))
 have END:Hid (fR w d s g dk st F x x.p fs (hh+1) E 2 (fun r'=>r'=r) (.returned (.tuple #[.agg #[.int .i64 x.p,x.i,x.fd,x.lf,x.ak x.lk x.ck,x.av x.lv x.cv,x.ac x.lc x.cc],(0:Int)])) (fT wb (w.heap.size+2) x)):=Hd (by
  refine⟨x.i,x.fd,_,x.ak,x.av,x.ac,x.ck,x.cv,x.cc,dk',st',r,F',?_,rfl,TT.frm F7e (fun y hy hx=>?_),FF.mono (fun _ hy=>.inl hy) |>.trans F7e (fun y hy=>?_),fun y hy=>?_,((rB.frm Fbe (fun y hy=>.inr (.inr hy))).mono (fun y hy=>.inr (.inl hy))),rfl,fun y hy=>.inl (.inl ⟨y,hy,rfl⟩),fun y hy=>.inl (.inr ⟨y,hy,rfl⟩),TG.2.2,HUN q1 q2 mid BQ.1 BQ.2,TG.1,TG.2.1⟩
  ·rw[HLN.1,HLN.2.1,HLN.2.2.1,HLN.2.2.2,(HLQ q1 q2).1,(HLQ q1 q2).2]
   first|done|rfl
  ·have hc:=HCB.o
   rcases hx with(rfl|rfl)|rfl
   ·exact hc.2.2.1 hy
   ·exact hc.2.2.2.1 hy
   ·exact hc.2.2.2.2.1 hy
  ·have hc:=HCB.o
   rcases hy with(rfl|rfl)|rfl
   ·exact .inl (.inr hc.2.2.2.2.2.1)
   ·exact .inl (.inr hc.2.2.2.2.2.2)
   ·exact .inr (by omega)
  ·exact(TE y hy).imp id (fun hx=>by have:=S45.o;omega))
 have g0:=ufb XZb 0;have g1:=ufb XZb 1;have g2:=ufb XZb 2;have g3:=ufb XZb 3;have g4:=ufb XZb 4;have g5:=ufb XZb 5;have g6:=ufb XZb 6;obtain⟨i0,i1,i2,i3,i4,i5,i6⟩:=aM XZb;clear d4 d6;obtain⟨d0,d1,d2,d3,d4,d5,d6⟩:=aM XUb;unfold fT at Z END;rw[EE.1,EE.2] at Z END;rw[hwb];clear hwb rB fb XUb XZb F7e Fbe e3 u3;go_wp2_with fail
 exact bodyPost_ret (v:=.tuple #[.agg #[.int .i64 x.p,x.i,x.fd,x.lf,.slice (some ⟨kb,ko,none⟩) x.lk x.ck,x.av x.lv x.cv,.slice (some ⟨cb,off,none⟩) x.lc x.cc],(0:Int)]) (by simp[results,Tryz.results165,go_sem,Z.1,Z.2.1,Z.2.2.1,Z.2.2.2.1,Z.2.2.2.2.1,Z.2.2.2.2.2.1,Z.2.2.2.2.2.2]) rfl END.o
theorem aE2 (w:World)(a b c d:Obj):((((w.alloc a).alloc b).alloc c).alloc d).heap[w.heap.size]?=some a/\((((w.alloc a).alloc b).alloc c).alloc d).heap[w.heap.size+1]?=some b/\((((w.alloc a).alloc b).alloc c).alloc d).heap[w.heap.size+2]?=some c/\((((w.alloc a).alloc b).alloc c).alloc d).heap[w.heap.size+3]?=some d/\((((w.alloc a).alloc b).alloc c).alloc d).heap.size=w.heap.size+4/\Below w.heap.size w ((((w.alloc a).alloc b).alloc c).alloc d):=by
 have s1:(w.alloc a).heap.size=w.heap.size+1:=by simp
 have s2:((w.alloc a).alloc b).heap.size=w.heap.size+2:=by simp
 have s3:(((w.alloc a).alloc b).alloc c).heap.size=w.heap.size+3:=by simp
 refine⟨?_,?_,?_,?_,by simp,((((Below.refl _ w).alloc (Nat.le_refl _) a).alloc (by omega) b).alloc (by omega) c).alloc (by omega) d⟩
 ·exact(hao _ _ (by omega)).trans ((hao _ _ (by omega)).trans ((hao _ _ (by omega)).trans (han w a)))
 ·have:=han (w.alloc a) b
  rw[s1] at this;exact(hao _ _ (by omega)).trans ((hao _ _ (by omega)).trans this)
 ·have:=han ((w.alloc a).alloc b) c
  rw[s2] at this;exact(hao _ _ (by omega)).trans this
 ·have:=han (((w.alloc a).alloc b).alloc c) d
  rw[s3] at this;exact this
theorem vL (w:World)(d s g:Nat)(dk:DkS)(st:ShS)(r:Nat)(F:Nat->Prop)(h:TS w d s g dk st r F)(G:eU dk st)(x:StepV)(U:Nod)(hX:StepA w x U F)(fs:List aL)(hh:Nat)(KA KB:List Int)(k pl pr c1 c2:Int)(A B:List Kid)(NL NR:Nod)(E:List Ent)
  (hp:PairI dk st fs hh x.p KA k KB A B pl NL pr NR E)(hU:UpS U KA k KB A c1 c2 B)(hN:NB U 240)(h1:NB NL 240)(h2:NB NR 240)(hz:aH NL<80\/aH NR<80)(hk:NL.K≠[]\/NR.K≠[])(la lb lc ra rb rc:Option Addr)(m1 m2 m3 n1 n2 n3:Nat)(il ir:Int)(fl fr:Bool)(hNL:NodR w NL la lb lc m1 m2 m3)(hNR:NodR w NR ra rb rc n1 n2 n3)(hroom:Room dk st 2) :
  () 151 #[g,x.val,(KA.length:Int),.agg #[pl,il,fl,NL.leaf,la NL.K.length m1,lb NL.V.length m2,lc NL.C.length m3],.agg #[pr,ir,fr,NR.leaf,ra NR.K.length n1,rb NR.V.length n2,rc NR.C.length n3]] w (fR w d s g dk st F x x.p fs (hh+1) E 2 (fun r'=>r'=r)):=by
 obtain⟨l1,l2,l3,l4,hw,_,lvl,lvr,lne⟩:=hp.both;obtain⟨lf,hlf⟩:∃ lf,NL.leaf=lf:=⟨_,rfl⟩
 have hrf:NR.leaf=lf:=by rw[<-hlf,l1,l2]
 obtain⟨hb,b1,b2,b3,b4,b5,b6⟩:=hp.nb h1 h2 hz;obtain⟨kb,ko,ek,kbl,kcell,kbd⟩:=aEB hX hU;obtain⟨cb,off,ec,zc,cbl,_⟩:=gJ (q1:=2) (i:=KA.length) hX hU.v (by have:=hU.sizes;omega) (by omega);obtain⟨hp1,hp2,hA1,hB1⟩:=hp.heads G;have hsz:=hU.sizes;have HLT:=Hd h.lt
 have XBL:Hid (∀ k,XB x k->k<w.heap.size):=Hd (fun k hk=>by
  rcases hk with⟨y,hy,rfl⟩|⟨y,hy,rfl⟩
  ·exact(hX.uk y hy).1
  ·exact(hX.uc y hy).1)
 obtain⟨w1,hw1⟩:∃ w1,(((w.alloc (.cells #[.int .i64 x.p,x.i,x.fd,x.lf,.slice (some ⟨kb,ko,none⟩) x.lk x.ck,x.av x.lv x.cv,.slice (some ⟨cb,off,none⟩) x.lc x.cc] 172)).alloc (.cells #[pl,il,fl,.bool lf,la NL.K.length m1,lb NL.V.length m2,lc NL.C.length m3] 172)).alloc (.cells #[pr,ir,fr,.bool lf,ra NR.K.length n1,rb NR.V.length n2,rc NR.C.length n3] 172)).alloc (.cells #[(0:Int),(0:Int),false,false,.slice none 0 0,.slice none 0 0,.slice none 0 0] 172)=w1:=⟨_,rfl⟩
 obtain⟨x1,x2,x3,x4,z1,B1⟩:=aE2 w (.cells #[.int .i64 x.p,x.i,x.fd,x.lf,.slice (some ⟨kb,ko,none⟩) x.lk x.ck,x.av x.lv x.cv,.slice (some ⟨cb,off,none⟩) x.lc x.cc] 172) (.cells #[pl,il,fl,.bool lf,la NL.K.length m1,lb NL.V.length m2,lc NL.C.length m3] 172) (.cells #[pr,ir,fr,.bool lf,ra NR.K.length n1,rb NR.V.length n2,rc NR.C.length n3] 172) (.cells #[(0:Int),(0:Int),false,false,.slice none 0 0,.slice none 0 0,.slice none 0 0] 172)
 rw[hw1] at x1 x2 x3 x4 z1 B1;have XU:=Hd x1;have XL:=Hd x2;have XR:=Hd x3;have XZ:=Hd x4;have Z1:=Hd z1;have B01:=Hd B1;have LL:Hid (w.heap.size+1<w1.heap.size):=Hd (by omega);have LU:Hid (w.heap.size<w1.heap.size):=Hd (by omega);have LR:Hid (w.heap.size+2<w1.heap.size):=Hd (by omega);have KC0:kb<w1.heap.size/\w1.cell? ⟨kb,ko+KA.length,none⟩=some (.int .u64 k):=⟨by omega,(B1.cell (p:=⟨kb,ko+KA.length,none⟩) kbl).trans kcell⟩
 have TG:Hid (∀ wz,Below w1.heap.size w1 wz->() 164 #[.agg #[.bool lf,la NL.K.length m1,lb NL.V.length m2,lc NL.C.length m3],.int .u64 k,.agg #[.bool lf,ra NR.K.length n1,rb NR.V.length n2,rc NR.C.length n3]] wz fun e w'=>eZ wz.heap.size (aF NL k NR) e w'/\Below wz.heap.size wz w'):=Hd (fun wz bz=>by
  have b0:=B1.trans (bz.mono B1.size);have:=zY NL NR la lb lc ra rb rc m1 m2 m3 n1 n2 n3 wz (hNL.below b0) (hNR.below b0) k kbd (by omega) (by omega) (by omega);unfold aI at this;rw[hlf,hrf] at this;exact this)
 obtain⟨z,hzz⟩:∃ z,aH (aF NL k NR)=z:=⟨_,rfl⟩
 have SZ:Hid (∀ wz bk bv bc dk0 dv dc,NodR wz (aF NL k NR) bk bv bc dk0 dv dc->() 149 #[aI (aF NL k NR) bk bv bc dk0 dv dc] wz fun e w'=>e=.returned (.int .i64 (z:Int))/\Below wz.heap.size wz w'):=Hd (fun wz bk bv bc dk0 dv dc hr=>iW (aF NL k NR) bk bv bc dk0 dv dc wz hr z (Hd hzz) hw)
 have SHR:Hid (240<z->∀ wz bk bv bc dk0 dv dc,Below w1.heap.size w1 wz->NodR wz (aF NL k NR) bk bv bc dk0 dv dc->() 165 #[g,.agg #[.int .i64 x.p,x.i,x.fd,x.lf,.slice (some ⟨kb,ko,none⟩) x.lk x.ck,x.av x.lv x.cv,.slice (some ⟨cb,off,none⟩) x.lc x.cc],(KA.length:Int),pl,pr,aI (aF NL k NR) bk bv bc dk0 dv dc] wz (fR wz d s g dk st F x x.p fs (hh+1) E 2 (fun r'=>r'=r))):=Hd (fun hz9 wz bk bv bc dk0 dv dc bz hr=>by
  rw[<-hzz] at hz9;have b0:=B1.trans (bz.mono B1.size);have:=NM wz d s g dk st r F (h.below b0) G x U (hX.frm (G:=fun _=>False) (Frm.of_below b0) (fun _ hx=>hx.elim)) fs hh KA KB k pl pr c1 c2 A B NL NR E hp hU hN hb hz9 bk bv bc dk0 dv dc hr hroom;unfold StepV.val at this;rw[ek,ec] at this;exact this)
 have LAY:Hid (z<=240->∀ wz bk bv bc dk0 dv dc,Below w1.heap.size w1 wz->RowsA wz (aF NL k NR) bk bv bc dk0 dv dc F->() 150 #[g,pl,aI (aF NL k NR) bk bv bc dk0 dv dc] wz (rV wz d s g dk st r F (jM dk st pl (aF NL k NR)) 1)):=Hd (fun hz9 wz bk bv bc dk0 dv dc bz hr=>by
  rw[<-hzz] at hz9;have hrt:=hp.right ⟨hb.1,hb.2.1,hz9⟩ hk;exact lJ wz d s g dk st r F (h.below (B1.trans (bz.mono B1.size))) G pl lvl (hroom.le (by omega)) _ hrt bk bv bc dk0 dv dc hr)
 have GPR:Hid (∀ dk1 st1 q,jM dk st pl (aF NL k NR) dk1 st1 q->nH st1 pr):=Hd (fun dk1 st1 q hl=>hp.then hl);have MRG:Hid (∀ dk1 st1 q st2,jM dk st pl (aF NL k NR) dk1 st1 q->xM dk1 st1 pr st2->AtI dk1 st2 fs (hh+1) x.p { leaf:=false,K:=KA++KB,V:=[],C:=kP A++[q]++kP B } E):=Hd (fun dk1 st1 q st2 a1 a2=>QY hp hk.symm a1 a2 rfl rfl rfl rfl);have HPR:=Hd hp2;have HUN:Hid (∀ q:Int,2<=q/\q<640->NB { leaf:=false,K:=KA++KB,V:=[],C:=kP A++[q]++kP B } 240):=Hd (fun q b=>hU.nb1 hN q b)
 have HNG:Hid (∀ wz q a b c i1 i2 i3,NodR wz (aW U KA.length q) a b c i1 i2 i3->() 166 #[.agg #[x.lf,.slice a x.lk i1,.slice b x.lv i2,.slice c x.lc i3],(KA.length:Int)] wz fun e w'=>eZ wz.heap.size { leaf:=false,K:=KA++KB,V:=[],C:=kP A++[q]++kP B } e w'/\Below wz.heap.size wz w'):=Hd (fun wz q a b c i1 i2 i3 hr=>by
  obtain⟨u1,u2,u3⟩:=hU.whole q;have:=NW (aW U KA.length q) a b c i1 i2 i3 wz hr KA.length u2 u1 u3;rw[hU.hung q] at this
  have e:aI (aW U KA.length q) a b c i1 i2 i3=.agg #[x.lf,.slice a x.lk i1,.slice b x.lv i2,.slice c x.lc i3]:=by
   unfold aI aW
   dsimp only
   rw[List.length_set,hX.lf,hX.lk,hX.lv,hX.lc]
  rw[e] at this;exact this)
 have HX:=Hd hX;have HU:Hid (KA.length+1<U.C.length/\U.V=[]):=Hd ⟨hsz.1,hU.v⟩;have ECB:=Hd ec;have EKB:=Hd ek;have CBL:=Hd cbl;have LTJ:Hid ((KA.length:Int)<(x.lc:Int)):=Hd (by have:=hX.lc;omega);obtain⟨j,hj⟩:∃ j,KA.length=j:=⟨_,rfl⟩
 obtain⟨M,hMM⟩:∃ M,aF NL k NR=M:=⟨_,rfl⟩
 rw[hMM] at TG SZ SHR LAY GPR MRG;have hltk:(j:Int)<(x.lk:Int):=by have:=hX.lk;omega
 have x1v:=XU.o;have x2v:=(aM XL.o).2.2.2.1;have x3v:=(aM XR.o).2.2.2.1;have HV:Hid (x.val=.agg #[.int .i64 x.p,x.i,x.fd,x.lf,.slice (some ⟨kb,ko,none⟩) x.lk x.ck,x.av x.lv x.cv,.slice (some ⟨cb,off,none⟩) x.lc x.cc]):=Hd (by unfold StepV.val;rw[ek,ec]);rw[hlf,hrf,HV.o];rw[hj] at KC0 SHR HNG HU LTJ |-;have KC:=Hd KC0;clear h G hX hp hU hN h1 h2 hz hk hNL hNR hroom l1 l2 l3 l4 hw lvl lvr lne hlf hrf hb b1 b2 b3 b4 b5 b6 ek kbl kcell kbd ec zc cbl hp1 hp2 hA1 hB1 hsz x1 x2 x3 x4 z1 B1 hzz hMM hj KC0 x1v HV;unfold aI at *
 go_enter Tryz.func151,Tryz.ntmps151;go_upto_region 3 with fail
 try rw[hw1]
 clear hw1 x2v x3v
 go_cut [12] (fun v wx=>∃ (bx:Nat) (bk bv bc:Option Addr) (dk0 dv dc:Nat),v=.pointer (some ⟨bx,0,none⟩)/\Hid (Below w1.heap.size w1 wx)/\Hid (wx.heap[bx]?=some (.cells #[.bool M.leaf,.slice bk M.K.length dk0,.slice bv M.V.length dv,.slice bc M.C.length dc] 170))/\Hid (NodR wx M bk bv bc dk0 dv dc)/\Hid (bx<wx.heap.size)/\Hid ((∀ y,bk=some y->w1.heap.size<=y.block)/\(∀ y,bv=some y->w1.heap.size<=y.block)/\∀ y,bc=some y->w1.heap.size<=y.block))
 case first=>
  refine wp_region_held_drew (S:=fun wz=>Below w1.heap.size w1 wz) (by kernel_rfl) ((Below.refl _ w1).drew) (fun hS=>?_);refine Hu 0 23 hS ?_;simp only[SL];refine Hv 1 24 ?vm1x2 hS ?hm1x2 ?_
  case hm1x2=>
   intro w9 s9;have cN3:=cl ((s9.block _ LL.o).trans XL.o) 3 rfl;have cN4:=cl ((s9.block _ LL.o).trans XL.o) 4 rfl;have cN5:=cl ((s9.block _ LL.o).trans XL.o) 5 rfl;have cN6:=cl ((s9.block _ LL.o).trans XL.o) 6 rfl;clear s9;go_simp;try (with_reducible rfl)
  simp only[SL];refine Hu 2 25 hS ?_;simp only[SL];refine Hu 3 26 hS ?_;simp only[SL];refine Hv 4 27 ?vm4x5 hS ?hm4x5 ?_
  case hm4x5=>
   intro w9 s9;have cN4:=cl ((s9.block _ LU.o).trans XU.o) 4 rfl;clear s9;go_simp;try (with_reducible rfl)
  simp only[SL];refine Hu 5 28 hS ?_;simp only[SL];refine Hu 6 29 hS ?_;simp only[SL];refine Hv 7 30 ?vm7x8 hS ?hm7x8 ?_
  case hm7x8=>
   intro w9 s9;have c7:=(s9.cell (p:=⟨kb,ko+j,none⟩) KC.1).trans KC.2;clear s9;go_simp;try (with_reducible rfl)
  simp only[SL];refine Hu 8 31 hS ?_;simp only[SL];refine Hv 9 32 ?vm9x10 hS ?hm9x10 ?_
  case hm9x10=>
   intro w9 s9;have cN3:=cl ((s9.block _ LR.o).trans XR.o) 3 rfl;have cN4:=cl ((s9.block _ LR.o).trans XR.o) 4 rfl;have cN5:=cl ((s9.block _ LR.o).trans XR.o) 5 rfl;have cN6:=cl ((s9.block _ LR.o).trans XR.o) 6 rfl;clear s9;go_simp;try (with_reducible rfl)
  simp only[SL];refine Hk 10 11 (fun K HK=>?_) (fun K HK=>?_)
  ·go_simp
   go_wp2_with fail;refine(TG _ hS).mono ?_;rintro e wp ⟨⟨bk,bv,bc,dk0,dv,dc,rfl,hR,q1,q2,q3⟩,b7⟩;simp only[aI];refine HK _ _ ?_ ?_
   ·exact hS.trans (b7.mono hS.size)
   clear HK K;try simp only[Act.put,SL]
   have hS9:=hS.trans (b7.mono hS.size);have LOQ:Hid ((∀ y,bk=some y->w1.heap.size<=y.block)/\(∀ y,bv=some y->w1.heap.size<=y.block)/\∀ y,bc=some y->w1.heap.size<=y.block):=Hd ⟨fun y hy=>Nat.le_trans hS.size (q1 y hy),fun y hy=>Nat.le_trans hS.size (q2 y hy),fun y hy=>Nat.le_trans hS.size (q3 y hy)⟩;have HR7:=Hd hR;clear hS;have hS:=hS9;clear hS9 hR q1 q2 q3 b7;refine Hs 11 (fun K HK=>?_);go_simp;refine HK _ _ ?_ ?_
   ·exact hS.alloc hS.size _
   clear HK K;try simp only[Act.put,SL]
   have hsz0:w1.heap.size<=wp.heap.size:=hS.size;have hS9:Below w1.heap.size w1 (wp.alloc (.cells #[false,.slice none 0 0,.slice none 0 0,.slice none 0 0] 170)):=hS.alloc hS.size (.cells #[false,.slice none 0 0,.slice none 0 0,.slice none 0 0] 170);clear hS;obtain⟨wa,hwa⟩:∃ wa,wp.alloc (.cells #[false,.slice none 0 0,.slice none 0 0,.slice none 0 0] 170)=wa:=⟨_,rfl⟩
   obtain⟨bx,hbx⟩:∃ bx,wp.heap.size=bx:=⟨_,rfl⟩
   have HBX:Hid (wa.heap[bx]?=some (.cells #[false,.slice none 0 0,.slice none 0 0,.slice none 0 0] 170)):=Hd (by rw[<-hwa,<-hbx];exact han wp _);have BXL:Hid (w1.heap.size<=bx):=Hd (by rw[<-hbx];exact hsz0);have BXR:Hid (bx<wa.heap.size):=Hd (by rw[<-hwa,<-hbx];simp)
   have HRA:Hid (RowsA wa M bk bv bc dk0 dv dc (fun k=>k=bx)):=Hd (((RowsA.new (lo:=0) (Z:=fun _=>False) HR7 (fun _ _=>Nat.zero_le _) (fun _ _=>Nat.zero_le _) (fun _ _=>Nat.zero_le _) (fun _ hk=>hk.elim)).grow (Z':=fun k=>k=bx) (fun k hk=>.inr (by rw[hk,<-hbx];exact Nat.le_refl _))).below (show Below wp.heap.size wp wa from by rw[<-hwa];exact(Below.refl _ wp).alloc (Nat.le_refl _) _));clear HR7;rw[hwa] at hS9;rw[hwa,hbx];have hS:=hS9;clear hS9 hwa hbx hsz0;obtain⟨a0,a1,a2,a3⟩:=cM HBX.o;have f0:=ufb HBX 0;have f1:=ufb HBX 1
   have f2:=ufb HBX 2;have f3:=ufb HBX 3;refine Hs 12 (fun K HK=>?_);go_simp;refine HK _ _ ?_ ?_
   ·exact iB hS bx _ _ _ _ BXL.o
   clear HK K;try simp only[Act.put,SL]
   obtain⟨wf,hwf⟩:∃ wf,((((wa.setCell ⟨bx,0,none⟩ (.bool M.leaf)).setCell ⟨bx,1,none⟩ (.slice bk M.K.length dk0)).setCell ⟨bx,2,none⟩ (.slice bv M.V.length dv)).setCell ⟨bx,3,none⟩ (.slice bc M.C.length dc))=wf:=⟨_,rfl⟩
   have HBf:Hid (Below w1.heap.size w1 wf):=Hd (hwf ▸ iB hS bx (.bool M.leaf) (.slice bk M.K.length dk0) (.slice bv M.V.length dv) (.slice bc M.C.length dc) BXL.o);have HXf:Hid (wf.heap[bx]?=some (.cells #[.bool M.leaf,.slice bk M.K.length dk0,.slice bv M.V.length dv,.slice bc M.C.length dc] 170)):=Hd (hwf ▸ jE HBX (.bool M.leaf) (.slice bk M.K.length dk0) (.slice bv M.V.length dv) (.slice bc M.C.length dc))
   have Ff:Frm (fun k=>k=bx) wa wf:=hwf ▸ kM (Frm.refl _ wa) bx (.bool M.leaf) (.slice bk M.K.length dk0) (.slice bv M.V.length dv) (.slice bc M.C.length dc) (.inl rfl);have HRf:=Hd (HRA.frm Ff (fun k hk=>hk)).r;have BXf:Hid (bx<wf.heap.size):=Hd (Nat.lt_of_lt_of_le BXR Ff.size);rw[hwf];clear hwf hS HBX BXR HRA Ff a0 a1 a2 a3 f0 f1 f2 f3;refine wpAnyH_done (by kernel_rfl) ?_ _;go_wp2_with fail
   go_meet
   exact⟨bx,bk,bv,bc,dk0,dv,dc,rfl,HBf,HXf,HRf,BXf,LOQ⟩
  ·go_simp
   refine HK _ _ ?_ ?_
   ·exact hS.alloc hS.size _
   clear HK K;try simp only[Act.put,SL]
   have hsz0:w1.heap.size<=w1.heap.size:=Nat.le_refl _;have hS9:Below w1.heap.size w1 ((w1.alloc (.cells #[false,.slice none 0 0,.slice none 0 0,.slice none 0 0] 170)).drew):=hS.alloc hS.size (.cells #[false,.slice none 0 0,.slice none 0 0,.slice none 0 0] 170);clear hS;obtain⟨wa,hwa⟩:∃ wa,(w1.alloc (.cells #[false,.slice none 0 0,.slice none 0 0,.slice none 0 0] 170)).drew=wa:=⟨_,rfl⟩
   have HBX:Hid (wa.heap[w1.heap.size]?=some (.cells #[false,.slice none 0 0,.slice none 0 0,.slice none 0 0] 170)):=Hd (by rw[<-hwa];exact han w1 _);have BXL:Hid (w1.heap.size<=w1.heap.size):=Hd (by exact hsz0);have BXR:Hid (w1.heap.size<wa.heap.size):=Hd (by rw[<-hwa];show w1.heap.size<(w1.alloc _).heap.size;simp);rw[hwa] at hS9;rw[hwa];have hS:=hS9;clear hS9 hwa hsz0;refine Hs 10 (fun K HK=>?_);go_simp;go_wp2_with fail;refine(TG _ hS).mono ?_;rintro e wp ⟨⟨bk,bv,bc,dk0,dv,dc,rfl,hR,q1,q2,q3⟩,b7⟩;simp only[aI]
   refine HK _ _ ?_ ?_
   ·exact hS.trans (b7.mono hS.size)
   clear HK K;try simp only[Act.put,SL]
   have hS9:=hS.trans (b7.mono hS.size);have LOQ:Hid ((∀ y,bk=some y->w1.heap.size<=y.block)/\(∀ y,bv=some y->w1.heap.size<=y.block)/\∀ y,bc=some y->w1.heap.size<=y.block):=Hd ⟨fun y hy=>Nat.le_trans hS.size (q1 y hy),fun y hy=>Nat.le_trans hS.size (q2 y hy),fun y hy=>Nat.le_trans hS.size (q3 y hy)⟩;have HRA:Hid (RowsA wp M bk bv bc dk0 dv dc (fun k=>k=w1.heap.size)):=Hd (RowsA.new (lo:=wa.heap.size) hR q1 q2 q3 (fun k hk=>by subst hk;exact BXR.o));have HBX9:=Hd (kept HBX b7);clear HBX;have HBX:=HBX9;clear HBX9
   have BXR9:Hid (w1.heap.size<wp.heap.size):=Hd (Nat.lt_of_lt_of_le BXR b7.size);clear BXR;have BXR:=BXR9;clear BXR9;obtain⟨a0,a1,a2,a3⟩:=cM HBX.o;have f0:=ufb HBX 0;have f1:=ufb HBX 1;have f2:=ufb HBX 2;have f3:=ufb HBX 3;clear hS;have hS:=hS9;clear hS9 hR q1 q2 q3 b7;refine Hs 12 (fun K HK=>?_);go_simp;refine HK _ _ ?_ ?_
   ·exact iB hS w1.heap.size _ _ _ _ BXL.o
   clear HK K;try simp only[Act.put,SL]
   obtain⟨wf,hwf⟩:∃ wf,((((wp.setCell ⟨w1.heap.size,0,none⟩ (.bool M.leaf)).setCell ⟨w1.heap.size,1,none⟩ (.slice bk M.K.length dk0)).setCell ⟨w1.heap.size,2,none⟩ (.slice bv M.V.length dv)).setCell ⟨w1.heap.size,3,none⟩ (.slice bc M.C.length dc))=wf:=⟨_,rfl⟩
   have HBf:Hid (Below w1.heap.size w1 wf):=Hd (hwf ▸ iB hS w1.heap.size (.bool M.leaf) (.slice bk M.K.length dk0) (.slice bv M.V.length dv) (.slice bc M.C.length dc) BXL.o);have HXf:Hid (wf.heap[w1.heap.size]?=some (.cells #[.bool M.leaf,.slice bk M.K.length dk0,.slice bv M.V.length dv,.slice bc M.C.length dc] 170)):=Hd (hwf ▸ jE HBX (.bool M.leaf) (.slice bk M.K.length dk0) (.slice bv M.V.length dv) (.slice bc M.C.length dc))
   have Ff:Frm (fun k=>k=w1.heap.size) wp wf:=hwf ▸ kM (Frm.refl _ wp) w1.heap.size (.bool M.leaf) (.slice bk M.K.length dk0) (.slice bv M.V.length dv) (.slice bc M.C.length dc) (.inl rfl);have HRf:=Hd (HRA.frm Ff (fun k hk=>hk)).r;have BXf:Hid (w1.heap.size<wf.heap.size):=Hd (Nat.lt_of_lt_of_le BXR Ff.size);rw[hwf];clear hwf hS HBX BXR HRA Ff a0 a1 a2 a3 f0 f1 f2 f3;refine wpAnyH_done (by kernel_rfl) ?_ _;go_wp2_with fail
   go_meet
   exact⟨w1.heap.size,bk,bv,bc,dk0,dv,dc,rfl,HBf,HXf,HRf,BXf,LOQ⟩
 case rest=>
  obtain⟨bx,bk,bv,bc,dk0,dv,dc,rfl,HBf,HXf,HRf,BXf,LOQ⟩:=hcut;obtain⟨wf,hwf⟩:∃ wf,wf=wc:=⟨_,rfl⟩
  subst hwf;obtain⟨a0,a1,a2,a3⟩:=cM HXf.o;go_wp2_with fail;refine(SZ _ _ _ _ _ _ _ HRf.o).mono ?_;rintro e wg ⟨rfl,bg⟩;have Bg:Hid (Below w1.heap.size w1 wg):=Hd (HBf.trans (bg.mono HBf.size));have HRg:Hid (NodR wg M bk bv bc dk0 dv dc):=Hd (HRf.below bg);clear a0 a1 a2 a3;obtain⟨a0,a1,a2,a3⟩:=cM (kept HXf bg)
  have XUg:Hid (wg.heap[w.heap.size]?=some (.cells #[.int .i64 x.p,x.i,x.fd,x.lf,.slice (some ⟨kb,ko,none⟩) x.lk x.ck,x.av x.lv x.cv,.slice (some ⟨cb,off,none⟩) x.lc x.cc] 172)):=Hd (kept XU Bg.o);have XLg:Hid (wg.heap[w.heap.size+1]?=some (.cells #[pl,il,fl,.bool lf,la NL.K.length m1,lb NL.V.length m2,lc NL.C.length m3] 172)):=Hd (kept XL Bg.o)
  have XRg:Hid (wg.heap[w.heap.size+2]?=some (.cells #[pr,ir,fr,.bool lf,ra NR.K.length n1,rb NR.V.length n2,rc NR.C.length n3] 172)):=Hd (kept XR Bg.o);have XZg:Hid (wg.heap[w.heap.size+3]?=some (.cells #[(0:Int),(0:Int),false,false,.slice none 0 0,.slice none 0 0,.slice none 0 0] 172)):=Hd (kept XZ Bg.o);have S1g:Hid (w.heap.size+4<=wg.heap.size):=Hd (by have:=Bg.size;have:=Z1.o;omega);clear bg
  rcases Nat.lt_or_ge 240 z with hz9|hz9
  ·have hz':(240:Int)<(z:Int):=by omega
   obtain⟨d0,d1,d2,d3,d4,d5,d6⟩:=aM XUg.o;have l0:=(aM XLg.o).1;have p0:=(aM XRg.o).1;have SH:=Hd (SHR hz9 wg bk bv bc dk0 dv dc Bg HRg.o);go_wp2_with fail;refine SH.mono ?_;rintro e w5 ⟨i',fd',N',bk',bv',bc',jk',jv',jc',dk',st',r',F',rfl,hr',hs⟩;have hXB:=XBL.o
   have XZ5:=(hs.fr.block (w.heap.size+3) (by have:=S1g.o;omega) (fun hx=>by
    rcases hx with hx|hx
    ·have:=HLT _ hx;omega
    ·have:=hXB _ hx;omega)).trans XZg.o
   have y:StepV:=⟨x.p,i',fd',N'.leaf,bk',N'.K.length,jk',bv',N'.V.length,jv',bc',N'.C.length,jc'⟩
   have Z:=Hd (aM (dG XZ5 ⟨x.p,i',fd',N'.leaf,bk',N'.K.length,jk',bv',N'.V.length,jv',bc',N'.C.length,jc'⟩))
   have END:Hid (fR w d s g dk st F x x.p fs (hh+1) E 2 (fun r'=>r'=r) (.returned (.tuple #[.agg #[.int .i64 x.p,.int .i64 i',fd',.bool N'.leaf,bk' N'.K.length jk',bv' N'.V.length jv',bc' N'.C.length jc'],(0:Int)])) (fT w5 (w.heap.size+3) ⟨x.p,i',fd',N'.leaf,bk',N'.K.length,jk',bv',N'.V.length,jv',bc',N'.C.length,jc'⟩)):=Hd ⟨i',fd',N',bk',bv',bc',jk',jv',jc',dk',st',r',F',rfl,hr',hs.boxed (B01.trans (Bg.mono B01.size)) (by omega) (by have:=S1g.o;omega) hXB HLT (cC (Frm.refl _ w5) _ _ (.inl rfl))⟩
   have g0:=ufb XZ5 0;have g1:=ufb XZ5 1;have g2:=ufb XZ5 2;have g3:=ufb XZ5 3;have g4:=ufb XZ5 4;have g5:=ufb XZ5 5;have g6:=ufb XZ5 6;obtain⟨i0,i1,i2,i3,i4,i5,i6⟩:=aM XZ5;unfold fT at Z END;clear hs hr' XZ5 hXB y a0 a1 a2 a3 d0 d1 d2 d3 d4 d5 d6 l0 p0 SH;go_wp2_with fail
   exact bodyPost_ret (v:=.tuple #[.agg #[.int .i64 x.p,.int .i64 i',fd',.bool N'.leaf,bk' N'.K.length jk',bv' N'.V.length jv',bc' N'.C.length jc'],(0:Int)]) (by simp[results,Tryz.results151,go_sem,Z.1,Z.2.1,Z.2.2.1,Z.2.2.2.1,Z.2.2.2.2.1,Z.2.2.2.2.2.1,Z.2.2.2.2.2.2]) rfl END.o
  ·have hz':¬ (240:Int)<(z:Int):=by omega
   have l0:=(aM XLg.o).1;have LY:=Hd (LAY hz9 wg bk bv bc dk0 dv dc Bg (RowsA.new HRg LOQ.1 LOQ.2.1 LOQ.2.2 (fun k hk=>by have:=HLT k hk;have:=Z1.o;omega)));go_wp2_with fail;refine LY.mono ?_;rintro e w5 ⟨q,dk1,st1,rfl,⟨F1,t1,t2,t3⟩,hl,hrm⟩;have S15:Hid (w.heap.size+2<w5.heap.size/\w.heap.size+4<=w5.heap.size):=Hd (by have:=t2.size;have:=S1g.o;exact⟨by omega,by omega⟩)
   have nF:∀ b,w.heap.size<=b->b<wg.heap.size->¬ F1 b:=fun b h0 h1 hx=>by
    rcases t3 _ hx with h2|h2
    ·have:=HLT _ h2;omega
    ·omega
   have NF1:Hid (¬ F1 w.heap.size/\¬ F1 (w.heap.size+1)/\¬ F1 (w.heap.size+2)/\¬ F1 (w.heap.size+3)):=Hd (by have:=S1g.o;exact⟨nF _ (by omega) (by omega),nF _ (by omega) (by omega),nF _ (by omega) (by omega),nF _ (by omega) (by omega)⟩);have nF0:∀ b,w.heap.size<=b->¬ F b:=fun b h0 hx=>by have:=HLT _ hx;omega
   have XU5:Hid (w5.heap[w.heap.size]?=some (.cells #[.int .i64 x.p,x.i,x.fd,x.lf,.slice (some ⟨kb,ko,none⟩) x.lk x.ck,x.av x.lv x.cv,.slice (some ⟨cb,off,none⟩) x.lc x.cc] 172)):=Hd ((t2.block _ (by have:=S1g.o;omega) (nF0 _ (by omega))).trans XUg.o);have XR5:Hid (w5.heap[w.heap.size+2]?=some (.cells #[pr,ir,fr,.bool lf,ra NR.K.length n1,rb NR.V.length n2,rc NR.C.length n3] 172)):=Hd ((t2.block _ (by have:=S1g.o;omega) (nF0 _ (by omega))).trans XRg.o)
   have XZ5:Hid (w5.heap[w.heap.size+3]?=some (.cells #[(0:Int),(0:Int),false,false,.slice none 0 0,.slice none 0 0,.slice none 0 0] 172)):=Hd ((t2.block _ (by have:=S1g.o;omega) (nF0 _ (by omega))).trans XZg.o);have hpr:=GPR _ _ _ hl;obtain⟨gv1,gv2,gv3⟩:=uC hl.tt.g pr hpr
   have hp64:pr<9223372036854775808/\(gB st1.h.used pr=true->2<=pr/\pr<640):=by
    have:=HPR.o;exact⟨by omega,fun _=>this⟩
   have GV:Hid (() 152 #[s,pr] w5.drew fun e w'=>e=.returned (.int .i64 0)/\Frm F1 w5 w'/\w'.cell? ⟨g,0,none⟩=some (.pointer (some ⟨s,0,none⟩))/\TSPost w5 d s g dk1 (st1.give pr).1 r F1 w'):=Hd (by
    have bd:Below w5.heap.size w5 w5.drew:=(Below.refl _ w5).drew;obtain⟨FD2,FS2,hi2,he2⟩:=t1.below bd;refine(yL w5.drew s d st1 FS2 hi2.ds.sto pr hp64.1 hp64.2).mono fun e w' ⟨z1,z2,z3⟩=>?_
    have hp:=TSPost.ofDS hi2 he2 (DSPost.store hi2.ds z3 z2);have hfr:Frm F1 w5 w':=((Frm.refl F1 w5).drew).trans (z3.mono (fun k hk=>(he2 k).2 (.inr (.inl hk)))) (fun k hk=>.inl hk);refine⟨by rw[z1,gv2],hfr,?_,TSPost.chain bd hp⟩;obtain⟨F',⟨_,_,hi3,_⟩,_⟩:=hp;exact(bY hi3.v).1)
   have v0:w5.drew.cell? ⟨g,0,none⟩=some (.pointer (some ⟨s,0,none⟩)):=by
    obtain⟨_,_,hi2,_⟩:=t1;exact(bY hi2.v).1
   have ONE:=Hd (MRG _ _ _ _ hl gv1);have TT5:=Hd (And.intro hl.tt (And.intro gv1.tt (And.intro hrm gv3)));have QB:=Hd (And.intro hl.lo hl.hi);have FF5:Hid (Frm F w w5):=Hd ((Frm.of_below (B01.trans (Bg.mono B01.size)):Frm F w wg).trans t2 (fun k hk=>.inl hk));have FN5:Hid (∀ k,F1 k->F k\/wg.heap.size<=k):=Hd t3;clear hl hpr gv1 gv2 gv3 hp64 t1 t2 t3 hrm nF nF0 a0 a1 a2 a3 l0;go_upto_region 9 with fail
   refine wp_region_held_drew (S:=fun wz=>Frm F1 w5 wz/\wz.cell? ⟨g,0,none⟩=some (.pointer (some ⟨s,0,none⟩))) (by kernel_rfl) ⟨(Frm.refl F1 w5).drew,v0⟩ (fun hS=>?_);refine Hu 0 60 hS ?_;simp only[SL];refine Hu 1 61 hS ?_;simp only[SL];refine Hu 2 62 hS ?_;simp only[SL];refine Hv 3 63 ?vn33x4 hS ?hn33x4 ?_
   case hn33x4=>
    intro w9 s9;have c:=s9.2;clear s9;go_simp;try (with_reducible rfl)
   simp only[SL];refine Hu 4 64 hS ?_;simp only[SL];refine Hv 5 65 ?vn35x6 hS ?hn35x6 ?_
   case hn35x6=>
    intro w9 s9;have c:=cl ((s9.1.block _ S15.1 NF1.2.2.1).trans XR5.o) 0 rfl;clear s9;go_simp;try (with_reducible rfl)
   simp only[SL];refine Hs 6 (fun K HK=>?_);go_simp;go_wp2_with fail;refine GV.mono ?_;rintro e w6 ⟨rfl,h3⟩;have H3:=Hd h3;refine HK _ _ ?_ ?_
   ·exact⟨Frm.trans (F:=F1) (Frm.refl F1 w5) h3.1 (fun _ hx=>.inl hx),h3.2.1⟩
   clear HK K;try simp only[Act.put,SL]
   clear hS;have hS:=And.intro h3.1 h3.2.1;clear h3;refine Hu 7 14 hS ?_;simp only[SL];refine wpAnyH_done (by kernel_rfl) ?_ _;clear hS;obtain⟨F2,u1,u2,u3⟩:=H3.2.2;have f56:Frm F1 w5 w6:=H3.1
   have X6:StepA w6 x U (fun k=>F k\/F1 k\/F2 k):=((HX.grow (Z':=fun k=>F k\/F1 k\/F2 k) (fun k hk=>by
    rcases hk with hk|hk|hk
    ·exact .inl hk
    ·exact(FN5 k hk).imp id (fun h1=>by have:=S1g.o;omega)
    ·rcases u3 k hk with h1|h1
     ·exact(FN5 k h1).imp id (fun h1=>by have:=S1g.o;omega)
     ·exact .inr (by have:=S15.o;omega))).frm FF5 (fun k hk=>.inl hk)).frm f56 (fun k hk=>.inr (.inl hk))
   obtain⟨cb',off',e1,zc,zl,⟨c',e2⟩,e3,hry⟩:=gJ (q1:=q) (i:=j) X6 HU.2 (by have:=HU.1;omega) QB.o;rw[ECB.o] at e1;injection e1 with e1;injection e1 with ea eb;subst ea eb;have XU6:Hid (w6.heap[w.heap.size]?=some (.cells #[.int .i64 x.p,x.i,x.fd,x.lf,.slice (some ⟨kb,ko,none⟩) x.lk x.ck,x.av x.lv x.cv,.slice (some ⟨cb,off,none⟩) x.lc x.cc] 172)):=Hd ((f56.block _ (by have:=S15.o;omega) NF1.1).trans XU5.o)
   have XZ6:Hid (w6.heap[w.heap.size+3]?=some (.cells #[(0:Int),(0:Int),false,false,.slice none 0 0,.slice none 0 0,.slice none 0 0] 172)):=Hd ((f56.block _ (by have:=S15.o;omega) NF1.2.2.2).trans XZ5.o)
   have nb2:∀ b,w.heap.size<=b->b<w.heap.size+4->¬ F2 b:=fun b h0 h1 hx=>by
    rcases u3 _ hx with h2|h2
    ·rcases FN5 _ h2 with h2|h2
     ·have:=HLT _ h2;omega
     ·have:=S1g.o;omega
    ·have:=S15.o;omega
   have cbl:=CBL.o;have NF2:Hid (¬ F2 w.heap.size/\¬ F2 (w.heap.size+3)/\¬ F2 cb):=Hd ⟨nb2 _ (by omega) (by omega),nb2 _ (by omega) (by omega),fun hx=>zc (.inr (.inr hx))⟩;have S16:Hid (w.heap.size+4<=w6.heap.size):=Hd (by have:=S15.o;have:=f56.size;omega);have FF6:Hid (Frm F w w6):=Hd (FF5.trans f56 (fun k hk=>(FN5 k hk).imp id (fun h1=>by have:=S1g.o;omega)))
   have FN6:Hid (∀ k,F2 k->F k\/w.heap.size<=k):=Hd (fun k hk=>by
    rcases u3 k hk with h1|h1
    ·exact(FN5 k h1).imp id (fun h2=>by have:=S1g.o;omega)
    ·exact .inr (by have:=S15.o;omega))
   have TS6:=Hd u1;have RY:=Hd hry;obtain⟨d0,d1,d2,d3,d4,d5,d6⟩:=aM XU6.o;have ltj:=LTJ.o;clear u1 u2 u3 f56 X6 zc zl hry nb2 cbl v0;go_upto_region 13 with fail
   obtain⟨w7,hw7⟩:∃ w7,w6.setCell ⟨cb,off+j,none⟩ (.int .i64 q)=w7:=⟨_,rfl⟩
   obtain⟨f67,r7⟩:=RY w7 hw7;rw[hw7];have HG:=Hd (HNG w7 q _ _ _ _ _ _ r7.r);have F67:=Hd f67;have XU7:Hid (w7.heap[w.heap.size]?=some (.cells #[.int .i64 x.p,x.i,x.fd,x.lf,.slice (some ⟨kb,ko,none⟩) x.lk x.ck,x.av x.lv x.cv,.slice (some ⟨cb,off,none⟩) x.lc x.cc] 172)):=Hd ((f67.block _ (by have:=S16.o;omega) (by have:=CBL.o;show ¬ w.heap.size=cb;omega)).trans XU6.o)
   have XZ7:Hid (w7.heap[w.heap.size+3]?=some (.cells #[(0:Int),(0:Int),false,false,.slice none 0 0,.slice none 0 0,.slice none 0 0] 172)):=Hd ((f67.block _ (by have:=S16.o;omega) (by have:=CBL.o;show ¬ w.heap.size+3=cb;omega)).trans XZ6.o);have S17:Hid (w.heap.size+4<=w7.heap.size/\w6.heap.size<=w7.heap.size):=Hd (by have:=S16.o;have:=f67.size;exact⟨by omega,by omega⟩);clear d0 d1 d2 d3 d4 d5 d6 e2 e3 hw7 f67 r7 RY;obtain⟨d0,d1,d2,d3,d4,d5,d6⟩:=aM XU7.o;rw[ECB.o,EKB.o] at HG;go_wp2_with fail
   refine HG.mono ?_;rintro e w8 ⟨⟨bk',bv',bc',jk',jv',jc',rfl,hRN,r1,r2,r3⟩,b8⟩;obtain⟨N',hN'⟩:∃ N',({ leaf:=false,K:=KA++KB,V:=[],C:=kP A++[q]++kP B }:Nod)=N':=⟨_,rfl⟩
   have hV':N'.V=[]:=by rw[<-hN']
   have HNB:Hid (NB N' 240):=Hd (by rw[<-hN'];exact HUN q QB.o);have HAT:Hid (AtI dk1 (st1.give pr).1 fs (hh+1) x.p N' E):=Hd (by rw[<-hN'];exact ONE.o);rw[hN'] at hRN |-;have X8:=kept XU7 b8;have XZ8:=kept XZ7 b8;have k3:=ufb X8 3;have k4:=ufb X8 4;have k5:=ufb X8 5;have k6:=ufb X8 6;have HX8:=Hd X8;have HZ8:=Hd XZ8;have HRN:=Hd hRN;have HR3:=Hd (And.intro r1 (And.intro r2 r3));have HB8:=Hd b8;have HV':=Hd hV';clear d0 d1 d2 d3 d4 d5 d6 XZ8 hRN r1 r2 r3 b8 hN' HG hV';obtain⟨d0,d1,d2,d3,d4,d5,d6⟩:=aM X8;clear X8;simp only[aI]
   go_upto_region 14 with fail
   obtain⟨wa9,hw9⟩:∃ wa9,(((w8.setCell ⟨w.heap.size,3,none⟩ (.bool N'.leaf)).setCell ⟨w.heap.size,4,none⟩ (.slice bk' N'.K.length jk')).setCell ⟨w.heap.size,5,none⟩ (.slice bv' N'.V.length jv')).setCell ⟨w.heap.size,6,none⟩ (.slice bc' N'.C.length jc')=wa9:=⟨_,rfl⟩
   have F89:Frm (fun k=>k=w.heap.size) w8 wa9:=hw9 ▸ tM (Frm.refl _ w8) w.heap.size (.bool N'.leaf) (.slice bk' N'.K.length jk') (.slice bv' N'.V.length jv') (.slice bc' N'.C.length jc') (.inl rfl);have X9:wa9.heap[w.heap.size]?=some (.cells #[.int .i64 x.p,x.i,x.fd,.bool N'.leaf,bk' N'.K.length jk',bv' N'.V.length jv',bc' N'.C.length jc'] 172):=hw9 ▸ oO HX8 (.bool N'.leaf) (.slice bk' N'.K.length jk') (.slice bv' N'.V.length jv') (.slice bc' N'.C.length jc')
   have XZ9:wa9.heap[w.heap.size+3]?=some (.cells #[(0:Int),(0:Int),false,false,.slice none 0 0,.slice none 0 0,.slice none 0 0] 172):=(F89.block _ (by have:=S17.o;have:=HB8.size;omega) (by show ¬ w.heap.size+3=w.heap.size;omega)).trans HZ8.o
   have Fe:Frm (fun k=>(k=cb\/k=w.heap.size)\/k=w.heap.size+3) w6 (fT wa9 (w.heap.size+3) ⟨x.p,x.i,x.fd,N'.leaf,bk',N'.K.length,jk',bv',N'.V.length,jv',bc',N'.C.length,jc'⟩):=cC (((F67.mono (fun k hk=>(.inl (.inl hk):(k=cb\/k=w.heap.size)\/k=w.heap.size+3))).trans (G:=fun _=>False) (Frm.of_below HB8.o) (fun _ hx=>hx.elim)).trans F89 (fun k hk=>.inl (.inl (.inr hk)))) _ _ (.inl (.inr rfl));have Z:=Hd (aM (dG XZ9 ⟨x.p,x.i,x.fd,N'.leaf,bk',N'.K.length,jk',bv',N'.V.length,jv',bc',N'.C.length,jc'⟩))
   have END:Hid (fR w d s g dk st F x x.p fs (hh+1) E 2 (fun r'=>r'=r) (.returned (.tuple #[.agg #[.int .i64 x.p,x.i,x.fd,.bool N'.leaf,bk' N'.K.length jk',bv' N'.V.length jv',bc' N'.C.length jc'],(0:Int)])) (fT wa9 (w.heap.size+3) ⟨x.p,x.i,x.fd,N'.leaf,bk',N'.K.length,jk',bv',N'.V.length,jv',bc',N'.C.length,jc'⟩)):=Hd (by
    refine⟨x.i,x.fd,N',bk',bv',bc',jk',jv',jc',dk1,(st1.give pr).1,r,F2,rfl,rfl,?_⟩;have lt2:∀ k,F2 k->k<w6.heap.size:=TS6.lt;have n2:=NF2.o;have s7:=S17.o
    have r8:RowsA w8 N' bk' bv' bc' jk' jv' jc' (fun k=>F2 k\/k=w.heap.size\/k=w.heap.size+3):=RowsA.new (lo:=w7.heap.size) HRN HR3.1 HR3.2.1 HR3.2.2 (fun k hk=>by
     rcases hk with hk|hk|hk
     ·have:=lt2 k hk;omega
     ·omega
     ·omega)
    have r9:=(r8.frm F89 (fun k hk=>.inr (.inl hk))).frm (cC (F:=fun k=>k=w.heap.size+3) (Frm.refl _ wa9) (w.heap.size+3) ⟨x.p,x.i,x.fd,N'.leaf,bk',N'.K.length,jk',bv',N'.V.length,jv',bc',N'.C.length,jc'⟩ (.inl rfl)) (fun k hk=>.inr (.inr hk))
    refine{ ts:=TS6.frm Fe (fun k hk hx=>?_),fr:=(FF6.mono (fun _ hk=>.inl hk)).trans Fe (fun k hk=>?_),fn:=FN6.o,rows:=r9.mono (fun k hk=>.inl hk),nv:=HV'.o,ka:=fun y hy=>.inr (by have:=HR3.1 y hy;omega),kc:=fun y hy=>.inr (by have:=HR3.2.2 y hy;omega),at_:=HAT.o,nb:=HNB.o,tt:=TT5.1.trans TT5.2.1,rm:=fun k hk=>TT5.2.2.2 k (TT5.2.2.1 k (hk.le (by omega))) }
    ·rcases hx with(hx|hx)|hx
     ·exact n2.2.2 (hx ▸ hk)
     ·exact n2.1 (hx ▸ hk)
     ·exact n2.2.1 (hx ▸ hk)
    ·rcases hk with(hk|hk)|hk
     ·exact .inl (.inr (.inr ⟨_,ECB.o,hk.symm⟩))
     ·exact .inr (by omega)
     ·exact .inr (by omega))
   have g0:=ufb XZ9 0;have g1:=ufb XZ9 1;have g2:=ufb XZ9 2;have g3:=ufb XZ9 3;have g4:=ufb XZ9 4;have g5:=ufb XZ9 5;have g6:=ufb XZ9 6;rw[hw9];clear hw9 F89 Fe d0 d1 d2 d3 d4 d5 d6 k3 k4 k5 k6;obtain⟨i0,i1,i2,i3,i4,i5,i6⟩:=aM XZ9;obtain⟨d0,d1,d2,d3,d4,d5,d6⟩:=aM X9;unfold fT at Z END;clear X9 XZ9;go_wp2_with fail
   exact bodyPost_ret (v:=.tuple #[.agg #[.int .i64 x.p,x.i,x.fd,.bool N'.leaf,bk' N'.K.length jk',bv' N'.V.length jv',bc' N'.C.length jc'],(0:Int)]) (by simp[results,Tryz.results151,go_sem,Z.1,Z.2.1,Z.2.2.1,Z.2.2.2.1,Z.2.2.2.2.1,Z.2.2.2.2.2.1,Z.2.2.2.2.2.2]) rfl END.o
