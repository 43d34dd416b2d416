import Derived.Test.YtknikcihgijmlaaGreatDoorM02
import Derived.IntWalk
namespace Go.Proofs.YtknikcihgijmlaaGreatDoor
open Go.RowKit
set_option maxRecDepth 20000
set_option maxHeartbeats 12800000
set_option linter.unusedVariables false
set_option linter.unusedSimpArgs false
def wJ (lo:Nat)(LK LV:List Value):SP:=⟨fun v w=>∃ xa xb xc xd,v=.agg #[true,.slice xa LK.length xc,.slice xb LV.length xd,.slice none 0 0]/\Rd w xa LK/\Rd w xb LV/\LK.length<=xc/\xc<=maxLen/\LV.length<=xd/\xd<=maxLen/\(∀ x,xa=some x->lo<=x.block)/\∀ x,xb=some x->lo<=x.block,
 fun _ _ _ ⟨xa,xb,xc,xd,h,q1,q2,q⟩ hb=>⟨xa,xb,xc,xd,h,q1.below hb,q2.below hb,q⟩⟩
def lS (lo:Nat)(LK LV:List Value)(e:Ending)(w':World):Prop:=∃ v,e=.returned v/\(wJ lo LK LV).p v w'
theorem kT:(True->∀ (ak av ac a1 a2 a3 a4:Option Addr) (ck cv cc lk lc p:Nat) (key:Int) (v:ByteArray) (LK LV:List Value) (w:World)
  (WH:Hid (∀ w,() 129 #[.agg #[true,ak lk ck,av lk cv,ac lc cc]] w fun e w'=>e=.returned (.bool true)/\Below w.heap.size w w'))
  (FI:Hid (∀ w1,Below w.heap.size w w1->() 127 #[.agg #[true,ak lk ck,av lk cv,ac lc cc],.int .u64 key] w1 fun e w'=>e=.returned (.tuple #[(p:Int),false])/\Below w1.heap.size w1 w'))
  (S1:Hid (sliced ak 0 p ck 1=.slice a1 p ck)) (S2:Hid (sliced ak p lk ck 1=.slice a2 (lk-p) (ck-p))) (S3:Hid (sliced av 0 p cv 1=.slice a3 p cv)) (S4:Hid (sliced av p lk cv 1=.slice a4 (lk-p) (cv-p)))
  (CK:Hid (∀ wx a m,Below w.heap.size w wx->Rd wx a [a1 p ck,.slice m 1 1,a2 (lk-p) (ck-p)]->Rd wx m [bI key]->() 130 #[.slice a 3 3] wx fun e w'=>aZ wx.heap.size 80 LK e w'/\Below wx.heap.size wx w'))
  (CV:Hid (∀ wx a m,Below w.heap.size w wx->Rd wx a [a3 p cv,.slice m 1 1,a4 (lk-p) (cv-p)]->Rd wx m [v]->() 131 #[.slice a 3 3] wx fun e w'=>aZ wx.heap.size 9 LV e w'/\Below wx.heap.size wx w'))
  (h1:p<=lk) (h2:p<=lk) (h4:lk<=ck) (h5:lk<=cv) (h6:lk<=1000),
    () 137 #[.agg #[true,ak lk ck,av lk cv,ac lc cc],.int .u64 key,v] w fun e w'=>lS w.heap.size LK LV e w'/\Below w.heap.size w w')/\(∀ (ak av ac a1 a2 a3 a4:Option Addr) (ck cv cc lk lc p:Nat) (key:Int) (v:ByteArray) (LK LV:List Value) (w:World)
  (WH:Hid (∀ w,() 129 #[.agg #[true,ak lk ck,av lk cv,ac lc cc]] w fun e w'=>e=.returned (.bool true)/\Below w.heap.size w w'))
  (FI:Hid (∀ w1,Below w.heap.size w w1->() 127 #[.agg #[true,ak lk ck,av lk cv,ac lc cc],.int .u64 key] w1 fun e w'=>e=.returned (.tuple #[(p:Int),true])/\Below w1.heap.size w1 w'))
  (S1:Hid (sliced ak 0 p ck 1=.slice a1 p ck)) (S2:Hid (sliced ak (p+1) lk ck 1=.slice a2 (lk-(p+1)) (ck-(p+1)))) (S3:Hid (sliced av 0 p cv 1=.slice a3 p cv)) (S4:Hid (sliced av (p+1) lk cv 1=.slice a4 (lk-(p+1)) (cv-(p+1))))
  (CK:Hid (∀ wx a m,Below w.heap.size w wx->Rd wx a [a1 p ck,.slice m 1 1,.slice a2 (lk-(p+1)) (ck-(p+1))]->Rd wx m [bI key]->() 130 #[.slice a 3 3] wx fun e w'=>aZ wx.heap.size 80 LK e w'/\Below wx.heap.size wx w'))
  (CV:Hid (∀ wx a m,Below w.heap.size w wx->Rd wx a [a3 p cv,.slice m 1 1,.slice a4 (lk-(p+1)) (cv-(p+1))]->Rd wx m [v]->() 131 #[.slice a 3 3] wx fun e w'=>aZ wx.heap.size 9 LV e w'/\Below wx.heap.size wx w'))
  (h1:p<=lk) (h2:(p+1)<=lk) (h4:lk<=ck) (h5:lk<=cv) (h6:lk<=1000),
    () 137 #[.agg #[true,ak lk ck,av lk cv,ac lc cc],.int .u64 key,v] w fun e w'=>lS w.heap.size LK LV e w'/\Below w.heap.size w w'):=by
  constructor
  all_goals first|intro(mk:True) ak av ac a1 a2 a3 a4 ck cv cc lk lc p key v LK LV w WH FI S1 S2 S3 S4 CK CV h1 h2 h4 h5 h6|intro ak av ac a1 a2 a3 a4 ck cv cc lk lc p key v LK LV w WH FI S1 S2 S3 S4 CK CV h1 h2 h4 h5 h6
  all_goals
   have i1:(p:Int)<=(ck:Int):=by omega
   first
   | (guard_hyp mk:True;have i2:(p:Int)<=(lk:Int):=by omega)
   | (have i2:(p:Int)+1<=(lk:Int):=by omega)
   have i3:(p:Int)<=(cv:Int):=by omega
   first
   | (guard_hyp mk:True;have i4:(p:Int)<=(lk:Int):=by omega)
   | (have i4:(p:Int)+1<=(lk:Int):=by omega)
   have i5:(p:Int)<=1000:=by omega
   go_enter Tryz.func137,Tryz.ntmps137;go_wp2_with fail;refine(WH _).mono ?_;rintro e w1 ⟨rfl,b1⟩;have X1:=kept (han (w.alloc _) _) b1;have Y1:=kept (show((w.alloc (.cells #[true,ak lk ck,av lk cv,ac lc cc] 166)).alloc (.cells #[false,.slice none 0 0,.slice none 0 0,.slice none 0 0] 166)).heap[w.heap.size]?=some (.cells #[true,ak lk ck,av lk cv,ac lc cc] 166) from(hao _ _ (by simp)).trans (han w _)) b1
   have B1:Below w.heap.size w w1:=((Br.alloc (Nat.le_refl _) _).alloc (by simp) _).trans (b1.mono (by simp;omega));have k0:=cl Y1 0 rfl;have k1:=cl Y1 1 rfl;have k2:=cl Y1 2 rfl;have k3:=cl Y1 3 rfl;have XH:=Hd X1;have YH:=Hd Y1;have BH:=Hd B1;clear b1 X1 Y1 B1;go_wp2_with fail;refine(FI _ BH.o).mono ?_;rintro e w2 ⟨rfl,b2⟩;have X2:=kept XH b2;have Y2:=kept YH b2;have B2:=Hd (chain BH b2);clear XH YH BH k0 k1 k2 k3 b2;have lt0:w.heap.size<w2.heap.size:=(zl Y2);have c1:=cl Y2 1 rfl;have c2:=cl Y2 2 rfl
   have X:=Hd X2;have Y:=Hd Y2;clear X2 Y2 FI WH;go_wp2_with fail
   first
   | (guard_hyp mk:True;refine dG 25 54 [eqV (.pointer (some ⟨w.heap.size,1,none⟩)),eqV (.slice ak lk ck),eqV (.int .i64 (p:Int)),eqV (.slice a1 p ck),eqV (.int .u64 key),jF [bI key],eqV (.pointer (some ⟨w.heap.size,1,none⟩)),eqV (.slice ak lk ck),eqV (.int .i64 ((p:Int))),eqV (.slice a2 (lk-p) (ck-p)),wO (.slice a1 p ck) (.slice a2 (lk-p) (ck-p)) [bI key],iV w2.heap.size (LK),eqV (.pointer (some ⟨w.heap.size,2,none⟩)),eqV (.slice av lk cv),eqV (.int .i64 (p:Int)),eqV (.slice a3 p cv),eqV (.string v),jF [v],eqV (.pointer (some ⟨w.heap.size,2,none⟩)),eqV (.slice av lk cv),eqV (.int .i64 ((p:Int))),eqV (.slice a4 (lk-p) (cv-p)),wO (.slice a3 p cv) (.slice a4 (lk-p) (cv-p)) [v],iV w2.heap.size (LV),wJ w2.heap.size LK LV,mX] (by kernel_rfl) (by kernel_rfl) (by rfl) ?owes ?ends)
   | (refine dG 25 54 [eqV (.pointer (some ⟨w.heap.size,1,none⟩)),eqV (.slice ak lk ck),eqV (.int .i64 (p:Int)),eqV (.slice a1 p ck),eqV (.int .u64 key),jF [bI key],eqV (.pointer (some ⟨w.heap.size,1,none⟩)),eqV (.slice ak lk ck),eqV (.int .i64 ((p:Int)+1)),eqV (.slice a2 (lk-(p+1)) (ck-(p+1))),wO (.slice a1 p ck) (.slice a2 (lk-(p+1)) (ck-(p+1))) [bI key],iV w2.heap.size (LK),eqV (.pointer (some ⟨w.heap.size,2,none⟩)),eqV (.slice av lk cv),eqV (.int .i64 (p:Int)),eqV (.slice a3 p cv),eqV (.string v),jF [v],eqV (.pointer (some ⟨w.heap.size,2,none⟩)),eqV (.slice av lk cv),eqV (.int .i64 ((p:Int)+1)),eqV (.slice a4 (lk-(p+1)) (cv-(p+1))),wO (.slice a3 p cv) (.slice a4 (lk-(p+1)) (cv-(p+1))) [v],iV w2.heap.size (LV),wJ w2.heap.size LK LV,mX] (by kernel_rfl) (by kernel_rfl) (by rfl) ?owes ?ends)
   case owes=>
    refine Fo 0 (fun a wx hS xo xd K HK=>?_) ?_
    ·have d3:=Fl xo 3
     clear xo xd;go_simp;exact Hr HK
    refine Fo 1 (fun a wx hS xo xd K HK=>?_) ?_
    ·have d29:=Fq xd 0
     clear xo xd;have c0:=hC c1 hS lt0;go_simp;exact Hr HK
    refine Fo 2 (fun a wx hS xo xd K HK=>?_) ?_
    ·have d7:=Fl xo 7
     clear xo xd;go_simp;exact Hr HK
    refine Fo 3 (fun a wx hS xo xd K HK=>?_) ?_
    ·have d30:=Fq xd 1
     have d31:=Fq xd 2;clear xo xd;go_simp;refine HK _ _ ?_ Br
     show _=_
     rw[<-S1.o];simp[sliced,jU,Addr.add]
    refine Fo 4 (fun a wx hS xo xd K HK=>?_) ?_
    ·have d1:=Fl xo 1
     clear xo xd;go_simp;exact Hr HK
    refine Fo 5 (fun a wx hS xo xd K HK=>?_) ?_
    ·have d33:=Fq xd 4
     clear xo xd;go_simp;exact HK _ _ ⟨_,rfl,Rd.made _ _ _⟩ (aB _ _)
    refine Fo 6 (fun a wx hS xo xd K HK=>?_) ?_
    ·have d3:=Fl xo 3
     clear xo xd;go_simp;exact Hr HK
    refine Fo 7 (fun a wx hS xo xd K HK=>?_) ?_
    ·have d35:=Fq xd 6
     clear xo xd;have c0:=hC c1 hS lt0;go_simp;exact Hr HK
    refine Fo 8 (fun a wx hS xo xd K HK=>?_) ?_
    ·have d9:=Fl xo 9
     clear xo xd;go_simp;exact Hr HK
    refine Fo 9 (fun a wx hS xo xd K HK=>?_) ?_
    ·have d36:=Fq xd 7
     have d37:=Fq xd 8;clear xo xd;go_simp;refine HK _ _ ?_ Br
     show _=_
     rw[<-S2.o];simp[sliced,jU,Addr.add]
    refine Fo 10 (fun a wx hS xo xd K HK=>?_) ?_
    ·have d32:=Fq xd 3
     obtain⟨a34,d34,r34⟩:=Fr xd 5;have d38:=Fq xd 9;clear xo xd;go_simp;exact HK _ _ ⟨_,a34,rfl,Rd.made _ _ _,r34.below (aB _ _)⟩ (aB _ _)
    refine Fo 11 (fun a wx hS xo xd K HK=>?_) ?_
    ·obtain⟨a39,m39,d39,r39,s39⟩:=Fr xd 10
     clear xo xd;have CA:=CK wx a39 m39 (chain B2 hS) r39 s39;clear r39 s39;go_simp;go_wp2_with fail;refine CA.mono ?_;rintro e w9 ⟨⟨v9,rfl,h9⟩,b9⟩;exact HK _ _ (cK h9 hS.size) b9
    refine Fo 12 (fun a wx hS xo xd K HK=>?_) ?_
    ·have d3:=Fl xo 3
     clear xo xd;go_simp;exact Hr HK
    refine Fo 13 (fun a wx hS xo xd K HK=>?_) ?_
    ·have d41:=Fq xd 12
     clear xo xd;have c0:=hC c2 hS lt0;go_simp;exact Hr HK
    refine Fo 14 (fun a wx hS xo xd K HK=>?_) ?_
    ·have d7:=Fl xo 7
     clear xo xd;go_simp;exact Hr HK
    refine Fo 15 (fun a wx hS xo xd K HK=>?_) ?_
    ·have d42:=Fq xd 13
     have d43:=Fq xd 14;clear xo xd;go_simp;refine HK _ _ ?_ Br
     show _=_
     rw[<-S3.o];simp[sliced,jU,Addr.add]
    refine Fo 16 (fun a wx hS xo xd K HK=>?_) ?_
    ·have d2:=Fl xo 2
     clear xo xd;go_simp;exact Hr HK
    refine Fo 17 (fun a wx hS xo xd K HK=>?_) ?_
    ·have d45:=Fq xd 16
     clear xo xd;go_simp;exact HK _ _ ⟨_,rfl,Rd.made _ _ _⟩ (aB _ _)
    refine Fo 18 (fun a wx hS xo xd K HK=>?_) ?_
    ·have d3:=Fl xo 3
     clear xo xd;go_simp;exact Hr HK
    refine Fo 19 (fun a wx hS xo xd K HK=>?_) ?_
    ·have d47:=Fq xd 18
     clear xo xd;have c0:=hC c2 hS lt0;go_simp;exact Hr HK
    refine Fo 20 (fun a wx hS xo xd K HK=>?_) ?_
    ·have d9:=Fl xo 9
     clear xo xd;go_simp;exact Hr HK
    refine Fo 21 (fun a wx hS xo xd K HK=>?_) ?_
    ·have d48:=Fq xd 19
     have d49:=Fq xd 20;clear xo xd;go_simp;refine HK _ _ ?_ Br
     show _=_
     rw[<-S4.o];simp[sliced,jU,Addr.add]
    refine Fo 22 (fun a wx hS xo xd K HK=>?_) ?_
    ·have d44:=Fq xd 15
     obtain⟨a46,d46,r46⟩:=Fr xd 17;have d50:=Fq xd 21;clear xo xd;go_simp;exact HK _ _ ⟨_,a46,rfl,Rd.made _ _ _,r46.below (aB _ _)⟩ (aB _ _)
    refine Fo 23 (fun a wx hS xo xd K HK=>?_) ?_
    ·obtain⟨a51,m51,d51,r51,s51⟩:=Fr xd 22
     clear xo xd;have CA:=CV wx a51 m51 (chain B2 hS) r51 s51;clear r51 s51;go_simp;go_wp2_with fail;refine CA.mono ?_;rintro e w9 ⟨⟨v9,rfl,h9⟩,b9⟩;exact HK _ _ (cK h9 hS.size) b9
    refine Fo 24 (fun a wx hS xo xd K HK=>?_) ?_
    ·obtain⟨a40,c40,d40,r40,l40,m40,n40⟩:=Fr xd 11
     obtain⟨a52,c52,d52,r52,l52,m52,n52⟩:=Fr xd 23;clear xo xd;go_simp;exact HK _ _ ⟨_,_,_,_,rfl,r40,r52,l40,m40,l52,m52,n40,n52⟩ Br
    refine OwesAll.skip (f:=25) ?_;exact OwesAll.nil
   case ends=>
    intro a wx hS hsz hdf hold hdone;simp only[List.getElem?_toArray,List.getElem?_cons_succ,List.getElem?_cons_zero];intro K hK;have HK:=Hd hK;clear hK;obtain⟨xa,xb,xc,xd,d53,q1,q2,q3,q4,q5,q6,q7,q8⟩:=hdone 24 _ 53 rfl (by decide) rfl;have d6:a.tmps.getD 6 undef=.pointer (some ⟨w.heap.size+1,0,none⟩):=hold 6 (aW (by kernel_rfl));have hdf':a.defers=[]:=hdf;clear hold hdone hsz hdf;rw[Array.getD_eq_getD_getElem?] at d53 d6;have XB:=kept X hS
    rw[show(w.alloc (.cells #[true,ak lk ck,av lk cv,ac lc cc] 166)).heap.size=w.heap.size+1 from by simp] at XB;have y0:=cl XB 0 rfl;have y1:=cl XB 1 rfl;have y2:=cl XB 2 rfl;have y3:=cl XB 3 rfl;have f0:=ufb XB 0;have f1:=ufb XB 1;have f2:=ufb XB 2;have f3:=ufb XB 3;rw[if_pos (by rfl)];go_simp;refine HK _ _ ?_
    have B9:Below w.heap.size w ((((wx.setCell ⟨w.heap.size+1,0,none⟩ (.bool true)).setCell ⟨w.heap.size+1,1,none⟩ (.slice xa LK.length xc)).setCell ⟨w.heap.size+1,2,none⟩ (.slice xb LV.length xd)).setCell ⟨w.heap.size+1,3,none⟩ (.slice none 0 0)):=
     ((((chain B2 hS).setCell (by simp) _).setCell (by simp) _).setCell (by simp) _).setCell (by simp) _
    clear y0 y1 y2 y3 f0 f1 f2 f3 HK K;go_wp2_with fail;have lt1:w.heap.size+1<w2.heap.size:=by have:=(zl X.o);simpa using this
    have FIN:Hid (lS w.heap.size LK LV (.returned (.agg #[true,xa LK.length xc,xb LV.length xd,.slice none 0 0])) ((((wx.setCell ⟨w.heap.size+1,0,none⟩ (.bool true)).setCell ⟨w.heap.size+1,1,none⟩ (.slice xa LK.length xc)).setCell ⟨w.heap.size+1,2,none⟩ (.slice xb LV.length xd)).setCell ⟨w.heap.size+1,3,none⟩ (.slice none 0 0))):=
     Hd ⟨_,rfl,xa,xb,xc,xd,rfl,q1.set4 _ _ _ _ _ (fun x hx=>Nat.lt_of_lt_of_le lt1 (q7 x hx)),q2.set4 _ _ _ _ _ (fun x hx=>Nat.lt_of_lt_of_le lt1 (q8 x hx)),q3,q4,q5,q6,fun x hx=>Nat.le_trans (Nat.le_of_lt lt0) (q7 x hx),fun x hx=>Nat.le_trans (Nat.le_of_lt lt0) (q8 x hx)⟩
    have XR:(((((wx.setCell ⟨w.heap.size+1,0,none⟩ (.bool true)).setCell ⟨w.heap.size+1,1,none⟩ (.slice xa LK.length xc)).setCell ⟨w.heap.size+1,2,none⟩ (.slice xb LV.length xd)).setCell ⟨w.heap.size+1,3,none⟩ (.slice none 0 0))).heap[w.heap.size+1]?=some (.cells #[true,xa LK.length xc,xb LV.length xd,.slice none 0 0] 166):=by
     rw[hss _ _ 3 _ _ _ (hss _ _ 2 _ _ _ (hss _ _ 1 _ _ _ (hss _ _ 0 _ _ _ XB)))]
     rfl
    generalize ((((wx.setCell ⟨w.heap.size+1,0,none⟩ (.bool true)).setCell ⟨w.heap.size+1,1,none⟩ (.slice xa LK.length xc)).setCell ⟨w.heap.size+1,2,none⟩ (.slice xb LV.length xd)).setCell ⟨w.heap.size+1,3,none⟩ (.slice none 0 0))=wz at *;have z0:=cl XR 0 rfl;have z1:=cl XR 1 rfl;have z2:=cl XR 2 rfl;have z3:=cl XR 3 rfl;exact bodyPost_ret (v:=.agg #[true,xa LK.length xc,xb LV.length xd,.slice none 0 0]) (by simp[results,Tryz.results137,go_sem,d6,z0,z1,z2,z3]) hdf' ⟨FIN.o,B9⟩
set_option linter.defProp false in
def aBJ:=kT.1 trivial
set_option linter.defProp false in
def XG:=kT.2
def BK (lo:Nat)(LK LC:List Value):SP:=⟨fun v w=>∃ xa xb xc xd,v=.agg #[false,.slice xa LK.length xc,.slice none 0 0,.slice xb LC.length xd]/\Rd w xa LK/\Rd w xb LC/\LK.length<=xc/\xc<=maxLen/\LC.length<=xd/\xd<=maxLen/\(∀ x,xa=some x->lo<=x.block)/\∀ x,xb=some x->lo<=x.block,
 fun _ _ _ ⟨xa,xb,xc,xd,h,q1,q2,q⟩ hb=>⟨xa,xb,xc,xd,h,q1.below hb,q2.below hb,q⟩⟩
def mZ (lo:Nat)(LK LC:List Value)(e:Ending)(w':World):Prop:=∃ v,e=.returned v/\(BK lo LK LC).p v w'
theorem YC (ak av ac a1 a2 a3 a4:Option Addr)(ck cv cc lk lv p:Nat)(key kid:Int)(X1 X2:List Value)(w:World)
  (WH:Hid (∀ w,() 129 #[.agg #[false,ak lk ck,av lv cv,ac (lk+1) cc]] w fun e w'=>e=.returned (.bool true)/\Below w.heap.size w w'))
  (S1:Hid (sliced ak 0 p ck 1=.slice a1 p ck))
  (S2:Hid (sliced ak p lk ck 1=.slice a2 (lk-p) (ck-p)))
  (S3:Hid (sliced ac 0 (p+1) cc 1=.slice a3 (p+1) cc))
  (S4:Hid (sliced ac (p+1) (lk+1) cc 1=.slice a4 (lk-p) (cc-(p+1))))
  (C1:Hid (∀ wx a m,Below w.heap.size w wx->Rd wx a [a1 p ck,.slice m 1 1,a2 (lk-p) (ck-p)]->Rd wx m [.int .u64 key]->() 130 #[.slice a 3 3] wx fun e w'=>aZ wx.heap.size 80 X1 e w'/\Below wx.heap.size wx w'))
  (C2:Hid (∀ wx a m,Below w.heap.size w wx->Rd wx a [a3 (p+1) cc,.slice m 1 1,.slice a4 (lk-p) (cc-(p+1))]->Rd wx m [kid]->() 162 #[.slice a 3 3] wx fun e w'=>aZ wx.heap.size 3 X2 e w'/\Below wx.heap.size wx w'))
  (h1:p<=lk)(h4:lk<=ck)(h5:lk+1<=cc)(h6:lk<=1000) :
  () 139 #[.agg #[false,ak lk ck,av lv cv,ac (lk+1) cc],(p:Int),.int .u64 key,kid] w fun e w'=>mZ w.heap.size X1 X2 e w'/\Below w.heap.size w w':=by
 have i0:(0:Int)<=(p:Int):=by omega
 have i1:(p:Int)<=1000:=by omega
 have i2:(p:Int)<=(ck:Int):=by omega
 have i3:(p:Int)<=(lk:Int):=by omega
 have hw1:Hid (IntKind.i64.wrap ((p:Int)+1)=(p:Int)+1):=Hd (IntWalk.i64_in _ (by omega));have hw2:Hid (IntKind.i64.wrap ((p:Int)+2)=(p:Int)+2):=Hd (IntWalk.i64_in _ (by omega));have i4:(p:Int)+1<=(cc:Int):=by omega
 have i5:¬ (lk:Int)<(p:Int):=by omega
 go_enter Tryz.func139,Tryz.ntmps139;go_wp2_with fail;refine(WH _).mono ?_;rintro e w2 ⟨rfl,b1⟩;have X1':=kept (han (w.alloc _) _) b1;have Y1':=kept (show((w.alloc (.cells #[false,ak lk ck,av lv cv,ac (lk+1) cc] 166)).alloc (.cells #[false,.slice none 0 0,.slice none 0 0,.slice none 0 0] 166)).heap[w.heap.size]?=some (.cells #[false,ak lk ck,av lv cv,ac (lk+1) cc] 166) from(hao _ _ (by simp)).trans (han w _)) b1
 have B1:Below w.heap.size w w2:=((Br.alloc (Nat.le_refl _) _).alloc (by simp) _).trans (b1.mono (by simp;omega));rw[show(w.alloc (.cells #[false,ak lk ck,av lv cv,ac (lk+1) cc] 166)).heap.size=w.heap.size+1 from by simp] at X1';have lt0:w.heap.size<w2.heap.size:=(zl Y1');have c0':=cl (Y1') 0 rfl;have c1:=cl (Y1') 1 rfl;have c2:=cl (Y1') 2 rfl;have c3:=cl (Y1') 3 rfl;have X:=Hd X1';have B2:=Hd B1;clear b1 X1' Y1' B1;clear WH;go_wp2_with fail
 refine dG 27 55 [eqV (.pointer (some ⟨w.heap.size,1,none⟩)),eqV (.slice ak lk ck),eqV (.int .i64 (p:Int)),eqV (.slice a1 p ck),eqV (.int .u64 key),jF [.int .u64 key],eqV (.pointer (some ⟨w.heap.size,1,none⟩)),eqV (.slice ak lk ck),eqV (.int .i64 (p:Int)),eqV (.slice a2 (lk-p) (ck-p)),wO (.slice a1 p ck) (.slice a2 (lk-p) (ck-p)) [.int .u64 key],iV w2.heap.size X1,eqV (.pointer (some ⟨w.heap.size,3,none⟩)),eqV (.slice ac (lk+1) cc),eqV (.int .i64 (p:Int)),eqV (.int .i64 ((p:Int)+1)),eqV (.slice a3 (p+1) cc),eqV (.int .i64 kid),jF [kid],eqV (.pointer (some ⟨w.heap.size,3,none⟩)),eqV (.slice ac (lk+1) cc),eqV (.int .i64 (p:Int)),eqV (.int .i64 ((p:Int)+1)),eqV (.slice a4 (lk-p) (cc-(p+1))),wO (.slice a3 (p+1) cc) (.slice a4 (lk-p) (cc-(p+1))) [kid],iV w2.heap.size X2,BK w2.heap.size X1 X2,mX] (by kernel_rfl) (by kernel_rfl) (by rfl) ?owes ?ends
 case owes=>
  refine Fo 0 (fun a wx hS xo xd K HK=>?_) ?_
  ·have d4:=Fl xo 4
   clear xo xd;go_simp;exact Hr HK
  refine Fo 1 (fun a wx hS xo xd K HK=>?_) ?_
  ·have d28:=Fq xd 0
   clear xo xd;have c0:=hC c1 hS lt0;go_simp;exact Hr HK
  refine Fo 2 (fun a wx hS xo xd K HK=>?_) ?_
  ·have d1:=Fl xo 1
   clear xo xd;go_simp;exact Hr HK
  refine Fo 3 (fun a wx hS xo xd K HK=>?_) ?_
  ·have d29:=Fq xd 1
   have d30:=Fq xd 2;clear xo xd;go_simp;refine HK _ _ ?_ Br
   show _=_
   rw[<-S1.o];simp[sliced,jU,Addr.add]
  refine Fo 4 (fun a wx hS xo xd K HK=>?_) ?_
  ·have d2:=Fl xo 2
   clear xo xd;go_simp;exact Hr HK
  refine Fo 5 (fun a wx hS xo xd K HK=>?_) ?_
  ·have d32:=Fq xd 4
   clear xo xd;go_simp;exact HK _ _ ⟨_,rfl,Rd.made _ _ _⟩ (aB _ _)
  refine Fo 6 (fun a wx hS xo xd K HK=>?_) ?_
  ·have d4:=Fl xo 4
   clear xo xd;go_simp;exact Hr HK
  refine Fo 7 (fun a wx hS xo xd K HK=>?_) ?_
  ·have d34:=Fq xd 6
   clear xo xd;have c0:=hC c1 hS lt0;go_simp;exact Hr HK
  refine Fo 8 (fun a wx hS xo xd K HK=>?_) ?_
  ·have d1:=Fl xo 1
   clear xo xd;go_simp;exact Hr HK
  refine Fo 9 (fun a wx hS xo xd K HK=>?_) ?_
  ·have d35:=Fq xd 7
   have d36:=Fq xd 8;clear xo xd;go_simp;refine HK _ _ ?_ Br
   show _=_
   rw[<-S2.o];simp[sliced,jU,Addr.add]
  refine Fo 10 (fun a wx hS xo xd K HK=>?_) ?_
  ·have d31:=Fq xd 3
   obtain⟨a33,d33,r33⟩:=Fr xd 5;have d37:=Fq xd 9;clear xo xd;go_simp;exact HK _ _ ⟨_,a33,rfl,Rd.made _ _ _,r33.below (aB _ _)⟩ (aB _ _)
  refine Fo 11 (fun a wx hS xo xd K HK=>?_) ?_
  ·obtain⟨a38,m38,d38,r38,s38⟩:=Fr xd 10
   clear xo xd;have CA:=C1 wx a38 m38 (chain B2 hS) r38 s38;clear r38 s38;go_simp;go_wp2_with fail;refine CA.mono ?_;rintro e w9 ⟨⟨v9,rfl,h9⟩,b9⟩;exact HK _ _ (cK h9 hS.size) b9
  refine Fo 12 (fun a wx hS xo xd K HK=>?_) ?_
  ·have d4:=Fl xo 4
   clear xo xd;go_simp;exact Hr HK
  refine Fo 13 (fun a wx hS xo xd K HK=>?_) ?_
  ·have d40:=Fq xd 12
   clear xo xd;have c0:=hC c3 hS lt0;go_simp;exact Hr HK
  refine Fo 14 (fun a wx hS xo xd K HK=>?_) ?_
  ·have d1:=Fl xo 1
   clear xo xd;go_simp;exact Hr HK
  refine Fo 15 (fun a wx hS xo xd K HK=>?_) ?_
  ·have d42:=Fq xd 14
   clear xo xd;go_simp;refine HK _ _ ?_ Br
   show _=_
   first|rfl|rw[hw1.o]
  refine Fo 16 (fun a wx hS xo xd K HK=>?_) ?_
  ·have d41:=Fq xd 13
   have d43:=Fq xd 15;clear xo xd;go_simp;refine HK _ _ ?_ Br
   show _=_
   rw[<-S3.o];simp[sliced,jU,Addr.add]
  refine Fo 17 (fun a wx hS xo xd K HK=>?_) ?_
  ·have d3:=Fl xo 3
   clear xo xd;go_simp;exact Hr HK
  refine Fo 18 (fun a wx hS xo xd K HK=>?_) ?_
  ·have d45:=Fq xd 17
   clear xo xd;go_simp;exact HK _ _ ⟨_,rfl,Rd.made _ _ _⟩ (aB _ _)
  refine Fo 19 (fun a wx hS xo xd K HK=>?_) ?_
  ·have d4:=Fl xo 4
   clear xo xd;go_simp;exact Hr HK
  refine Fo 20 (fun a wx hS xo xd K HK=>?_) ?_
  ·have d47:=Fq xd 19
   clear xo xd;have c0:=hC c3 hS lt0;go_simp;exact Hr HK
  refine Fo 21 (fun a wx hS xo xd K HK=>?_) ?_
  ·have d1:=Fl xo 1
   clear xo xd;go_simp;exact Hr HK
  refine Fo 22 (fun a wx hS xo xd K HK=>?_) ?_
  ·have d49:=Fq xd 21
   clear xo xd;go_simp;refine HK _ _ ?_ Br
   show _=_
   first|rfl|rw[hw1.o]
  refine Fo 23 (fun a wx hS xo xd K HK=>?_) ?_
  ·have d48:=Fq xd 20
   have d50:=Fq xd 22;clear xo xd;go_simp;refine HK _ _ ?_ Br
   show _=_
   rw[<-S4.o];simp[sliced,jU,Addr.add]
  refine Fo 24 (fun a wx hS xo xd K HK=>?_) ?_
  ·have d44:=Fq xd 16
   obtain⟨a46,d46,r46⟩:=Fr xd 18;have d51:=Fq xd 23;clear xo xd;go_simp;exact HK _ _ ⟨_,a46,rfl,Rd.made _ _ _,r46.below (aB _ _)⟩ (aB _ _)
  refine Fo 25 (fun a wx hS xo xd K HK=>?_) ?_
  ·obtain⟨a52,m52,d52,r52,s52⟩:=Fr xd 24
   clear xo xd;have CA:=C2 wx a52 m52 (chain B2 hS) r52 s52;clear r52 s52;go_simp;go_wp2_with fail;refine CA.mono ?_;rintro e w9 ⟨⟨v9,rfl,h9⟩,b9⟩;exact HK _ _ (cK h9 hS.size) b9
  refine Fo 26 (fun a wx hS xo xd K HK=>?_) ?_
  ·obtain⟨a39,c39,d39,r39,l39,m39,n39⟩:=Fr xd 11
   obtain⟨a53,c53,d53,r53,l53,m53,n53⟩:=Fr xd 25;clear xo xd;go_simp;exact HK _ _ ⟨_,_,_,_,rfl,r39,r53,l39,m39,l53,m53,n39,n53⟩ Br
  refine OwesAll.skip (f:=27) ?_;exact OwesAll.nil
 case ends=>
  intro a wx hS hsz hdf hold hdone;simp only[List.getElem?_toArray,List.getElem?_cons_succ,List.getElem?_cons_zero];intro K hK;have HK:=Hd hK;clear hK;obtain⟨xa,xb,xc,xd,dB,q1,q2,q3,q4,q5,q6,q7,q8⟩:=hdone 26 _ 54 rfl (by decide) rfl;have dR:a.tmps.getD 8 undef=.pointer (some ⟨w.heap.size+1,0,none⟩):=hold 8 (aW (by kernel_rfl));have hdf':a.defers=[]:=hdf;clear hold hdone hsz hdf;rw[Array.getD_eq_getD_getElem?] at dB dR;have XB:=kept X hS;have y0:=cl XB 0 rfl;have y1:=cl XB 1 rfl;have y2:=cl XB 2 rfl;have y3:=cl XB 3 rfl;have f0:=ufb XB 0
  have f1:=ufb XB 1;have f2:=ufb XB 2;have f3:=ufb XB 3;rw[if_pos (by rfl)];go_simp;refine HK _ _ ?_
  have B9:Below w.heap.size w ((((wx.setCell ⟨w.heap.size+1,0,none⟩ (.bool false)).setCell ⟨w.heap.size+1,1,none⟩ (.slice xa X1.length xc)).setCell ⟨w.heap.size+1,2,none⟩ (.slice none 0 0)).setCell ⟨w.heap.size+1,3,none⟩ (.slice xb X2.length xd)):=
   ((((chain B2 hS).setCell (by simp) _).setCell (by simp) _).setCell (by simp) _).setCell (by simp) _
  clear y0 y1 y2 y3 f0 f1 f2 f3 HK K;go_wp2_with fail;have lt1:w.heap.size+1<w2.heap.size:=(zl X.o)
  have FIN:Hid (mZ w.heap.size X1 X2 (.returned (.agg #[false,xa X1.length xc,.slice none 0 0,xb X2.length xd])) ((((wx.setCell ⟨w.heap.size+1,0,none⟩ (.bool false)).setCell ⟨w.heap.size+1,1,none⟩ (.slice xa X1.length xc)).setCell ⟨w.heap.size+1,2,none⟩ (.slice none 0 0)).setCell ⟨w.heap.size+1,3,none⟩ (.slice xb X2.length xd))):=
   Hd ⟨_,rfl,xa,xb,xc,xd,rfl,q1.set4 _ _ _ _ _ (fun x hx=>Nat.lt_of_lt_of_le lt1 (q7 x hx)),q2.set4 _ _ _ _ _ (fun x hx=>Nat.lt_of_lt_of_le lt1 (q8 x hx)),q3,q4,q5,q6,fun x hx=>Nat.le_trans (Nat.le_of_lt lt0) (q7 x hx),fun x hx=>Nat.le_trans (Nat.le_of_lt lt0) (q8 x hx)⟩
  have XR:((((wx.setCell ⟨w.heap.size+1,0,none⟩ (.bool false)).setCell ⟨w.heap.size+1,1,none⟩ (.slice xa X1.length xc)).setCell ⟨w.heap.size+1,2,none⟩ (.slice none 0 0)).setCell ⟨w.heap.size+1,3,none⟩ (.slice xb X2.length xd)).heap[w.heap.size+1]?=some (.cells #[false,xa X1.length xc,.slice none 0 0,xb X2.length xd] 166):=by
   rw[hss _ _ 3 _ _ _ (hss _ _ 2 _ _ _ (hss _ _ 1 _ _ _ (hss _ _ 0 _ _ _ XB)))]
   rfl
  generalize ((((wx.setCell ⟨w.heap.size+1,0,none⟩ (.bool false)).setCell ⟨w.heap.size+1,1,none⟩ (.slice xa X1.length xc)).setCell ⟨w.heap.size+1,2,none⟩ (.slice none 0 0)).setCell ⟨w.heap.size+1,3,none⟩ (.slice xb X2.length xd))=wz at *;have z0:=cl XR 0 rfl;have z1:=cl XR 1 rfl;have z2:=cl XR 2 rfl;have z3:=cl XR 3 rfl;exact bodyPost_ret (v:=.agg #[false,xa X1.length xc,.slice none 0 0,xb X2.length xd]) (by simp[results,Tryz.results139,go_sem,dR,z0,z1,z2,z3]) hdf' ⟨FIN.o,B9⟩
theorem zI (ak av ac a1 a2 a3 a4:Option Addr)(ck cv cc lk lc p:Nat)(X1 X2:List Value)(w:World)
  (WH:Hid (∀ w,() 129 #[.agg #[true,ak lk ck,av lk cv,ac lc cc]] w fun e w'=>e=.returned (.bool true)/\Below w.heap.size w w'))
  (S1:Hid (sliced ak 0 p ck 1=.slice a1 p ck))
  (S2:Hid (sliced ak (p+1) lk ck 1=.slice a2 (lk-(p+1)) (ck-(p+1))))
  (S3:Hid (sliced av 0 p cv 1=.slice a3 p cv))
  (S4:Hid (sliced av (p+1) lk cv 1=.slice a4 (lk-(p+1)) (cv-(p+1))))
  (C1:Hid (∀ wx a,Below w.heap.size w wx->Rd wx a [a1 p ck,.slice a2 (lk-(p+1)) (ck-(p+1))]->() 130 #[.slice a 2 2] wx fun e w'=>aZ wx.heap.size 80 X1 e w'/\Below wx.heap.size wx w'))
  (C2:Hid (∀ wx a,Below w.heap.size w wx->Rd wx a [a3 p cv,.slice a4 (lk-(p+1)) (cv-(p+1))]->() 131 #[.slice a 2 2] wx fun e w'=>aZ wx.heap.size 9 X2 e w'/\Below wx.heap.size wx w'))
  (h1:p+1<=lk)(h4:lk<=ck)(h5:lk<=cv)(h6:lk<=1000) :
  () 111 #[.agg #[true,ak lk ck,av lk cv,ac lc cc],(p:Int)] w fun e w'=>lS w.heap.size X1 X2 e w'/\Below w.heap.size w w':=by
 have i0:(0:Int)<=(p:Int):=by omega
 have i1:(p:Int)<=1000:=by omega
 have i2:(p:Int)<=(ck:Int):=by omega
 have i3:(p:Int)<=(lk:Int):=by omega
 have hw1:Hid (IntKind.i64.wrap ((p:Int)+1)=(p:Int)+1):=Hd (IntWalk.i64_in _ (by omega));have hw2:Hid (IntKind.i64.wrap ((p:Int)+2)=(p:Int)+2):=Hd (IntWalk.i64_in _ (by omega));have i4:(p:Int)+1<=(lk:Int):=by omega
 have i5:(p:Int)<(lk:Int):=by omega
 have i6:(p:Int)<=(cv:Int):=by omega
 go_enter Tryz.func111,Tryz.ntmps111;go_wp2_with fail;refine(WH _).mono ?_;rintro e w2 ⟨rfl,b1⟩;have X1':=kept (han (w.alloc _) _) b1;have Y1':=kept (show((w.alloc (.cells #[true,ak lk ck,av lk cv,ac lc cc] 166)).alloc (.cells #[false,.slice none 0 0,.slice none 0 0,.slice none 0 0] 166)).heap[w.heap.size]?=some (.cells #[true,ak lk ck,av lk cv,ac lc cc] 166) from(hao _ _ (by simp)).trans (han w _)) b1
 have B1:Below w.heap.size w w2:=((Br.alloc (Nat.le_refl _) _).alloc (by simp) _).trans (b1.mono (by simp;omega));rw[show(w.alloc (.cells #[true,ak lk ck,av lk cv,ac lc cc] 166)).heap.size=w.heap.size+1 from by simp] at X1';have lt0:w.heap.size<w2.heap.size:=(zl Y1');have c0':=cl (Y1') 0 rfl;have c1:=cl (Y1') 1 rfl;have c2:=cl (Y1') 2 rfl;have c3:=cl (Y1') 3 rfl;have X:=Hd X1';have B2:=Hd B1;clear b1 X1' Y1' B1;clear WH;go_wp2_with fail
 refine dG 23 48 [eqV (.pointer (some ⟨w.heap.size,1,none⟩)),eqV (.slice ak lk ck),eqV (.int .i64 (p:Int)),eqV (.slice a1 p ck),eqV (.pointer (some ⟨w.heap.size,1,none⟩)),eqV (.slice ak lk ck),eqV (.int .i64 (p:Int)),eqV (.int .i64 ((p:Int)+1)),eqV (.slice a2 (lk-(p+1)) (ck-(p+1))),jF [a1 p ck,.slice a2 (lk-(p+1)) (ck-(p+1))],iV w2.heap.size X1,eqV (.pointer (some ⟨w.heap.size,2,none⟩)),eqV (.slice av lk cv),eqV (.int .i64 (p:Int)),eqV (.slice a3 p cv),eqV (.pointer (some ⟨w.heap.size,2,none⟩)),eqV (.slice av lk cv),eqV (.int .i64 (p:Int)),eqV (.int .i64 ((p:Int)+1)),eqV (.slice a4 (lk-(p+1)) (cv-(p+1))),jF [a3 p cv,.slice a4 (lk-(p+1)) (cv-(p+1))],iV w2.heap.size X2,wJ w2.heap.size X1 X2,mX] (by kernel_rfl) (by kernel_rfl) (by rfl) ?owes ?ends
 case owes=>
  refine Fo 0 (fun a wx hS xo xd K HK=>?_) ?_
  ·have d2:=Fl xo 2
   clear xo xd;go_simp;exact Hr HK
  refine Fo 1 (fun a wx hS xo xd K HK=>?_) ?_
  ·have d25:=Fq xd 0
   clear xo xd;have c0:=hC c1 hS lt0;go_simp;exact Hr HK
  refine Fo 2 (fun a wx hS xo xd K HK=>?_) ?_
  ·have d1:=Fl xo 1
   clear xo xd;go_simp;exact Hr HK
  refine Fo 3 (fun a wx hS xo xd K HK=>?_) ?_
  ·have d26:=Fq xd 1
   have d27:=Fq xd 2;clear xo xd;go_simp;refine HK _ _ ?_ Br
   show _=_
   rw[<-S1.o];simp[sliced,jU,Addr.add]
  refine Fo 4 (fun a wx hS xo xd K HK=>?_) ?_
  ·have d2:=Fl xo 2
   clear xo xd;go_simp;exact Hr HK
  refine Fo 5 (fun a wx hS xo xd K HK=>?_) ?_
  ·have d29:=Fq xd 4
   clear xo xd;have c0:=hC c1 hS lt0;go_simp;exact Hr HK
  refine Fo 6 (fun a wx hS xo xd K HK=>?_) ?_
  ·have d1:=Fl xo 1
   clear xo xd;go_simp;exact Hr HK
  refine Fo 7 (fun a wx hS xo xd K HK=>?_) ?_
  ·have d31:=Fq xd 6
   clear xo xd;go_simp;refine HK _ _ ?_ Br
   show _=_
   first|rfl|rw[hw1.o]
  refine Fo 8 (fun a wx hS xo xd K HK=>?_) ?_
  ·have d30:=Fq xd 5
   have d32:=Fq xd 7;clear xo xd;go_simp;refine HK _ _ ?_ Br
   show _=_
   rw[<-S2.o];simp[sliced,jU,Addr.add]
  refine Fo 9 (fun a wx hS xo xd K HK=>?_) ?_
  ·have d28:=Fq xd 3
   have d33:=Fq xd 8;clear xo xd;go_simp;exact HK _ _ ⟨_,rfl,Rd.made _ _ _⟩ (aB _ _)
  refine Fo 10 (fun a wx hS xo xd K HK=>?_) ?_
  ·obtain⟨a34,d34,r34⟩:=Fr xd 9
   clear xo xd;have CA:=C1 wx a34 (chain B2 hS) r34;clear r34;go_simp;go_wp2_with fail;refine CA.mono ?_;rintro e w9 ⟨⟨v9,rfl,h9⟩,b9⟩;exact HK _ _ (cK h9 hS.size) b9
  refine Fo 11 (fun a wx hS xo xd K HK=>?_) ?_
  ·have d2:=Fl xo 2
   clear xo xd;go_simp;exact Hr HK
  refine Fo 12 (fun a wx hS xo xd K HK=>?_) ?_
  ·have d36:=Fq xd 11
   clear xo xd;have c0:=hC c2 hS lt0;go_simp;exact Hr HK
  refine Fo 13 (fun a wx hS xo xd K HK=>?_) ?_
  ·have d1:=Fl xo 1
   clear xo xd;go_simp;exact Hr HK
  refine Fo 14 (fun a wx hS xo xd K HK=>?_) ?_
  ·have d37:=Fq xd 12
   have d38:=Fq xd 13;clear xo xd;go_simp;refine HK _ _ ?_ Br
   show _=_
   rw[<-S3.o];simp[sliced,jU,Addr.add]
  refine Fo 15 (fun a wx hS xo xd K HK=>?_) ?_
  ·have d2:=Fl xo 2
   clear xo xd;go_simp;exact Hr HK
  refine Fo 16 (fun a wx hS xo xd K HK=>?_) ?_
  ·have d40:=Fq xd 15
   clear xo xd;have c0:=hC c2 hS lt0;go_simp;exact Hr HK
  refine Fo 17 (fun a wx hS xo xd K HK=>?_) ?_
  ·have d1:=Fl xo 1
   clear xo xd;go_simp;exact Hr HK
  refine Fo 18 (fun a wx hS xo xd K HK=>?_) ?_
  ·have d42:=Fq xd 17
   clear xo xd;go_simp;refine HK _ _ ?_ Br
   show _=_
   first|rfl|rw[hw1.o]
  refine Fo 19 (fun a wx hS xo xd K HK=>?_) ?_
  ·have d41:=Fq xd 16
   have d43:=Fq xd 18;clear xo xd;go_simp;refine HK _ _ ?_ Br
   show _=_
   rw[<-S4.o];simp[sliced,jU,Addr.add]
  refine Fo 20 (fun a wx hS xo xd K HK=>?_) ?_
  ·have d39:=Fq xd 14
   have d44:=Fq xd 19;clear xo xd;go_simp;exact HK _ _ ⟨_,rfl,Rd.made _ _ _⟩ (aB _ _)
  refine Fo 21 (fun a wx hS xo xd K HK=>?_) ?_
  ·obtain⟨a45,d45,r45⟩:=Fr xd 20
   clear xo xd;have CA:=C2 wx a45 (chain B2 hS) r45;clear r45;go_simp;go_wp2_with fail;refine CA.mono ?_;rintro e w9 ⟨⟨v9,rfl,h9⟩,b9⟩;exact HK _ _ (cK h9 hS.size) b9
  refine Fo 22 (fun a wx hS xo xd K HK=>?_) ?_
  ·obtain⟨a35,c35,d35,r35,l35,m35,n35⟩:=Fr xd 10
   obtain⟨a46,c46,d46,r46,l46,m46,n46⟩:=Fr xd 21;clear xo xd;go_simp;exact HK _ _ ⟨_,_,_,_,rfl,r35,r46,l35,m35,l46,m46,n35,n46⟩ Br
  refine OwesAll.skip (f:=23) ?_;exact OwesAll.nil
 case ends=>
  intro a wx hS hsz hdf hold hdone;simp only[List.getElem?_toArray,List.getElem?_cons_succ,List.getElem?_cons_zero];intro K hK;have HK:=Hd hK;clear hK;obtain⟨xa,xb,xc,xd,dB,q1,q2,q3,q4,q5,q6,q7,q8⟩:=hdone 22 _ 47 rfl (by decide) rfl;have dR:a.tmps.getD 4 undef=.pointer (some ⟨w.heap.size+1,0,none⟩):=hold 4 (aW (by kernel_rfl));have hdf':a.defers=[]:=hdf;clear hold hdone hsz hdf;rw[Array.getD_eq_getD_getElem?] at dB dR;have XB:=kept X hS;have y0:=cl XB 0 rfl;have y1:=cl XB 1 rfl;have y2:=cl XB 2 rfl;have y3:=cl XB 3 rfl;have f0:=ufb XB 0
  have f1:=ufb XB 1;have f2:=ufb XB 2;have f3:=ufb XB 3;rw[if_pos (by rfl)];go_simp;refine HK _ _ ?_
  have B9:Below w.heap.size w ((((wx.setCell ⟨w.heap.size+1,0,none⟩ (.bool true)).setCell ⟨w.heap.size+1,1,none⟩ (.slice xa X1.length xc)).setCell ⟨w.heap.size+1,2,none⟩ (.slice xb X2.length xd)).setCell ⟨w.heap.size+1,3,none⟩ (.slice none 0 0)):=
   ((((chain B2 hS).setCell (by simp) _).setCell (by simp) _).setCell (by simp) _).setCell (by simp) _
  clear y0 y1 y2 y3 f0 f1 f2 f3 HK K;go_wp2_with fail;have lt1:w.heap.size+1<w2.heap.size:=(zl X.o)
  have FIN:Hid (lS w.heap.size X1 X2 (.returned (.agg #[true,xa X1.length xc,xb X2.length xd,.slice none 0 0])) ((((wx.setCell ⟨w.heap.size+1,0,none⟩ (.bool true)).setCell ⟨w.heap.size+1,1,none⟩ (.slice xa X1.length xc)).setCell ⟨w.heap.size+1,2,none⟩ (.slice xb X2.length xd)).setCell ⟨w.heap.size+1,3,none⟩ (.slice none 0 0))):=
   Hd ⟨_,rfl,xa,xb,xc,xd,rfl,q1.set4 _ _ _ _ _ (fun x hx=>Nat.lt_of_lt_of_le lt1 (q7 x hx)),q2.set4 _ _ _ _ _ (fun x hx=>Nat.lt_of_lt_of_le lt1 (q8 x hx)),q3,q4,q5,q6,fun x hx=>Nat.le_trans (Nat.le_of_lt lt0) (q7 x hx),fun x hx=>Nat.le_trans (Nat.le_of_lt lt0) (q8 x hx)⟩
  have XR:((((wx.setCell ⟨w.heap.size+1,0,none⟩ (.bool true)).setCell ⟨w.heap.size+1,1,none⟩ (.slice xa X1.length xc)).setCell ⟨w.heap.size+1,2,none⟩ (.slice xb X2.length xd)).setCell ⟨w.heap.size+1,3,none⟩ (.slice none 0 0)).heap[w.heap.size+1]?=some (.cells #[true,xa X1.length xc,xb X2.length xd,.slice none 0 0] 166):=by
   rw[hss _ _ 3 _ _ _ (hss _ _ 2 _ _ _ (hss _ _ 1 _ _ _ (hss _ _ 0 _ _ _ XB)))]
   rfl
  generalize ((((wx.setCell ⟨w.heap.size+1,0,none⟩ (.bool true)).setCell ⟨w.heap.size+1,1,none⟩ (.slice xa X1.length xc)).setCell ⟨w.heap.size+1,2,none⟩ (.slice xb X2.length xd)).setCell ⟨w.heap.size+1,3,none⟩ (.slice none 0 0))=wz at *;have z0:=cl XR 0 rfl;have z1:=cl XR 1 rfl;have z2:=cl XR 2 rfl;have z3:=cl XR 3 rfl;exact bodyPost_ret (v:=.agg #[true,xa X1.length xc,xb X2.length xd,.slice none 0 0]) (by simp[results,Tryz.results111,go_sem,dR,z0,z1,z2,z3]) hdf' ⟨FIN.o,B9⟩
theorem EX (ak av ac a1 a2 a3 a4:Option Addr)(ck cv cc lk lv p:Nat)(X1 X2:List Value)(w:World)
  (WH:Hid (∀ w,() 129 #[.agg #[false,ak lk ck,av lv cv,ac (lk+1) cc]] w fun e w'=>e=.returned (.bool true)/\Below w.heap.size w w'))
  (S1:Hid (sliced ak 0 p ck 1=.slice a1 p ck))
  (S2:Hid (sliced ak (p+1) lk ck 1=.slice a2 (lk-(p+1)) (ck-(p+1))))
  (S3:Hid (sliced ac 0 (p+1) cc 1=.slice a3 (p+1) cc))
  (S4:Hid (sliced ac (p+2) (lk+1) cc 1=.slice a4 (lk-(p+1)) (cc-(p+2))))
  (C1:Hid (∀ wx a,Below w.heap.size w wx->Rd wx a [a1 p ck,.slice a2 (lk-(p+1)) (ck-(p+1))]->() 130 #[.slice a 2 2] wx fun e w'=>aZ wx.heap.size 80 X1 e w'/\Below wx.heap.size wx w'))
  (C2:Hid (∀ wx a,Below w.heap.size w wx->Rd wx a [a3 (p+1) cc,.slice a4 (lk-(p+1)) (cc-(p+2))]->() 162 #[.slice a 2 2] wx fun e w'=>aZ wx.heap.size 3 X2 e w'/\Below wx.heap.size wx w'))
  (h1:p+1<=lk)(h4:lk<=ck)(h5:lk+1<=cc)(h6:lk<=1000) :
  () 157 #[.agg #[false,ak lk ck,av lv cv,ac (lk+1) cc],(p:Int)] w fun e w'=>mZ w.heap.size X1 X2 e w'/\Below w.heap.size w w':=by
 have i0:(0:Int)<=(p:Int):=by omega
 have i1:(p:Int)<=1000:=by omega
 have i2:(p:Int)<=(ck:Int):=by omega
 have i3:(p:Int)<=(lk:Int):=by omega
 have hw1:Hid (IntKind.i64.wrap ((p:Int)+1)=(p:Int)+1):=Hd (IntWalk.i64_in _ (by omega));have hw2:Hid (IntKind.i64.wrap ((p:Int)+2)=(p:Int)+2):=Hd (IntWalk.i64_in _ (by omega));have i4:(p:Int)+1<=(lk:Int):=by omega
 have i5:(p:Int)<(lk:Int):=by omega
 have i6:(p:Int)+1<=(cc:Int):=by omega
 have i7:(p:Int)+2<=(lk:Int)+1:=by omega
 go_enter Tryz.func157,Tryz.ntmps157;go_wp2_with fail;refine(WH _).mono ?_;rintro e w2 ⟨rfl,b1⟩;have X1':=kept (han (w.alloc _) _) b1;have Y1':=kept (show((w.alloc (.cells #[false,ak lk ck,av lv cv,ac (lk+1) cc] 166)).alloc (.cells #[false,.slice none 0 0,.slice none 0 0,.slice none 0 0] 166)).heap[w.heap.size]?=some (.cells #[false,ak lk ck,av lv cv,ac (lk+1) cc] 166) from(hao _ _ (by simp)).trans (han w _)) b1
 have B1:Below w.heap.size w w2:=((Br.alloc (Nat.le_refl _) _).alloc (by simp) _).trans (b1.mono (by simp;omega));rw[show(w.alloc (.cells #[false,ak lk ck,av lv cv,ac (lk+1) cc] 166)).heap.size=w.heap.size+1 from by simp] at X1';have lt0:w.heap.size<w2.heap.size:=(zl Y1');have c0':=cl (Y1') 0 rfl;have c1:=cl (Y1') 1 rfl;have c2:=cl (Y1') 2 rfl;have c3:=cl (Y1') 3 rfl;have X:=Hd X1';have B2:=Hd B1;clear b1 X1' Y1' B1;clear WH;go_wp2_with fail
 refine dG 24 48 [eqV (.pointer (some ⟨w.heap.size,1,none⟩)),eqV (.slice ak lk ck),eqV (.int .i64 (p:Int)),eqV (.slice a1 p ck),eqV (.pointer (some ⟨w.heap.size,1,none⟩)),eqV (.slice ak lk ck),eqV (.int .i64 (p:Int)),eqV (.int .i64 ((p:Int)+1)),eqV (.slice a2 (lk-(p+1)) (ck-(p+1))),jF [a1 p ck,.slice a2 (lk-(p+1)) (ck-(p+1))],iV w2.heap.size X1,eqV (.pointer (some ⟨w.heap.size,3,none⟩)),eqV (.slice ac (lk+1) cc),eqV (.int .i64 (p:Int)),eqV (.int .i64 ((p:Int)+1)),eqV (.slice a3 (p+1) cc),eqV (.pointer (some ⟨w.heap.size,3,none⟩)),eqV (.slice ac (lk+1) cc),eqV (.int .i64 (p:Int)),eqV (.int .i64 ((p:Int)+2)),eqV (.slice a4 (lk-(p+1)) (cc-(p+2))),jF [a3 (p+1) cc,.slice a4 (lk-(p+1)) (cc-(p+2))],iV w2.heap.size X2,BK w2.heap.size X1 X2,mX] (by kernel_rfl) (by kernel_rfl) (by rfl) ?owes ?ends
 case owes=>
  refine Fo 0 (fun a wx hS xo xd K HK=>?_) ?_
  ·have d2:=Fl xo 2
   clear xo xd;go_simp;exact Hr HK
  refine Fo 1 (fun a wx hS xo xd K HK=>?_) ?_
  ·have d24:=Fq xd 0
   clear xo xd;have c0:=hC c1 hS lt0;go_simp;exact Hr HK
  refine Fo 2 (fun a wx hS xo xd K HK=>?_) ?_
  ·have d1:=Fl xo 1
   clear xo xd;go_simp;exact Hr HK
  refine Fo 3 (fun a wx hS xo xd K HK=>?_) ?_
  ·have d25:=Fq xd 1
   have d26:=Fq xd 2;clear xo xd;go_simp;refine HK _ _ ?_ Br
   show _=_
   rw[<-S1.o];simp[sliced,jU,Addr.add]
  refine Fo 4 (fun a wx hS xo xd K HK=>?_) ?_
  ·have d2:=Fl xo 2
   clear xo xd;go_simp;exact Hr HK
  refine Fo 5 (fun a wx hS xo xd K HK=>?_) ?_
  ·have d28:=Fq xd 4
   clear xo xd;have c0:=hC c1 hS lt0;go_simp;exact Hr HK
  refine Fo 6 (fun a wx hS xo xd K HK=>?_) ?_
  ·have d1:=Fl xo 1
   clear xo xd;go_simp;exact Hr HK
  refine Fo 7 (fun a wx hS xo xd K HK=>?_) ?_
  ·have d30:=Fq xd 6
   clear xo xd;go_simp;refine HK _ _ ?_ Br
   show _=_
   first|rfl|rw[hw1.o]
  refine Fo 8 (fun a wx hS xo xd K HK=>?_) ?_
  ·have d29:=Fq xd 5
   have d31:=Fq xd 7;clear xo xd;go_simp;refine HK _ _ ?_ Br
   show _=_
   rw[<-S2.o];simp[sliced,jU,Addr.add]
  refine Fo 9 (fun a wx hS xo xd K HK=>?_) ?_
  ·have d27:=Fq xd 3
   have d32:=Fq xd 8;clear xo xd;go_simp;exact HK _ _ ⟨_,rfl,Rd.made _ _ _⟩ (aB _ _)
  refine Fo 10 (fun a wx hS xo xd K HK=>?_) ?_
  ·obtain⟨a33,d33,r33⟩:=Fr xd 9
   clear xo xd;have CA:=C1 wx a33 (chain B2 hS) r33;clear r33;go_simp;go_wp2_with fail;refine CA.mono ?_;rintro e w9 ⟨⟨v9,rfl,h9⟩,b9⟩;exact HK _ _ (cK h9 hS.size) b9
  refine Fo 11 (fun a wx hS xo xd K HK=>?_) ?_
  ·have d2:=Fl xo 2
   clear xo xd;go_simp;exact Hr HK
  refine Fo 12 (fun a wx hS xo xd K HK=>?_) ?_
  ·have d35:=Fq xd 11
   clear xo xd;have c0:=hC c3 hS lt0;go_simp;exact Hr HK
  refine Fo 13 (fun a wx hS xo xd K HK=>?_) ?_
  ·have d1:=Fl xo 1
   clear xo xd;go_simp;exact Hr HK
  refine Fo 14 (fun a wx hS xo xd K HK=>?_) ?_
  ·have d37:=Fq xd 13
   clear xo xd;go_simp;refine HK _ _ ?_ Br
   show _=_
   first|rfl|rw[hw1.o]
  refine Fo 15 (fun a wx hS xo xd K HK=>?_) ?_
  ·have d36:=Fq xd 12
   have d38:=Fq xd 14;clear xo xd;go_simp;refine HK _ _ ?_ Br
   show _=_
   rw[<-S3.o];simp[sliced,jU,Addr.add]
  refine Fo 16 (fun a wx hS xo xd K HK=>?_) ?_
  ·have d2:=Fl xo 2
   clear xo xd;go_simp;exact Hr HK
  refine Fo 17 (fun a wx hS xo xd K HK=>?_) ?_
  ·have d40:=Fq xd 16
   clear xo xd;have c0:=hC c3 hS lt0;go_simp;exact Hr HK
  refine Fo 18 (fun a wx hS xo xd K HK=>?_) ?_
  ·have d1:=Fl xo 1
   clear xo xd;go_simp;exact Hr HK
  refine Fo 19 (fun a wx hS xo xd K HK=>?_) ?_
  ·have d42:=Fq xd 18
   clear xo xd;go_simp;refine HK _ _ ?_ Br
   show _=_
   first|rfl|rw[hw2.o]
  refine Fo 20 (fun a wx hS xo xd K HK=>?_) ?_
  ·have d41:=Fq xd 17
   have d43:=Fq xd 19;clear xo xd;go_simp;refine HK _ _ ?_ Br
   show _=_
   rw[<-S4.o];simp[sliced,jU,Addr.add,show((p:Int)+2).toNat=p+2 from by omega,show ¬ ((p:Int)+2<=0) from by omega]
  refine Fo 21 (fun a wx hS xo xd K HK=>?_) ?_
  ·have d39:=Fq xd 15
   have d44:=Fq xd 20;clear xo xd;go_simp;exact HK _ _ ⟨_,rfl,Rd.made _ _ _⟩ (aB _ _)
  refine Fo 22 (fun a wx hS xo xd K HK=>?_) ?_
  ·obtain⟨a45,d45,r45⟩:=Fr xd 21
   clear xo xd;have CA:=C2 wx a45 (chain B2 hS) r45;clear r45;go_simp;go_wp2_with fail;refine CA.mono ?_;rintro e w9 ⟨⟨v9,rfl,h9⟩,b9⟩;exact HK _ _ (cK h9 hS.size) b9
  refine Fo 23 (fun a wx hS xo xd K HK=>?_) ?_
  ·obtain⟨a34,c34,d34,r34,l34,m34,n34⟩:=Fr xd 10
   obtain⟨a46,c46,d46,r46,l46,m46,n46⟩:=Fr xd 22;clear xo xd;go_simp;exact HK _ _ ⟨_,_,_,_,rfl,r34,r46,l34,m34,l46,m46,n34,n46⟩ Br
  refine OwesAll.skip (f:=24) ?_;exact OwesAll.nil
 case ends=>
  intro a wx hS hsz hdf hold hdone;simp only[List.getElem?_toArray,List.getElem?_cons_succ,List.getElem?_cons_zero];intro K hK;have HK:=Hd hK;clear hK;obtain⟨xa,xb,xc,xd,dB,q1,q2,q3,q4,q5,q6,q7,q8⟩:=hdone 23 _ 47 rfl (by decide) rfl;have dR:a.tmps.getD 4 undef=.pointer (some ⟨w.heap.size+1,0,none⟩):=hold 4 (aW (by kernel_rfl));have hdf':a.defers=[]:=hdf;clear hold hdone hsz hdf;rw[Array.getD_eq_getD_getElem?] at dB dR;have XB:=kept X hS;have y0:=cl XB 0 rfl;have y1:=cl XB 1 rfl;have y2:=cl XB 2 rfl;have y3:=cl XB 3 rfl;have f0:=ufb XB 0
  have f1:=ufb XB 1;have f2:=ufb XB 2;have f3:=ufb XB 3;rw[if_pos (by rfl)];go_simp;refine HK _ _ ?_
  have B9:Below w.heap.size w ((((wx.setCell ⟨w.heap.size+1,0,none⟩ (.bool false)).setCell ⟨w.heap.size+1,1,none⟩ (.slice xa X1.length xc)).setCell ⟨w.heap.size+1,2,none⟩ (.slice none 0 0)).setCell ⟨w.heap.size+1,3,none⟩ (.slice xb X2.length xd)):=
   ((((chain B2 hS).setCell (by simp) _).setCell (by simp) _).setCell (by simp) _).setCell (by simp) _
  clear y0 y1 y2 y3 f0 f1 f2 f3 HK K;go_wp2_with fail;have lt1:w.heap.size+1<w2.heap.size:=(zl X.o)
  have FIN:Hid (mZ w.heap.size X1 X2 (.returned (.agg #[false,xa X1.length xc,.slice none 0 0,xb X2.length xd])) ((((wx.setCell ⟨w.heap.size+1,0,none⟩ (.bool false)).setCell ⟨w.heap.size+1,1,none⟩ (.slice xa X1.length xc)).setCell ⟨w.heap.size+1,2,none⟩ (.slice none 0 0)).setCell ⟨w.heap.size+1,3,none⟩ (.slice xb X2.length xd))):=
   Hd ⟨_,rfl,xa,xb,xc,xd,rfl,q1.set4 _ _ _ _ _ (fun x hx=>Nat.lt_of_lt_of_le lt1 (q7 x hx)),q2.set4 _ _ _ _ _ (fun x hx=>Nat.lt_of_lt_of_le lt1 (q8 x hx)),q3,q4,q5,q6,fun x hx=>Nat.le_trans (Nat.le_of_lt lt0) (q7 x hx),fun x hx=>Nat.le_trans (Nat.le_of_lt lt0) (q8 x hx)⟩
  have XR:((((wx.setCell ⟨w.heap.size+1,0,none⟩ (.bool false)).setCell ⟨w.heap.size+1,1,none⟩ (.slice xa X1.length xc)).setCell ⟨w.heap.size+1,2,none⟩ (.slice none 0 0)).setCell ⟨w.heap.size+1,3,none⟩ (.slice xb X2.length xd)).heap[w.heap.size+1]?=some (.cells #[false,xa X1.length xc,.slice none 0 0,xb X2.length xd] 166):=by
   rw[hss _ _ 3 _ _ _ (hss _ _ 2 _ _ _ (hss _ _ 1 _ _ _ (hss _ _ 0 _ _ _ XB)))]
   rfl
  generalize ((((wx.setCell ⟨w.heap.size+1,0,none⟩ (.bool false)).setCell ⟨w.heap.size+1,1,none⟩ (.slice xa X1.length xc)).setCell ⟨w.heap.size+1,2,none⟩ (.slice none 0 0)).setCell ⟨w.heap.size+1,3,none⟩ (.slice xb X2.length xd))=wz at *;have z0:=cl XR 0 rfl;have z1:=cl XR 1 rfl;have z2:=cl XR 2 rfl;have z3:=cl XR 3 rfl;exact bodyPost_ret (v:=.agg #[false,xa X1.length xc,.slice none 0 0,xb X2.length xd]) (by simp[results,Tryz.results157,go_sem,dR,z0,z1,z2,z3]) hdf' ⟨FIN.o,B9⟩
theorem yZ (ak av ac a1 a2:Option Addr)(ck cv cc lk lv p:Nat)(X1 X2:List Value)(w:World)
  (S1:Hid (sliced ak 0 p ck 1=.slice a1 p ck))
  (S2:Hid (sliced ac 0 (p+1) cc 1=.slice a2 (p+1) cc))
  (C1:Hid (∀ wx a,Below w.heap.size w wx->Rd wx a [a1 p ck]->() 130 #[.slice a 1 1] wx fun e w'=>aZ wx.heap.size 80 X1 e w'/\Below wx.heap.size wx w'))
  (C2:Hid (∀ wx a,Below w.heap.size w wx->Rd wx a [a2 (p+1) cc]->() 162 #[.slice a 1 1] wx fun e w'=>aZ wx.heap.size 3 X2 e w'/\Below wx.heap.size wx w'))
  (h1:p<=lk)(h4:lk<=ck)(h5:lk+1<=cc)(h6:lk<=1000) :
  () 179 #[.agg #[false,ak lk ck,av lv cv,ac (lk+1) cc],(p:Int)] w fun e w'=>mZ w.heap.size X1 X2 e w'/\Below w.heap.size w w':=by
 have i0:(0:Int)<=(p:Int):=by omega
 have i1:(p:Int)<=1000:=by omega
 have i2:(p:Int)<=(ck:Int):=by omega
 have i3:(p:Int)<=(lk:Int):=by omega
 have hw1:Hid (IntKind.i64.wrap ((p:Int)+1)=(p:Int)+1):=Hd (IntWalk.i64_in _ (by omega));have hw2:Hid (IntKind.i64.wrap ((p:Int)+2)=(p:Int)+2):=Hd (IntWalk.i64_in _ (by omega));have i6:(p:Int)+1<=(cc:Int):=by omega
 go_enter Tryz.func179,Tryz.ntmps179;go_wp2_with fail
 have b1:Below ((w.alloc (.cells #[false,ak lk ck,av lv cv,ac (lk+1) cc] 166)).alloc (.cells #[false,.slice none 0 0,.slice none 0 0,.slice none 0 0] 166)).heap.size ((w.alloc (.cells #[false,ak lk ck,av lv cv,ac (lk+1) cc] 166)).alloc (.cells #[false,.slice none 0 0,.slice none 0 0,.slice none 0 0] 166)) ((w.alloc (.cells #[false,ak lk ck,av lv cv,ac (lk+1) cc] 166)).alloc (.cells #[false,.slice none 0 0,.slice none 0 0,.slice none 0 0] 166)):=Br
 obtain⟨w2,hw2⟩:∃ w2,(w.alloc (.cells #[false,ak lk ck,av lv cv,ac (lk+1) cc] 166)).alloc (.cells #[false,.slice none 0 0,.slice none 0 0,.slice none 0 0] 166)=w2:=⟨_,rfl⟩
 rw[hw2];have b1:Below ((w.alloc (.cells #[false,ak lk ck,av lv cv,ac (lk+1) cc] 166)).alloc (.cells #[false,.slice none 0 0,.slice none 0 0,.slice none 0 0] 166)).heap.size ((w.alloc (.cells #[false,ak lk ck,av lv cv,ac (lk+1) cc] 166)).alloc (.cells #[false,.slice none 0 0,.slice none 0 0,.slice none 0 0] 166)) w2:=by rw[hw2];exact Br
 clear hw2;have X1':=kept (han (w.alloc _) _) b1;have Y1':=kept (show((w.alloc (.cells #[false,ak lk ck,av lv cv,ac (lk+1) cc] 166)).alloc (.cells #[false,.slice none 0 0,.slice none 0 0,.slice none 0 0] 166)).heap[w.heap.size]?=some (.cells #[false,ak lk ck,av lv cv,ac (lk+1) cc] 166) from(hao _ _ (by simp)).trans (han w _)) b1;have B1:Below w.heap.size w w2:=((Br.alloc (Nat.le_refl _) _).alloc (by simp) _).trans (b1.mono (by simp;omega))
 rw[show(w.alloc (.cells #[false,ak lk ck,av lv cv,ac (lk+1) cc] 166)).heap.size=w.heap.size+1 from by simp] at X1';have lt0:w.heap.size<w2.heap.size:=(zl Y1');have c0':=cl (Y1') 0 rfl;have c1:=cl (Y1') 1 rfl;have c2:=cl (Y1') 2 rfl;have c3:=cl (Y1') 3 rfl;have X:=Hd X1';have B2:=Hd B1;clear b1 X1' Y1' B1
 refine dG 14 34 [eqV (.pointer (some ⟨w.heap.size,1,none⟩)),eqV (.slice ak lk ck),eqV (.int .i64 (p:Int)),eqV (.slice a1 p ck),jF [a1 p ck],iV w2.heap.size X1,eqV (.pointer (some ⟨w.heap.size,3,none⟩)),eqV (.slice ac (lk+1) cc),eqV (.int .i64 (p:Int)),eqV (.int .i64 ((p:Int)+1)),eqV (.slice a2 (p+1) cc),jF [a2 (p+1) cc],iV w2.heap.size X2,BK w2.heap.size X1 X2,mX] (by kernel_rfl) (by kernel_rfl) (by rfl) ?owes ?ends
 case owes=>
  refine Fo 0 (fun a wx hS xo xd K HK=>?_) ?_
  ·have d2:=Fl xo 2
   clear xo xd;go_simp;exact Hr HK
  refine Fo 1 (fun a wx hS xo xd K HK=>?_) ?_
  ·have d20:=Fq xd 0
   clear xo xd;have c0:=hC c1 hS lt0;go_simp;exact Hr HK
  refine Fo 2 (fun a wx hS xo xd K HK=>?_) ?_
  ·have d1:=Fl xo 1
   clear xo xd;go_simp;exact Hr HK
  refine Fo 3 (fun a wx hS xo xd K HK=>?_) ?_
  ·have d21:=Fq xd 1
   have d22:=Fq xd 2;clear xo xd;go_simp;refine HK _ _ ?_ Br
   show _=_
   rw[<-S1.o];simp[sliced,jU,Addr.add]
  refine Fo 4 (fun a wx hS xo xd K HK=>?_) ?_
  ·have d23:=Fq xd 3
   clear xo xd;go_simp;exact HK _ _ ⟨_,rfl,Rd.made _ _ _⟩ (aB _ _)
  refine Fo 5 (fun a wx hS xo xd K HK=>?_) ?_
  ·obtain⟨a24,d24,r24⟩:=Fr xd 4
   clear xo xd;have CA:=C1 wx a24 (chain B2 hS) r24;clear r24;go_simp;go_wp2_with fail;refine CA.mono ?_;rintro e w9 ⟨⟨v9,rfl,h9⟩,b9⟩;exact HK _ _ (cK h9 hS.size) b9
  refine Fo 6 (fun a wx hS xo xd K HK=>?_) ?_
  ·have d2:=Fl xo 2
   clear xo xd;go_simp;exact Hr HK
  refine Fo 7 (fun a wx hS xo xd K HK=>?_) ?_
  ·have d26:=Fq xd 6
   clear xo xd;have c0:=hC c3 hS lt0;go_simp;exact Hr HK
  refine Fo 8 (fun a wx hS xo xd K HK=>?_) ?_
  ·have d1:=Fl xo 1
   clear xo xd;go_simp;exact Hr HK
  refine Fo 9 (fun a wx hS xo xd K HK=>?_) ?_
  ·have d28:=Fq xd 8
   clear xo xd;go_simp;refine HK _ _ ?_ Br
   show _=_
   first|rfl|rw[hw1.o]
  refine Fo 10 (fun a wx hS xo xd K HK=>?_) ?_
  ·have d27:=Fq xd 7
   have d29:=Fq xd 9;clear xo xd;go_simp;refine HK _ _ ?_ Br
   show _=_
   rw[<-S2.o];simp[sliced,jU,Addr.add]
  refine Fo 11 (fun a wx hS xo xd K HK=>?_) ?_
  ·have d30:=Fq xd 10
   clear xo xd;go_simp;exact HK _ _ ⟨_,rfl,Rd.made _ _ _⟩ (aB _ _)
  refine Fo 12 (fun a wx hS xo xd K HK=>?_) ?_
  ·obtain⟨a31,d31,r31⟩:=Fr xd 11
   clear xo xd;have CA:=C2 wx a31 (chain B2 hS) r31;clear r31;go_simp;go_wp2_with fail;refine CA.mono ?_;rintro e w9 ⟨⟨v9,rfl,h9⟩,b9⟩;exact HK _ _ (cK h9 hS.size) b9
  refine Fo 13 (fun a wx hS xo xd K HK=>?_) ?_
  ·obtain⟨a25,c25,d25,r25,l25,m25,n25⟩:=Fr xd 5
   obtain⟨a32,c32,d32,r32,l32,m32,n32⟩:=Fr xd 12;clear xo xd;go_simp;exact HK _ _ ⟨_,_,_,_,rfl,r25,r32,l25,m25,l32,m32,n25,n32⟩ Br
  refine OwesAll.skip (f:=14) ?_;exact OwesAll.nil
 case ends=>
  intro a wx hS hsz hdf hold hdone;simp only[List.getElem?_toArray,List.getElem?_cons_succ,List.getElem?_cons_zero];intro K hK;have HK:=Hd hK;clear hK;obtain⟨xa,xb,xc,xd,dB,q1,q2,q3,q4,q5,q6,q7,q8⟩:=hdone 13 _ 33 rfl (by decide) rfl;have dR:a.tmps.getD 4 undef=.pointer (some ⟨w.heap.size+1,0,none⟩):=hold 4 (aW (by kernel_rfl));have hdf':a.defers=[]:=hdf;clear hold hdone hsz hdf;rw[Array.getD_eq_getD_getElem?] at dB dR;have XB:=kept X hS;have y0:=cl XB 0 rfl;have y1:=cl XB 1 rfl;have y2:=cl XB 2 rfl;have y3:=cl XB 3 rfl;have f0:=ufb XB 0
  have f1:=ufb XB 1;have f2:=ufb XB 2;have f3:=ufb XB 3;rw[if_pos (by rfl)];go_simp;refine HK _ _ ?_
  have B9:Below w.heap.size w ((((wx.setCell ⟨w.heap.size+1,0,none⟩ (.bool false)).setCell ⟨w.heap.size+1,1,none⟩ (.slice xa X1.length xc)).setCell ⟨w.heap.size+1,2,none⟩ (.slice none 0 0)).setCell ⟨w.heap.size+1,3,none⟩ (.slice xb X2.length xd)):=
   ((((chain B2 hS).setCell (by simp) _).setCell (by simp) _).setCell (by simp) _).setCell (by simp) _
  clear y0 y1 y2 y3 f0 f1 f2 f3 HK K;go_wp2_with fail;have lt1:w.heap.size+1<w2.heap.size:=(zl X.o)
  have FIN:Hid (mZ w.heap.size X1 X2 (.returned (.agg #[false,xa X1.length xc,.slice none 0 0,xb X2.length xd])) ((((wx.setCell ⟨w.heap.size+1,0,none⟩ (.bool false)).setCell ⟨w.heap.size+1,1,none⟩ (.slice xa X1.length xc)).setCell ⟨w.heap.size+1,2,none⟩ (.slice none 0 0)).setCell ⟨w.heap.size+1,3,none⟩ (.slice xb X2.length xd))):=
   Hd ⟨_,rfl,xa,xb,xc,xd,rfl,q1.set4 _ _ _ _ _ (fun x hx=>Nat.lt_of_lt_of_le lt1 (q7 x hx)),q2.set4 _ _ _ _ _ (fun x hx=>Nat.lt_of_lt_of_le lt1 (q8 x hx)),q3,q4,q5,q6,fun x hx=>Nat.le_trans (Nat.le_of_lt lt0) (q7 x hx),fun x hx=>Nat.le_trans (Nat.le_of_lt lt0) (q8 x hx)⟩
  have XR:((((wx.setCell ⟨w.heap.size+1,0,none⟩ (.bool false)).setCell ⟨w.heap.size+1,1,none⟩ (.slice xa X1.length xc)).setCell ⟨w.heap.size+1,2,none⟩ (.slice none 0 0)).setCell ⟨w.heap.size+1,3,none⟩ (.slice xb X2.length xd)).heap[w.heap.size+1]?=some (.cells #[false,xa X1.length xc,.slice none 0 0,xb X2.length xd] 166):=by
   rw[hss _ _ 3 _ _ _ (hss _ _ 2 _ _ _ (hss _ _ 1 _ _ _ (hss _ _ 0 _ _ _ XB)))]
   rfl
  generalize ((((wx.setCell ⟨w.heap.size+1,0,none⟩ (.bool false)).setCell ⟨w.heap.size+1,1,none⟩ (.slice xa X1.length xc)).setCell ⟨w.heap.size+1,2,none⟩ (.slice none 0 0)).setCell ⟨w.heap.size+1,3,none⟩ (.slice xb X2.length xd))=wz at *;have z0:=cl XR 0 rfl;have z1:=cl XR 1 rfl;have z2:=cl XR 2 rfl;have z3:=cl XR 3 rfl;exact bodyPost_ret (v:=.agg #[false,xa X1.length xc,.slice none 0 0,xb X2.length xd]) (by simp[results,Tryz.results179,go_sem,dR,z0,z1,z2,z3]) hdf' ⟨FIN.o,B9⟩
theorem iE:(True->∀ (ak av ac a1 a2:Option Addr) (ck cv cc lk lc p:Nat) (X1 X2:List Value) (w:World)
  (S1:Hid (sliced ak 0 p ck 1=.slice a1 p ck))
  (S2:Hid (sliced av 0 p cv 1=.slice a2 p cv))
  (C1:Hid (∀ wx a,Below w.heap.size w wx->Rd wx a [.slice a1 p ck]->() 130 #[.slice a 1 1] wx fun e w'=>aZ wx.heap.size 80 X1 e w'/\Below wx.heap.size wx w'))
  (C2:Hid (∀ wx a,Below w.heap.size w wx->Rd wx a [.slice a2 p cv]->() 131 #[.slice a 1 1] wx fun e w'=>aZ wx.heap.size 9 X2 e w'/\Below wx.heap.size wx w'))
  (h1:p<=lk) (h4:lk<=ck) (h5:lk<=cv) (h6:lk<=1000),
    () 179 #[.agg #[.bool true,.slice ak lk ck,.slice av lk cv,.slice ac lc cc],.int .i64 (p:Int)] w fun e w'=>lS w.heap.size X1 X2 e w'/\Below w.heap.size w w')/\(∀ (ak av ac a1 a2:Option Addr) (ck cv cc lk lc p:Nat) (X1 X2:List Value) (w:World)
  (S1:Hid (sliced ak p lk ck 1=.slice a1 (lk-p) (ck-p)))
  (S2:Hid (sliced av p lk cv 1=.slice a2 (lk-p) (cv-p)))
  (C1:Hid (∀ wx a,Below w.heap.size w wx->Rd wx a [.slice a1 (lk-p) (ck-p)]->() 130 #[.slice a 1 1] wx fun e w'=>aZ wx.heap.size 80 X1 e w'/\Below wx.heap.size wx w'))
  (C2:Hid (∀ wx a,Below w.heap.size w wx->Rd wx a [.slice a2 (lk-p) (cv-p)]->() 131 #[.slice a 1 1] wx fun e w'=>aZ wx.heap.size 9 X2 e w'/\Below wx.heap.size wx w'))
  (h1:p<=lk) (h4:lk<=ck) (h5:lk<=cv) (h6:lk<=1000),
    () 180 #[.agg #[.bool true,.slice ak lk ck,.slice av lk cv,.slice ac lc cc],.int .i64 (p:Int)] w fun e w'=>lS w.heap.size X1 X2 e w'/\Below w.heap.size w w'):=by
  constructor
  all_goals first|intro(mk:True) ak av ac a1 a2 ck cv cc lk lc p X1 X2 w S1 S2 C1 C2 h1 h4 h5 h6|intro ak av ac a1 a2 ck cv cc lk lc p X1 X2 w S1 S2 C1 C2 h1 h4 h5 h6
  all_goals
   have i0:(0:Int)<=(p:Int):=by omega
   have i1:(p:Int)<=1000:=by omega
   have i2:(p:Int)<=(ck:Int):=by omega
   have i3:(p:Int)<=(lk:Int):=by omega
   have hw1:Hid (IntKind.i64.wrap ((p:Int)+1)=(p:Int)+1):=Hd (IntWalk.i64_in _ (by omega));have hw2:Hid (IntKind.i64.wrap ((p:Int)+2)=(p:Int)+2):=Hd (IntWalk.i64_in _ (by omega));have i6:(p:Int)<=(cv:Int):=by omega
   first
   | (guard_hyp mk:True;go_enter Tryz.func179,Tryz.ntmps179;go_wp2_with fail)
   | (go_enter Tryz.func180,Tryz.ntmps180;go_wp2_with fail)
   have b1:Below ((w.alloc (.cells #[.bool true,.slice ak lk ck,.slice av lk cv,.slice ac lc cc] 166)).alloc (.cells #[.bool false,.slice none 0 0,.slice none 0 0,.slice none 0 0] 166)).heap.size ((w.alloc (.cells #[.bool true,.slice ak lk ck,.slice av lk cv,.slice ac lc cc] 166)).alloc (.cells #[.bool false,.slice none 0 0,.slice none 0 0,.slice none 0 0] 166)) ((w.alloc (.cells #[.bool true,.slice ak lk ck,.slice av lk cv,.slice ac lc cc] 166)).alloc (.cells #[.bool false,.slice none 0 0,.slice none 0 0,.slice none 0 0] 166)):=Br
   obtain⟨w2,hw2⟩:∃ w2,(w.alloc (.cells #[.bool true,.slice ak lk ck,.slice av lk cv,.slice ac lc cc] 166)).alloc (.cells #[.bool false,.slice none 0 0,.slice none 0 0,.slice none 0 0] 166)=w2:=⟨_,rfl⟩
   rw[hw2];have b1:Below ((w.alloc (.cells #[.bool true,.slice ak lk ck,.slice av lk cv,.slice ac lc cc] 166)).alloc (.cells #[.bool false,.slice none 0 0,.slice none 0 0,.slice none 0 0] 166)).heap.size ((w.alloc (.cells #[.bool true,.slice ak lk ck,.slice av lk cv,.slice ac lc cc] 166)).alloc (.cells #[.bool false,.slice none 0 0,.slice none 0 0,.slice none 0 0] 166)) w2:=by rw[hw2];exact Br
   clear hw2;have X1':=kept (han (w.alloc _) _) b1;have Y1':=kept (show((w.alloc (.cells #[.bool true,.slice ak lk ck,.slice av lk cv,.slice ac lc cc] 166)).alloc (.cells #[.bool false,.slice none 0 0,.slice none 0 0,.slice none 0 0] 166)).heap[w.heap.size]?=some (.cells #[.bool true,.slice ak lk ck,.slice av lk cv,.slice ac lc cc] 166) from(hao _ _ (by simp)).trans (han w _)) b1;have B1:Below w.heap.size w w2:=((Br.alloc (Nat.le_refl _) _).alloc (by simp) _).trans (b1.mono (by simp;omega))
   rw[show(w.alloc (.cells #[.bool true,.slice ak lk ck,.slice av lk cv,.slice ac lc cc] 166)).heap.size=w.heap.size+1 from by simp] at X1';have lt0:w.heap.size<w2.heap.size:=(zl Y1');have c0':=cl (Y1') 0 rfl;have c1:=cl (Y1') 1 rfl;have c2:=cl (Y1') 2 rfl;have c3:=cl (Y1') 3 rfl;have X:=Hd X1';have B2:=Hd B1;clear b1 X1' Y1' B1
   first
   | (guard_hyp mk:True;refine dG 13 34 [eqV (.pointer (some ⟨w.heap.size,1,none⟩)),eqV (.slice ak lk ck),eqV (.int .i64 (p:Int)),eqV (.slice a1 p ck),jF [.slice a1 p ck],iV w2.heap.size X1,eqV (.pointer (some ⟨w.heap.size,2,none⟩)),eqV (.slice av lk cv),eqV (.int .i64 (p:Int)),eqV (.slice a2 p cv),jF [.slice a2 p cv],iV w2.heap.size X2,wJ w2.heap.size X1 X2,mX] (by kernel_rfl) (by kernel_rfl) (by rfl) ?owes ?ends)
   | (refine dG 13 35 [eqV (.pointer (some ⟨w.heap.size,1,none⟩)),eqV (.slice ak lk ck),eqV (.int .i64 (p:Int)),eqV (.slice a1 (lk-p) (ck-p)),jF [.slice a1 (lk-p) (ck-p)],iV w2.heap.size X1,eqV (.pointer (some ⟨w.heap.size,2,none⟩)),eqV (.slice av lk cv),eqV (.int .i64 (p:Int)),eqV (.slice a2 (lk-p) (cv-p)),jF [.slice a2 (lk-p) (cv-p)],iV w2.heap.size X2,wJ w2.heap.size X1 X2,mX] (by kernel_rfl) (by kernel_rfl) (by rfl) ?owes ?ends)
   case owes=>
    refine Fo 0 (fun a wx hS xo xd K HK=>?_) ?_
    ·have d2:=Fl xo 2
     clear xo xd;go_simp;exact Hr HK
    refine Fo 1 (fun a wx hS xo xd K HK=>?_) ?_
    ·have d7:=Fq xd 0
     clear xo xd;have c0:=hC c1 hS lt0;go_simp;exact Hr HK
    refine Fo 2 (fun a wx hS xo xd K HK=>?_) ?_
    ·have d1:=Fl xo 1
     clear xo xd;go_simp;exact Hr HK
    refine Fo 3 (fun a wx hS xo xd K HK=>?_) ?_
    ·have d8:=Fq xd 1
     have d9:=Fq xd 2;clear xo xd;go_simp;refine HK _ _ ?_ Br
     show _=_
     rw[<-S1.o];simp[sliced,jU,Addr.add]
    refine Fo 4 (fun a wx hS xo xd K HK=>?_) ?_
    ·have d10:=Fq xd 3
     clear xo xd;go_simp;exact HK _ _ ⟨_,rfl,Rd.made _ _ _⟩ (aB _ _)
    refine Fo 5 (fun a wx hS xo xd K HK=>?_) ?_
    ·obtain⟨a11,d11,r11⟩:=Fr xd 4
     clear xo xd;have CA:=C1 wx a11 (chain B2 hS) r11;clear r11;go_simp;go_wp2_with fail;refine CA.mono ?_;rintro e w9 ⟨⟨v9,rfl,h9⟩,b9⟩;exact HK _ _ (cK h9 hS.size) b9
    refine Fo 6 (fun a wx hS xo xd K HK=>?_) ?_
    ·have d2:=Fl xo 2
     clear xo xd;go_simp;exact Hr HK
    refine Fo 7 (fun a wx hS xo xd K HK=>?_) ?_
    ·have d13:=Fq xd 6
     clear xo xd;have c0:=hC c2 hS lt0;go_simp;exact Hr HK
    refine Fo 8 (fun a wx hS xo xd K HK=>?_) ?_
    ·have d1:=Fl xo 1
     clear xo xd;go_simp;exact Hr HK
    refine Fo 9 (fun a wx hS xo xd K HK=>?_) ?_
    ·have d14:=Fq xd 7
     have d15:=Fq xd 8;clear xo xd;go_simp;refine HK _ _ ?_ Br
     show _=_
     rw[<-S2.o];simp[sliced,jU,Addr.add]
    refine Fo 10 (fun a wx hS xo xd K HK=>?_) ?_
    ·have d16:=Fq xd 9
     clear xo xd;go_simp;exact HK _ _ ⟨_,rfl,Rd.made _ _ _⟩ (aB _ _)
    refine Fo 11 (fun a wx hS xo xd K HK=>?_) ?_
    ·obtain⟨a17,d17,r17⟩:=Fr xd 10
     clear xo xd;have CA:=C2 wx a17 (chain B2 hS) r17;clear r17;go_simp;go_wp2_with fail;refine CA.mono ?_;rintro e w9 ⟨⟨v9,rfl,h9⟩,b9⟩;exact HK _ _ (cK h9 hS.size) b9
    refine Fo 12 (fun a wx hS xo xd K HK=>?_) ?_
    ·obtain⟨a12,c12,d12,r12,l12,m12,n12⟩:=Fr xd 5
     obtain⟨a18,c18,d18,r18,l18,m18,n18⟩:=Fr xd 11;clear xo xd;go_simp;exact HK _ _ ⟨_,_,_,_,rfl,r12,r18,l12,m12,l18,m18,n12,n18⟩ Br
    refine OwesAll.skip (f:=13) ?_;exact OwesAll.nil
   case ends=>
    intro a wx hS hsz hdf hold hdone;simp only[List.getElem?_toArray,List.getElem?_cons_succ,List.getElem?_cons_zero];intro K hK;have HK:=Hd hK;clear hK;obtain⟨xa,xb,xc,xd,dB,q1,q2,q3,q4,q5,q6,q7,q8⟩:=hdone 12 _ 19 rfl (by decide) rfl;have dR:a.tmps.getD 4 undef=.pointer (some ⟨w.heap.size+1,0,none⟩):=hold 4 (aW (by kernel_rfl));have hdf':a.defers=[]:=hdf;clear hold hdone hsz hdf;rw[Array.getD_eq_getD_getElem?] at dB dR;have XB:=kept X hS;have y0:=cl XB 0 rfl;have y1:=cl XB 1 rfl;have y2:=cl XB 2 rfl;have y3:=cl XB 3 rfl;have f0:=ufb XB 0
    have f1:=ufb XB 1;have f2:=ufb XB 2;have f3:=ufb XB 3;rw[if_pos (by rfl)];go_simp;refine HK _ _ ?_
    have B9:Below w.heap.size w ((((wx.setCell ⟨w.heap.size+1,0,none⟩ (.bool true)).setCell ⟨w.heap.size+1,1,none⟩ (.slice xa X1.length xc)).setCell ⟨w.heap.size+1,2,none⟩ (.slice xb X2.length xd)).setCell ⟨w.heap.size+1,3,none⟩ (.slice none 0 0)):=
     ((((chain B2 hS).setCell (by simp) _).setCell (by simp) _).setCell (by simp) _).setCell (by simp) _
    clear y0 y1 y2 y3 f0 f1 f2 f3 HK K;go_wp2_with fail;have lt1:w.heap.size+1<w2.heap.size:=(zl X.o)
    have FIN:Hid (lS w.heap.size X1 X2 (.returned (.agg #[.bool true,.slice xa X1.length xc,.slice xb X2.length xd,.slice none 0 0])) ((((wx.setCell ⟨w.heap.size+1,0,none⟩ (.bool true)).setCell ⟨w.heap.size+1,1,none⟩ (.slice xa X1.length xc)).setCell ⟨w.heap.size+1,2,none⟩ (.slice xb X2.length xd)).setCell ⟨w.heap.size+1,3,none⟩ (.slice none 0 0))):=
     Hd ⟨_,rfl,xa,xb,xc,xd,rfl,q1.set4 _ _ _ _ _ (fun x hx=>Nat.lt_of_lt_of_le lt1 (q7 x hx)),q2.set4 _ _ _ _ _ (fun x hx=>Nat.lt_of_lt_of_le lt1 (q8 x hx)),q3,q4,q5,q6,fun x hx=>Nat.le_trans (Nat.le_of_lt lt0) (q7 x hx),fun x hx=>Nat.le_trans (Nat.le_of_lt lt0) (q8 x hx)⟩
    have XR:((((wx.setCell ⟨w.heap.size+1,0,none⟩ (.bool true)).setCell ⟨w.heap.size+1,1,none⟩ (.slice xa X1.length xc)).setCell ⟨w.heap.size+1,2,none⟩ (.slice xb X2.length xd)).setCell ⟨w.heap.size+1,3,none⟩ (.slice none 0 0)).heap[w.heap.size+1]?=some (.cells #[.bool true,.slice xa X1.length xc,.slice xb X2.length xd,.slice none 0 0] 166):=by
     rw[hss _ _ 3 _ _ _ (hss _ _ 2 _ _ _ (hss _ _ 1 _ _ _ (hss _ _ 0 _ _ _ XB)))]
     rfl
    first
    | (guard_hyp mk:True;generalize ((((wx.setCell ⟨w.heap.size+1,0,none⟩ (.bool true)).setCell ⟨w.heap.size+1,1,none⟩ (.slice xa X1.length xc)).setCell ⟨w.heap.size+1,2,none⟩ (.slice xb X2.length xd)).setCell ⟨w.heap.size+1,3,none⟩ (.slice none 0 0))=wz at *;have z0:=cl XR 0 rfl;have z1:=cl XR 1 rfl;have z2:=cl XR 2 rfl;have z3:=cl XR 3 rfl;exact bodyPost_ret (v:=.agg #[.bool true,.slice xa X1.length xc,.slice xb X2.length xd,.slice none 0 0]) (by simp[results,Tryz.results179,go_sem,dR,z0,z1,z2,z3]) hdf' ⟨FIN.o,B9⟩)
    | (generalize ((((wx.setCell ⟨w.heap.size+1,0,none⟩ (.bool true)).setCell ⟨w.heap.size+1,1,none⟩ (.slice xa X1.length xc)).setCell ⟨w.heap.size+1,2,none⟩ (.slice xb X2.length xd)).setCell ⟨w.heap.size+1,3,none⟩ (.slice none 0 0))=wz at *;have z0:=cl XR 0 rfl;have z1:=cl XR 1 rfl;have z2:=cl XR 2 rfl;have z3:=cl XR 3 rfl;exact bodyPost_ret (v:=.agg #[.bool true,.slice xa X1.length xc,.slice xb X2.length xd,.slice none 0 0]) (by simp[results,Tryz.results180,go_sem,dR,z0,z1,z2,z3]) hdf' ⟨FIN.o,B9⟩)
set_option linter.defProp false in
def KE:=iE.1 trivial
set_option linter.defProp false in
def DW:=iE.2
theorem uX (ak av ac a1 a2:Option Addr)(ck cv cc lk lv p:Nat)(X1 X2:List Value)(w:World)
  (S1:Hid (sliced ak (p+1) lk ck 1=.slice a1 (lk-(p+1)) (ck-(p+1))))
  (S2:Hid (sliced ac (p+1) (lk+1) cc 1=.slice a2 (lk-p) (cc-(p+1))))
  (C1:Hid (∀ wx a,Below w.heap.size w wx->Rd wx a [.slice a1 (lk-(p+1)) (ck-(p+1))]->() 130 #[.slice a 1 1] wx fun e w'=>aZ wx.heap.size 80 X1 e w'/\Below wx.heap.size wx w'))
  (C2:Hid (∀ wx a,Below w.heap.size w wx->Rd wx a [.slice a2 (lk-p) (cc-(p+1))]->() 162 #[.slice a 1 1] wx fun e w'=>aZ wx.heap.size 3 X2 e w'/\Below wx.heap.size wx w'))
  (h1:p+1<=lk)(h4:lk<=ck)(h5:lk+1<=cc)(h6:lk<=1000) :
  () 180 #[.agg #[false,ak lk ck,av lv cv,ac (lk+1) cc],(p:Int)] w fun e w'=>mZ w.heap.size X1 X2 e w'/\Below w.heap.size w w':=by
 have i0:(0:Int)<=(p:Int):=by omega
 have i1:(p:Int)<=1000:=by omega
 have i2:(p:Int)<=(ck:Int):=by omega
 have i3:(p:Int)<=(lk:Int):=by omega
 have hw1:Hid (IntKind.i64.wrap ((p:Int)+1)=(p:Int)+1):=Hd (IntWalk.i64_in _ (by omega));have hw2:Hid (IntKind.i64.wrap ((p:Int)+2)=(p:Int)+2):=Hd (IntWalk.i64_in _ (by omega));have i4:(p:Int)+1<=(lk:Int):=by omega
 have i6:(p:Int)+1<=(cc:Int):=by omega
 have i7:(p:Int)+1<=(lk:Int)+1:=by omega
 go_enter Tryz.func180,Tryz.ntmps180;go_wp2_with fail
 have b1:Below ((w.alloc (.cells #[false,ak lk ck,av lv cv,ac (lk+1) cc] 166)).alloc (.cells #[false,.slice none 0 0,.slice none 0 0,.slice none 0 0] 166)).heap.size ((w.alloc (.cells #[false,ak lk ck,av lv cv,ac (lk+1) cc] 166)).alloc (.cells #[false,.slice none 0 0,.slice none 0 0,.slice none 0 0] 166)) ((w.alloc (.cells #[false,ak lk ck,av lv cv,ac (lk+1) cc] 166)).alloc (.cells #[false,.slice none 0 0,.slice none 0 0,.slice none 0 0] 166)):=Br
 obtain⟨w2,hw2⟩:∃ w2,(w.alloc (.cells #[false,ak lk ck,av lv cv,ac (lk+1) cc] 166)).alloc (.cells #[false,.slice none 0 0,.slice none 0 0,.slice none 0 0] 166)=w2:=⟨_,rfl⟩
 rw[hw2];have b1:Below ((w.alloc (.cells #[false,ak lk ck,av lv cv,ac (lk+1) cc] 166)).alloc (.cells #[false,.slice none 0 0,.slice none 0 0,.slice none 0 0] 166)).heap.size ((w.alloc (.cells #[false,ak lk ck,av lv cv,ac (lk+1) cc] 166)).alloc (.cells #[false,.slice none 0 0,.slice none 0 0,.slice none 0 0] 166)) w2:=by rw[hw2];exact Br
 clear hw2;have X1':=kept (han (w.alloc _) _) b1;have Y1':=kept (show((w.alloc (.cells #[false,ak lk ck,av lv cv,ac (lk+1) cc] 166)).alloc (.cells #[false,.slice none 0 0,.slice none 0 0,.slice none 0 0] 166)).heap[w.heap.size]?=some (.cells #[false,ak lk ck,av lv cv,ac (lk+1) cc] 166) from(hao _ _ (by simp)).trans (han w _)) b1;have B1:Below w.heap.size w w2:=((Br.alloc (Nat.le_refl _) _).alloc (by simp) _).trans (b1.mono (by simp;omega))
 rw[show(w.alloc (.cells #[false,ak lk ck,av lv cv,ac (lk+1) cc] 166)).heap.size=w.heap.size+1 from by simp] at X1';have lt0:w.heap.size<w2.heap.size:=(zl Y1');have c0':=cl (Y1') 0 rfl;have c1:=cl (Y1') 1 rfl;have c2:=cl (Y1') 2 rfl;have c3:=cl (Y1') 3 rfl;have X:=Hd X1';have B2:=Hd B1;clear b1 X1' Y1' B1
 refine dG 15 35 [eqV (.pointer (some ⟨w.heap.size,1,none⟩)),eqV (.slice ak lk ck),eqV (.int .i64 (p:Int)),eqV (.int .i64 ((p:Int)+1)),eqV (.slice a1 (lk-(p+1)) (ck-(p+1))),jF [.slice a1 (lk-(p+1)) (ck-(p+1))],iV w2.heap.size X1,eqV (.pointer (some ⟨w.heap.size,3,none⟩)),eqV (.slice ac (lk+1) cc),eqV (.int .i64 (p:Int)),eqV (.int .i64 ((p:Int)+1)),eqV (.slice a2 (lk-p) (cc-(p+1))),jF [.slice a2 (lk-p) (cc-(p+1))],iV w2.heap.size X2,BK w2.heap.size X1 X2,mX] (by kernel_rfl) (by kernel_rfl) (by rfl) ?owes ?ends
 case owes=>
  refine Fo 0 (fun a wx hS xo xd K HK=>?_) ?_
  ·have d2:=Fl xo 2
   clear xo xd;go_simp;exact Hr HK
  refine Fo 1 (fun a wx hS xo xd K HK=>?_) ?_
  ·have d20:=Fq xd 0
   clear xo xd;have c0:=hC c1 hS lt0;go_simp;exact Hr HK
  refine Fo 2 (fun a wx hS xo xd K HK=>?_) ?_
  ·have d1:=Fl xo 1
   clear xo xd;go_simp;exact Hr HK
  refine Fo 3 (fun a wx hS xo xd K HK=>?_) ?_
  ·have d22:=Fq xd 2
   clear xo xd;go_simp;refine HK _ _ ?_ Br
   show _=_
   first|rfl|rw[hw1.o]
  refine Fo 4 (fun a wx hS xo xd K HK=>?_) ?_
  ·have d21:=Fq xd 1
   have d23:=Fq xd 3;clear xo xd;go_simp;refine HK _ _ ?_ Br
   show _=_
   rw[<-S1.o];simp[sliced,jU,Addr.add]
  refine Fo 5 (fun a wx hS xo xd K HK=>?_) ?_
  ·have d24:=Fq xd 4
   clear xo xd;go_simp;exact HK _ _ ⟨_,rfl,Rd.made _ _ _⟩ (aB _ _)
  refine Fo 6 (fun a wx hS xo xd K HK=>?_) ?_
  ·obtain⟨a25,d25,r25⟩:=Fr xd 5
   clear xo xd;have CA:=C1 wx a25 (chain B2 hS) r25;clear r25;go_simp;go_wp2_with fail;refine CA.mono ?_;rintro e w9 ⟨⟨v9,rfl,h9⟩,b9⟩;exact HK _ _ (cK h9 hS.size) b9
  refine Fo 7 (fun a wx hS xo xd K HK=>?_) ?_
  ·have d2:=Fl xo 2
   clear xo xd;go_simp;exact Hr HK
  refine Fo 8 (fun a wx hS xo xd K HK=>?_) ?_
  ·have d27:=Fq xd 7
   clear xo xd;have c0:=hC c3 hS lt0;go_simp;exact Hr HK
  refine Fo 9 (fun a wx hS xo xd K HK=>?_) ?_
  ·have d1:=Fl xo 1
   clear xo xd;go_simp;exact Hr HK
  refine Fo 10 (fun a wx hS xo xd K HK=>?_) ?_
  ·have d29:=Fq xd 9
   clear xo xd;go_simp;refine HK _ _ ?_ Br
   show _=_
   first|rfl|rw[hw1.o]
  refine Fo 11 (fun a wx hS xo xd K HK=>?_) ?_
  ·have d28:=Fq xd 8
   have d30:=Fq xd 10;clear xo xd;go_simp;refine HK _ _ ?_ Br
   show _=_
   rw[<-S2.o];simp[sliced,jU,Addr.add]
  refine Fo 12 (fun a wx hS xo xd K HK=>?_) ?_
  ·have d31:=Fq xd 11
   clear xo xd;go_simp;exact HK _ _ ⟨_,rfl,Rd.made _ _ _⟩ (aB _ _)
  refine Fo 13 (fun a wx hS xo xd K HK=>?_) ?_
  ·obtain⟨a32,d32,r32⟩:=Fr xd 12
   clear xo xd;have CA:=C2 wx a32 (chain B2 hS) r32;clear r32;go_simp;go_wp2_with fail;refine CA.mono ?_;rintro e w9 ⟨⟨v9,rfl,h9⟩,b9⟩;exact HK _ _ (cK h9 hS.size) b9
  refine Fo 14 (fun a wx hS xo xd K HK=>?_) ?_
  ·obtain⟨a26,c26,d26,r26,l26,m26,n26⟩:=Fr xd 6
   obtain⟨a33,c33,d33,r33,l33,m33,n33⟩:=Fr xd 13;clear xo xd;go_simp;exact HK _ _ ⟨_,_,_,_,rfl,r26,r33,l26,m26,l33,m33,n26,n33⟩ Br
  refine OwesAll.skip (f:=15) ?_;exact OwesAll.nil
 case ends=>
  intro a wx hS hsz hdf hold hdone;simp only[List.getElem?_toArray,List.getElem?_cons_succ,List.getElem?_cons_zero];intro K hK;have HK:=Hd hK;clear hK;obtain⟨xa,xb,xc,xd,dB,q1,q2,q3,q4,q5,q6,q7,q8⟩:=hdone 14 _ 34 rfl (by decide) rfl;have dR:a.tmps.getD 4 undef=.pointer (some ⟨w.heap.size+1,0,none⟩):=hold 4 (aW (by kernel_rfl));have hdf':a.defers=[]:=hdf;clear hold hdone hsz hdf;rw[Array.getD_eq_getD_getElem?] at dB dR;have XB:=kept X hS;have y0:=cl XB 0 rfl;have y1:=cl XB 1 rfl;have y2:=cl XB 2 rfl;have y3:=cl XB 3 rfl;have f0:=ufb XB 0
  have f1:=ufb XB 1;have f2:=ufb XB 2;have f3:=ufb XB 3;rw[if_pos (by rfl)];go_simp;refine HK _ _ ?_
  have B9:Below w.heap.size w ((((wx.setCell ⟨w.heap.size+1,0,none⟩ (.bool false)).setCell ⟨w.heap.size+1,1,none⟩ (.slice xa X1.length xc)).setCell ⟨w.heap.size+1,2,none⟩ (.slice none 0 0)).setCell ⟨w.heap.size+1,3,none⟩ (.slice xb X2.length xd)):=
   ((((chain B2 hS).setCell (by simp) _).setCell (by simp) _).setCell (by simp) _).setCell (by simp) _
  clear y0 y1 y2 y3 f0 f1 f2 f3 HK K;go_wp2_with fail;have lt1:w.heap.size+1<w2.heap.size:=(zl X.o)
  have FIN:Hid (mZ w.heap.size X1 X2 (.returned (.agg #[false,xa X1.length xc,.slice none 0 0,xb X2.length xd])) ((((wx.setCell ⟨w.heap.size+1,0,none⟩ (.bool false)).setCell ⟨w.heap.size+1,1,none⟩ (.slice xa X1.length xc)).setCell ⟨w.heap.size+1,2,none⟩ (.slice none 0 0)).setCell ⟨w.heap.size+1,3,none⟩ (.slice xb X2.length xd))):=
   Hd ⟨_,rfl,xa,xb,xc,xd,rfl,q1.set4 _ _ _ _ _ (fun x hx=>Nat.lt_of_lt_of_le lt1 (q7 x hx)),q2.set4 _ _ _ _ _ (fun x hx=>Nat.lt_of_lt_of_le lt1 (q8 x hx)),q3,q4,q5,q6,fun x hx=>Nat.le_trans (Nat.le_of_lt lt0) (q7 x hx),fun x hx=>Nat.le_trans (Nat.le_of_lt lt0) (q8 x hx)⟩
  have XR:((((wx.setCell ⟨w.heap.size+1,0,none⟩ (.bool false)).setCell ⟨w.heap.size+1,1,none⟩ (.slice xa X1.length xc)).setCell ⟨w.heap.size+1,2,none⟩ (.slice none 0 0)).setCell ⟨w.heap.size+1,3,none⟩ (.slice xb X2.length xd)).heap[w.heap.size+1]?=some (.cells #[false,xa X1.length xc,.slice none 0 0,xb X2.length xd] 166):=by
   rw[hss _ _ 3 _ _ _ (hss _ _ 2 _ _ _ (hss _ _ 1 _ _ _ (hss _ _ 0 _ _ _ XB)))]
   rfl
  generalize ((((wx.setCell ⟨w.heap.size+1,0,none⟩ (.bool false)).setCell ⟨w.heap.size+1,1,none⟩ (.slice xa X1.length xc)).setCell ⟨w.heap.size+1,2,none⟩ (.slice none 0 0)).setCell ⟨w.heap.size+1,3,none⟩ (.slice xb X2.length xd))=wz at *;have z0:=cl XR 0 rfl;have z1:=cl XR 1 rfl;have z2:=cl XR 2 rfl;have z3:=cl XR 3 rfl;exact bodyPost_ret (v:=.agg #[false,xa X1.length xc,.slice none 0 0,xb X2.length xd]) (by simp[results,Tryz.results180,go_sem,dR,z0,z1,z2,z3]) hdf' ⟨FIN.o,B9⟩
def fG (lo:Nat)(n:Nod)(e:Ending)(w':World):Prop:=∃ ak av ac ck cv cc,e=.returned (aJ n ak av ac ck cv cc)/\NodR w' n ak av ac ck cv cc/\(∀ x,ak=some x->lo<=x.block)/\(∀ x,av=some x->lo<=x.block)/\∀ x,ac=some x->lo<=x.block
theorem aBI (n:Nod)(key:Int)(v:ByteArray)(ho:dD n)(hn:n.K.length<=900)(hm:n.V.length<=900)(hkb:0<=key/\key<=18446744073709551615)(hvb:v.size<=140737488351232):dD (fN n key v):=by
 unfold fN
 split
 ·refine⟨?_,?_,by simp,?_,?_,by simp⟩
  ·simp only[List.length_append,List.length_take,List.length_drop,List.length_cons,List.length_nil];omega
  ·simp only[List.length_append,List.length_take,List.length_drop,List.length_cons,List.length_nil];omega
  ·intro x hx
   simp only[List.mem_append,List.mem_cons,List.not_mem_nil,or_false] at hx
   rcases hx with(hx|hx)|hx
   ·exact ho.kb x (List.mem_of_mem_take hx)
   ·rw[hx];exact hkb
   ·exact ho.kb x (List.mem_of_mem_drop hx)
  ·intro x hx
   simp only[List.mem_append,List.mem_cons,List.not_mem_nil,or_false] at hx
   rcases hx with(hx|hx)|hx
   ·exact ho.vb x (List.mem_of_mem_take hx)
   ·rw[hx];exact hvb
   ·exact ho.vb x (List.mem_of_mem_drop hx)
 ·exact ho
theorem WA (n:Nod)(ak av ac:Option Addr)(ck cv cc:Nat)(w:World)(h:NodR w n ak av ac ck cv cc)(key:Int)(v:ByteArray)(hl:n.leaf=true)(hw:bH n=true)(hn:n.K.length<=900)(hkb:0<=key/\key<=18446744073709551615)(hvb:v.size<=140737488351232) :
  () 137 #[aJ n ak av ac ck cv cc,.int .u64 key,v] w fun e w'=>fG w.heap.size (fN n key v) e w'/\Below w.heap.size w w':=by
 have hwl:=(bG hl).1 hw;have hok:=aBI n key v h.ok hn (by omega) hkb hvb;obtain⟨⟨p,ok⟩,hp⟩:∃ po,bX n key=po:=⟨_,rfl⟩
 have hple:=uA n key;have hplt:=tZ n key;rw[hp] at hple hplt
 have hput:fN n key v={ leaf:=true,K:=n.K.take p++[key]++n.K.drop (p+(if ok then 1 else 0)),V:=n.V.take p++[v]++n.V.drop (p+(if ok then 1 else 0)),C:=[] }:=by
  unfold fN;rw[if_pos (by rw[hl,hw];rfl),hp]
 have hqle:p+(if ok then 1 else 0)<=n.K.length:=by
  cases ok
  ·simpa using hple
  ·have:=hplt rfl hl;simp at this |-;omega
 obtain⟨a1,S1,R1⟩:=h.k.sliced 0 p ck (Nat.zero_le _) (by simpa using hple) (by simpa using h.k2);obtain⟨a2,S2,R2⟩:=h.k.sliced (p+(if ok then 1 else 0)) n.K.length ck hqle (by simp) (by simpa using h.k2);obtain⟨a3,S3,R3⟩:=h.v.sliced 0 p cv (Nat.zero_le _) (by simp[hwl.1];exact hple) (by simpa using h.v2);obtain⟨a4,S4,R4⟩:=h.v.sliced (p+(if ok then 1 else 0)) n.K.length cv hqle (by simp[hwl.1]) (by simpa using h.v2);simp only[Nat.sub_zero,List.drop_zero] at S1 S3 R1 R3;have hk1:=h.ok.k1;have hv2:=h.v2;rw[hwl.1] at hv2
 have CK:∀ wx a m,Below w.heap.size w wx->Rd wx a [a1 p ck,.slice m 1 1,.slice a2 (n.K.length-(p+(if ok then 1 else 0))) (ck-(p+(if ok then 1 else 0)))]->Rd wx m [bI key] ->
   () 130 #[.slice a 3 3] wx fun e w'=>aZ wx.heap.size 80 ((fN n key v).K.map bI) e w'/\Below wx.heap.size wx w':=by
  intro wx a m hb ha hm
  have:=YD a 3 [⟨a1,(n.K.map bI).take p,ck⟩,⟨m,[bI key],1⟩,⟨a2,((n.K.map bI).drop (p+(if ok then 1 else 0))).take (n.K.length-(p+(if ok then 1 else 0))),ck-(p+(if ok then 1 else 0))⟩] wx
   (by
    have e1:((n.K.map bI).take p).length=p:=by simp;omega
    have e2:(((n.K.map bI).drop (p+(if ok then 1 else 0))).take (n.K.length-(p+(if ok then 1 else 0)))).length=n.K.length-(p+(if ok then 1 else 0)):=by simp
    simp only[List.map_cons,List.map_nil,Src.val,e1,e2,List.length_cons,List.length_nil];exact ha)
   (by
    intro s hs;simp only[List.mem_cons,List.not_mem_nil,or_false] at hs
    rcases hs with rfl|rfl|rfl
    ·exact R1.below hb
    ·exact hm
    ·exact R2.below hb)
   (by
    intro s hs u hu;simp only[List.mem_cons,List.not_mem_nil,or_false] at hs
    rcases hs with rfl|rfl|rfl
    ·obtain⟨x,_,rfl⟩:=List.mem_map.1 (List.mem_of_mem_take hu);rfl
    ·simp at hu;subst hu;rfl
    ·obtain⟨x,_,rfl⟩:=List.mem_map.1 (List.mem_of_mem_drop (List.mem_of_mem_take hu));rfl)
   (by simp[aO];omega) (by simp)
  have e:aO [⟨a1,(n.K.map bI).take p,ck⟩,⟨m,[bI key],1⟩,⟨a2,((n.K.map bI).drop (p+(if ok then 1 else 0))).take (n.K.length-(p+(if ok then 1 else 0))),ck-(p+(if ok then 1 else 0))⟩]=(fN n key v).K.map bI:=by
   rw[hput];simp only[aO,List.map_append,List.map_take,List.map_drop,List.map_cons,List.map_nil,List.append_nil,List.append_assoc]
   congr 2
   rw[List.take_of_length_le (by simp)]
  rw[e] at this;exact this
 have CV:∀ wx a m,Below w.heap.size w wx->Rd wx a [a3 p cv,.slice m 1 1,.slice a4 (n.K.length-(p+(if ok then 1 else 0))) (cv-(p+(if ok then 1 else 0)))]->Rd wx m [v] ->
   () 131 #[.slice a 3 3] wx fun e w'=>aZ wx.heap.size 9 ((fN n key v).V.map Value.string) e w'/\Below wx.heap.size wx w':=by
  intro wx a m hb ha hm
  have:=YE a 3 [⟨a3,(n.V.map Value.string).take p,cv⟩,⟨m,[v],1⟩,⟨a4,((n.V.map Value.string).drop (p+(if ok then 1 else 0))).take (n.K.length-(p+(if ok then 1 else 0))),cv-(p+(if ok then 1 else 0))⟩] wx
   (by
    have e1:((n.V.map Value.string).take p).length=p:=by simp[hwl.1];omega
    have e2:(((n.V.map Value.string).drop (p+(if ok then 1 else 0))).take (n.K.length-(p+(if ok then 1 else 0)))).length=n.K.length-(p+(if ok then 1 else 0)):=by simp[hwl.1]
    simp only[List.map_cons,List.map_nil,Src.val,e1,e2,List.length_cons,List.length_nil];exact ha)
   (by
    intro s hs;simp only[List.mem_cons,List.not_mem_nil,or_false] at hs
    rcases hs with rfl|rfl|rfl
    ·exact R3.below hb
    ·exact hm
    ·exact R4.below hb)
   (by
    intro s hs u hu;simp only[List.mem_cons,List.not_mem_nil,or_false] at hs
    rcases hs with rfl|rfl|rfl
    ·obtain⟨x,_,rfl⟩:=List.mem_map.1 (List.mem_of_mem_take hu);rfl
    ·simp at hu;subst hu;rfl
    ·obtain⟨x,_,rfl⟩:=List.mem_map.1 (List.mem_of_mem_drop (List.mem_of_mem_take hu));rfl)
   (by simp[aO,hwl.1];omega) (by simp)
  have e:aO [⟨a3,(n.V.map Value.string).take p,cv⟩,⟨m,[v],1⟩,⟨a4,((n.V.map Value.string).drop (p+(if ok then 1 else 0))).take (n.K.length-(p+(if ok then 1 else 0))),cv-(p+(if ok then 1 else 0))⟩]=(fN n key v).V.map Value.string:=by
   rw[hput];simp only[aO,List.map_append,List.map_take,List.map_drop,List.map_cons,List.map_nil,List.append_nil,List.append_assoc]
   congr 2
   rw[List.take_of_length_le (by simp[hwl.1])]
  rw[e] at this;exact this
 have WH:∀ w,() 129 #[aJ n ak av ac ck cv cc] w fun e w'=>e=.returned (.bool true)/\Below w.heap.size w w':=fun w=>gK n ak av ac ck cv cc w h.ok true hw
 have FI:∀ w1,Below w.heap.size w w1->() 127 #[aJ n ak av ac ck cv cc,.int .u64 key] w1 fun e w'=>e=.returned (.tuple #[(p:Int),ok])/\Below w1.heap.size w1 w':=fun w1 hb=>yB n ak av ac ck cv cc w1 (h.below hb) key p ok (Hd hp)
 have FIN:∀ e w',lS w.heap.size ((fN n key v).K.map bI) ((fN n key v).V.map Value.string) e w'/\Below w.heap.size w w'->fG w.heap.size (fN n key v) e w'/\Below w.heap.size w w':=by
  rintro e w' ⟨⟨x,rfl,xa,xb,xc,xd,rfl,q1,q2,q3,q4,q5,q6,q7,q8⟩,hb⟩;refine⟨⟨xa,xb,none,xc,xd,0,?_,⟨q1,q2,?_,by simpa using q3,q4,by simpa using q5,q6,?_,Nat.zero_le _,hok⟩,q7,q8,fun x hx=>by cases hx⟩,hb⟩
  ·unfold aJ
   rw[AS n key v hl];rw[hput];simp
  ·rw[hput];exact .inl rfl
  ·rw[hput];simp
 unfold aJ at WH FI |-;rw[hl,hwl.1] at WH FI |-
 cases ok
 ·simp only[Bool.false_eq_true,if_false,Nat.add_zero] at *
  exact(aBJ ak av ac a1 a2 a3 a4 ck cv cc n.K.length n.C.length p key v _ _ w (Hd WH) (Hd FI) (Hd S1) (Hd S2) (Hd S3) (Hd S4) (Hd CK) (Hd CV) hple hqle h.k2 hv2 hk1).mono FIN
 ·simp only[if_true] at *
  exact(XG ak av ac a1 a2 a3 a4 ck cv cc n.K.length n.C.length p key v _ _ w (Hd WH) (Hd FI) (Hd S1) (Hd S2) (Hd S3) (Hd S4) (Hd CK) (Hd CV) hple hqle h.k2 hv2 hk1).mono FIN
def xA (F:FuncId)(T:TypeId):Prop:=∀ (al:Option Addr) (cl:Nat) (l:List Src) (w:World),Rd w al (l.map Src.val)->(∀ s∈l,Rd w s.a s.L)->(∀ s∈l,∀ u∈s.L,u.oneCell'=true)->(aO l).length<=100000->l.length<=1000 ->
 Calls Tryz.prog F #[al l.length cl] w fun e w'=>aZ w.heap.size T (aO l) e w'/\Below w.heap.size w w'
theorem aFJ {F:FuncId}{T:TypeId}(G:xA F T){w:World}(M:List Value)(h1:∀ u∈M,u.oneCell'=true)(x:Value)(hx:x.oneCell'=true)(p q d:Nat)(hp:p<=M.length)(hd:d=M.length-q)(hM:M.length<=1001){a1 a2:Option Addr}{c1 c2:Nat}
  (R1:Rd w a1 (M.take p))(R2:Rd w a2 (M.drop q))(wx:World)(a m:Option Addr)(hb:Below w.heap.size w wx)(ha:Rd wx a [a1 p c1,m 1 1,a2 d c2])(hm:Rd wx m [x]) :
  Calls Tryz.prog F #[a 3 3] wx fun e w'=>aZ wx.heap.size T (M.take p++[x]++M.drop q) e w'/\Below wx.heap.size wx w':=by
 have:=G a 3 [⟨a1,M.take p,c1⟩,⟨m,[x],1⟩,⟨a2,M.drop q,c2⟩] wx
  (by
   have e1:(M.take p).length=p:=by simp;omega
   have e2:(M.drop q).length=d:=by simp;omega
   simp only[List.map_cons,List.map_nil,Src.val,e1,e2,List.length_cons,List.length_nil];exact ha)
  (by
   intro s hs;simp only[List.mem_cons,List.not_mem_nil,or_false] at hs
   rcases hs with rfl|rfl|rfl
   ·exact R1.below hb
   ·exact hm
   ·exact R2.below hb)
  (by
   intro s hs u hu;simp only[List.mem_cons,List.not_mem_nil,or_false] at hs
   rcases hs with rfl|rfl|rfl
   ·exact h1 u (List.mem_of_mem_take hu)
   ·simp at hu;subst hu;exact hx
   ·exact h1 u (List.mem_of_mem_drop hu))
  (by simp[aO];omega) (by simp)
 have e:aO [⟨a1,M.take p,c1⟩,⟨m,[x],1⟩,⟨a2,M.drop q,c2⟩]=M.take p++[x]++M.drop q:=by simp[aO]
 rw[e] at this;exact this
theorem aCM {F:FuncId}{T:TypeId}(G:xA F T){w:World}(M N:List Value)(h1:∀ u∈M,u.oneCell'=true)(h2:∀ u∈N,u.oneCell'=true)(p d:Nat)(hp:p=M.length)(hd:d=N.length)(hM:M.length<=2000)(hN:N.length<=2000){a1 a2:Option Addr}{c1 c2:Nat}
  (R1:Rd w a1 M)(R2:Rd w a2 N)(wx:World)(a:Option Addr)(hb:Below w.heap.size w wx)(ha:Rd wx a [a1 p c1,a2 d c2]) :
  Calls Tryz.prog F #[a 2 2] wx fun e w'=>aZ wx.heap.size T (M++N) e w'/\Below wx.heap.size wx w':=by
 subst hp;subst hd
 have:=G a 2 [⟨a1,M,c1⟩,⟨a2,N,c2⟩] wx
  (by simp only[List.map_cons,List.map_nil,Src.val];exact ha)
  (by
   intro s hs;simp only[List.mem_cons,List.not_mem_nil,or_false] at hs
   rcases hs with rfl|rfl
   ·exact R1.below hb
   ·exact R2.below hb)
  (by
   intro s hs u hu;simp only[List.mem_cons,List.not_mem_nil,or_false] at hs
   rcases hs with rfl|rfl
   ·exact h1 u hu
   ·exact h2 u hu)
  (by simp[aO];omega) (by simp)
 have e:aO [⟨a1,M,c1⟩,⟨a2,N,c2⟩]=M++N:=by simp[aO]
 rw[e] at this;exact this
theorem JT {F:FuncId}{T:TypeId}(G:xA F T){w:World}(M:List Value)(h1:∀ u∈M,u.oneCell'=true)(p:Nat)(hp:p=M.length)(hM:M.length<=2000){a1:Option Addr}{c1:Nat}
  (R1:Rd w a1 M)(wx:World)(a:Option Addr)(hb:Below w.heap.size w wx)(ha:Rd wx a [a1 p c1]) :
  Calls Tryz.prog F #[a 1 1] wx fun e w'=>aZ wx.heap.size T M e w'/\Below wx.heap.size wx w':=by
 subst hp
 have:=G a 1 [⟨a1,M,c1⟩] wx
  (by simp only[List.map_cons,List.map_nil,Src.val];exact ha)
  (by
   intro s hs;simp only[List.mem_cons,List.not_mem_nil,or_false] at hs;subst hs;exact R1.below hb)
  (by
   intro s hs u hu;simp only[List.mem_cons,List.not_mem_nil,or_false] at hs;subst hs;exact h1 u hu)
  (by simp[aO];omega) (by simp)
 have e:aO [⟨a1,M,c1⟩]=M:=by simp[aO]
 rw[e] at this;exact this
theorem nU:xA 130 80:=YD
theorem xY:xA 131 9:=YE
theorem sE:xA 162 3:=aD2
theorem lX (K:List Int):∀ u∈K.map bI,u.oneCell'=true:=fun u hu=>by obtain⟨x,_,rfl⟩:=List.mem_map.1 hu;rfl
theorem wG (K:List Int):∀ u∈K.map dT,u.oneCell'=true:=fun u hu=>by obtain⟨x,_,rfl⟩:=List.mem_map.1 hu;rfl
theorem BI (V:List ByteArray):∀ u∈V.map Value.string,u.oneCell'=true:=fun u hu=>by obtain⟨x,_,rfl⟩:=List.mem_map.1 hu;rfl
theorem iN {w:World}{a:Option Addr}{L:List Value}(h:Rd w a L)(lo hi cap:Nat)(hhi:hi=L.length)(h1:lo<=L.length)(h3:L.length<=cap) :
  ∃ a',sliced a lo hi cap 1=.slice a' (hi-lo) (cap-lo)/\Rd w a' (L.drop lo):=by
 subst hhi;obtain⟨a',h4,h5⟩:=h.sliced lo L.length cap h1 (Nat.le_refl _) h3;exact⟨a',h4,by rwa [List.take_of_length_le (by simp)] at h5⟩
theorem jB {w:World}{a:Option Addr}{L:List Value}(h:Rd w a L)(hi cap:Nat)(h1:hi<=L.length)(h3:L.length<=cap) :
  ∃ a',sliced a 0 hi cap 1=.slice a' hi cap/\Rd w a' (L.take hi):=by
 obtain⟨a',h4,h5⟩:=h.sliced 0 hi cap (Nat.zero_le _) h1 h3;exact⟨a',by simp only[Nat.sub_zero] at h4;exact h4,by simp only[Nat.sub_zero,List.drop_zero] at h5;exact h5⟩
theorem aBZ (n:Nod)(i key kid:Int)(ho:dD n)(hn:n.K.length<=900)(hm:n.C.length<=900)(hkb:0<=key/\key<=18446744073709551615)(hvb:-9223372036854775808<=kid/\kid<=9223372036854775807):dD (oG n i key kid):=by
 unfold oG
 split
 ·refine⟨?_,by simp,?_,?_,by simp,?_⟩
  ·simp only[List.length_append,List.length_take,List.length_drop,List.length_cons,List.length_nil];omega
  ·simp only[List.length_append,List.length_take,List.length_drop,List.length_cons,List.length_nil];omega
  ·intro x hx
   simp only[List.mem_append,List.mem_cons,List.not_mem_nil,or_false] at hx
   rcases hx with(hx|hx)|hx
   ·exact ho.kb x (List.mem_of_mem_take hx)
   ·rw[hx];exact hkb
   ·exact ho.kb x (List.mem_of_mem_drop hx)
  ·intro x hx
   simp only[List.mem_append,List.mem_cons,List.not_mem_nil,or_false] at hx
   rcases hx with(hx|hx)|hx
   ·exact ho.cb x (List.mem_of_mem_take hx)
   ·rw[hx];exact hvb
   ·exact ho.cb x (List.mem_of_mem_drop hx)
 ·exact ho
theorem aB0 (n:Nod)(ak av ac:Option Addr)(ck cv cc:Nat)(w:World)(h:NodR w n ak av ac ck cv cc)(p:Nat)(key kid:Int)(hl:n.leaf=false)(hw:bH n=true)(hp:p<=n.K.length)(hn:n.K.length<=800)(hkb:0<=key/\key<=18446744073709551615)(hvb:-9223372036854775808<=kid/\kid<=9223372036854775807) :
  () 139 #[aJ n ak av ac ck cv cc,(p:Int),.int .u64 key,kid] w fun e w'=>fG w.heap.size (oG n (p:Int) key kid) e w'/\Below w.heap.size w w':=by
 have hwl:=(aQ hl).1 hw;have hok:=aBZ n (p:Int) key kid h.ok (by omega) (by omega) hkb hvb
 have hhang:oG n (p:Int) key kid={ leaf:=false,K:=n.K.take p++[key]++n.K.drop p,V:=[],C:=n.C.take (p+1)++[kid]++n.C.drop (p+1) }:=by
  unfold oG;rw[if_pos (by rw[hl,hw];simp;omega)];simp
 have hk2:=h.k2;have hc2:=h.c2;rw[hwl.1] at hc2;obtain⟨a1,S1,R1⟩:=jB h.k p ck (by simpa using hp) (by simpa using hk2);obtain⟨a2,S2,R2⟩:=iN h.k p n.K.length ck (by simp) (by simpa using hp) (by simpa using hk2);obtain⟨a3,S3,R3⟩:=jB h.c (p+1) cc (by simp[hwl.1];omega) (by simpa using h.c2);obtain⟨a4,S4,R4⟩:=iN h.c (p+1) (n.K.length+1) cc (by simp[hwl.1]) (by simp[hwl.1];omega) (by simpa using h.c2);rw[show n.K.length+1-(p+1)=n.K.length-p from by omega] at S4
 have CK:=fun wx a m hb ha hm=>aFJ nU (n.K.map bI) (lX _) (bI key) rfl p p (n.K.length-p) (by simpa using hp) (by simp) (by simp;omega) (c1:=ck) (c2:=ck-p) R1 R2 wx a m hb ha hm
 have CC:=fun wx a m hb ha hm=>aFJ sE (n.C.map dT) (wG _) (dT kid) rfl (p+1) (p+1) (n.K.length-p) (by simp[hwl.1];omega) (by simp[hwl.1]) (by simp;omega) (c1:=cc) (c2:=cc-(p+1)) R3 R4 wx a m hb ha hm
 have WH:∀ w,() 129 #[aJ n ak av ac ck cv cc] w fun e w'=>e=.returned (.bool true)/\Below w.heap.size w w':=fun w=>gK n ak av ac ck cv cc w h.ok true hw
 unfold aJ at WH |-;rw[hl,hwl.1] at WH |-;refine(YC ak av ac a1 a2 a3 a4 ck cv cc n.K.length n.V.length p key kid _ _ w (Hd WH) (Hd S1) (Hd S2) (Hd S3) (Hd S4) (Hd CK) (Hd CC) hp hk2 hc2 h.ok.k1).mono ?_;rintro e w' ⟨⟨x,rfl,xa,xb,xc,xd,rfl,q1,q2,q3,q4,q5,q6,q7,q8⟩,hb⟩;have eK:(oG n (p:Int) key kid).K.map bI=(n.K.map bI).take p++[bI key]++(n.K.map bI).drop p:=by rw[hhang];simp[List.map_take,List.map_drop]
 have eC:(oG n (p:Int) key kid).C.map dT=(n.C.map dT).take (p+1)++[dT kid]++(n.C.map dT).drop (p+1):=by rw[hhang];simp[List.map_take,List.map_drop]
 rw[<-eK] at q1 q3;rw[<-eC] at q2 q5;refine⟨⟨xa,none,xb,xc,0,xd,?_,⟨q1,?_,q2,by simpa using q3,q4,?_,Nat.zero_le _,by simpa using q5,q6,hok⟩,q7,(fun x hx=>by cases hx),q8⟩,hb⟩
 ·unfold aJ
  rw[<-eK,<-eC,hhang];simp
 ·rw[hhang];exact .inl rfl
 ·rw[hhang];simp
def dF (n:Nod)(i:Nat):Nod:={ leaf:=true,K:=n.K.take i++n.K.drop (i+1),V:=n.V.take i++n.V.drop (i+1),C:=[] }
def iY (n:Nod)(i:Nat):Nod:={ leaf:=false,K:=n.K.take i++n.K.drop (i+1),V:=[],C:=n.C.take (i+1)++n.C.drop (i+2) }
theorem sB {α:Type}{l:List α}{i j:Nat}{x:α}(h:x∈l.take i++l.drop j):x∈l:=by
 rcases List.mem_append.1 h with h|h
 ·exact List.mem_of_mem_take h
 ·exact List.mem_of_mem_drop h
theorem pX {α:Type}(l:List α)(i j:Nat)(h:i<=j):(l.take i++l.drop j).length<=l.length:=by simp;omega
theorem OB (n:Nod)(i:Nat)(ho:dD n):dD (iY n i):=
 ⟨Nat.le_trans (pX _ _ _ (by omega)) ho.k1,Nat.zero_le _,Nat.le_trans (pX _ _ _ (by omega)) ho.c1,fun x hx=>ho.kb x (sB hx),fun x hx=>(by cases hx),fun x hx=>ho.cb x (sB hx)⟩
theorem EM (n:Nod)(i:Nat)(ho:dD n):dD (dF n i):=
 ⟨Nat.le_trans (pX _ _ _ (by omega)) ho.k1,Nat.le_trans (pX _ _ _ (by omega)) ho.v1,Nat.zero_le _,fun x hx=>ho.kb x (sB hx),fun x hx=>ho.vb x (sB hx),fun x hx=>(by cases hx)⟩
theorem OC (n:Nod)(ak av ac:Option Addr)(ck cv cc:Nat)(w:World)(h:NodR w n ak av ac ck cv cc)(p:Nat)(hl:n.leaf=false)(hw:bH n=true)(hp:p+1<=n.K.length) :
  () 157 #[aJ n ak av ac ck cv cc,(p:Int)] w fun e w'=>fG w.heap.size (iY n p) e w'/\Below w.heap.size w w':=by
 have hwl:=(aQ hl).1 hw;have hok:=OB n p h.ok;have hk1:=h.ok.k1;have hk2:=h.k2;have hc2:=h.c2;rw[hwl.1] at hc2;obtain⟨a1,S1,R1⟩:=jB h.k p ck (by simp;omega) (by simpa using hk2);obtain⟨a2,S2,R2⟩:=iN h.k (p+1) n.K.length ck (by simp) (by simpa using hp) (by simpa using hk2);obtain⟨a3,S3,R3⟩:=jB h.c (p+1) cc (by simp[hwl.1];omega) (by simpa using h.c2);obtain⟨a4,S4,R4⟩:=iN h.c (p+2) (n.K.length+1) cc (by simp[hwl.1]) (by simp[hwl.1];omega) (by simpa using h.c2)
 rw[show n.K.length+1-(p+2)=n.K.length-(p+1) from by omega] at S4;have e1:((n.K.map bI).take p).length=p:=by simp;omega
 have e2:((n.K.map bI).drop (p+1)).length=n.K.length-(p+1):=by simp
 have e3:((n.C.map dT).take (p+1)).length=p+1:=by simp[hwl.1];omega
 have e4:((n.C.map dT).drop (p+2)).length=n.K.length-(p+1):=by simp[hwl.1]
 have CK:=fun wx a hb ha=>aCM nU ((n.K.map bI).take p) ((n.K.map bI).drop (p+1)) (fun u hu=>lX _ u (List.mem_of_mem_take hu)) (fun u hu=>lX _ u (List.mem_of_mem_drop hu)) p (n.K.length-(p+1)) e1.symm e2.symm (by omega) (by omega) (c1:=ck) (c2:=ck-(p+1)) R1 R2 wx a hb ha
 have CC:=fun wx a hb ha=>aCM sE ((n.C.map dT).take (p+1)) ((n.C.map dT).drop (p+2)) (fun u hu=>wG _ u (List.mem_of_mem_take hu)) (fun u hu=>wG _ u (List.mem_of_mem_drop hu)) (p+1) (n.K.length-(p+1)) e3.symm e4.symm (by omega) (by omega) (c1:=cc) (c2:=cc-(p+2)) R3 R4 wx a hb ha
 have WH:∀ w,() 129 #[aJ n ak av ac ck cv cc] w fun e w'=>e=.returned (.bool true)/\Below w.heap.size w w':=fun w=>gK n ak av ac ck cv cc w h.ok true hw
 unfold aJ at WH |-;rw[hl,hwl.1] at WH |-;refine(EX ak av ac a1 a2 a3 a4 ck cv cc n.K.length n.V.length p _ _ w (Hd WH) (Hd S1) (Hd S2) (Hd S3) (Hd S4) (Hd CK) (Hd CC) hp hk2 hc2 h.ok.k1).mono ?_;rintro e w' ⟨⟨x,rfl,xa,xb,xc,xd,rfl,q1,q2,q3,q4,q5,q6,q7,q8⟩,hb⟩;have eK:(iY n p).K.map bI=(n.K.map bI).take p++(n.K.map bI).drop (p+1):=by simp[iY,List.map_take,List.map_drop]
 have eC:(iY n p).C.map dT=(n.C.map dT).take (p+1)++(n.C.map dT).drop (p+2):=by simp[iY,List.map_take,List.map_drop]
 rw[<-eK] at q1 q3;rw[<-eC] at q2 q5;refine⟨⟨xa,none,xb,xc,0,xd,?_,⟨q1,.inl rfl,q2,by simpa using q3,q4,Nat.le_refl _,Nat.zero_le _,by simpa using q5,q6,hok⟩,q7,(fun x hx=>by cases hx),q8⟩,hb⟩;unfold aJ;rw[<-eK,<-eC];simp[iY]
theorem EP (n:Nod)(ak av ac:Option Addr)(ck cv cc:Nat)(w:World)(h:NodR w n ak av ac ck cv cc)(p:Nat)(hl:n.leaf=true)(hw:bH n=true)(hp:p+1<=n.K.length) :
  () 111 #[aJ n ak av ac ck cv cc,(p:Int)] w fun e w'=>fG w.heap.size (dF n p) e w'/\Below w.heap.size w w':=by
 have hwl:=(bG hl).1 hw;have hok:=EM n p h.ok;have hk1:=h.ok.k1;have hk2:=h.k2;have hv2:=h.v2;rw[hwl.1] at hv2;obtain⟨a1,S1,R1⟩:=jB h.k p ck (by simp;omega) (by simpa using hk2);obtain⟨a2,S2,R2⟩:=iN h.k (p+1) n.K.length ck (by simp) (by simpa using hp) (by simpa using hk2);obtain⟨a3,S3,R3⟩:=jB h.v p cv (by simp[hwl.1];omega) (by simpa using h.v2);obtain⟨a4,S4,R4⟩:=iN h.v (p+1) n.K.length cv (by simp[hwl.1]) (by simp[hwl.1];omega) (by simpa using h.v2);have e1:((n.K.map bI).take p).length=p:=by simp;omega
 have e2:((n.K.map bI).drop (p+1)).length=n.K.length-(p+1):=by simp
 have e3:((n.V.map Value.string).take p).length=p:=by simp[hwl.1];omega
 have e4:((n.V.map Value.string).drop (p+1)).length=n.K.length-(p+1):=by simp[hwl.1]
 have CK:=fun wx a hb ha=>aCM nU ((n.K.map bI).take p) ((n.K.map bI).drop (p+1)) (fun u hu=>lX _ u (List.mem_of_mem_take hu)) (fun u hu=>lX _ u (List.mem_of_mem_drop hu)) p (n.K.length-(p+1)) e1.symm e2.symm (by omega) (by omega) (c1:=ck) (c2:=ck-(p+1)) R1 R2 wx a hb ha
 have CC:=fun wx a hb ha=>aCM xY ((n.V.map Value.string).take p) ((n.V.map Value.string).drop (p+1)) (fun u hu=>BI _ u (List.mem_of_mem_take hu)) (fun u hu=>BI _ u (List.mem_of_mem_drop hu)) p (n.K.length-(p+1)) e3.symm e4.symm (by omega) (by omega) (c1:=cv) (c2:=cv-(p+1)) R3 R4 wx a hb ha
 have WH:∀ w,() 129 #[aJ n ak av ac ck cv cc] w fun e w'=>e=.returned (.bool true)/\Below w.heap.size w w':=fun w=>gK n ak av ac ck cv cc w h.ok true hw
 unfold aJ at WH |-;rw[hl,hwl.1] at WH |-;refine(zI ak av ac a1 a2 a3 a4 ck cv cc n.K.length n.C.length p _ _ w (Hd WH) (Hd S1) (Hd S2) (Hd S3) (Hd S4) (Hd CK) (Hd CC) hp hk2 hv2 h.ok.k1).mono ?_;rintro e w' ⟨⟨x,rfl,xa,xb,xc,xd,rfl,q1,q2,q3,q4,q5,q6,q7,q8⟩,hb⟩;have eK:(dF n p).K.map bI=(n.K.map bI).take p++(n.K.map bI).drop (p+1):=by simp[dF,List.map_take,List.map_drop]
 have eV:(dF n p).V.map Value.string=(n.V.map Value.string).take p++(n.V.map Value.string).drop (p+1):=by simp[dF,List.map_take,List.map_drop]
 rw[<-eK] at q1 q3;rw[<-eV] at q2 q5;refine⟨⟨xa,xb,none,xc,xd,0,?_,⟨q1,q2,.inl rfl,by simpa using q3,q4,by simpa using q5,q6,Nat.le_refl _,Nat.zero_le _,hok⟩,q7,q8,fun x hx=>by cases hx⟩,hb⟩;unfold aJ;rw[<-eK,<-eV];simp[dF]
