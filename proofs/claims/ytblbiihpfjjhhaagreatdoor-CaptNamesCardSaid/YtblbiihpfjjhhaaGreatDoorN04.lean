/-
 NodeA, NodeU, NodeH, NodeW, NodeSp, Held, NodeCu, NodeE, Build, Shelf.
-/
import Derived.Test.YtblbiihpfjjhhaaGreatDoorN03
import Derived.IntWalk
import Derived.Test.YtblbiihpfjjhhaaGreatDoorN01
import Derived.Deep.RegionHeld
import Derived.Test.YtblbiihpfjjhhaaGreatDoorN02
import Derived.Deep.DeepCutAuto
import Derived.BigQuiet
import Derived.Deep.QuietTactic
import Derived.Shelf.Strings.Builder1
import Derived.Test.YtblbiihpfjjhhaaGreatDoorProg
namespace Go.Proofs.YtblbiihpfjjhhaaGreatDoor
open Go.RowKit
set_option maxRecDepth 20000
set_option maxHeartbeats 12800000
set_option linter.unusedVariables false
set_option linter.unusedSimpArgs false
theorem FY (ak av ac a1 a2:Option Addr) (ck cv cc lk lc p:Nat) (X1 X2:List Value) (w:World)
  (S1:Hid (sliced ak 0 p ck 1=.slice a1 p ck))
  (S2:Hid (sliced av 0 p cv 1=.slice a2 p cv))
  (C1:Hid (∀ wx a,Below w.heap.size w wx→Rd wx a [.slice a1 p ck]→Calls Tryz.prog 180 #[.slice a 1 1] wx fun e w' => bO wx.heap.size 30 X1 e w'∧Below wx.heap.size wx w'))
  (C2:Hid (∀ wx a,Below w.heap.size w wx→Rd wx a [.slice a2 p cv]→Calls Tryz.prog 181 #[.slice a 1 1] wx fun e w' => bO wx.heap.size 9 X2 e w'∧Below wx.heap.size wx w'))
  (h1:p≤lk) (h4:lk≤ck) (h5:lk≤cv) (h6:lk≤1000) :
  Calls Tryz.prog 228 #[.agg #[.bool true,.slice ak lk ck,.slice av lk cv,.slice ac lc cc],.int .i64 (p:Int)] w fun e w' => kK w.heap.size X1 X2 e w'∧Below w.heap.size w w' := by
 have i0:(0:Int)≤(p:Int):=by omega
 have i1:(p:Int)≤1000:=by omega
 have i2:(p:Int)≤(ck:Int):=by omega
 have i3:(p:Int)≤(lk:Int):=by omega
 have hw1:Hid (IntKind.i64.wrap ((p:Int) + 1)=(p:Int) + 1):=Hd (IntWalk.i64_in _ (by omega));have hw2:Hid (IntKind.i64.wrap ((p:Int) + 2)=(p:Int) + 2):=Hd (IntWalk.i64_in _ (by omega));have i6:(p:Int)≤(cv:Int):=by omega
 go_enter Tryz.func228,Tryz.ntmps228;go_wp2_with fail
 have b1:Below ((w.alloc (.cells #[.bool true,.slice ak lk ck,.slice av lk cv,.slice ac lc cc] 206)).alloc (.cells #[.bool false,.slice none 0 0,.slice none 0 0,.slice none 0 0] 206)).heap.size ((w.alloc (.cells #[.bool true,.slice ak lk ck,.slice av lk cv,.slice ac lc cc] 206)).alloc (.cells #[.bool false,.slice none 0 0,.slice none 0 0,.slice none 0 0] 206)) ((w.alloc (.cells #[.bool true,.slice ak lk ck,.slice av lk cv,.slice ac lc cc] 206)).alloc (.cells #[.bool false,.slice none 0 0,.slice none 0 0,.slice none 0 0] 206)):=Br
 obtain ⟨w2,hw2⟩:∃ w2,(w.alloc (.cells #[.bool true,.slice ak lk ck,.slice av lk cv,.slice ac lc cc] 206)).alloc (.cells #[.bool false,.slice none 0 0,.slice none 0 0,.slice none 0 0] 206)=w2:=⟨_,rfl⟩
 rw [hw2];have b1:Below ((w.alloc (.cells #[.bool true,.slice ak lk ck,.slice av lk cv,.slice ac lc cc] 206)).alloc (.cells #[.bool false,.slice none 0 0,.slice none 0 0,.slice none 0 0] 206)).heap.size ((w.alloc (.cells #[.bool true,.slice ak lk ck,.slice av lk cv,.slice ac lc cc] 206)).alloc (.cells #[.bool false,.slice none 0 0,.slice none 0 0,.slice none 0 0] 206)) w2:=by rw [hw2]; exact Br
 clear hw2;have X1' := kept (han (w.alloc _) _) b1;have Y1' := kept (show ((w.alloc (.cells #[.bool true,.slice ak lk ck,.slice av lk cv,.slice ac lc cc] 206)).alloc (.cells #[.bool false,.slice none 0 0,.slice none 0 0,.slice none 0 0] 206)).heap[w.heap.size]?=some (.cells #[.bool true,.slice ak lk ck,.slice av lk cv,.slice ac lc cc] 206) from (hao _ _ (by simp)).trans (han w _)) b1;have B1:Below w.heap.size w w2:=((Br.alloc (Nat.le_refl _) _).alloc (by simp) _).trans (b1.mono (by simp; omega))
 rw [show (w.alloc (.cells #[.bool true,.slice ak lk ck,.slice av lk cv,.slice ac lc cc] 206)).heap.size=w.heap.size + 1 from by simp] at X1';have lt0:w.heap.size < w2.heap.size:=(zl Y1');have c0' := cl (Y1') 0 rfl;have c1:=cl (Y1') 1 rfl;have c2:=cl (Y1') 2 rfl;have c3:=cl (Y1') 3 rfl;have X:=Hd X1';have B2:=Hd B1;clear b1 X1' Y1' B1
 refine fF 13 34 [eqV (.pointer (some ⟨w.heap.size,1,none⟩)),eqV (.slice ak lk ck),eqV (.int .i64 (p:Int)),eqV (.slice a1 p ck),oG [.slice a1 p ck],mU w2.heap.size X1,eqV (.pointer (some ⟨w.heap.size,2,none⟩)),eqV (.slice av lk cv),eqV (.int .i64 (p:Int)),eqV (.slice a2 p cv),oG [.slice a2 p cv],mU w2.heap.size X2,yV w2.heap.size X1 X2,pG] (by kernel_rfl) (by kernel_rfl) (by rfl) ?owes ?ends
 case owes =>
  refine Fo 0 (fun a wx hS xo xd K HK=>?_) ?_
  ·have d2:=Fl xo 2
   clear xo xd;go_simp;exact Hr HK
  refine Fo 1 (fun a wx hS xo xd K HK=>?_) ?_
  ·have d7:=Fq xd 0
   clear xo xd;have c0:=hC c1 hS lt0;go_simp;exact Hr HK
  refine Fo 2 (fun a wx hS xo xd K HK=>?_) ?_
  ·have d1:=Fl xo 1
   clear xo xd;go_simp;exact Hr HK
  refine Fo 3 (fun a wx hS xo xd K HK=>?_) ?_
  ·have d8:=Fq xd 1
   have d9:=Fq xd 2;clear xo xd;go_simp;refine HK.out _ _ ?_ Br
   show _=_
   rw [← S1.out];simp [sliced,jV,Addr.add]
  refine Fo 4 (fun a wx hS xo xd K HK=>?_) ?_
  ·have d10:=Fq xd 3
   clear xo xd;go_simp;exact HK.out _ _ ⟨_,rfl,Rd.made _ _ _⟩ (aB _ _)
  refine Fo 5 (fun a wx hS xo xd K HK=>?_) ?_
  ·obtain ⟨a11,d11,r11⟩:=Fr xd 4
   clear xo xd;have CA:=C1.out wx a11 (chain B2.out hS) r11;clear r11;go_simp;go_wp2_with fail;refine CA.mono ?_;rintro e w9 ⟨⟨v9,rfl,h9⟩,b9⟩;exact HK.out _ _ (dA h9 hS.size) b9
  refine Fo 6 (fun a wx hS xo xd K HK=>?_) ?_
  ·have d2:=Fl xo 2
   clear xo xd;go_simp;exact Hr HK
  refine Fo 7 (fun a wx hS xo xd K HK=>?_) ?_
  ·have d13:=Fq xd 6
   clear xo xd;have c0:=hC c2 hS lt0;go_simp;exact Hr HK
  refine Fo 8 (fun a wx hS xo xd K HK=>?_) ?_
  ·have d1:=Fl xo 1
   clear xo xd;go_simp;exact Hr HK
  refine Fo 9 (fun a wx hS xo xd K HK=>?_) ?_
  ·have d14:=Fq xd 7
   have d15:=Fq xd 8;clear xo xd;go_simp;refine HK.out _ _ ?_ Br
   show _=_
   rw [← S2.out];simp [sliced,jV,Addr.add]
  refine Fo 10 (fun a wx hS xo xd K HK=>?_) ?_
  ·have d16:=Fq xd 9
   clear xo xd;go_simp;exact HK.out _ _ ⟨_,rfl,Rd.made _ _ _⟩ (aB _ _)
  refine Fo 11 (fun a wx hS xo xd K HK=>?_) ?_
  ·obtain ⟨a17,d17,r17⟩:=Fr xd 10
   clear xo xd;have CA:=C2.out wx a17 (chain B2.out hS) r17;clear r17;go_simp;go_wp2_with fail;refine CA.mono ?_;rintro e w9 ⟨⟨v9,rfl,h9⟩,b9⟩;exact HK.out _ _ (dA h9 hS.size) b9
  refine Fo 12 (fun a wx hS xo xd K HK=>?_) ?_
  ·obtain ⟨a12,c12,d12,r12,l12,m12,n12⟩:=Fr xd 5
   obtain ⟨a18,c18,d18,r18,l18,m18,n18⟩:=Fr xd 11;clear xo xd;go_simp;exact HK.out _ _ ⟨_,_,_,_,rfl,r12,r18,l12,m12,l18,m18,n12,n18⟩ Br
  refine OwesAll.skip (f:=13) ?_;exact OwesAll.nil
 case ends =>
  intro a wx hS hsz hdf hold hdone;simp only [List.getElem?_toArray,List.getElem?_cons_succ,List.getElem?_cons_zero];intro K hK;have HK:=Hd hK;clear hK;obtain ⟨xa,xb,xc,xd,dB,q1,q2,q3,q4,q5,q6,q7,q8⟩:=hdone 12 _ 19 rfl (by decide) rfl;have dR:a.tmps.getD 4 undef=.pointer (some ⟨w.heap.size + 1,0,none⟩):=hold 4 (gQ (by kernel_rfl));have hdf' : a.defers=[]:=hdf;clear hold hdone hsz hdf;rw [Array.getD_eq_getD_getElem?] at dB dR;have XB:=kept X.out hS;have y0:=cl XB 0 rfl;have y1:=cl XB 1 rfl;have y2:=cl XB 2 rfl;have y3:=cl XB 3 rfl;have f0:=ufb XB 0
  have f1:=ufb XB 1;have f2:=ufb XB 2;have f3:=ufb XB 3;rw [if_pos (by rfl)];go_simp;refine HK.out _ _ ?_
  have B9:Below w.heap.size w ((((wx.setCell ⟨w.heap.size + 1,0,none⟩ (.bool true)).setCell ⟨w.heap.size + 1,1,none⟩ (.slice xa X1.length xc)).setCell ⟨w.heap.size + 1,2,none⟩ (.slice xb X2.length xd)).setCell ⟨w.heap.size + 1,3,none⟩ (.slice none 0 0)) :=
   ((((chain B2.out hS).setCell (by simp) _).setCell (by simp) _).setCell (by simp) _).setCell (by simp) _
  clear y0 y1 y2 y3 f0 f1 f2 f3 HK K;go_wp2_with fail;have lt1:w.heap.size + 1 < w2.heap.size:=(zl X.out)
  have FIN:Hid (kK w.heap.size X1 X2 (.returned (.agg #[.bool true,.slice xa X1.length xc,.slice xb X2.length xd,.slice none 0 0])) ((((wx.setCell ⟨w.heap.size + 1,0,none⟩ (.bool true)).setCell ⟨w.heap.size + 1,1,none⟩ (.slice xa X1.length xc)).setCell ⟨w.heap.size + 1,2,none⟩ (.slice xb X2.length xd)).setCell ⟨w.heap.size + 1,3,none⟩ (.slice none 0 0))) :=
   Hd ⟨_,rfl,xa,xb,xc,xd,rfl,q1.set4 _ _ _ _ _ (fun x hx=>Nat.lt_of_lt_of_le lt1 (q7 x hx)),q2.set4 _ _ _ _ _ (fun x hx=>Nat.lt_of_lt_of_le lt1 (q8 x hx)),q3,q4,q5,q6,fun x hx=>Nat.le_trans (Nat.le_of_lt lt0) (q7 x hx),fun x hx=>Nat.le_trans (Nat.le_of_lt lt0) (q8 x hx)⟩
  have XR:((((wx.setCell ⟨w.heap.size + 1,0,none⟩ (.bool true)).setCell ⟨w.heap.size + 1,1,none⟩ (.slice xa X1.length xc)).setCell ⟨w.heap.size + 1,2,none⟩ (.slice xb X2.length xd)).setCell ⟨w.heap.size + 1,3,none⟩ (.slice none 0 0)).heap[w.heap.size + 1]?=some (.cells #[.bool true,.slice xa X1.length xc,.slice xb X2.length xd,.slice none 0 0] 206):=by
   rw [hss _ _ 3 _ _ _ (hss _ _ 2 _ _ _ (hss _ _ 1 _ _ _ (hss _ _ 0 _ _ _ XB)))]
   rfl
  generalize ((((wx.setCell ⟨w.heap.size + 1,0,none⟩ (.bool true)).setCell ⟨w.heap.size + 1,1,none⟩ (.slice xa X1.length xc)).setCell ⟨w.heap.size + 1,2,none⟩ (.slice xb X2.length xd)).setCell ⟨w.heap.size + 1,3,none⟩ (.slice none 0 0))=wz at *;have z0:=cl XR 0 rfl;have z1:=cl XR 1 rfl;have z2:=cl XR 2 rfl;have z3:=cl XR 3 rfl;exact bodyPost_ret (v:=.agg #[.bool true,.slice xa X1.length xc,.slice xb X2.length xd,.slice none 0 0]) (by simp [results,Tryz.results228,go_sem,dR,z0,z1,z2,z3]) hdf' ⟨FIN.out,B9⟩
theorem wK (ak av ac a1 a2:Option Addr) (ck cv cc lk lv p:Nat) (X1 X2:List Value) (w:World)
  (S1:Hid (sliced ak 0 p ck 1=.slice a1 p ck))
  (S2:Hid (sliced ac 0 (p + 1) cc 1=.slice a2 (p + 1) cc))
  (C1:Hid (∀ wx a,Below w.heap.size w wx→Rd wx a [.slice a1 p ck]→Calls Tryz.prog 180 #[.slice a 1 1] wx fun e w' => bO wx.heap.size 30 X1 e w'∧Below wx.heap.size wx w'))
  (C2:Hid (∀ wx a,Below w.heap.size w wx→Rd wx a [.slice a2 (p + 1) cc]→Calls Tryz.prog 211 #[.slice a 1 1] wx fun e w' => bO wx.heap.size 3 X2 e w'∧Below wx.heap.size wx w'))
  (h1:p≤lk) (h4:lk≤ck) (h5:lk + 1≤cc) (h6:lk≤1000) :
  Calls Tryz.prog 228 #[.agg #[.bool false,.slice ak lk ck,.slice av lv cv,.slice ac (lk + 1) cc],.int .i64 (p:Int)] w fun e w' => pH w.heap.size X1 X2 e w'∧Below w.heap.size w w' := by
 have i0:(0:Int)≤(p:Int):=by omega
 have i1:(p:Int)≤1000:=by omega
 have i2:(p:Int)≤(ck:Int):=by omega
 have i3:(p:Int)≤(lk:Int):=by omega
 have hw1:Hid (IntKind.i64.wrap ((p:Int) + 1)=(p:Int) + 1):=Hd (IntWalk.i64_in _ (by omega));have hw2:Hid (IntKind.i64.wrap ((p:Int) + 2)=(p:Int) + 2):=Hd (IntWalk.i64_in _ (by omega));have i6:(p:Int) + 1≤(cc:Int):=by omega
 go_enter Tryz.func228,Tryz.ntmps228;go_wp2_with fail
 have b1:Below ((w.alloc (.cells #[.bool false,.slice ak lk ck,.slice av lv cv,.slice ac (lk + 1) cc] 206)).alloc (.cells #[.bool false,.slice none 0 0,.slice none 0 0,.slice none 0 0] 206)).heap.size ((w.alloc (.cells #[.bool false,.slice ak lk ck,.slice av lv cv,.slice ac (lk + 1) cc] 206)).alloc (.cells #[.bool false,.slice none 0 0,.slice none 0 0,.slice none 0 0] 206)) ((w.alloc (.cells #[.bool false,.slice ak lk ck,.slice av lv cv,.slice ac (lk + 1) cc] 206)).alloc (.cells #[.bool false,.slice none 0 0,.slice none 0 0,.slice none 0 0] 206)):=Br
 obtain ⟨w2,hw2⟩:∃ w2,(w.alloc (.cells #[.bool false,.slice ak lk ck,.slice av lv cv,.slice ac (lk + 1) cc] 206)).alloc (.cells #[.bool false,.slice none 0 0,.slice none 0 0,.slice none 0 0] 206)=w2:=⟨_,rfl⟩
 rw [hw2];have b1:Below ((w.alloc (.cells #[.bool false,.slice ak lk ck,.slice av lv cv,.slice ac (lk + 1) cc] 206)).alloc (.cells #[.bool false,.slice none 0 0,.slice none 0 0,.slice none 0 0] 206)).heap.size ((w.alloc (.cells #[.bool false,.slice ak lk ck,.slice av lv cv,.slice ac (lk + 1) cc] 206)).alloc (.cells #[.bool false,.slice none 0 0,.slice none 0 0,.slice none 0 0] 206)) w2:=by rw [hw2]; exact Br
 clear hw2;have X1' := kept (han (w.alloc _) _) b1;have Y1' := kept (show ((w.alloc (.cells #[.bool false,.slice ak lk ck,.slice av lv cv,.slice ac (lk + 1) cc] 206)).alloc (.cells #[.bool false,.slice none 0 0,.slice none 0 0,.slice none 0 0] 206)).heap[w.heap.size]?=some (.cells #[.bool false,.slice ak lk ck,.slice av lv cv,.slice ac (lk + 1) cc] 206) from (hao _ _ (by simp)).trans (han w _)) b1;have B1:Below w.heap.size w w2:=((Br.alloc (Nat.le_refl _) _).alloc (by simp) _).trans (b1.mono (by simp; omega))
 rw [show (w.alloc (.cells #[.bool false,.slice ak lk ck,.slice av lv cv,.slice ac (lk + 1) cc] 206)).heap.size=w.heap.size + 1 from by simp] at X1';have lt0:w.heap.size < w2.heap.size:=(zl Y1');have c0' := cl (Y1') 0 rfl;have c1:=cl (Y1') 1 rfl;have c2:=cl (Y1') 2 rfl;have c3:=cl (Y1') 3 rfl;have X:=Hd X1';have B2:=Hd B1;clear b1 X1' Y1' B1
 refine fF 14 34 [eqV (.pointer (some ⟨w.heap.size,1,none⟩)),eqV (.slice ak lk ck),eqV (.int .i64 (p:Int)),eqV (.slice a1 p ck),oG [.slice a1 p ck],mU w2.heap.size X1,eqV (.pointer (some ⟨w.heap.size,3,none⟩)),eqV (.slice ac (lk + 1) cc),eqV (.int .i64 (p:Int)),eqV (.int .i64 ((p:Int) + 1)),eqV (.slice a2 (p + 1) cc),oG [.slice a2 (p + 1) cc],mU w2.heap.size X2,IF w2.heap.size X1 X2,pG] (by kernel_rfl) (by kernel_rfl) (by rfl) ?owes ?ends
 case owes =>
  refine Fo 0 (fun a wx hS xo xd K HK=>?_) ?_
  ·have d2:=Fl xo 2
   clear xo xd;go_simp;exact Hr HK
  refine Fo 1 (fun a wx hS xo xd K HK=>?_) ?_
  ·have d20:=Fq xd 0
   clear xo xd;have c0:=hC c1 hS lt0;go_simp;exact Hr HK
  refine Fo 2 (fun a wx hS xo xd K HK=>?_) ?_
  ·have d1:=Fl xo 1
   clear xo xd;go_simp;exact Hr HK
  refine Fo 3 (fun a wx hS xo xd K HK=>?_) ?_
  ·have d21:=Fq xd 1
   have d22:=Fq xd 2;clear xo xd;go_simp;refine HK.out _ _ ?_ Br
   show _=_
   rw [← S1.out];simp [sliced,jV,Addr.add]
  refine Fo 4 (fun a wx hS xo xd K HK=>?_) ?_
  ·have d23:=Fq xd 3
   clear xo xd;go_simp;exact HK.out _ _ ⟨_,rfl,Rd.made _ _ _⟩ (aB _ _)
  refine Fo 5 (fun a wx hS xo xd K HK=>?_) ?_
  ·obtain ⟨a24,d24,r24⟩:=Fr xd 4
   clear xo xd;have CA:=C1.out wx a24 (chain B2.out hS) r24;clear r24;go_simp;go_wp2_with fail;refine CA.mono ?_;rintro e w9 ⟨⟨v9,rfl,h9⟩,b9⟩;exact HK.out _ _ (dA h9 hS.size) b9
  refine Fo 6 (fun a wx hS xo xd K HK=>?_) ?_
  ·have d2:=Fl xo 2
   clear xo xd;go_simp;exact Hr HK
  refine Fo 7 (fun a wx hS xo xd K HK=>?_) ?_
  ·have d26:=Fq xd 6
   clear xo xd;have c0:=hC c3 hS lt0;go_simp;exact Hr HK
  refine Fo 8 (fun a wx hS xo xd K HK=>?_) ?_
  ·have d1:=Fl xo 1
   clear xo xd;go_simp;exact Hr HK
  refine Fo 9 (fun a wx hS xo xd K HK=>?_) ?_
  ·have d28:=Fq xd 8
   clear xo xd;go_simp;refine HK.out _ _ ?_ Br
   show _=_
   first | rfl | rw [hw1.out]
  refine Fo 10 (fun a wx hS xo xd K HK=>?_) ?_
  ·have d27:=Fq xd 7
   have d29:=Fq xd 9;clear xo xd;go_simp;refine HK.out _ _ ?_ Br
   show _=_
   rw [← S2.out];simp [sliced,jV,Addr.add]
  refine Fo 11 (fun a wx hS xo xd K HK=>?_) ?_
  ·have d30:=Fq xd 10
   clear xo xd;go_simp;exact HK.out _ _ ⟨_,rfl,Rd.made _ _ _⟩ (aB _ _)
  refine Fo 12 (fun a wx hS xo xd K HK=>?_) ?_
  ·obtain ⟨a31,d31,r31⟩:=Fr xd 11
   clear xo xd;have CA:=C2.out wx a31 (chain B2.out hS) r31;clear r31;go_simp;go_wp2_with fail;refine CA.mono ?_;rintro e w9 ⟨⟨v9,rfl,h9⟩,b9⟩;exact HK.out _ _ (dA h9 hS.size) b9
  refine Fo 13 (fun a wx hS xo xd K HK=>?_) ?_
  ·obtain ⟨a25,c25,d25,r25,l25,m25,n25⟩:=Fr xd 5
   obtain ⟨a32,c32,d32,r32,l32,m32,n32⟩:=Fr xd 12;clear xo xd;go_simp;exact HK.out _ _ ⟨_,_,_,_,rfl,r25,r32,l25,m25,l32,m32,n25,n32⟩ Br
  refine OwesAll.skip (f:=14) ?_;exact OwesAll.nil
 case ends =>
  intro a wx hS hsz hdf hold hdone;simp only [List.getElem?_toArray,List.getElem?_cons_succ,List.getElem?_cons_zero];intro K hK;have HK:=Hd hK;clear hK;obtain ⟨xa,xb,xc,xd,dB,q1,q2,q3,q4,q5,q6,q7,q8⟩:=hdone 13 _ 33 rfl (by decide) rfl;have dR:a.tmps.getD 4 undef=.pointer (some ⟨w.heap.size + 1,0,none⟩):=hold 4 (gQ (by kernel_rfl));have hdf' : a.defers=[]:=hdf;clear hold hdone hsz hdf;rw [Array.getD_eq_getD_getElem?] at dB dR;have XB:=kept X.out hS;have y0:=cl XB 0 rfl;have y1:=cl XB 1 rfl;have y2:=cl XB 2 rfl;have y3:=cl XB 3 rfl;have f0:=ufb XB 0
  have f1:=ufb XB 1;have f2:=ufb XB 2;have f3:=ufb XB 3;rw [if_pos (by rfl)];go_simp;refine HK.out _ _ ?_
  have B9:Below w.heap.size w ((((wx.setCell ⟨w.heap.size + 1,0,none⟩ (.bool false)).setCell ⟨w.heap.size + 1,1,none⟩ (.slice xa X1.length xc)).setCell ⟨w.heap.size + 1,2,none⟩ (.slice none 0 0)).setCell ⟨w.heap.size + 1,3,none⟩ (.slice xb X2.length xd)) :=
   ((((chain B2.out hS).setCell (by simp) _).setCell (by simp) _).setCell (by simp) _).setCell (by simp) _
  clear y0 y1 y2 y3 f0 f1 f2 f3 HK K;go_wp2_with fail;have lt1:w.heap.size + 1 < w2.heap.size:=(zl X.out)
  have FIN:Hid (pH w.heap.size X1 X2 (.returned (.agg #[.bool false,.slice xa X1.length xc,.slice none 0 0,.slice xb X2.length xd])) ((((wx.setCell ⟨w.heap.size + 1,0,none⟩ (.bool false)).setCell ⟨w.heap.size + 1,1,none⟩ (.slice xa X1.length xc)).setCell ⟨w.heap.size + 1,2,none⟩ (.slice none 0 0)).setCell ⟨w.heap.size + 1,3,none⟩ (.slice xb X2.length xd))) :=
   Hd ⟨_,rfl,xa,xb,xc,xd,rfl,q1.set4 _ _ _ _ _ (fun x hx=>Nat.lt_of_lt_of_le lt1 (q7 x hx)),q2.set4 _ _ _ _ _ (fun x hx=>Nat.lt_of_lt_of_le lt1 (q8 x hx)),q3,q4,q5,q6,fun x hx=>Nat.le_trans (Nat.le_of_lt lt0) (q7 x hx),fun x hx=>Nat.le_trans (Nat.le_of_lt lt0) (q8 x hx)⟩
  have XR:((((wx.setCell ⟨w.heap.size + 1,0,none⟩ (.bool false)).setCell ⟨w.heap.size + 1,1,none⟩ (.slice xa X1.length xc)).setCell ⟨w.heap.size + 1,2,none⟩ (.slice none 0 0)).setCell ⟨w.heap.size + 1,3,none⟩ (.slice xb X2.length xd)).heap[w.heap.size + 1]?=some (.cells #[.bool false,.slice xa X1.length xc,.slice none 0 0,.slice xb X2.length xd] 206):=by
   rw [hss _ _ 3 _ _ _ (hss _ _ 2 _ _ _ (hss _ _ 1 _ _ _ (hss _ _ 0 _ _ _ XB)))]
   rfl
  generalize ((((wx.setCell ⟨w.heap.size + 1,0,none⟩ (.bool false)).setCell ⟨w.heap.size + 1,1,none⟩ (.slice xa X1.length xc)).setCell ⟨w.heap.size + 1,2,none⟩ (.slice none 0 0)).setCell ⟨w.heap.size + 1,3,none⟩ (.slice xb X2.length xd))=wz at *;have z0:=cl XR 0 rfl;have z1:=cl XR 1 rfl;have z2:=cl XR 2 rfl;have z3:=cl XR 3 rfl;exact bodyPost_ret (v:=.agg #[.bool false,.slice xa X1.length xc,.slice none 0 0,.slice xb X2.length xd]) (by simp [results,Tryz.results228,go_sem,dR,z0,z1,z2,z3]) hdf' ⟨FIN.out,B9⟩
theorem AM (ak av ac a1 a2:Option Addr) (ck cv cc lk lc p:Nat) (X1 X2:List Value) (w:World)
  (S1:Hid (sliced ak p lk ck 1=.slice a1 (lk - p) (ck - p)))
  (S2:Hid (sliced av p lk cv 1=.slice a2 (lk - p) (cv - p)))
  (C1:Hid (∀ wx a,Below w.heap.size w wx→Rd wx a [.slice a1 (lk - p) (ck - p)]→Calls Tryz.prog 180 #[.slice a 1 1] wx fun e w' => bO wx.heap.size 30 X1 e w'∧Below wx.heap.size wx w'))
  (C2:Hid (∀ wx a,Below w.heap.size w wx→Rd wx a [.slice a2 (lk - p) (cv - p)]→Calls Tryz.prog 181 #[.slice a 1 1] wx fun e w' => bO wx.heap.size 9 X2 e w'∧Below wx.heap.size wx w'))
  (h1:p≤lk) (h4:lk≤ck) (h5:lk≤cv) (h6:lk≤1000) :
  Calls Tryz.prog 229 #[.agg #[.bool true,.slice ak lk ck,.slice av lk cv,.slice ac lc cc],.int .i64 (p:Int)] w fun e w' => kK w.heap.size X1 X2 e w'∧Below w.heap.size w w' := by
 have i0:(0:Int)≤(p:Int):=by omega
 have i1:(p:Int)≤1000:=by omega
 have i2:(p:Int)≤(ck:Int):=by omega
 have i3:(p:Int)≤(lk:Int):=by omega
 have hw1:Hid (IntKind.i64.wrap ((p:Int) + 1)=(p:Int) + 1):=Hd (IntWalk.i64_in _ (by omega));have hw2:Hid (IntKind.i64.wrap ((p:Int) + 2)=(p:Int) + 2):=Hd (IntWalk.i64_in _ (by omega));have i6:(p:Int)≤(cv:Int):=by omega
 go_enter Tryz.func229,Tryz.ntmps229;go_wp2_with fail
 have b1:Below ((w.alloc (.cells #[.bool true,.slice ak lk ck,.slice av lk cv,.slice ac lc cc] 206)).alloc (.cells #[.bool false,.slice none 0 0,.slice none 0 0,.slice none 0 0] 206)).heap.size ((w.alloc (.cells #[.bool true,.slice ak lk ck,.slice av lk cv,.slice ac lc cc] 206)).alloc (.cells #[.bool false,.slice none 0 0,.slice none 0 0,.slice none 0 0] 206)) ((w.alloc (.cells #[.bool true,.slice ak lk ck,.slice av lk cv,.slice ac lc cc] 206)).alloc (.cells #[.bool false,.slice none 0 0,.slice none 0 0,.slice none 0 0] 206)):=Br
 obtain ⟨w2,hw2⟩:∃ w2,(w.alloc (.cells #[.bool true,.slice ak lk ck,.slice av lk cv,.slice ac lc cc] 206)).alloc (.cells #[.bool false,.slice none 0 0,.slice none 0 0,.slice none 0 0] 206)=w2:=⟨_,rfl⟩
 rw [hw2];have b1:Below ((w.alloc (.cells #[.bool true,.slice ak lk ck,.slice av lk cv,.slice ac lc cc] 206)).alloc (.cells #[.bool false,.slice none 0 0,.slice none 0 0,.slice none 0 0] 206)).heap.size ((w.alloc (.cells #[.bool true,.slice ak lk ck,.slice av lk cv,.slice ac lc cc] 206)).alloc (.cells #[.bool false,.slice none 0 0,.slice none 0 0,.slice none 0 0] 206)) w2:=by rw [hw2]; exact Br
 clear hw2;have X1' := kept (han (w.alloc _) _) b1;have Y1' := kept (show ((w.alloc (.cells #[.bool true,.slice ak lk ck,.slice av lk cv,.slice ac lc cc] 206)).alloc (.cells #[.bool false,.slice none 0 0,.slice none 0 0,.slice none 0 0] 206)).heap[w.heap.size]?=some (.cells #[.bool true,.slice ak lk ck,.slice av lk cv,.slice ac lc cc] 206) from (hao _ _ (by simp)).trans (han w _)) b1;have B1:Below w.heap.size w w2:=((Br.alloc (Nat.le_refl _) _).alloc (by simp) _).trans (b1.mono (by simp; omega))
 rw [show (w.alloc (.cells #[.bool true,.slice ak lk ck,.slice av lk cv,.slice ac lc cc] 206)).heap.size=w.heap.size + 1 from by simp] at X1';have lt0:w.heap.size < w2.heap.size:=(zl Y1');have c0' := cl (Y1') 0 rfl;have c1:=cl (Y1') 1 rfl;have c2:=cl (Y1') 2 rfl;have c3:=cl (Y1') 3 rfl;have X:=Hd X1';have B2:=Hd B1;clear b1 X1' Y1' B1
 refine fF 13 35 [eqV (.pointer (some ⟨w.heap.size,1,none⟩)),eqV (.slice ak lk ck),eqV (.int .i64 (p:Int)),eqV (.slice a1 (lk - p) (ck - p)),oG [.slice a1 (lk - p) (ck - p)],mU w2.heap.size X1,eqV (.pointer (some ⟨w.heap.size,2,none⟩)),eqV (.slice av lk cv),eqV (.int .i64 (p:Int)),eqV (.slice a2 (lk - p) (cv - p)),oG [.slice a2 (lk - p) (cv - p)],mU w2.heap.size X2,yV w2.heap.size X1 X2,pG] (by kernel_rfl) (by kernel_rfl) (by rfl) ?owes ?ends
 case owes =>
  refine Fo 0 (fun a wx hS xo xd K HK=>?_) ?_
  ·have d2:=Fl xo 2
   clear xo xd;go_simp;exact Hr HK
  refine Fo 1 (fun a wx hS xo xd K HK=>?_) ?_
  ·have d7:=Fq xd 0
   clear xo xd;have c0:=hC c1 hS lt0;go_simp;exact Hr HK
  refine Fo 2 (fun a wx hS xo xd K HK=>?_) ?_
  ·have d1:=Fl xo 1
   clear xo xd;go_simp;exact Hr HK
  refine Fo 3 (fun a wx hS xo xd K HK=>?_) ?_
  ·have d8:=Fq xd 1
   have d9:=Fq xd 2;clear xo xd;go_simp;refine HK.out _ _ ?_ Br
   show _=_
   rw [← S1.out];simp [sliced,jV,Addr.add]
  refine Fo 4 (fun a wx hS xo xd K HK=>?_) ?_
  ·have d10:=Fq xd 3
   clear xo xd;go_simp;exact HK.out _ _ ⟨_,rfl,Rd.made _ _ _⟩ (aB _ _)
  refine Fo 5 (fun a wx hS xo xd K HK=>?_) ?_
  ·obtain ⟨a11,d11,r11⟩:=Fr xd 4
   clear xo xd;have CA:=C1.out wx a11 (chain B2.out hS) r11;clear r11;go_simp;go_wp2_with fail;refine CA.mono ?_;rintro e w9 ⟨⟨v9,rfl,h9⟩,b9⟩;exact HK.out _ _ (dA h9 hS.size) b9
  refine Fo 6 (fun a wx hS xo xd K HK=>?_) ?_
  ·have d2:=Fl xo 2
   clear xo xd;go_simp;exact Hr HK
  refine Fo 7 (fun a wx hS xo xd K HK=>?_) ?_
  ·have d13:=Fq xd 6
   clear xo xd;have c0:=hC c2 hS lt0;go_simp;exact Hr HK
  refine Fo 8 (fun a wx hS xo xd K HK=>?_) ?_
  ·have d1:=Fl xo 1
   clear xo xd;go_simp;exact Hr HK
  refine Fo 9 (fun a wx hS xo xd K HK=>?_) ?_
  ·have d14:=Fq xd 7
   have d15:=Fq xd 8;clear xo xd;go_simp;refine HK.out _ _ ?_ Br
   show _=_
   rw [← S2.out];simp [sliced,jV,Addr.add]
  refine Fo 10 (fun a wx hS xo xd K HK=>?_) ?_
  ·have d16:=Fq xd 9
   clear xo xd;go_simp;exact HK.out _ _ ⟨_,rfl,Rd.made _ _ _⟩ (aB _ _)
  refine Fo 11 (fun a wx hS xo xd K HK=>?_) ?_
  ·obtain ⟨a17,d17,r17⟩:=Fr xd 10
   clear xo xd;have CA:=C2.out wx a17 (chain B2.out hS) r17;clear r17;go_simp;go_wp2_with fail;refine CA.mono ?_;rintro e w9 ⟨⟨v9,rfl,h9⟩,b9⟩;exact HK.out _ _ (dA h9 hS.size) b9
  refine Fo 12 (fun a wx hS xo xd K HK=>?_) ?_
  ·obtain ⟨a12,c12,d12,r12,l12,m12,n12⟩:=Fr xd 5
   obtain ⟨a18,c18,d18,r18,l18,m18,n18⟩:=Fr xd 11;clear xo xd;go_simp;exact HK.out _ _ ⟨_,_,_,_,rfl,r12,r18,l12,m12,l18,m18,n12,n18⟩ Br
  refine OwesAll.skip (f:=13) ?_;exact OwesAll.nil
 case ends =>
  intro a wx hS hsz hdf hold hdone;simp only [List.getElem?_toArray,List.getElem?_cons_succ,List.getElem?_cons_zero];intro K hK;have HK:=Hd hK;clear hK;obtain ⟨xa,xb,xc,xd,dB,q1,q2,q3,q4,q5,q6,q7,q8⟩:=hdone 12 _ 19 rfl (by decide) rfl;have dR:a.tmps.getD 4 undef=.pointer (some ⟨w.heap.size + 1,0,none⟩):=hold 4 (gQ (by kernel_rfl));have hdf' : a.defers=[]:=hdf;clear hold hdone hsz hdf;rw [Array.getD_eq_getD_getElem?] at dB dR;have XB:=kept X.out hS;have y0:=cl XB 0 rfl;have y1:=cl XB 1 rfl;have y2:=cl XB 2 rfl;have y3:=cl XB 3 rfl;have f0:=ufb XB 0
  have f1:=ufb XB 1;have f2:=ufb XB 2;have f3:=ufb XB 3;rw [if_pos (by rfl)];go_simp;refine HK.out _ _ ?_
  have B9:Below w.heap.size w ((((wx.setCell ⟨w.heap.size + 1,0,none⟩ (.bool true)).setCell ⟨w.heap.size + 1,1,none⟩ (.slice xa X1.length xc)).setCell ⟨w.heap.size + 1,2,none⟩ (.slice xb X2.length xd)).setCell ⟨w.heap.size + 1,3,none⟩ (.slice none 0 0)) :=
   ((((chain B2.out hS).setCell (by simp) _).setCell (by simp) _).setCell (by simp) _).setCell (by simp) _
  clear y0 y1 y2 y3 f0 f1 f2 f3 HK K;go_wp2_with fail;have lt1:w.heap.size + 1 < w2.heap.size:=(zl X.out)
  have FIN:Hid (kK w.heap.size X1 X2 (.returned (.agg #[.bool true,.slice xa X1.length xc,.slice xb X2.length xd,.slice none 0 0])) ((((wx.setCell ⟨w.heap.size + 1,0,none⟩ (.bool true)).setCell ⟨w.heap.size + 1,1,none⟩ (.slice xa X1.length xc)).setCell ⟨w.heap.size + 1,2,none⟩ (.slice xb X2.length xd)).setCell ⟨w.heap.size + 1,3,none⟩ (.slice none 0 0))) :=
   Hd ⟨_,rfl,xa,xb,xc,xd,rfl,q1.set4 _ _ _ _ _ (fun x hx=>Nat.lt_of_lt_of_le lt1 (q7 x hx)),q2.set4 _ _ _ _ _ (fun x hx=>Nat.lt_of_lt_of_le lt1 (q8 x hx)),q3,q4,q5,q6,fun x hx=>Nat.le_trans (Nat.le_of_lt lt0) (q7 x hx),fun x hx=>Nat.le_trans (Nat.le_of_lt lt0) (q8 x hx)⟩
  have XR:((((wx.setCell ⟨w.heap.size + 1,0,none⟩ (.bool true)).setCell ⟨w.heap.size + 1,1,none⟩ (.slice xa X1.length xc)).setCell ⟨w.heap.size + 1,2,none⟩ (.slice xb X2.length xd)).setCell ⟨w.heap.size + 1,3,none⟩ (.slice none 0 0)).heap[w.heap.size + 1]?=some (.cells #[.bool true,.slice xa X1.length xc,.slice xb X2.length xd,.slice none 0 0] 206):=by
   rw [hss _ _ 3 _ _ _ (hss _ _ 2 _ _ _ (hss _ _ 1 _ _ _ (hss _ _ 0 _ _ _ XB)))]
   rfl
  generalize ((((wx.setCell ⟨w.heap.size + 1,0,none⟩ (.bool true)).setCell ⟨w.heap.size + 1,1,none⟩ (.slice xa X1.length xc)).setCell ⟨w.heap.size + 1,2,none⟩ (.slice xb X2.length xd)).setCell ⟨w.heap.size + 1,3,none⟩ (.slice none 0 0))=wz at *;have z0:=cl XR 0 rfl;have z1:=cl XR 1 rfl;have z2:=cl XR 2 rfl;have z3:=cl XR 3 rfl;exact bodyPost_ret (v:=.agg #[.bool true,.slice xa X1.length xc,.slice xb X2.length xd,.slice none 0 0]) (by simp [results,Tryz.results229,go_sem,dR,z0,z1,z2,z3]) hdf' ⟨FIN.out,B9⟩
theorem tD (ak av ac a1 a2:Option Addr) (ck cv cc lk lv p:Nat) (X1 X2:List Value) (w:World)
  (S1:Hid (sliced ak (p + 1) lk ck 1=.slice a1 (lk - (p + 1)) (ck - (p + 1))))
  (S2:Hid (sliced ac (p + 1) (lk + 1) cc 1=.slice a2 (lk - p) (cc - (p + 1))))
  (C1:Hid (∀ wx a,Below w.heap.size w wx→Rd wx a [.slice a1 (lk - (p + 1)) (ck - (p + 1))]→Calls Tryz.prog 180 #[.slice a 1 1] wx fun e w' => bO wx.heap.size 30 X1 e w'∧Below wx.heap.size wx w'))
  (C2:Hid (∀ wx a,Below w.heap.size w wx→Rd wx a [.slice a2 (lk - p) (cc - (p + 1))]→Calls Tryz.prog 211 #[.slice a 1 1] wx fun e w' => bO wx.heap.size 3 X2 e w'∧Below wx.heap.size wx w'))
  (h1:p + 1≤lk) (h4:lk≤ck) (h5:lk + 1≤cc) (h6:lk≤1000) :
  Calls Tryz.prog 229 #[.agg #[.bool false,.slice ak lk ck,.slice av lv cv,.slice ac (lk + 1) cc],.int .i64 (p:Int)] w fun e w' => pH w.heap.size X1 X2 e w'∧Below w.heap.size w w' := by
 have i0:(0:Int)≤(p:Int):=by omega
 have i1:(p:Int)≤1000:=by omega
 have i2:(p:Int)≤(ck:Int):=by omega
 have i3:(p:Int)≤(lk:Int):=by omega
 have hw1:Hid (IntKind.i64.wrap ((p:Int) + 1)=(p:Int) + 1):=Hd (IntWalk.i64_in _ (by omega));have hw2:Hid (IntKind.i64.wrap ((p:Int) + 2)=(p:Int) + 2):=Hd (IntWalk.i64_in _ (by omega));have i4:(p:Int) + 1≤(lk:Int):=by omega
 have i6:(p:Int) + 1≤(cc:Int):=by omega
 have i7:(p:Int) + 1≤(lk:Int) + 1:=by omega
 go_enter Tryz.func229,Tryz.ntmps229;go_wp2_with fail
 have b1:Below ((w.alloc (.cells #[.bool false,.slice ak lk ck,.slice av lv cv,.slice ac (lk + 1) cc] 206)).alloc (.cells #[.bool false,.slice none 0 0,.slice none 0 0,.slice none 0 0] 206)).heap.size ((w.alloc (.cells #[.bool false,.slice ak lk ck,.slice av lv cv,.slice ac (lk + 1) cc] 206)).alloc (.cells #[.bool false,.slice none 0 0,.slice none 0 0,.slice none 0 0] 206)) ((w.alloc (.cells #[.bool false,.slice ak lk ck,.slice av lv cv,.slice ac (lk + 1) cc] 206)).alloc (.cells #[.bool false,.slice none 0 0,.slice none 0 0,.slice none 0 0] 206)):=Br
 obtain ⟨w2,hw2⟩:∃ w2,(w.alloc (.cells #[.bool false,.slice ak lk ck,.slice av lv cv,.slice ac (lk + 1) cc] 206)).alloc (.cells #[.bool false,.slice none 0 0,.slice none 0 0,.slice none 0 0] 206)=w2:=⟨_,rfl⟩
 rw [hw2];have b1:Below ((w.alloc (.cells #[.bool false,.slice ak lk ck,.slice av lv cv,.slice ac (lk + 1) cc] 206)).alloc (.cells #[.bool false,.slice none 0 0,.slice none 0 0,.slice none 0 0] 206)).heap.size ((w.alloc (.cells #[.bool false,.slice ak lk ck,.slice av lv cv,.slice ac (lk + 1) cc] 206)).alloc (.cells #[.bool false,.slice none 0 0,.slice none 0 0,.slice none 0 0] 206)) w2:=by rw [hw2]; exact Br
 clear hw2;have X1' := kept (han (w.alloc _) _) b1;have Y1' := kept (show ((w.alloc (.cells #[.bool false,.slice ak lk ck,.slice av lv cv,.slice ac (lk + 1) cc] 206)).alloc (.cells #[.bool false,.slice none 0 0,.slice none 0 0,.slice none 0 0] 206)).heap[w.heap.size]?=some (.cells #[.bool false,.slice ak lk ck,.slice av lv cv,.slice ac (lk + 1) cc] 206) from (hao _ _ (by simp)).trans (han w _)) b1;have B1:Below w.heap.size w w2:=((Br.alloc (Nat.le_refl _) _).alloc (by simp) _).trans (b1.mono (by simp; omega))
 rw [show (w.alloc (.cells #[.bool false,.slice ak lk ck,.slice av lv cv,.slice ac (lk + 1) cc] 206)).heap.size=w.heap.size + 1 from by simp] at X1';have lt0:w.heap.size < w2.heap.size:=(zl Y1');have c0' := cl (Y1') 0 rfl;have c1:=cl (Y1') 1 rfl;have c2:=cl (Y1') 2 rfl;have c3:=cl (Y1') 3 rfl;have X:=Hd X1';have B2:=Hd B1;clear b1 X1' Y1' B1
 refine fF 15 35 [eqV (.pointer (some ⟨w.heap.size,1,none⟩)),eqV (.slice ak lk ck),eqV (.int .i64 (p:Int)),eqV (.int .i64 ((p:Int) + 1)),eqV (.slice a1 (lk - (p + 1)) (ck - (p + 1))),oG [.slice a1 (lk - (p + 1)) (ck - (p + 1))],mU w2.heap.size X1,eqV (.pointer (some ⟨w.heap.size,3,none⟩)),eqV (.slice ac (lk + 1) cc),eqV (.int .i64 (p:Int)),eqV (.int .i64 ((p:Int) + 1)),eqV (.slice a2 (lk - p) (cc - (p + 1))),oG [.slice a2 (lk - p) (cc - (p + 1))],mU w2.heap.size X2,IF w2.heap.size X1 X2,pG] (by kernel_rfl) (by kernel_rfl) (by rfl) ?owes ?ends
 case owes =>
  refine Fo 0 (fun a wx hS xo xd K HK=>?_) ?_
  ·have d2:=Fl xo 2
   clear xo xd;go_simp;exact Hr HK
  refine Fo 1 (fun a wx hS xo xd K HK=>?_) ?_
  ·have d20:=Fq xd 0
   clear xo xd;have c0:=hC c1 hS lt0;go_simp;exact Hr HK
  refine Fo 2 (fun a wx hS xo xd K HK=>?_) ?_
  ·have d1:=Fl xo 1
   clear xo xd;go_simp;exact Hr HK
  refine Fo 3 (fun a wx hS xo xd K HK=>?_) ?_
  ·have d22:=Fq xd 2
   clear xo xd;go_simp;refine HK.out _ _ ?_ Br
   show _=_
   first | rfl | rw [hw1.out]
  refine Fo 4 (fun a wx hS xo xd K HK=>?_) ?_
  ·have d21:=Fq xd 1
   have d23:=Fq xd 3;clear xo xd;go_simp;refine HK.out _ _ ?_ Br
   show _=_
   rw [← S1.out];simp [sliced,jV,Addr.add]
  refine Fo 5 (fun a wx hS xo xd K HK=>?_) ?_
  ·have d24:=Fq xd 4
   clear xo xd;go_simp;exact HK.out _ _ ⟨_,rfl,Rd.made _ _ _⟩ (aB _ _)
  refine Fo 6 (fun a wx hS xo xd K HK=>?_) ?_
  ·obtain ⟨a25,d25,r25⟩:=Fr xd 5
   clear xo xd;have CA:=C1.out wx a25 (chain B2.out hS) r25;clear r25;go_simp;go_wp2_with fail;refine CA.mono ?_;rintro e w9 ⟨⟨v9,rfl,h9⟩,b9⟩;exact HK.out _ _ (dA h9 hS.size) b9
  refine Fo 7 (fun a wx hS xo xd K HK=>?_) ?_
  ·have d2:=Fl xo 2
   clear xo xd;go_simp;exact Hr HK
  refine Fo 8 (fun a wx hS xo xd K HK=>?_) ?_
  ·have d27:=Fq xd 7
   clear xo xd;have c0:=hC c3 hS lt0;go_simp;exact Hr HK
  refine Fo 9 (fun a wx hS xo xd K HK=>?_) ?_
  ·have d1:=Fl xo 1
   clear xo xd;go_simp;exact Hr HK
  refine Fo 10 (fun a wx hS xo xd K HK=>?_) ?_
  ·have d29:=Fq xd 9
   clear xo xd;go_simp;refine HK.out _ _ ?_ Br
   show _=_
   first | rfl | rw [hw1.out]
  refine Fo 11 (fun a wx hS xo xd K HK=>?_) ?_
  ·have d28:=Fq xd 8
   have d30:=Fq xd 10;clear xo xd;go_simp;refine HK.out _ _ ?_ Br
   show _=_
   rw [← S2.out];simp [sliced,jV,Addr.add]
  refine Fo 12 (fun a wx hS xo xd K HK=>?_) ?_
  ·have d31:=Fq xd 11
   clear xo xd;go_simp;exact HK.out _ _ ⟨_,rfl,Rd.made _ _ _⟩ (aB _ _)
  refine Fo 13 (fun a wx hS xo xd K HK=>?_) ?_
  ·obtain ⟨a32,d32,r32⟩:=Fr xd 12
   clear xo xd;have CA:=C2.out wx a32 (chain B2.out hS) r32;clear r32;go_simp;go_wp2_with fail;refine CA.mono ?_;rintro e w9 ⟨⟨v9,rfl,h9⟩,b9⟩;exact HK.out _ _ (dA h9 hS.size) b9
  refine Fo 14 (fun a wx hS xo xd K HK=>?_) ?_
  ·obtain ⟨a26,c26,d26,r26,l26,m26,n26⟩:=Fr xd 6
   obtain ⟨a33,c33,d33,r33,l33,m33,n33⟩:=Fr xd 13;clear xo xd;go_simp;exact HK.out _ _ ⟨_,_,_,_,rfl,r26,r33,l26,m26,l33,m33,n26,n33⟩ Br
  refine OwesAll.skip (f:=15) ?_;exact OwesAll.nil
 case ends =>
  intro a wx hS hsz hdf hold hdone;simp only [List.getElem?_toArray,List.getElem?_cons_succ,List.getElem?_cons_zero];intro K hK;have HK:=Hd hK;clear hK;obtain ⟨xa,xb,xc,xd,dB,q1,q2,q3,q4,q5,q6,q7,q8⟩:=hdone 14 _ 34 rfl (by decide) rfl;have dR:a.tmps.getD 4 undef=.pointer (some ⟨w.heap.size + 1,0,none⟩):=hold 4 (gQ (by kernel_rfl));have hdf' : a.defers=[]:=hdf;clear hold hdone hsz hdf;rw [Array.getD_eq_getD_getElem?] at dB dR;have XB:=kept X.out hS;have y0:=cl XB 0 rfl;have y1:=cl XB 1 rfl;have y2:=cl XB 2 rfl;have y3:=cl XB 3 rfl;have f0:=ufb XB 0
  have f1:=ufb XB 1;have f2:=ufb XB 2;have f3:=ufb XB 3;rw [if_pos (by rfl)];go_simp;refine HK.out _ _ ?_
  have B9:Below w.heap.size w ((((wx.setCell ⟨w.heap.size + 1,0,none⟩ (.bool false)).setCell ⟨w.heap.size + 1,1,none⟩ (.slice xa X1.length xc)).setCell ⟨w.heap.size + 1,2,none⟩ (.slice none 0 0)).setCell ⟨w.heap.size + 1,3,none⟩ (.slice xb X2.length xd)) :=
   ((((chain B2.out hS).setCell (by simp) _).setCell (by simp) _).setCell (by simp) _).setCell (by simp) _
  clear y0 y1 y2 y3 f0 f1 f2 f3 HK K;go_wp2_with fail;have lt1:w.heap.size + 1 < w2.heap.size:=(zl X.out)
  have FIN:Hid (pH w.heap.size X1 X2 (.returned (.agg #[.bool false,.slice xa X1.length xc,.slice none 0 0,.slice xb X2.length xd])) ((((wx.setCell ⟨w.heap.size + 1,0,none⟩ (.bool false)).setCell ⟨w.heap.size + 1,1,none⟩ (.slice xa X1.length xc)).setCell ⟨w.heap.size + 1,2,none⟩ (.slice none 0 0)).setCell ⟨w.heap.size + 1,3,none⟩ (.slice xb X2.length xd))) :=
   Hd ⟨_,rfl,xa,xb,xc,xd,rfl,q1.set4 _ _ _ _ _ (fun x hx=>Nat.lt_of_lt_of_le lt1 (q7 x hx)),q2.set4 _ _ _ _ _ (fun x hx=>Nat.lt_of_lt_of_le lt1 (q8 x hx)),q3,q4,q5,q6,fun x hx=>Nat.le_trans (Nat.le_of_lt lt0) (q7 x hx),fun x hx=>Nat.le_trans (Nat.le_of_lt lt0) (q8 x hx)⟩
  have XR:((((wx.setCell ⟨w.heap.size + 1,0,none⟩ (.bool false)).setCell ⟨w.heap.size + 1,1,none⟩ (.slice xa X1.length xc)).setCell ⟨w.heap.size + 1,2,none⟩ (.slice none 0 0)).setCell ⟨w.heap.size + 1,3,none⟩ (.slice xb X2.length xd)).heap[w.heap.size + 1]?=some (.cells #[.bool false,.slice xa X1.length xc,.slice none 0 0,.slice xb X2.length xd] 206):=by
   rw [hss _ _ 3 _ _ _ (hss _ _ 2 _ _ _ (hss _ _ 1 _ _ _ (hss _ _ 0 _ _ _ XB)))]
   rfl
  generalize ((((wx.setCell ⟨w.heap.size + 1,0,none⟩ (.bool false)).setCell ⟨w.heap.size + 1,1,none⟩ (.slice xa X1.length xc)).setCell ⟨w.heap.size + 1,2,none⟩ (.slice none 0 0)).setCell ⟨w.heap.size + 1,3,none⟩ (.slice xb X2.length xd))=wz at *;have z0:=cl XR 0 rfl;have z1:=cl XR 1 rfl;have z2:=cl XR 2 rfl;have z3:=cl XR 3 rfl;exact bodyPost_ret (v:=.agg #[.bool false,.slice xa X1.length xc,.slice none 0 0,.slice xb X2.length xd]) (by simp [results,Tryz.results229,go_sem,dR,z0,z1,z2,z3]) hdf' ⟨FIN.out,B9⟩
def kL (lo:Nat) (n:Nod) (e:Ending) (w' : World):Prop:=∃ ak av ac ck cv cc,e=.returned (aQ n ak av ac ck cv cc)∧NodR w' n ak av ac ck cv cc∧(∀ x,ak=some x→lo≤x.block)∧(∀ x,av=some x→lo≤x.block)∧∀ x,ac=some x→lo≤x.block
theorem XO (n:Nod) (key:Int) (v:ByteArray) (ho:dP n) (hn:n.K.length≤900) (hm:n.V.length≤900) (hkb:0≤key∧key≤18446744073709551615) (hvb:v.size≤140737488351232):dP (eO n key v):=by
 unfold eO
 split
 ·refine ⟨?_,?_,by simp,?_,?_,by simp⟩
  ·simp only [List.length_append,List.length_take,List.length_drop,List.length_cons,List.length_nil]; omega
  ·simp only [List.length_append,List.length_take,List.length_drop,List.length_cons,List.length_nil]; omega
  ·intro x hx
   simp only [List.mem_append,List.mem_cons,List.not_mem_nil,or_false] at hx
   rcases hx with (hx | hx) | hx
   ·exact ho.kb x (List.mem_of_mem_take hx)
   ·rw [hx]; exact hkb
   ·exact ho.kb x (List.mem_of_mem_drop hx)
  ·intro x hx
   simp only [List.mem_append,List.mem_cons,List.not_mem_nil,or_false] at hx
   rcases hx with (hx | hx) | hx
   ·exact ho.vb x (List.mem_of_mem_take hx)
   ·rw [hx]; exact hvb
   ·exact ho.vb x (List.mem_of_mem_drop hx)
 ·exact ho
theorem QX (n:Nod) (ak av ac:Option Addr) (ck cv cc:Nat) (w:World) (h:NodR w n ak av ac ck cv cc) (key:Int) (v:ByteArray) (hl:n.leaf=true) (hw:bH n=true) (hn:n.K.length≤900) (hkb:0≤key∧key≤18446744073709551615) (hvb:v.size≤140737488351232) :
  Calls Tryz.prog 187 #[aQ n ak av ac ck cv cc,.int .u64 key,.string v] w fun e w' => kL w.heap.size (eO n key v) e w'∧Below w.heap.size w w' := by
 have hwl:=(bJ hl).1 hw;have hok:=XO n key v h.ok hn (by omega) hkb hvb;obtain ⟨⟨p,ok⟩,hp⟩:∃ po,bI n key=po:=⟨_,rfl⟩
 have hple:=sL n key;have hplt:=sK n key;rw [hp] at hple hplt
 have hput:eO n key v={ leaf:=true,K:=n.K.take p ++ [key] ++ n.K.drop (p + (if ok then 1 else 0)),V:=n.V.take p ++ [v] ++ n.V.drop (p + (if ok then 1 else 0)),C:=[] }:=by
  unfold eO;rw [if_pos (by rw [hl,hw]; rfl),hp]
 have hqle:p + (if ok then 1 else 0)≤n.K.length:=by
  cases ok
  ·simpa using hple
  ·have:=hplt rfl hl; simp at this ⊢; omega
 obtain ⟨a1,S1,R1⟩:=h.k.sliced 0 p ck (Nat.zero_le _) (by simpa using hple) (by simpa using h.k2);obtain ⟨a2,S2,R2⟩:=h.k.sliced (p + (if ok then 1 else 0)) n.K.length ck hqle (by simp) (by simpa using h.k2);obtain ⟨a3,S3,R3⟩:=h.v.sliced 0 p cv (Nat.zero_le _) (by simp [hwl.1]; exact hple) (by simpa using h.v2);obtain ⟨a4,S4,R4⟩:=h.v.sliced (p + (if ok then 1 else 0)) n.K.length cv hqle (by simp [hwl.1]) (by simpa using h.v2);simp only [Nat.sub_zero,List.drop_zero] at S1 S3 R1 R3;have hk1:=h.ok.k1;have hv2:=h.v2;rw [hwl.1] at hv2
 have CK:∀ wx a m,Below w.heap.size w wx→Rd wx a [.slice a1 p ck,.slice m 1 1,.slice a2 (n.K.length - (p + (if ok then 1 else 0))) (ck - (p + (if ok then 1 else 0)))]→Rd wx m [bS key] →
   Calls Tryz.prog 180 #[.slice a 3 3] wx fun e w' => bO wx.heap.size 30 ((eO n key v).K.map bS) e w'∧Below wx.heap.size wx w' := by
  intro wx a m hb ha hm
  have:=TG a 3 [⟨a1,(n.K.map bS).take p,ck⟩,⟨m,[bS key],1⟩,⟨a2,((n.K.map bS).drop (p + (if ok then 1 else 0))).take (n.K.length - (p + (if ok then 1 else 0))),ck - (p + (if ok then 1 else 0))⟩] wx
   (by
    have e1:((n.K.map bS).take p).length=p:=by simp; omega
    have e2:(((n.K.map bS).drop (p + (if ok then 1 else 0))).take (n.K.length - (p + (if ok then 1 else 0)))).length=n.K.length - (p + (if ok then 1 else 0)):=by simp
    simp only [List.map_cons,List.map_nil,Src.val,e1,e2,List.length_cons,List.length_nil];exact ha)
   (by
    intro s hs;simp only [List.mem_cons,List.not_mem_nil,or_false] at hs
    rcases hs with rfl | rfl | rfl
    ·exact R1.below hb
    ·exact hm
    ·exact R2.below hb)
   (by
    intro s hs u hu;simp only [List.mem_cons,List.not_mem_nil,or_false] at hs
    rcases hs with rfl | rfl | rfl
    ·obtain ⟨x,_,rfl⟩:=List.mem_map.1 (List.mem_of_mem_take hu); rfl
    ·simp at hu; subst hu; rfl
    ·obtain ⟨x,_,rfl⟩:=List.mem_map.1 (List.mem_of_mem_drop (List.mem_of_mem_take hu)); rfl)
   (by simp [aR]; omega) (by simp)
  have e:aR [⟨a1,(n.K.map bS).take p,ck⟩,⟨m,[bS key],1⟩,⟨a2,((n.K.map bS).drop (p + (if ok then 1 else 0))).take (n.K.length - (p + (if ok then 1 else 0))),ck - (p + (if ok then 1 else 0))⟩]=(eO n key v).K.map bS:=by
   rw [hput];simp only [aR,List.map_append,List.map_take,List.map_drop,List.map_cons,List.map_nil,List.append_nil,List.append_assoc]
   congr 2
   rw [List.take_of_length_le (by simp)]
  rw [e] at this;exact this
 have CV:∀ wx a m,Below w.heap.size w wx→Rd wx a [.slice a3 p cv,.slice m 1 1,.slice a4 (n.K.length - (p + (if ok then 1 else 0))) (cv - (p + (if ok then 1 else 0)))]→Rd wx m [.string v] →
   Calls Tryz.prog 181 #[.slice a 3 3] wx fun e w' => bO wx.heap.size 9 ((eO n key v).V.map Value.string) e w'∧Below wx.heap.size wx w' := by
  intro wx a m hb ha hm
  have:=TH a 3 [⟨a3,(n.V.map Value.string).take p,cv⟩,⟨m,[.string v],1⟩,⟨a4,((n.V.map Value.string).drop (p + (if ok then 1 else 0))).take (n.K.length - (p + (if ok then 1 else 0))),cv - (p + (if ok then 1 else 0))⟩] wx
   (by
    have e1:((n.V.map Value.string).take p).length=p:=by simp [hwl.1]; omega
    have e2:(((n.V.map Value.string).drop (p + (if ok then 1 else 0))).take (n.K.length - (p + (if ok then 1 else 0)))).length=n.K.length - (p + (if ok then 1 else 0)):=by simp [hwl.1]
    simp only [List.map_cons,List.map_nil,Src.val,e1,e2,List.length_cons,List.length_nil];exact ha)
   (by
    intro s hs;simp only [List.mem_cons,List.not_mem_nil,or_false] at hs
    rcases hs with rfl | rfl | rfl
    ·exact R3.below hb
    ·exact hm
    ·exact R4.below hb)
   (by
    intro s hs u hu;simp only [List.mem_cons,List.not_mem_nil,or_false] at hs
    rcases hs with rfl | rfl | rfl
    ·obtain ⟨x,_,rfl⟩:=List.mem_map.1 (List.mem_of_mem_take hu); rfl
    ·simp at hu; subst hu; rfl
    ·obtain ⟨x,_,rfl⟩:=List.mem_map.1 (List.mem_of_mem_drop (List.mem_of_mem_take hu)); rfl)
   (by simp [aR,hwl.1]; omega) (by simp)
  have e:aR [⟨a3,(n.V.map Value.string).take p,cv⟩,⟨m,[.string v],1⟩,⟨a4,((n.V.map Value.string).drop (p + (if ok then 1 else 0))).take (n.K.length - (p + (if ok then 1 else 0))),cv - (p + (if ok then 1 else 0))⟩]=(eO n key v).V.map Value.string:=by
   rw [hput];simp only [aR,List.map_append,List.map_take,List.map_drop,List.map_cons,List.map_nil,List.append_nil,List.append_assoc]
   congr 2
   rw [List.take_of_length_le (by simp [hwl.1])]
  rw [e] at this;exact this
 have WH:∀ w,Calls Tryz.prog 179 #[aQ n ak av ac ck cv cc] w fun e w' => e=.returned (.bool true)∧Below w.heap.size w w' := fun w=>iC n ak av ac ck cv cc w h.ok true hw
 have FI:∀ w1,Below w.heap.size w w1→Calls Tryz.prog 177 #[aQ n ak av ac ck cv cc,.int .u64 key] w1 fun e w' => e=.returned (.tuple #[.int .i64 (p:Int),.bool ok])∧Below w1.heap.size w1 w' := fun w1 hb=>vQ n ak av ac ck cv cc w1 (h.below hb) key p ok (Hd hp)
 have FIN:∀ e w', kK w.heap.size ((eO n key v).K.map bS) ((eO n key v).V.map Value.string) e w'∧Below w.heap.size w w'→kL w.heap.size (eO n key v) e w'∧Below w.heap.size w w' := by
  rintro e w' ⟨⟨x,rfl,xa,xb,xc,xd,rfl,q1,q2,q3,q4,q5,q6,q7,q8⟩,hb⟩;refine ⟨⟨xa,xb,none,xc,xd,0,?_,⟨q1,q2,?_,by simpa using q3,q4,by simpa using q5,q6,?_,Nat.zero_le _,hok⟩,q7,q8,fun x hx=>by cases hx⟩,hb⟩
  ·unfold aQ
   rw [yG n key v hl];rw [hput];simp
  ·rw [hput]; exact .inl rfl
  ·rw [hput]; simp
 unfold aQ at WH FI ⊢;rw [hl,hwl.1] at WH FI ⊢
 cases ok
 ·simp only [Bool.false_eq_true,if_false,Nat.add_zero] at *
  exact (XP ak av ac a1 a2 a3 a4 ck cv cc n.K.length n.C.length p key v _ _ w (Hd WH) (Hd FI) (Hd S1) (Hd S2) (Hd S3) (Hd S4) (Hd CK) (Hd CV) hple hqle h.k2 hv2 hk1).mono FIN
 ·simp only [if_true] at *
  exact (SK ak av ac a1 a2 a3 a4 ck cv cc n.K.length n.C.length p key v _ _ w (Hd WH) (Hd FI) (Hd S1) (Hd S2) (Hd S3) (Hd S4) (Hd CK) (Hd CV) hple hqle h.k2 hv2 hk1).mono FIN
def AV (F:FuncId) (T:TypeId):Prop:=∀ (al:Option Addr) (cl:Nat) (l:List Src) (w:World),Rd w al (l.map Src.val)→(∀ s∈l,Rd w s.a s.L)→(∀ s∈l,∀ u∈s.L,u.oneCell'=true)→(aR l).length≤100000→l.length≤1000 →
 Calls Tryz.prog F #[.slice al l.length cl] w fun e w' => bO w.heap.size T (aR l) e w'∧Below w.heap.size w w'
theorem aCI {F:FuncId} {T:TypeId} (G:AV F T) {w:World} (M:List Value) (h1:∀ u∈M,u.oneCell'=true) (x:Value) (hx:x.oneCell'=true) (p q d:Nat) (hp:p≤M.length) (hd:d=M.length - q) (hM:M.length≤1001) {a1 a2:Option Addr} {c1 c2:Nat}
  (R1:Rd w a1 (M.take p)) (R2:Rd w a2 (M.drop q)) (wx:World) (a m:Option Addr) (hb:Below w.heap.size w wx) (ha:Rd wx a [.slice a1 p c1,.slice m 1 1,.slice a2 d c2]) (hm:Rd wx m [x]) :
  Calls Tryz.prog F #[.slice a 3 3] wx fun e w' => bO wx.heap.size T (M.take p ++ [x] ++ M.drop q) e w'∧Below wx.heap.size wx w' := by
 have:=G a 3 [⟨a1,M.take p,c1⟩,⟨m,[x],1⟩,⟨a2,M.drop q,c2⟩] wx
  (by
   have e1:(M.take p).length=p:=by simp; omega
   have e2:(M.drop q).length=d:=by simp; omega
   simp only [List.map_cons,List.map_nil,Src.val,e1,e2,List.length_cons,List.length_nil];exact ha)
  (by
   intro s hs;simp only [List.mem_cons,List.not_mem_nil,or_false] at hs
   rcases hs with rfl | rfl | rfl
   ·exact R1.below hb
   ·exact hm
   ·exact R2.below hb)
  (by
   intro s hs u hu;simp only [List.mem_cons,List.not_mem_nil,or_false] at hs
   rcases hs with rfl | rfl | rfl
   ·exact h1 u (List.mem_of_mem_take hu)
   ·simp at hu; subst hu; exact hx
   ·exact h1 u (List.mem_of_mem_drop hu))
  (by simp [aR]; omega) (by simp)
 have e:aR [⟨a1,M.take p,c1⟩,⟨m,[x],1⟩,⟨a2,M.drop q,c2⟩]=M.take p ++ [x] ++ M.drop q:=by simp [aR]
 rw [e] at this;exact this
theorem EZ {F:FuncId} {T:TypeId} (G:AV F T) {w:World} (M:List Value) (h1:∀ u∈M,u.oneCell'=true) (p:Nat) (hp:p=M.length) (hM:M.length≤2000) {a1:Option Addr} {c1:Nat}
  (R1:Rd w a1 M) (wx:World) (a:Option Addr) (hb:Below w.heap.size w wx) (ha:Rd wx a [.slice a1 p c1]) :
  Calls Tryz.prog F #[.slice a 1 1] wx fun e w' => bO wx.heap.size T M e w'∧Below wx.heap.size wx w' := by
 subst hp
 have:=G a 1 [⟨a1,M,c1⟩] wx
  (by simp only [List.map_cons,List.map_nil,Src.val]; exact ha)
  (by
   intro s hs;simp only [List.mem_cons,List.not_mem_nil,or_false] at hs;subst hs;exact R1.below hb)
  (by
   intro s hs u hu;simp only [List.mem_cons,List.not_mem_nil,or_false] at hs;subst hs;exact h1 u hu)
  (by simp [aR]; omega) (by simp)
 have e:aR [⟨a1,M,c1⟩]=M:=by simp [aR]
 rw [e] at this;exact this
theorem qH:AV 180 30:=TG
theorem IU:AV 181 9:=TH
theorem vO:AV 211 3:=aA8
theorem IE (K:List Int):∀ u∈K.map bS,u.oneCell'=true:=fun u hu=>by obtain ⟨x,_,rfl⟩:=List.mem_map.1 hu; rfl
theorem SI (K:List Int):∀ u∈K.map fP,u.oneCell'=true:=fun u hu=>by obtain ⟨x,_,rfl⟩:=List.mem_map.1 hu; rfl
theorem ZV (V:List ByteArray):∀ u∈V.map Value.string,u.oneCell'=true:=fun u hu=>by obtain ⟨x,_,rfl⟩:=List.mem_map.1 hu; rfl
theorem lV {w:World} {a:Option Addr} {L:List Value} (h:Rd w a L) (lo hi cap:Nat) (hhi:hi=L.length) (h1:lo≤L.length) (h3:L.length≤cap) :
  ∃ a', sliced a lo hi cap 1=.slice a' (hi - lo) (cap - lo)∧Rd w a' (L.drop lo):=by
 subst hhi;obtain ⟨a', h4,h5⟩:=h.sliced lo L.length cap h1 (Nat.le_refl _) h3;exact ⟨a', h4,by rwa [List.take_of_length_le (by simp)] at h5⟩
theorem nW {w:World} {a:Option Addr} {L:List Value} (h:Rd w a L) (hi cap:Nat) (h1:hi≤L.length) (h3:L.length≤cap) :
  ∃ a', sliced a 0 hi cap 1=.slice a' hi cap∧Rd w a' (L.take hi):=by
 obtain ⟨a', h4,h5⟩:=h.sliced 0 hi cap (Nat.zero_le _) h1 h3;exact ⟨a', by simp only [Nat.sub_zero] at h4; exact h4,by simp only [Nat.sub_zero,List.drop_zero] at h5; exact h5⟩
theorem YJ (n:Nod) (i key kid:Int) (ho:dP n) (hn:n.K.length≤900) (hm:n.C.length≤900) (hkb:0≤key∧key≤18446744073709551615) (hvb:-9223372036854775808≤kid∧kid≤9223372036854775807):dP (mP n i key kid):=by
 unfold mP
 split
 ·refine ⟨?_,by simp,?_,?_,by simp,?_⟩
  ·simp only [List.length_append,List.length_take,List.length_drop,List.length_cons,List.length_nil]; omega
  ·simp only [List.length_append,List.length_take,List.length_drop,List.length_cons,List.length_nil]; omega
  ·intro x hx
   simp only [List.mem_append,List.mem_cons,List.not_mem_nil,or_false] at hx
   rcases hx with (hx | hx) | hx
   ·exact ho.kb x (List.mem_of_mem_take hx)
   ·rw [hx]; exact hkb
   ·exact ho.kb x (List.mem_of_mem_drop hx)
  ·intro x hx
   simp only [List.mem_append,List.mem_cons,List.not_mem_nil,or_false] at hx
   rcases hx with (hx | hx) | hx
   ·exact ho.cb x (List.mem_of_mem_take hx)
   ·rw [hx]; exact hvb
   ·exact ho.cb x (List.mem_of_mem_drop hx)
 ·exact ho
theorem YK (n:Nod) (ak av ac:Option Addr) (ck cv cc:Nat) (w:World) (h:NodR w n ak av ac ck cv cc) (p:Nat) (key kid:Int) (hl:n.leaf=false) (hw:bH n=true) (hp:p≤n.K.length) (hn:n.K.length≤800) (hkb:0≤key∧key≤18446744073709551615) (hvb:-9223372036854775808≤kid∧kid≤9223372036854775807) :
  Calls Tryz.prog 189 #[aQ n ak av ac ck cv cc,.int .i64 (p:Int),.int .u64 key,.int .i64 kid] w fun e w' => kL w.heap.size (mP n (p:Int) key kid) e w'∧Below w.heap.size w w' := by
 have hwl:=(aW hl).1 hw;have hok:=YJ n (p:Int) key kid h.ok (by omega) (by omega) hkb hvb
 have hhang:mP n (p:Int) key kid={ leaf:=false,K:=n.K.take p ++ [key] ++ n.K.drop p,V:=[],C:=n.C.take (p + 1) ++ [kid] ++ n.C.drop (p + 1) }:=by
  unfold mP;rw [if_pos (by rw [hl,hw]; simp; omega)];simp
 have hk2:=h.k2;have hc2:=h.c2;rw [hwl.1] at hc2;obtain ⟨a1,S1,R1⟩:=nW h.k p ck (by simpa using hp) (by simpa using hk2);obtain ⟨a2,S2,R2⟩:=lV h.k p n.K.length ck (by simp) (by simpa using hp) (by simpa using hk2);obtain ⟨a3,S3,R3⟩:=nW h.c (p + 1) cc (by simp [hwl.1]; omega) (by simpa using h.c2);obtain ⟨a4,S4,R4⟩:=lV h.c (p + 1) (n.K.length + 1) cc (by simp [hwl.1]) (by simp [hwl.1]; omega) (by simpa using h.c2);rw [show n.K.length + 1 - (p + 1)=n.K.length - p from by omega] at S4
 have CK:=fun wx a m hb ha hm=>aCI qH (n.K.map bS) (IE _) (bS key) rfl p p (n.K.length - p) (by simpa using hp) (by simp) (by simp; omega) (c1:=ck) (c2:=ck - p) R1 R2 wx a m hb ha hm
 have CC:=fun wx a m hb ha hm=>aCI vO (n.C.map fP) (SI _) (fP kid) rfl (p + 1) (p + 1) (n.K.length - p) (by simp [hwl.1]; omega) (by simp [hwl.1]) (by simp; omega) (c1:=cc) (c2:=cc - (p + 1)) R3 R4 wx a m hb ha hm
 have WH:∀ w,Calls Tryz.prog 179 #[aQ n ak av ac ck cv cc] w fun e w' => e=.returned (.bool true)∧Below w.heap.size w w' := fun w=>iC n ak av ac ck cv cc w h.ok true hw
 unfold aQ at WH ⊢;rw [hl,hwl.1] at WH ⊢;refine (TF ak av ac a1 a2 a3 a4 ck cv cc n.K.length n.V.length p key kid _ _ w (Hd WH) (Hd S1) (Hd S2) (Hd S3) (Hd S4) (Hd CK) (Hd CC) hp hk2 hc2 h.ok.k1).mono ?_;rintro e w' ⟨⟨x,rfl,xa,xb,xc,xd,rfl,q1,q2,q3,q4,q5,q6,q7,q8⟩,hb⟩;have eK:(mP n (p:Int) key kid).K.map bS=(n.K.map bS).take p ++ [bS key] ++ (n.K.map bS).drop p:=by rw [hhang]; simp [List.map_take,List.map_drop]
 have eC:(mP n (p:Int) key kid).C.map fP=(n.C.map fP).take (p + 1) ++ [fP kid] ++ (n.C.map fP).drop (p + 1):=by rw [hhang]; simp [List.map_take,List.map_drop]
 rw [← eK] at q1 q3;rw [← eC] at q2 q5;refine ⟨⟨xa,none,xb,xc,0,xd,?_,⟨q1,?_,q2,by simpa using q3,q4,?_,Nat.zero_le _,by simpa using q5,q6,hok⟩,q7,(fun x hx=>by cases hx),q8⟩,hb⟩
 ·unfold aQ
  rw [← eK,← eC,hhang];simp
 ·rw [hhang]; exact .inl rfl
 ·rw [hhang]; simp
def wW (n:Nod) (i:Nat):Nod:={ leaf:=true,K:=n.K.take i ++ n.K.drop (i + 1),V:=n.V.take i ++ n.V.drop (i + 1),C:=[] }
def aO (n:Nod) (p:Nat):Nod:=if n.leaf then { leaf:=true,K:=n.K.take p,V:=n.V.take p,C:=[] } else { leaf:=false,K:=n.K.take p,V:=[],C:=n.C.take (p + 1) }
def aV (n:Nod) (p:Nat):Nod:=if n.leaf then { leaf:=true,K:=n.K.drop p,V:=n.V.drop p,C:=[] } else { leaf:=false,K:=n.K.drop (p + 1),V:=[],C:=n.C.drop (p + 1) }
def cC (lf:Bool):Nat:=if lf then 2 else 3
def eZ (n:Nod) (i:Nat):Nat:=if n.leaf then 9 + (n.V.getD i ByteArray.empty).size else 10
theorem UV (n:Nod) (p:Nat) (ho:dP n):dP (aO n p):=by
 unfold aO
 split
 ·exact ⟨Nat.le_trans (by simp; omega) ho.k1,Nat.le_trans (by simp; omega) ho.v1,Nat.zero_le _,fun x hx=>ho.kb x (List.mem_of_mem_take hx),fun x hx=>ho.vb x (List.mem_of_mem_take hx),fun x hx=>(by cases hx)⟩
 ·exact ⟨Nat.le_trans (by simp; omega) ho.k1,Nat.zero_le _,Nat.le_trans (by simp; omega) ho.c1,fun x hx=>ho.kb x (List.mem_of_mem_take hx),fun x hx=>(by cases hx),fun x hx=>ho.cb x (List.mem_of_mem_take hx)⟩
theorem OI (n:Nod) (p:Nat) (ho:dP n):dP (aV n p):=by
 unfold aV
 split
 ·exact ⟨Nat.le_trans (by simp) ho.k1,Nat.le_trans (by simp) ho.v1,Nat.zero_le _,fun x hx=>ho.kb x (List.mem_of_mem_drop hx),fun x hx=>ho.vb x (List.mem_of_mem_drop hx),fun x hx=>(by cases hx)⟩
 ·exact ⟨Nat.le_trans (by simp) ho.k1,Nat.zero_le _,Nat.le_trans (by simp) ho.c1,fun x hx=>ho.kb x (List.mem_of_mem_drop hx),fun x hx=>(by cases hx),fun x hx=>ho.cb x (List.mem_of_mem_drop hx)⟩
theorem AR (n:Nod) (ak av ac:Option Addr) (ck cv cc:Nat) (w:World) (h:NodR w n ak av ac ck cv cc) (p:Nat) (hw:bH n=true) (hp:p≤n.K.length) :
  Calls Tryz.prog 228 #[aQ n ak av ac ck cv cc,.int .i64 (p:Int)] w fun e w' => kL w.heap.size (aO n p) e w'∧Below w.heap.size w w' := by
 have hok:=UV n p h.ok;have hk1:=h.ok.k1;have hk2:=h.k2;obtain ⟨a1,S1,R1⟩:=nW h.k p ck (by simp; omega) (by simpa using hk2);have e1:((n.K.map bS).take p).length=p:=by simp; omega
 have CK:=fun wx a hb ha=>EZ qH ((n.K.map bS).take p) (fun u hu=>IE _ u (List.mem_of_mem_take hu)) p e1.symm (by omega) (c1:=ck) R1 wx a hb ha
 cases hl:n.leaf with
 | true =>
  have hwl:=(bJ hl).1 hw;have hv2:=h.v2;rw [hwl.1] at hv2;obtain ⟨a2,S2,R2⟩:=nW h.v p cv (by simp [hwl.1]; omega) (by simpa using h.v2);have e2:((n.V.map Value.string).take p).length=p:=by simp [hwl.1]; omega
  have CV:=fun wx a hb ha=>EZ IU ((n.V.map Value.string).take p) (fun u hu=>ZV _ u (List.mem_of_mem_take hu)) p e2.symm (by omega) (c1:=cv) R2 wx a hb ha
  unfold aQ;rw [hl,hwl.1];refine (FY ak av ac a1 a2 ck cv cc n.K.length n.C.length p _ _ w (Hd S1) (Hd S2) (Hd CK) (Hd CV) hp hk2 hv2 hk1).mono ?_;rintro e w' ⟨⟨x,rfl,xa,xb,xc,xd,rfl,q1,q2,q3,q4,q5,q6,q7,q8⟩,hb⟩;have hN:aO n p={ leaf:=true,K:=n.K.take p,V:=n.V.take p,C:=[] }:=by unfold aO; rw [hl]; rfl
  have eK:(aO n p).K.map bS=(n.K.map bS).take p:=by rw [hN]; simp [List.map_take]
  have eV:(aO n p).V.map Value.string=(n.V.map Value.string).take p:=by rw [hN]; simp [List.map_take]
  rw [← eK] at q1 q3;rw [← eV] at q2 q5;refine ⟨⟨xa,xb,none,xc,xd,0,?_,⟨q1,q2,by rw [hN]; exact .inl rfl,by simpa using q3,q4,by simpa using q5,q6,by rw [hN]; exact Nat.le_refl _,Nat.zero_le _,hok⟩,q7,q8,fun x hx=>by cases hx⟩,hb⟩;unfold aQ;rw [← eK,← eV,hN];simp
 | false =>
  have hwl:=(aW hl).1 hw;have hc2:=h.c2;rw [hwl.1] at hc2;obtain ⟨a2,S2,R2⟩:=nW h.c (p + 1) cc (by simp [hwl.1]; omega) (by simpa using h.c2);have e2:((n.C.map fP).take (p + 1)).length=p + 1:=by simp [hwl.1]; omega
  have CC:=fun wx a hb ha=>EZ vO ((n.C.map fP).take (p + 1)) (fun u hu=>SI _ u (List.mem_of_mem_take hu)) (p + 1) e2.symm (by omega) (c1:=cc) R2 wx a hb ha
  unfold aQ;rw [hl,hwl.1];refine (wK ak av ac a1 a2 ck cv cc n.K.length n.V.length p _ _ w (Hd S1) (Hd S2) (Hd CK) (Hd CC) hp hk2 hc2 hk1).mono ?_;rintro e w' ⟨⟨x,rfl,xa,xb,xc,xd,rfl,q1,q2,q3,q4,q5,q6,q7,q8⟩,hb⟩;have hN:aO n p={ leaf:=false,K:=n.K.take p,V:=[],C:=n.C.take (p + 1) }:=by unfold aO; rw [hl]; rfl
  have eK:(aO n p).K.map bS=(n.K.map bS).take p:=by rw [hN]; simp [List.map_take]
  have eC:(aO n p).C.map fP=(n.C.map fP).take (p + 1):=by rw [hN]; simp [List.map_take]
  rw [← eK] at q1 q3;rw [← eC] at q2 q5;refine ⟨⟨xa,none,xb,xc,0,xd,?_,⟨q1,by rw [hN]; exact .inl rfl,q2,by simpa using q3,q4,by rw [hN]; exact Nat.le_refl _,Nat.zero_le _,by simpa using q5,q6,hok⟩,q7,(fun x hx=>by cases hx),q8⟩,hb⟩;unfold aQ;rw [← eK,← eC,hN];simp
theorem OJ (n:Nod) (ak av ac:Option Addr) (ck cv cc:Nat) (w:World) (h:NodR w n ak av ac ck cv cc) (p:Nat) (hw:bH n=true) (hp:p + 1≤n.K.length) :
  Calls Tryz.prog 229 #[aQ n ak av ac ck cv cc,.int .i64 (p:Int)] w fun e w' => kL w.heap.size (aV n p) e w'∧Below w.heap.size w w' := by
 have hok:=OI n p h.ok;have hk1:=h.ok.k1;have hk2:=h.k2
 cases hl:n.leaf with
 | true =>
  have hwl:=(bJ hl).1 hw;have hv2:=h.v2;rw [hwl.1] at hv2;obtain ⟨a1,S1,R1⟩:=lV h.k p n.K.length ck (by simp) (by simp; omega) (by simpa using hk2);have e1:((n.K.map bS).drop p).length=n.K.length - p:=by simp
  have CK:=fun wx a hb ha=>EZ qH ((n.K.map bS).drop p) (fun u hu=>IE _ u (List.mem_of_mem_drop hu)) (n.K.length - p) e1.symm (by omega) (c1:=ck - p) R1 wx a hb ha
  obtain ⟨a2,S2,R2⟩:=lV h.v p n.K.length cv (by simp [hwl.1]) (by simp [hwl.1]; omega) (by simpa using h.v2);have e2:((n.V.map Value.string).drop p).length=n.K.length - p:=by simp [hwl.1]
  have CV:=fun wx a hb ha=>EZ IU ((n.V.map Value.string).drop p) (fun u hu=>ZV _ u (List.mem_of_mem_drop hu)) (n.K.length - p) e2.symm (by omega) (c1:=cv - p) R2 wx a hb ha
  unfold aQ;rw [hl,hwl.1];refine (AM ak av ac a1 a2 ck cv cc n.K.length n.C.length p _ _ w (Hd S1) (Hd S2) (Hd CK) (Hd CV) (by omega) hk2 hv2 hk1).mono ?_;rintro e w' ⟨⟨x,rfl,xa,xb,xc,xd,rfl,q1,q2,q3,q4,q5,q6,q7,q8⟩,hb⟩;have hN:aV n p={ leaf:=true,K:=n.K.drop p,V:=n.V.drop p,C:=[] }:=by unfold aV; rw [hl]; rfl
  have eK:(aV n p).K.map bS=(n.K.map bS).drop p:=by rw [hN]; simp [List.map_drop]
  have eV:(aV n p).V.map Value.string=(n.V.map Value.string).drop p:=by rw [hN]; simp [List.map_drop]
  rw [← eK] at q1 q3;rw [← eV] at q2 q5;refine ⟨⟨xa,xb,none,xc,xd,0,?_,⟨q1,q2,by rw [hN]; exact .inl rfl,by simpa using q3,q4,by simpa using q5,q6,by rw [hN]; exact Nat.le_refl _,Nat.zero_le _,hok⟩,q7,q8,fun x hx=>by cases hx⟩,hb⟩;unfold aQ;rw [← eK,← eV,hN];simp
 | false =>
  have hwl:=(aW hl).1 hw;have hc2:=h.c2;rw [hwl.1] at hc2;obtain ⟨a1,S1,R1⟩:=lV h.k (p + 1) n.K.length ck (by simp) (by simpa using hp) (by simpa using hk2);have e1:((n.K.map bS).drop (p + 1)).length=n.K.length - (p + 1):=by simp
  have CK:=fun wx a hb ha=>EZ qH ((n.K.map bS).drop (p + 1)) (fun u hu=>IE _ u (List.mem_of_mem_drop hu)) (n.K.length - (p + 1)) e1.symm (by omega) (c1:=ck - (p + 1)) R1 wx a hb ha
  obtain ⟨a2,S2,R2⟩:=lV h.c (p + 1) (n.K.length + 1) cc (by simp [hwl.1]) (by simp [hwl.1]; omega) (by simpa using h.c2);rw [show n.K.length + 1 - (p + 1)=n.K.length - p from by omega] at S2;have e2:((n.C.map fP).drop (p + 1)).length=n.K.length - p:=by simp [hwl.1]
  have CC:=fun wx a hb ha=>EZ vO ((n.C.map fP).drop (p + 1)) (fun u hu=>SI _ u (List.mem_of_mem_drop hu)) (n.K.length - p) e2.symm (by omega) (c1:=cc - (p + 1)) R2 wx a hb ha
  unfold aQ;rw [hl,hwl.1];refine (tD ak av ac a1 a2 ck cv cc n.K.length n.V.length p _ _ w (Hd S1) (Hd S2) (Hd CK) (Hd CC) hp hk2 hc2 hk1).mono ?_;rintro e w' ⟨⟨x,rfl,xa,xb,xc,xd,rfl,q1,q2,q3,q4,q5,q6,q7,q8⟩,hb⟩;have hN:aV n p={ leaf:=false,K:=n.K.drop (p + 1),V:=[],C:=n.C.drop (p + 1) }:=by unfold aV; rw [hl]; rfl
  have eK:(aV n p).K.map bS=(n.K.map bS).drop (p + 1):=by rw [hN]; simp [List.map_drop]
  have eC:(aV n p).C.map fP=(n.C.map fP).drop (p + 1):=by rw [hN]; simp [List.map_drop]
  rw [← eK] at q1 q3;rw [← eC] at q2 q5;refine ⟨⟨xa,none,xb,xc,0,xd,?_,⟨q1,by rw [hN]; exact .inl rfl,q2,by simpa using q3,q4,by rw [hN]; exact Nat.le_refl _,Nat.zero_le _,by simpa using q5,q6,hok⟩,q7,(fun x hx=>by cases hx),q8⟩,hb⟩;unfold aQ;rw [← eK,← eC,hN];simp
theorem zC (n:Nod) (ak av ac:Option Addr) (ck cv cc:Nat) (w:World) :
  Calls Tryz.prog 226 #[aQ n ak av ac ck cv cc] w fun e w' => e=.returned (.int .i64 (cC n.leaf:Int))∧Below w.heap.size w w' := by
 unfold aQ;generalize n.leaf=lf;generalize n.K.length=lk;generalize n.V.length=lv;generalize n.C.length=lc
 cases lf
 all_goals
  go_enter Tryz.func226,Tryz.ntmps226;go_wp2_with fail;go_ret;exact ⟨rfl,Br.alloc (Nat.le_refl _) _⟩
theorem PZ (n:Nod) (ak av ac:Option Addr) (ck cv cc:Nat) (w:World) (h:NodR w n ak av ac ck cv cc) (i:Nat) (hw:bH n=true) (hi:i < n.K.length) (s:Nat) (hs:eZ n i=s) :
  Calls Tryz.prog 241 #[aQ n ak av ac ck cv cc,.int .i64 (i:Int)] w fun e w' => e=.returned (.int .i64 (s:Int))∧Below w.heap.size w w' := by
 obtain ⟨lf,K,V,C⟩:=n;subst hs
 cases lf
 ·clear h hw hi
  unfold aQ eZ
  dsimp only
  generalize K.length=lk;generalize V.length=lv;generalize C.length=lc;go_enter Tryz.func241,Tryz.ntmps241;go_wp2_with fail;go_ret;exact ⟨rfl,Br.alloc (Nat.le_refl _) _⟩
 ·have hvk:V.length=K.length:=((bJ rfl).1 hw).1
  have hiv:i < V.length:=by rw [hvk]; exact hi
  obtain ⟨b,off,he,hb,hcell⟩:=h.v.at i (by simpa using hiv);subst he;have hvb:=h.ok.vb V[i] (List.getElem_mem hiv);have hgd:V.getD i ByteArray.empty=V[i]:=by rw [List.getD_eq_getElem?_getD,List.getElem?_eq_getElem hiv]; rfl
  unfold aQ eZ
  dsimp only at hcell ⊢
  rw [hgd];obtain ⟨x,hx⟩:∃ x,V[i]=x:=⟨_,rfl⟩
  have hc:(w.alloc (.cells #[.bool true,.slice ak K.length ck,.slice (some ⟨b,off,none⟩) V.length cv,.slice ac C.length cc] 206)).cell? ⟨b,off + i,none⟩=some (.string x):=by
   rw [World.cell?_alloc_lt _ _ _ hb,hcell,← hx]; simp
  rw [hx] at hvb ⊢;have hiI:(i:Int) < (V.length:Int):=by omega
  have hw9:IntKind.i64.wrap (9 + (x.size:Int))=9 + (x.size:Int):=IntWalk.i64_in _ (by omega);clear hx hcell hgd h hw hi hiv hvk hvb;generalize K.length=lk at *;generalize V.length=lv at *;generalize C.length=lc at *;go_enter Tryz.func241,Tryz.ntmps241;go_wp2_with fail;go_ret;exact ⟨GZ (by simp),Br.alloc (Nat.le_refl _) _⟩
section
variable {P:Program} {ops:Array Oper} {Q:Exit→Act→World→Prop} {md:Region.Mode} {S:World→Prop}
theorem MZ {i:Nat} (d:Tmp) {oi:Oper} (v:Value) {n:Nat} {b:Array Bool} {a:Act} {w:World} (hi:ops[i]?=some oi) (hd:oi.dst=some d) (hs:Region.noSelect ops=true) (hf:Region.free md ops b i=true) (hr:(Region.ready md ops b).contains i=true)
    (hQ:∀ c a w,Q (.panic c) (a.put oi.dst v) w→Q (.panic c) a w) (hS:S w) (hw:Region.wanted oi (yielded ops a.tmps)=true) (hy:∀ w,S w→(execOp a.eval oi).run P w=.ok (.value v) w)
    (h:wpAnyH P md ops Q S n (b.setIfInBounds i true) { tmps:=a.tmps.setIfInBounds d v,defers:=a.defers } w):wpAnyH P md ops Q S (n + 1) b a w :=
  wpAnyH_take hi hs hf hr hQ (.inl ⟨hw,hy⟩) hS (by rw [hd]; exact h)
theorem NE {i:Nat} (d:Tmp) {oi:Oper} {n:Nat} {b:Array Bool} {a:Act} {w:World} (hi:ops[i]?=some oi) (hd:oi.dst=some d) (hs:Region.noSelect ops=true) (hf:Region.free md ops b i=true) (hr:(Region.ready md ops b).contains i=true)
    (hQ:∀ c a w,Q (.panic c) (a.put oi.dst undef) w→Q (.panic c) a w) (hS:S w) (hw:Region.wanted oi (yielded ops a.tmps)=false)
    (h:wpAnyH P md ops Q S n (b.setIfInBounds i true) { tmps:=a.tmps.setIfInBounds d undef,defers:=a.defers } w):wpAnyH P md ops Q S (n + 1) b a w :=
  wpAnyH_take hi hs hf hr hQ (.inr ⟨hw,rfl⟩) hS (by rw [hd]; exact h)
theorem ND {i:Nat} {oi:Oper} {n:Nat} {b:Array Bool} {a:Act} {w:World} (hi:ops[i]?=some oi) (hr:Region.ready md ops b=[i])
    (h:∀ K:Act→World→Prop,(∀ a2 w2,S w2→wpAnyH P md ops Q S n (b.setIfInBounds i true) a2 w2→K a2 w2)→if Region.wanted oi (yielded ops a.tmps)=true then Oper.wp P oi a w K Q else K (a.put oi.dst undef) w):wpAnyH P md ops Q S (n + 1) b a w :=
  wpAnyH_ready hr (by simp) (AllReadyH.cons hi (fun K hK=>h K fun a2 w2 h1 h2=>hK.out a2 w2 h1 fun _=>h2) AllReadyH.nil)
theorem NF {i j:Nat} {oi oj:Oper} {n:Nat} {b:Array Bool} {a:Act} {w:World} (hi:ops[i]?=some oi) (hj:ops[j]?=some oj) (hr:Region.ready md ops b=[i,j])
    (h:∀ K:Act→World→Prop,(∀ a2 w2,S w2→wpAnyH P md ops Q S n (b.setIfInBounds i true) a2 w2→K a2 w2)→if Region.wanted oi (yielded ops a.tmps)=true then Oper.wp P oi a w K Q else K (a.put oi.dst undef) w)
    (h2:∀ K:Act→World→Prop,(∀ a2 w2,S w2→wpAnyH P md ops Q S n (b.setIfInBounds j true) a2 w2→K a2 w2)→if Region.wanted oj (yielded ops a.tmps)=true then Oper.wp P oj a w K Q else K (a.put oj.dst undef) w):wpAnyH P md ops Q S (n + 1) b a w :=
  wpAnyH_ready hr (by simp) (AllReadyH.cons hi (fun K hK=>h K fun a2 w2 h1 h2=>hK.out a2 w2 h1 fun _=>h2) (AllReadyH.cons hj (fun K hK=>h2 K fun a2 w2 h1 h2=>hK.out a2 w2 h1 fun _=>h2) AllReadyH.nil))
end
section
variable {P:Program} {ops:Array Oper} {Q:Exit→Act→World→Prop} {md:Region.Mode} {S:World→Prop}
theorem ht {i:Nat} (d:Tmp) {oi:Oper} (v:Value) {n:Nat} {b:Array Bool} {a:Act} {w:World} (hi:ops[i]?=some oi) (hd:oi.dst=some d) (hc:(Region.noSelect ops && Region.free md ops b i && (Region.ready md ops b).contains i)=true)
    (hQ:∀ c a w,Q (.panic c) (a.put oi.dst v) w→Q (.panic c) a w) (hS:S w) (hw:Region.wanted oi (yielded ops a.tmps)=true) (hy:∀ w,S w→(execOp a.eval oi).run P w=.ok (.value v) w)
    (h:wpAnyH P md ops Q S n (b.setIfInBounds i true) { tmps:=a.tmps.setIfInBounds d v,defers:=a.defers } w):wpAnyH P md ops Q S (n + 1) b a w:=by
  simp only [Bool.and_eq_true] at hc
  exact MZ d v hi hd hc.1.1 hc.1.2 hc.2 hQ hS hw hy h
end
section
open Go.RowKit
variable {P:Program} {ops:Array Oper} {Q:Exit→Act→World→Prop} {md:Region.Mode} {S:World→Prop}
theorem Hu (i:Nat) (d:Tmp) {oi:Oper} {v:Value} {n:Nat} {b:Array Bool} {a:Act} {w:World} (hS:S w) (h:wpAnyH P md ops Q S n (b.setIfInBounds i true) { tmps:=a.tmps.setIfInBounds d v,defers:=a.defers } w) (hi:ops[i]?=some oi:=by exact rfl) (hd:oi.dst=some d:=by exact rfl) (hc:(Region.noSelect ops && Region.free md ops b i && (Region.ready md ops b).contains i)=true:=by kernel_rfl)
    (hQ:∀ c a w,Q (.panic c) (a.put oi.dst v) w→Q (.panic c) a w:=by exact fun _ _ _ h=>h) (hw:Region.wanted oi (yielded ops a.tmps)=true:=by rfl) (hy:∀ w,S w→(execOp a.eval oi).run P w=.ok (.value v) w:=by intro w9 s9; clear s9; go_simp; try (with_reducible rfl)):wpAnyH P md ops Q S (n + 1) b a w :=
  ht d v hi hd hc hQ hS hw hy h
theorem Hv (i:Nat) (d:Tmp) (v:Value) {oi:Oper} {n:Nat} {b:Array Bool} {a:Act} {w:World} (hS:S w) (hy:∀ w,S w→(execOp a.eval oi).run P w=.ok (.value v) w) (h:wpAnyH P md ops Q S n (b.setIfInBounds i true) { tmps:=a.tmps.setIfInBounds d v,defers:=a.defers } w) (hi:ops[i]?=some oi:=by exact rfl) (hd:oi.dst=some d:=by exact rfl) (hc:(Region.noSelect ops && Region.free md ops b i && (Region.ready md ops b).contains i)=true:=by kernel_rfl)
    (hQ:∀ c a w,Q (.panic c) (a.put oi.dst v) w→Q (.panic c) a w:=by exact fun _ _ _ h=>h) (hw:Region.wanted oi (yielded ops a.tmps)=true:=by rfl):wpAnyH P md ops Q S (n + 1) b a w :=
  ht d v hi hd hc hQ hS hw hy h
theorem Hn (i:Nat) (d:Tmp) {oi:Oper} {n:Nat} {b:Array Bool} {a:Act} {w:World} (hS:S w) (h:wpAnyH P md ops Q S n (b.setIfInBounds i true) { tmps:=a.tmps.setIfInBounds d undef,defers:=a.defers } w) (hi:ops[i]?=some oi:=by exact rfl) (hd:oi.dst=some d:=by exact rfl) (hs:Region.noSelect ops=true:=by kernel_rfl) (hf:Region.free md ops b i=true:=by kernel_rfl) (hr:(Region.ready md ops b).contains i=true:=by kernel_rfl)
    (hQ:∀ c a w,Q (.panic c) (a.put oi.dst undef) w→Q (.panic c) a w:=by exact fun _ _ _ h=>h) (hw:Region.wanted oi (yielded ops a.tmps)=false:=by rfl):wpAnyH P md ops Q S (n + 1) b a w :=
  NE d hi hd hs hf hr hQ hS hw h
theorem Hs (i:Nat) {oi:Oper} {n:Nat} {b:Array Bool} {a:Act} {w:World}
    (h:∀ K:Act→World→Prop,Hid (∀ a2 w2,S w2→wpAnyH P md ops Q S n (b.setIfInBounds i true) a2 w2→K a2 w2)→if Region.wanted oi (yielded ops a.tmps)=true then Oper.wp P oi a w K Q else K (a.put oi.dst undef) w) (hi:ops[i]?=some oi:=by exact rfl) (hr:Region.ready md ops b=[i]:=by kernel_rfl):wpAnyH P md ops Q S (n + 1) b a w :=
  ND hi hr fun K hK=>h K (Lib.hid hK)
theorem Hk (i j:Nat) {oi oj:Oper} {n:Nat} {b:Array Bool} {a:Act} {w:World}
    (h:∀ K:Act→World→Prop,Hid (∀ a2 w2,S w2→wpAnyH P md ops Q S n (b.setIfInBounds i true) a2 w2→K a2 w2)→if Region.wanted oi (yielded ops a.tmps)=true then Oper.wp P oi a w K Q else K (a.put oi.dst undef) w)
    (h2:∀ K:Act→World→Prop,Hid (∀ a2 w2,S w2→wpAnyH P md ops Q S n (b.setIfInBounds j true) a2 w2→K a2 w2)→if Region.wanted oj (yielded ops a.tmps)=true then Oper.wp P oj a w K Q else K (a.put oj.dst undef) w) (hi:ops[i]?=some oi:=by exact rfl) (hj:ops[j]?=some oj:=by exact rfl) (hr:Region.ready md ops b=[i,j]:=by kernel_rfl):wpAnyH P md ops Q S (n + 1) b a w :=
  NF hi hj hr (fun K hK=>h K (Lib.hid hK)) (fun K hK=>h2 K (Lib.hid hK))
end
def eT (n:Nod) (half:Nat):Nat→Nat→Nat→Nat
 | 0,k,_=>k
 | f + 1,k,s=>if half≤s then k else eT n half f (k + 1) (s + eZ n k)
def jK (n:Nod):Nat:=n.K.length - cC n.leaf + 1
def cP (n:Nod):Nat:=eT n (aL n / 2) (jK n - 1) 1 (aL (aO n 1))
theorem ET (n:Nod) (half:Nat):∀ f k s,k≤eT n half f k s∧eT n half f k s≤k + f:=by
 intro f
 induction f with
 | zero=>intro k s; exact ⟨Nat.le_refl _,Nat.le_refl _⟩
 | succ f ih =>
  intro k s;unfold eT
  split
  ·exact ⟨Nat.le_refl _,by omega⟩
  ·have:=ih (k + 1) (s + eZ n k)
   exact ⟨by omega,by omega⟩
theorem vY (n:Nod):1≤cP n∧cP n≤jK n:=by
 have:=ET n (aL n / 2) (jK n - 1) 1 (aL (aO n 1));have h:1≤jK n:=by unfold jK; omega
 unfold cP;omega
theorem AQ (n:Nod) (p:Nat) (hw:bH n=true) (hp:p≤n.K.length):bH (aO n p)=true:=by
 unfold aO
 cases hl:n.leaf with
 | true =>
  have:=(bJ hl).1 hw;exact (bJ rfl).2 ⟨by simp [this.1],rfl⟩
 | false =>
  have:=(aW hl).1 hw;exact (aW rfl).2 ⟨by simp [this.1],rfl⟩
theorem PY (n:Nod) (i:Nat) (ho:dP n):eZ n i≤9 + 140737488351232:=by
 unfold eZ
 split
 ·rw [List.getD_eq_getElem?_getD]
  cases h:n.V[i]? with
  | none=>simp
  | some v=>have:=ho.vb v (List.mem_of_getElem? h); simp; omega
 ·omega
theorem xR (n:Nod) (ho:dP n):aL (aO n 1)≤281474976710656:=by
 have h:∀ (l:List ByteArray),(∀ v∈l,v.size≤140737488351232)→bN (l.take 1)≤140737488351232:=by
  intro l hl
  cases l with
  | nil=>simp [bN]
  | cons a l=>simpa [bN] using hl a (by simp)
 have hb:=h n.V ho.vb;unfold aO aL
 cases n.leaf
 ·simp only [Bool.false_eq_true,if_false]
  have h1:(n.K.take 1).length≤1:=by simp; omega
  have h2:(n.C.take (1 + 1)).length≤2:=by simp; omega
  omega
 ·simp only [if_true]
  have h1:(n.K.take 1).length≤1:=by simp; omega
  omega
theorem PX (n:Nod) (ho:dP n):aL n≤140737488351232 * 1000 + 20000:=by
 have:=mJ n.V _ ho.vb;have h1:=ho.k1;have h2:=ho.v1;have h3:=ho.c1;have h4:n.V.length * 140737488351232≤1000 * 140737488351232:=Nat.mul_le_mul_right _ h2;unfold aL
 split <;> omega
theorem aBH (n:Nod) (ak av ac:Option Addr) (ck cv cc:Nat) (w:World) (h:NodR w n ak av ac ck cv cc) (hw:bH n=true) (hl:cC n.leaf≤n.K.length) :
  Calls Tryz.prog 227 #[aQ n ak av ac ck cv cc] w fun e w' => e=.returned (.int .i64 (cP n:Int))∧Below w.heap.size w w' := by
 have hk1:=h.ok.k1;have hle2:2≤cC n.leaf:=by unfold cC; split <;> omega
 have SZ:=Hd (fun w' (hb:Below w.heap.size w w')=>nS n ak av ac ck cv cc w' (h.below hb) _ (Hd rfl) hw);have LS:=Hd (fun w' => zC n ak av ac ck cv cc w');have AH:=Hd (fun w' (hb:Below w.heap.size w w')=>AR n ak av ac ck cv cc w' (h.below hb) 1 hw (by omega));have SA:=Hd (fun ak av ac ck cv cc w' (h:NodR w' (aO n 1) ak av ac ck cv cc)=>nS (aO n 1) ak av ac ck cv cc w' h _ (Hd rfl) (AQ n 1 hw (by omega)))
 have SH:=Hd (fun i (hi:i < n.K.length) w' (hb:Below w.heap.size w w')=>PZ n ak av ac ck cv cc w' (h.below hb) i hw hi _ rfl);have SHL:=Hd (fun i=>PY n i h.ok);have hz:=PX n h.ok;have ha1:=xR n h.ok;obtain ⟨half,hhf⟩:∃ half,aL n / 2=half:=⟨_,rfl⟩
 obtain ⟨most,hms⟩:∃ most,jK n=most:=⟨_,rfl⟩
 have hm1:1≤most:=by rw [← hms]; unfold jK; omega
 have hm2:(n.K.length:Int) - (cC n.leaf:Int) + 1=(most:Int):=by rw [← hms]; unfold jK; omega
 have hm3:most < n.K.length:=by rw [← hms]; unfold jK; omega
 have F0:Hid (eT n half (most - 1) 1 (aL (aO n 1))=cP n):=Hd (by unfold cP; rw [hhf,hms]);have FS:=Hd (fun f k s=>show eT n half (f + 1) k s=if half≤s then k else eT n half f (k + 1) (s + eZ n k) from rfl);have FZ:=Hd (fun k s=>show eT n half 0 k s=k from rfl);generalize cP n=c at *;generalize hzn:aL n=z at *;generalize aL (aO n 1)=za at *;obtain ⟨d,hd⟩:∃ d:Nat,(n.K.length:Int) - (cC n.leaf:Int)=(d:Int):=⟨n.K.length - cC n.leaf,by omega⟩
 have hw1:IntKind.i64.wrap ((n.K.length:Int) - (cC n.leaf:Int))=(d:Int):=by rw [hd]; exact IntWalk.i64_in _ (by omega)
 have hw2:IntKind.i64.wrap ((d:Int) + 1)=(most:Int):=by rw [← hd,hm2]; exact IntWalk.i64_in _ (by omega)
 have hw3:(z:Int).tdiv 2=(half:Int):=by rw [Int.tdiv_eq_ediv_of_nonneg (by omega)]; omega
 have hw4:(z:Int) / 2=(half:Int):=by omega
 have hw5:IntKind.i64.wrap (half:Int)=(half:Int):=IntWalk.i64_in _ (by omega);have HB:Hid (Below w.heap.size w w):=Hd Br;clear hd hm2 hhf hms hz hle2 hl hw hzn h;obtain ⟨lf,K,V,C⟩:=n;unfold aQ at *
 dsimp only at *
 generalize K.length=lk at *;generalize V.length=lv at *;generalize C.length=lc at *;obtain ⟨W,hW⟩:∃ W,w.alloc (.cells #[.bool lf,.slice ak lk ck,.slice av lv cv,.slice ac lc cc] 206)=W:=⟨_,rfl⟩
 have bW:Below w.heap.size w W:=by rw [← hW]; exact aB _ _
 have XW:Hid (W.heap[w.heap.size]?=some (.cells #[.bool lf,.slice ak lk ck,.slice av lv cv,.slice ac lc cc] 206)):=Hd (by rw [← hW]; exact han _ _);have BW:=Hd bW;have HW:=Hd hW;clear bW hW;go_enter Tryz.func227,Tryz.ntmps227;go_wp2_with fail;rw [HW.out];clear HW;refine wp_region_held_drew (S:=fun w' => Below W.heap.size W w') (by kernel_rfl) (Below.refl W.heap.size W).drew (fun hS=>?_);refine Hv 0 7 ?va0x1 hS ?ha0x1 ?_
 case ha0x1 =>
  intro w9 s9;have X9:=kept XW.out s9;have c0:=cl X9 0 rfl;have c1:=cl X9 1 rfl;have c2:=cl X9 2 rfl;have c3:=cl X9 3 rfl;clear s9;go_simp;try (with_reducible rfl)
 simp only [SL];refine Hu 3 10 hS ?_;simp only [SL];refine Hv 4 11 ?va4x3 hS ?ha4x3 ?_
 case ha4x3 =>
  intro w9 s9;have X9:=kept XW.out s9;have c0:=cl X9 0 rfl;have c1:=cl X9 1 rfl;have c2:=cl X9 2 rfl;have c3:=cl X9 3 rfl;clear s9;go_simp;try (with_reducible rfl)
 simp only [SL];refine Hu 5 12 hS ?_;simp only [SL];refine Hv 6 13 ?va6x5 hS ?ha6x5 ?_
 case ha6x5 =>
  intro w9 s9;have X9:=kept XW.out s9;have c0:=cl X9 0 rfl;have c1:=cl X9 1 rfl;have c2:=cl X9 2 rfl;have c3:=cl X9 3 rfl;clear s9;go_simp;try (with_reducible rfl)
 simp only [SL];refine Hs 1 (fun K HK=>?_);go_simp;go_wp2_with fail;refine (SZ.out _ (chain BW.out hS)).mono ?_;rintro e v1 ⟨rfl,b1⟩;refine HK.out _ _ ?_ ?_
 ·exact chain hS b1
 clear HK K;try simp only [Act.put,SL]
 have hS9:=chain hS b1;clear hS;have hS:=hS9;clear hS9;clear b1;refine Hu 2 9 hS ?_;simp only [SL];refine Hs 7 (fun K HK=>?_);go_simp;go_wp2_with fail;refine (LS.out _).mono ?_;rintro e v2 ⟨rfl,b2⟩;refine HK.out _ _ ?_ ?_
 ·exact chain hS b2
 clear HK K;try simp only [Act.put,SL]
 have hS9:=chain hS b2;clear hS;have hS:=hS9;clear hS9;clear b2;refine Hu 8 15 hS ?_;simp only [SL];refine Hu 9 16 hS ?_;simp only [SL];refine Hu 10 3 hS ?_;simp only [SL];refine Hu 11 4 hS ?_;simp only [SL];refine wpAnyH_done (by kernel_rfl) ?_ _;have H1:=Hd hS;clear hS;have X2:=Hd (kept XW.out H1.out);have B2:=Hd (chain BW.out H1.out);clear XW BW H1;have y0:=cl X2.out 0 rfl;have y1:=cl X2.out 1 rfl;have y2:=cl X2.out 2 rfl;have y3:=cl X2.out 3 rfl;go_wp2_with fail;refine (AH.out _ B2.out).mono ?_;rintro e v3 ⟨⟨xk,xv,xc,dk,dv,dc,rfl,hR,-,-,-⟩,b3⟩;have R3:=Hd hR
 have X3:=Hd (kept X2.out b3);have B3:=Hd (chain B2.out b3);clear hR b3 X2 B2 y0 y1 y2 y3 AH;unfold aQ;go_wp2_with fail;refine (SA.out _ _ _ _ _ _ _ R3.out).mono ?_;rintro e v4 ⟨rfl,b4⟩;have X4:=Hd (kept X3.out b4);have B4:=Hd (chain B3.out b4);clear b4 X3 B3 R3 SA;go_wp2_with fail
 go_loopw [5,6] (fun s k wr=>∃ j y:Nat,1≤j∧j≤most∧k=.int .i64 (j:Int)∧s=.int .i64 (y:Int)∧y≤j * 281474976710656∧eT { leaf:=lf,K:=K,V:=V,C:=C } half (most - j) j y=c∧Below v4.heap.size v4 wr) (fun _ k _=>most + 1 - (intOf k).toNat)
 case atStart=>exact ⟨1,za,Nat.le_refl _,hm1,rfl,rfl,by omega,F0.out,Br⟩
 case round =>
  obtain ⟨j,y,hj1,hj2,rfl,rfl,hy,hc,hb⟩:=hrel;have XR:=Hd (kept X4.out hb);have BR:=Hd (chain B4.out hb);have HBR:=Hd hb;have HC:=Hd hc;clear hb hc;have y0:=cl XR.out 0 rfl;have y1:=cl XR.out 1 rfl;have y2:=cl XR.out 2 rfl;have y3:=cl XR.out 3 rfl
  by_cases hlt:j < most
  ·have hji:(j:Int) < (most:Int):=by omega
   have hfu:=FS.out (most - j - 1) j y;rw [show most - j - 1 + 1=most - j from by omega,HC.out] at hfu
   by_cases hhy:half≤y
   ·rw [if_pos hhy] at hfu
    subst hfu;have hhi:(half:Int)≤(y:Int):=by omega
    clear hhy HC F0 FS FZ;go_wp2_with fail;try rw [Exit.noGoto_ret]
    go_ret;exact ⟨rfl,BR.out⟩
   ·rw [if_neg hhy] at hfu
    have HFU:=Hd hfu;have hsl:=SHL.out j;have hhi:¬ (half:Int)≤(y:Int):=by omega
    have hyy:IntKind.i64.wrap ((y:Int) + (eZ { leaf:=lf,K:=K,V:=V,C:=C } j:Int))=(y:Int) + (eZ { leaf:=lf,K:=K,V:=V,C:=C } j:Int):=IntWalk.i64_in _ (by omega);clear hfu hhy;have SHJ:=Hd (SH.out j (by omega) wr BR.out);generalize eZ { leaf:=lf,K:=K,V:=V,C:=C } j=sh at *;go_wp2_with fail;refine SHJ.out.mono ?_;rintro e v5 ⟨rfl,b5⟩;go_wp2_with fail;go_roundw
    case rel=>exact ⟨j + 1,y + sh,by omega,by omega,by go_num,by go_num,by omega,by rw [HFU.out]; congr 1,chain HBR.out b5⟩
    case measure=>simp [intOf]; omega
  ·obtain rfl:j=most:=by omega
   have hji:¬ (j:Int) < (j:Int):=by omega
   have hfz:=HC.out;rw [Nat.sub_self,FZ.out] at hfz;subst hfz;clear HC F0 FS FZ;go_wp2_with fail;try rw [Exit.noGoto_ret]
   go_ret;exact ⟨rfl,BR.out⟩
theorem rJ (K:List Int) (a:Option Addr) (c:Nat) (w:World) (h:Rd w a (K.map bS)) (h1:K.length≤1000) (hs:∀ i (h:i + 1 < K.length),K[i] < K[i + 1]) :
  Calls Tryz.prog 243 #[.slice a K.length c] w fun e w' => e=.returned (.bool true)∧Below w.heap.size w w' := by
 have HR:=Hd h;have HS:=Hd hs;obtain ⟨m,hm⟩:∃ m,K.length=m:=⟨_,rfl⟩
 rw [hm] at h1 ⊢;clear h hs;go_enter Tryz.func243,Tryz.ntmps243;go_wp2_with fail
 go_loopw [3] (fun i wr=>∃ j q:Nat,j≤1000∧i=.int .i64 ((j:Int) + 1)∧wr=w.drewN q) (fun i _=>1002 - (intOf i).toNat)
 case atStart=>exact ⟨0,0,by omega,rfl,rfl⟩
 case round =>
  obtain ⟨j,q,hj,rfl,rfl⟩:=hrel
  by_cases hlt:j + 1 < m
  ·have hji:(j:Int) + 1 < (m:Int):=by omega
   have hji2:(j:Int) < (m:Int):=by omega
   have hjl:j < (K.map bS).length:=by rw [List.length_map]; omega
   have hjl2:j + 1 < (K.map bS).length:=by rw [List.length_map]; omega
   obtain ⟨b,off,hab,hb,z1⟩:=HR.out.at j hjl;obtain ⟨b2,off2,hab2,_,z2⟩:=HR.out.at (j + 1) hjl2;rw [hab] at hab2
   obtain ⟨rfl,rfl⟩:b2=b∧off2=off:=by
    have:=Option.some.inj hab2;exact ⟨(congrArg Addr.block this).symm,(congrArg Addr.off this).symm⟩
   subst hab;have e1:(K.map bS)[j]=.int .u64 (K[j]'(by omega)):=by rw [List.getElem_map]; rfl
   have e2:(K.map bS)[j + 1]=.int .u64 (K[j + 1]'(by omega)):=by rw [List.getElem_map]; rfl
   rw [e1] at z1;rw [e2] at z2;have hlt2:=HS.out j (by omega);clear e1 e2 hab2 hb;generalize K[j]'(by omega)=x at *;generalize K[j + 1]'(by omega)=y at *;have hge:¬ (y≤x):=by omega
   have hw0:IntKind.i64.wrap ((j:Int) + 1 - 1)=(j:Int):=by rw [IntKind.wrap_i64]; omega
   have hw1:IntKind.i64.wrap (j:Int)=(j:Int):=by rw [IntKind.wrap_i64]; omega
   have ht1:((j:Int) + 1).toNat=j + 1:=by omega
   clear hlt2;go_wp2_with fail
   go_quiet (fail)
   go_wp2_with fail;go_roundw
   case rel=>exact ⟨j + 1,_,by omega,by go_num,rfl⟩
   case measure=>simp [intOf]; omega
  ·have hji:¬ (j:Int) + 1 < (m:Int):=by omega
   go_wp2_with fail;go_ret;exact ⟨rfl,bG Br _⟩
theorem LZ (n:Nod) (ak av ac:Option Addr) (ck cv cc:Nat) (w:World) (h:NodR w n ak av ac ck cv cc) (hw:bH n=true) (hs:∀ i (h:i + 1 < n.K.length),n.K[i] < n.K[i + 1]) (hv:∀ v∈n.V,v.size≤40) (hc:∀ c∈n.C,2≤c∧c < 640) :
  Calls Tryz.prog 235 #[aQ n ak av ac ck cv cc] w fun e w' => e=.returned (.bool true)∧Below w.heap.size w w' := by
 have WH:=Hd (fun w=>iC n ak av ac ck cv cc w h.ok true hw);have RI:=Hd (fun w' (hb:Below w.heap.size w w')=>rJ n.K ak ck w' (h.k.below hb) h.ok.k1 hs);have hv1:=h.ok.v1;have hc1:=h.ok.c1;have HV0:=h.v;have HC0:=h.c;clear h hw hs;obtain ⟨lf,K,V,C⟩:=n;unfold aQ at *
 dsimp only at WH RI hv1 hc1 HV0 HC0 hv hc ⊢
 obtain ⟨lk,hlk⟩:∃ lk,K.length=lk:=⟨_,rfl⟩
 obtain ⟨lv,hlv⟩:∃ lv,V.length=lv:=⟨_,rfl⟩
 obtain ⟨lc,hlc⟩:∃ lc,C.length=lc:=⟨_,rfl⟩
 rw [hlk,hlv,hlc] at WH ⊢;rw [hlk] at RI;rw [hlv] at hv1;rw [hlc] at hc1;obtain ⟨W,hW⟩:∃ W,w.alloc (.cells #[.bool lf,.slice ak lk ck,.slice av lv cv,.slice ac lc cc] 206)=W:=⟨_,rfl⟩
 have bel:Below w.heap.size w W:=by rw [← hW]; exact aB _ _
 have XA:W.heap[w.heap.size]?=some (.cells #[.bool lf,.slice ak lk ck,.slice av lv cv,.slice ac lc cc] 206):=by rw [← hW]; exact han w _
 have x0:=cl XA 0 rfl;have x1:=cl XA 1 rfl;have x2:=cl XA 2 rfl;have x3:=cl XA 3 rfl;have HV:=Hd (HV0.below bel);have HC:=Hd (HC0.below bel);have HVB:=Hd hv;have HCB:=Hd hc;have BEL:=Hd bel;have XH:=Hd XA;have HW:=Hd hW;clear bel XA hW HV0 HC0 hv hc;go_enter Tryz.func235,Tryz.ntmps235;go_upto_region 1 with fail
 rw [HW.out];go_wp2_with fail
 go_loop [10] (fun i=>∃ j:Nat,j≤lv∧i=.int .i64 (j:Int)) (fun i=>lv + 1 - (intOf i).toNat)
 case atStart=>exact ⟨0,Nat.zero_le _,rfl⟩
 case round =>
  obtain ⟨j,hj,rfl⟩:=hrel
  by_cases hlt:j < lv
  ·have hji:(j:Int) < (lv:Int):=by omega
   have hjl:j < (V.map Value.string).length:=by rw [List.length_map]; omega
   obtain ⟨b,off,rfl,hb,z⟩:=HV.out.at j hjl;have e1:(V.map Value.string)[j]=.string (V[j]'(by omega)):=by rw [List.getElem_map]
   rw [e1] at z;have hz:=HVB.out (V[j]'(by omega)) (List.getElem_mem _);clear e1 hb;generalize V[j]'(by omega)=x at *;have hz2:¬ (40:Int) < (x.size:Int):=by omega
   clear hz;go_wp2_with fail
   go_round
   case rel=>exact ⟨j + 1,by omega,by go_num⟩
   case measure=>simp [intOf]; omega
  ·obtain rfl:j=lv:=by omega
   have hji:¬ (j:Int) < (j:Int):=by omega
   go_wp2_with fail
   go_loop [21] (fun i=>∃ k:Nat,k≤lc∧i=.int .i64 (k:Int)) (fun i=>lc + 1 - (intOf i).toNat)
   case atStart=>exact ⟨0,Nat.zero_le _,rfl⟩
   case round =>
    obtain ⟨k,hk,rfl⟩:=hrel
    by_cases hlt2:k < lc
    ·have hki:(k:Int) < (lc:Int):=by omega
     have hkl:k < (C.map fP).length:=by rw [List.length_map]; omega
     obtain ⟨b,off,rfl,hb,z⟩:=HC.out.at k hkl;have e1:(C.map fP)[k]=.int .i64 (C[k]'(by omega)):=by rw [List.getElem_map]; rfl
     rw [e1] at z;have hz:=HCB.out (C[k]'(by omega)) (List.getElem_mem _);clear e1 hb;generalize C[k]'(by omega)=x at *;have hz1:¬ x < 2:=by omega
     have hz2:¬ 640≤x:=by omega
     clear hz;go_wp2_with fail
     go_round
     case rel=>exact ⟨k + 1,by omega,by go_num⟩
     case measure=>simp [intOf]; omega
    ·obtain rfl:k=lc:=by omega
     have hki:¬ (k:Int) < (k:Int):=by omega
     go_wp2_with fail;refine (WH.out _).mono ?_;rintro e w1 ⟨rfl,b1⟩;have B1:=Hd (chain BEL.out b1)
     have y1:w1.cell? ⟨w.heap.size,1,none⟩=some (.slice ak lk ck):=by
      have X1:w1.heap[w.heap.size]?=_:=(b1.block _ (zl XH.out)).trans XH.out;rw [cob X1]; rfl
     clear b1;go_wp2_with fail;refine (RI.out _ B1.out).mono ?_;rintro e w2 ⟨rfl,b2⟩;go_wp2_with fail;go_ret;exact ⟨rfl,chain B1.out b2⟩
theorem LN (n:Nod) (ak av ac:Option Addr) (ck cv cc:Nat) (w:World) (h:NodR w n ak av ac ck cv cc) (hw:bH n=true) (hs:∀ i (h:i + 1 < n.K.length),n.K[i] < n.K[i + 1]) (hv:∀ v∈n.V,v.size≤40) (hc:∀ c∈n.C,2≤c∧c < 640) (h0:n.leaf=true) (h1:0 < n.K.length) (hz:aL n≤240) :
  Calls Tryz.prog 219 #[aQ n ak av ac ck cv cc] w fun e w' => e=.returned (.bool true)∧Below w.heap.size w w' := by
 obtain ⟨z,hzz⟩:∃ z,aL n=z:=⟨_,rfl⟩
 have PL:=Hd (fun w' (hb:Below w.heap.size w w')=>LZ n ak av ac ck cv cc w' (h.below hb) hw hs hv hc);have SZ:=Hd (fun w' (hb:Below w.heap.size w w')=>nS n ak av ac ck cv cc w' (h.below hb) z (Hd hzz) hw);rw [hzz] at hz;clear h hw hs hv hc hzz;obtain ⟨lf,K,V,C⟩:=n;unfold aQ at *
 dsimp only at PL SZ h0 h1 ⊢
 subst h0;generalize K.length=lk at *;generalize V.length=lv at *;generalize C.length=lc at *;have h1i:(0:Int) < (lk:Int):=by omega
 have hzi:(z:Int)≤240:=by omega
 have b0:Below w.heap.size w (w.alloc (.cells #[.bool true,.slice ak lk ck,.slice av lv cv,.slice ac lc cc] 206)):=aB _ _;have B0:=Hd b0;clear b0 h1 hz;go_enter Tryz.func219,Tryz.ntmps219;go_wp2_with fail;refine (PL.out _ B0.out).mono ?_;rintro e w1 ⟨rfl,b1⟩;have X1:=iO b1;have B1:=Hd (eU b1);have y0:=cl X1 0 rfl;have y1:=cl X1 1 rfl;have y2:=cl X1 2 rfl;have y3:=cl X1 3 rfl;clear X1 b1;go_wp2_with fail;refine (SZ.out _ B1.out).mono ?_;rintro e w2 ⟨rfl,b2⟩;go_wp2_with fail;go_ret;exact ⟨rfl,chain B1.out b2⟩
theorem iU (n size:Int) (x:ByteArray) (w:World) (h0:0≤n) (hx:Str (aJ n size)=x) :
  Calls Tryz.prog 237 #[.int .u64 n,.int .i64 size] w fun e w' => e=.returned (.string x)∧Below w.heap.size w w' := by
 subst hx;have PA:=Hd (fun w=>lX n size w h0);generalize Str (aJ n size)=x at *;generalize yI n size=y at *;go_enter Tryz.func237,Tryz.ntmps237;go_wp2_with fail;refine (PA.out _).mono ?_;rintro e w1 ⟨rfl,b1⟩;go_wp2_with fail;go_ret;exact ⟨rfl,b1⟩
theorem xQ:(Tryz.prog.info? 292).map (fun i=>i.size)=some 2:=by kernel_rfl
theorem EX (b:Nat) (w:World) (h0:w.cell? ⟨b,0,none⟩=some (.pointer (some ⟨b,0,none⟩))) :
  Calls Tryz.prog 244 #[.pointer (some ⟨b,0,none⟩)] w fun e w' => e=.returned (.tuple #[])∧w'=w:=by
 obtain ⟨j,hj,_⟩:=Option.map_eq_some_iff.1 xQ;go_enter Tryz.func244,Tryz.ntmps244
 go_wp2
 rw [Lib.run_neq_ptr_same w _ Tryz.underlying290 hj]
 go_wp2
 go_end0
 exact ⟨rfl,rfl⟩
theorem AF (b:Nat) (w:World) (h0:w.cell? ⟨b,0,none⟩=some (.pointer none)) (hsh:w.shape? b=some (292,2)) (hfz:w.frozen? ⟨b,0,none⟩=false) :
  Calls Tryz.prog 244 #[.pointer (some ⟨b,0,none⟩)] w fun e w' => e=.returned (.tuple #[])∧w'=w.setCell ⟨b,0,none⟩ (.pointer (some ⟨b,0,none⟩)):=by
 obtain ⟨j,hj,hjs⟩:=Option.map_eq_some_iff.1 xQ;go_enter Tryz.func244,Tryz.ntmps244
 go_wp2
 rw [Lib.run_to_unsafe w ⟨b,0,none⟩ Tryz.underlying290 Tryz.underlying303 hj (by rw [hjs]; decide) hsh (Nat.zero_lt_succ 1)];simp only [Result.andThen];rw [Oper.upon_value]
 go_wp2
 rw [run_callFunc_extern Tryz.func246 (by kernel_rfl) (by kernel_rfl) (by kernel_rfl) (e:=Extern.AbiNoEscape.same) (by kernel_rfl)];rw [Lib.run_noEscape];simp only [Result.andThen];rw [Oper.upon_value]
 go_wp2
 rw [Lib.run_from_unsafe w ⟨b,0,none⟩ Tryz.underlying303 Tryz.underlying290 hj hsh (by kernel_rfl)];simp only [Result.andThen];rw [Oper.upon_value]
 go_wp2
 go_end0
 exact ⟨rfl,rfl⟩
theorem OE (B b:Nat) (bs:List Value) (w:World) (h:Lib.IsBuilder 292 5 B b bs w) :
  Calls Tryz.prog 244 #[.pointer (some ⟨b,0,none⟩)] w fun e w' => e=.returned (.tuple #[])∧(Lib.BuilderAt 292 5 B b (.pointer (some ⟨b,0,none⟩)) bs w'∧Below B w w'):=by
 rcases h with h | h
 ·refine (AF b w h.cell0 h.shape h.frozen0).mono ?_
  rintro e w' ⟨rfl,rfl⟩;exact ⟨rfl,h.used _,(Below.refl B w).setCell (p:=⟨b,0,none⟩) h.1 _⟩
 ·refine (EX b w h.cell0).mono ?_
  rintro e w' ⟨rfl,rfl⟩;exact ⟨rfl,h,Below.refl B _⟩
theorem YE:(Tryz.prog.info? 5).map (fun i=>(i.zero,i.size,i.bytes))=some (some (.int .u8 0),1,1):=by kernel_rfl
theorem gK (B b:Nat) (bs:List Value) (s:ByteArray) (w:World) (h:Lib.IsBuilder 292 5 B b bs w) (hlen:bs.length + s.size≤140737488355328) (hBw:B≤w.heap.size) :
  Calls Tryz.prog 236 #[.pointer (some ⟨b,0,none⟩),.string s] w fun e w' => e=.returned (.tuple #[.int .i64 s.size,.nilIface])∧(Lib.BuilderAt 292 5 B b (.pointer (some ⟨b,0,none⟩)) (bs ++ Lib.strCells s) w'∧Below B w w'):=by
 obtain ⟨i0,hi,hz0,hz1,hz2⟩:=info_parts YE;go_enter Tryz.func236,Tryz.ntmps236
 go_wp2_with (go_at_call 244; refine (OE B b bs _ h).mono ?_)
 rintro e w1 ⟨rfl,h1,hb1⟩;obtain ⟨hB,v,hbk,hown,hne⟩:=h1;have c0:w1.cell? ⟨b,0,none⟩=some (.pointer (some ⟨b,0,none⟩)):=by rw [Lib.cell_of_heap hbk]; rfl
 have c1:w1.cell? ⟨b,1,none⟩=some v:=by rw [Lib.cell_of_heap hbk]; rfl
 go_wp2_with (at_builtin; refine Lib.wpList_append_own_string _ rfl _ _ 22 9 rfl B 5 i0 Tryz.underlying22 Tryz.underlying9 hi hz0 hz1 hz2 _ _ _ rfl hown s rfl ?c3 ?c4 ?c5 ?_)
 case c3=>unfold maxLen; omega
 case c4=>omega
 case c5=>have:=hb1.size; omega
 intro v' w2 hown' hgrow _
 have hlt:b < w1.heap.size:=by
  rcases Nat.lt_or_ge b w1.heap.size with h' | h'
  ·exact h'
  ·simp [Array.getElem?_eq_none h'] at hbk
 have hb2:w2.heap[b]?=some (.cells #[.pointer (some ⟨b,0,none⟩),v] 292 (0,0)):=by
  rw [hgrow.block b hlt (fun e=>hne e.symm)];exact hbk
 have d0:w2.cell? ⟨b,0,none⟩=some (.pointer (some ⟨b,0,none⟩)):=by rw [Lib.cell_of_heap hb2]; rfl
 have d1:w2.cell? ⟨b,1,none⟩=some v:=by rw [Lib.cell_of_heap hb2]; rfl
 have f1:w2.frozen? ⟨b,1,none⟩=false:=Lib.frozen_of_heap hb2 1
 obtain ⟨ao,n', cap,rfl⟩:∃ ao n' cap,v'=.slice ao n' cap:=by
  rcases hown'.2 with ⟨hv,_⟩ | ⟨g,cap,cur,hv,_⟩
  ·exact ⟨_,_,_,hv⟩
  ·exact ⟨_,_,_,hv⟩
 go_wp2
 go_ret2;refine ⟨rfl,?_,?_⟩
 ·exact Lib.BuilderAt.put (T:=292) (e:=5) hB hb2 (bs' := bs ++ Lib.strCells s) (by simpa [Lib.strCells_length] using hown') (by decide)
 ·exact (hb1.grown hgrow (by have:=hb1.size; omega) (fun k hk=>(hown.lt k hk).1)).setCell (p:=⟨b,1,none⟩) hB _
end Go.Proofs.YtblbiihpfjjhhaaGreatDoor
namespace Go.Proofs
set_option linter.unusedVariables false
set_option linter.unusedSimpArgs false
open Go.Shelf
def Tryz.lays169_ren:Go.Shelf.Ren:=⟨fun | 169=>238 | n=>n,fun | 70=>290 | 9=>9 | 0=>0 | 72=>292 | 37=>22 | 127=>301 | 3=>3 | 5=>5 | n=>n,fun | n=>n⟩
theorem Tryz.lays169:Go.Proofs.Lays.n169 Tryz.prog Tryz.lays169_ren:={
 mixed:=by kernel_rfl
 f169:=Tryz.func238.trans (congrArg some (by kernel_rfl))
 t0:=Tryz.underlying0
 a0:=Tryz.isAgg0
 z0:=Tryz.sizeOf0
 v0:=Tryz.zeroValue0
 t3:=Tryz.underlying3
 a3:=Tryz.isAgg3
 z3:=Tryz.sizeOf3
 v3:=Tryz.zeroValue3
 t9:=Tryz.underlying9
 a9:=Tryz.isAgg9
 z9:=Tryz.sizeOf9
 v9:=Tryz.zeroValue9
 t37:=Tryz.underlying22
 a37:=Tryz.isAgg22
 z37:=Tryz.sizeOf22
 v37:=Tryz.zeroValue22
 t70:=Tryz.underlying290
 a70:=Tryz.isAgg290
 z70:=Tryz.sizeOf290
 v70:=Tryz.zeroValue290
 t72:=Tryz.underlying292
 a72:=Tryz.isAgg292
 z72:=Tryz.sizeOf292
 v72:=Tryz.zeroValue292
 t127:=Tryz.underlying301
 a127:=Tryz.isAgg301
 z127:=Tryz.sizeOf301
 v127:=Tryz.zeroValue301 }
theorem Tryz.Builder_Extra_169:Builder.Extra Tryz.prog Tryz.lays169_ren:={
 sizeBuilder:=by kernel_rfl
 liesBuilder:=by kernel_rfl
 t5:=Tryz.underlying5
 a5:=Tryz.isAgg5
 z5:=Tryz.sizeOf5
 v5:=Tryz.zeroValue5
 infoByte:=by kernel_rfl
 cellsByte:=by kernel_rfl
 sizeByte:=by kernel_rfl
 neB5:=by decide }
open Go.RowKit in
theorem Tryz.Builder_String_any (B b:Nat) (l:List UInt8) (w:World) (h:Lib.IsBuilder 292 5 B b (Lib.byteCells l) w) (hBw:B≤w.heap.size) :
  Calls Tryz.prog 238 #[.pointer (some ⟨b,0,none⟩)] w fun e w' => e=.returned (.string ⟨l.toArray⟩)∧Below B w w' := Any.Builder_String_any Tryz.lays169 Tryz.Builder_Extra_169 B b l w h hBw
end Go.Proofs
