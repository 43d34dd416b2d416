/-
 Turn2.
-/
import Derived.Test.YthcejfnngkmojaaGreatDoorPzTurn
namespace Go.Proofs.YthcejfnngkmojaaGreatDoor
open Go.RowKit
set_option maxRecDepth 20000
set_option maxHeartbeats 12800000
set_option linter.unusedVariables false
set_option linter.unusedSimpArgs false
theorem oC (x:Nat) (k:Int) (w:World) (hx:x < 4294967296) (hk:k=2∨k=6∨k=7∨k=11∨k=13∨k=17∨k=18∨k=19∨k=22∨k=25) :
  Calls Tryz.prog 180 #[.int .u32 (x:Int),.int .i64 k] w fun e w' => e=.returned (.int .u32 (S.rot x k.toNat:Int))∧w=w' := by
 rcases hk with rfl | rfl | rfl | rfl | rfl | rfl | rfl | rfl | rfl | rfl
 ·exact aAD x w hx
 ·exact aAC x w hx
 ·exact KI x w hx
 ·exact UN x w hx
 ·exact UM x w hx
 ·exact zT x w hx
 ·exact zS x w hx
 ·exact zR x w hx
 ·exact UL x w hx
 ·exact UK x w hx
theorem Arr.otherRow {T:TypeId} {w:World} {g:Nat} {l:List Nat} (h:Arr T w g l) (k:Nat) (cs:Array Value) (hne:g≠k):Arr T (w.setRow k cs) g l:=by
 unfold Arr;rw [setRow_other _ _ _ _ hne];exact h
def fI (t s:List Nat):Nat→List Nat
 | 0=>t
 | n + 1=>(fI t s n).set n (S.add (t.getD n 0) (s.getD n 0))
theorem oI (t s:List Nat) (n:Nat):(fI t s n).length=t.length:=by
 induction n with
 | zero=>rfl
 | succ n ih=>simp [fI,ih]
theorem OI (t s:List Nat) (n j:Nat) (h:n≤j):(fI t s n)[j]?=t[j]?:=by
 induction n with
 | zero=>rfl
 | succ n ih=>rw [fI,List.getElem?_set_ne (by omega),ih (by omega)]
theorem sQ (t s:List Nat) (n:Nat) (h:n < (fI t s n).length):(fI t s n)[n]=t.getD n 0:=by
 have:=OI t s n n (Nat.le_refl _);rw [List.getElem?_eq_getElem h] at this;rw [List.getD_eq_getElem?_getD,← this]; rfl
theorem KR (t s:S.St):fI t.list s.list 8=(S.plus t s).list:=rfl
def Spreads (b:ByteArray) (W:List Nat):Prop:=∀ w:World,Calls Tryz.prog 179 #[.string b] w fun e w' => e=.returned (.agg (U W))∧Below w.heap.size w w'
theorem Spreads.out {b:ByteArray} {W:List Nat} (h:Spreads b W) (w:World):Calls Tryz.prog 179 #[.string b] w fun e w' => e=.returned (.agg (U W))∧Below w.heap.size w w' := h w
def bH:List Nat:=[0,0,0,0,0,0,0,0]
theorem MP (s:S.St) (b:ByteArray) (gk:Nat) (K W:List Nat) (w:World) (hk:Arr 224 w gk K) (hK:K.length=64) (HW:Spreads b W) (hlW:W.length=64) (hs:s.ok) (fin:S.St) (hfin:Hid (S.steps K W s 64=fin)) (L:List Nat) (HLL:Hid ((S.plus fin s).list=L)) :
  Calls Tryz.prog 154 #[.agg (U s.list),.pointer (some ⟨gk,0,none⟩),.string b] w fun e w' => e=.returned (.agg (U L))∧Below w.heap.size w w' := by
 go_enter Tryz.func154,Tryz.ntmps154;go_wp2_with fail;refine (HW.out _).mono ?_;rintro e w1 ⟨rfl,b1⟩;have hsz2:((w.alloc (.cells (U s.list) 221)).alloc (.cells (U bH) 221)).heap.size=w.heap.size + 2:=by simp
 have H3a:Arr 221 ((w.alloc (.cells (U s.list) 221)).alloc (.cells (U bH) 221)) w.heap.size s.list:=(Arr.new w _).alloc _
 have H6a:Arr 221 ((w.alloc (.cells (U s.list) 221)).alloc (.cells (U bH) 221)) (w.heap.size + 1) bH:=by
  have:=Arr.new (T:=221) (w.alloc (.cells (U s.list) 221)) bH;rwa [show (w.alloc (.cells (U s.list) 221)).heap.size=w.heap.size + 1 by simp] at this
 have HKa:Arr 224 ((w.alloc (.cells (U s.list) 221)).alloc (.cells (U bH) 221)) gk K:=(hk.alloc _).alloc _;have hbelow:Below w.heap.size w ((w.alloc (.cells (U s.list) 221)).alloc (.cells (U bH) 221)):=(Br.alloc (Nat.le_refl _) _).alloc (by simp) _;have hgk:=hk.lt;have b1' : Below ((w.alloc (.cells (U s.list) 221)).alloc (.cells (U bH) 221)).heap.size ((w.alloc (.cells (U s.list) 221)).alloc (.cells (U bH) 221)) w1:=b1;have hw1:w.heap.size + 2≤w1.heap.size:=by have:=b1'.size; rwa [hsz2] at this
 have H3b:=H3a.below b1';have H6b:=H6a.below b1';have HKb:=HKa.below b1';have bb1:Below w.heap.size w w1:=hbelow.trans (b1'.mono (by rw [hsz2]; omega));have H7:Arr 224 (w1.alloc (.cells (U (bV [])) 224)) w1.heap.size (bV []):=Arr.new w1 _;have INW:(Tryz.prog.info? 224).map (·.size)=some (U W).size:=by rw [bP,hlW]; exact tH
 have OLW:(U (bV [])).size=(U W).size:=by rw [bP,bP,hlW]; rfl
 have ONW:=mT W;have INS:(Tryz.prog.info? 221).map (·.size)=some (U s.list).size:=by rw [bP]; exact gE
 have ONS:=mT s.list
 have other:∀ {T:TypeId} {g:Nat} {l:List Nat},Arr T w1 g l→Arr T ((w1.alloc (.cells (U (bV [])) 224)).setRow w1.heap.size (U W)) g l:=fun h=>by
  unfold Arr;rw [setRow_other _ _ _ _ (by have:=h.lt; omega)];exact h.alloc _
 have W7:=H7.row W;have W3:=other H3b;have W6:=other H6b;have WK:=other HKb;have bb2:Below w.heap.size w ((w1.alloc (.cells (U (bV [])) 224)).setRow w1.heap.size (U W)):=below_setRow (bb1.alloc (by omega) _) (by omega) _;have hszW:((w1.alloc (.cells (U (bV [])) 224)).setRow w1.heap.size (U W)).heap.size=w1.heap.size + 1:=by simp
 obtain ⟨h7,inw,olw,onw,ins,ons⟩:Hid (Arr 224 (w1.alloc (.cells (U (bV [])) 224)) w1.heap.size (bV []))∧Hid ((Tryz.prog.info? 224).map (·.size)=some (U W).size)∧Hid ((U (bV [])).size=(U W).size)∧Hid ((U W).all (·.oneCell')=true)∧Hid ((Tryz.prog.info? 221).map (·.size)=some (U s.list).size)∧Hid ((U s.list).all (·.oneCell')=true):=⟨Hd H7,Hd INW,Hd OLW,Hd ONW,Hd INS,Hd ONS⟩
 clear H3a H6a HKa hbelow b1 b1' H3b H6b HKb H7 INW OLW ONW INS ONS other hsz2 bb1
 go_upto_region 2 with (refine wpList_store_row rfl 224 (.tmp 7) (.tmp 20) rfl w1.heap.size (U W) rfl rfl 224 (U (bV [])) h7.out inw.out olw.out onw.out ?_)
 generalize hw2:World.setRow _ _ _=w2
 replace W7:Arr 224 w2 w1.heap.size W:=by rw [← hw2]; exact W7
 replace W3:Arr 221 w2 w.heap.size s.list:=by rw [← hw2]; exact W3
 replace W6:Arr 221 w2 (w.heap.size + 1) bH:=by rw [← hw2]; exact W6
 replace WK:Arr 224 w2 gk K:=by rw [← hw2]; exact WK
 replace bb2:Below w.heap.size w w2:=by rw [← hw2]; exact bb2
 replace hszW:w2.heap.size=w1.heap.size + 1:=by rw [← hw2]; exact hszW
 have h8:Hid (Arr 221 (w2.alloc (.cells (U bH) 221)) w2.heap.size bH):=Hd (Arr.new w2 bH);have ols:Hid ((U bH).size=(U s.list).size):=Hd (by rw [bP,bP]; rfl);have V3:=Hd W3
 have other:∀ {T:TypeId} {g:Nat} {l:List Nat},Arr T w2 g l→Arr T ((w2.alloc (.cells (U bH) 221)).setRow w2.heap.size (U s.list)) g l:=fun h=>by
  unfold Arr;rw [setRow_other _ _ _ _ (by have:=h.lt; omega)];exact h.alloc _
 have X8:=h8.out.row s.list;have X7:=other W7;have X3:=other W3;have X6:=other W6;have XK:=other WK;have bb3:Below w.heap.size w ((w2.alloc (.cells (U bH) 221)).setRow w2.heap.size (U s.list)):=below_setRow (bb2.alloc (by omega) _) (by omega) _;have Y:=Hd (And.intro X8 (And.intro X7 (And.intro X3 (And.intro X6 (And.intro XK bb3)))));have Z2:=Hd hszW;clear hw2 W7 W3 W6 WK bb2 hszW other X8 X7 X3 X6 XK bb3 h7 inw olw onw
 go_step
 refine wpList_load_row rfl 221 (.tmp 3) rfl w.heap.size rfl 221 (U s.list) (0,0) _ V3.out Tryz.underlying221 rfl ins.out ?_
 go_upto_region 3 with (refine wpList_store_row rfl 221 (.tmp 8) (.tmp 21) rfl w2.heap.size (U s.list) rfl rfl 221 (U bH) h8.out ins.out ols.out ons.out ?_)
 generalize hw3:World.setRow _ _ _=w3;have Y2:Hid (Arr 221 w3 w2.heap.size s.list∧Arr 224 w3 w1.heap.size W∧Arr 221 w3 w.heap.size s.list∧Arr 221 w3 (w.heap.size + 1) bH∧Arr 224 w3 gk K∧Below w.heap.size w w3):=Hd (by rw [← hw3]; exact Y.out);have hne8:w2.heap.size=w1.heap.size + 1:=Z2.out;clear hw3 Y V3 h8 ols;go_wp2_with fail;rw [hne8] at Y2;have hok0:=Hd hs;clear hs hne8 Z2
 go_loopw [22] (fun i wr=>∃ n:Nat,n≤64∧i=.int .i64 (n:Int)∧Hid (Arr 221 wr (w1.heap.size + 1) (S.steps K W s n).list∧Arr 224 wr w1.heap.size W∧Arr 221 wr w.heap.size s.list∧Arr 221 wr (w.heap.size + 1) bH∧Arr 224 wr gk K∧Below w.heap.size w wr)) (fun i _=>65 - (intOf i).toNat)
 case atStart=>exact ⟨0,by omega,rfl,Y2⟩
 case round =>
  obtain ⟨n,hn,rfl,HY⟩:=hrel
  by_cases hlt:n < 64
  ·have hli:(n:Int) < 64:=by omega
   obtain ⟨A8,A7,A3,A6,AK,hbw⟩:=HY.out;have hok:=S.steps_ok K W s n hok0.out;have NXT:S.steps K W s (n + 1)=S.step (S.steps K W s n) (K.getD n 0) (W.getD n 0):=rfl;generalize S.steps K W s n=t at *;obtain ⟨ta,tb,tc,td,te,tf,tg,th⟩:=t;obtain ⟨oa,ob,oc,od,oe,of', og,oh⟩:=hok;simp only at oa ob oc od oe of' og oh;have c0:wr.cell? ⟨w1.heap.size + 1,0,none⟩=some (.int .u32 ((ta:Nat):Int)):=A8.cell 0 (by simp [S.St.list]);have c1:wr.cell? ⟨w1.heap.size + 1,1,none⟩=some (.int .u32 ((tb:Nat):Int)):=A8.cell 1 (by simp [S.St.list])
   have c2:wr.cell? ⟨w1.heap.size + 1,2,none⟩=some (.int .u32 ((tc:Nat):Int)):=A8.cell 2 (by simp [S.St.list]);have c3:wr.cell? ⟨w1.heap.size + 1,3,none⟩=some (.int .u32 ((td:Nat):Int)):=A8.cell 3 (by simp [S.St.list]);have c4:wr.cell? ⟨w1.heap.size + 1,4,none⟩=some (.int .u32 ((te:Nat):Int)):=A8.cell 4 (by simp [S.St.list]);have c5:wr.cell? ⟨w1.heap.size + 1,5,none⟩=some (.int .u32 ((tf:Nat):Int)):=A8.cell 5 (by simp [S.St.list])
   have c6:wr.cell? ⟨w1.heap.size + 1,6,none⟩=some (.int .u32 ((tg:Nat):Int)):=A8.cell 6 (by simp [S.St.list]);have c7:wr.cell? ⟨w1.heap.size + 1,7,none⟩=some (.int .u32 ((th:Nat):Int)):=A8.cell 7 (by simp [S.St.list]);have ck:=AK.cell n (by omega);have cw:=A7.cell n (by omega);have ek:K.getD n 0=K[n]:=by rw [List.getD_eq_getElem?_getD,List.getElem?_eq_getElem (by omega)]; rfl
   have ew:W.getD n 0=W[n]:=by rw [List.getD_eq_getElem?_getD,List.getElem?_eq_getElem (by omega)]; rfl
   rw [ek,ew] at NXT;generalize K[n]'(by omega)=kv at *;generalize W[n]'(by omega)=wv at *;clear ek ew A8 A7 A3 A6 AK hbw hlt;have NX:=Hd NXT;clear NXT;go_wp2_with fail
   go_quiet (fail)
   obtain ⟨wq,hwq⟩:∃ wq,wr.drewN nq=wq:=⟨_,rfl⟩
   rw [hwq]
   replace c3:wq.cell? ⟨w1.heap.size + 1,3,none⟩=some (.int .u32 ((td:Nat):Int)):=by rw [← hwq]; exact c3
   replace c7:wq.cell? ⟨w1.heap.size + 1,7,none⟩=some (.int .u32 ((th:Nat):Int)):=by rw [← hwq]; exact c7
   replace ck:wq.cell? ⟨gk,n,none⟩=some (.int .u32 ((kv:Nat):Int)):=by rw [← hwq]; exact ck
   replace cw:wq.cell? ⟨w1.heap.size,n,none⟩=some (.int .u32 ((wv:Nat):Int)):=by rw [← hwq]; exact cw
   have HY2:Hid (_∧_):=Hd (show Arr 221 wq (w1.heap.size + 1) (S.St.list ⟨ta,tb,tc,td,te,tf,tg,th⟩)∧Arr 224 wq w1.heap.size W∧Arr 221 wq w.heap.size s.list∧Arr 221 wq (w.heap.size + 1) bH∧Arr 224 wq gk K∧Below w.heap.size w wq by
    rw [← hwq]; exact ⟨HY.out.1,HY.out.2.1,HY.out.2.2.1,HY.out.2.2.2.1,HY.out.2.2.2.2.1,aD HY.out.2.2.2.2.2 nq⟩)
   clear c0 c1 c2 c4 c5 c6 HY hwq;go_wp2_with fail
   go_quiet ((go_at_call 180; exact Calls.quiet_of_same ((oC _ _ _ oe (by omega)).mono fun _ _ h=>⟨h.1,h.2.symm⟩)))
   go_wp2_with fail;have hT:=JY ⟨ta,tb,tc,td,te,tf,tg,th⟩ kv wv oe of' og;have hU:=JW ⟨ta,tb,tc,td,te,tf,tg,th⟩ oa ob oc;have hstep:S.step ⟨ta,tb,tc,td,te,tf,tg,th⟩ kv wv=⟨S.add (S.t1 ⟨ta,tb,tc,td,te,tf,tg,th⟩ kv wv) (S.t2 ⟨ta,tb,tc,td,te,tf,tg,th⟩),ta,tb,tc,S.add td (S.t1 ⟨ta,tb,tc,td,te,tf,tg,th⟩ kv wv),te,tf,tg⟩:=rfl;generalize S.t1 ⟨ta,tb,tc,td,te,tf,tg,th⟩ kv wv=T1 at *;generalize S.t2 ⟨ta,tb,tc,td,te,tf,tg,th⟩=T2 at *;simp only at hT hU;rw [hT];have HU:=Hd hU;have NX2:=Hd (NX.out.trans hstep)
   have g1:=(cO T1 T2).1;have g2:=(cO td T1).1;clear hT hU hstep NX;generalize S.add T1 T2=q1 at *;generalize S.add td T1=q2 at *;obtain ⟨wz,hwz⟩:∃ wz,wq.drewN nq=wz:=⟨_,rfl⟩
   rw [hwz];have hc3:wz.cell? ⟨w1.heap.size + 1,3,none⟩=some (.int .u32 ((td:Nat):Int)):=by rw [← hwz]; exact c3
   have HY3:Hid (_∧_):=Hd (show Arr 221 wz (w1.heap.size + 1) (S.St.list ⟨ta,tb,tc,td,te,tf,tg,th⟩)∧Arr 224 wz w1.heap.size W∧Arr 221 wz w.heap.size s.list∧Arr 221 wz (w.heap.size + 1) bH∧Arr 224 wz gk K∧Below w.heap.size w wz by
    rw [← hwz]; exact ⟨HY2.out.1,HY2.out.2.1,HY2.out.2.2.1,HY2.out.2.2.2.1,HY2.out.2.2.2.2.1,aD HY2.out.2.2.2.2.2 _⟩)
   clear c3 c7 ck cw HY2 hwz;refine (oC _ _ _ oa (by omega)).mono ?_;rintro e w9 ⟨rfl,rfl⟩;go_wp2_with fail;refine (oC _ _ _ oa (by omega)).mono ?_;rintro e w9 ⟨rfl,rfl⟩;go_wp2_with fail;refine (oC _ _ _ oa (by omega)).mono ?_;rintro e w9 ⟨rfl,rfl⟩;go_upto_region 9 with fail
   rw [HU.out];have i8:Hid ((Tryz.prog.info? 221).map (·.size)=some (U [q1,ta,tb,tc,q2,te,tf,tg]).size):=Hd (by rw [bP]; exact gE);have o8:Hid ((U (S.St.list ⟨ta,tb,tc,td,te,tf,tg,th⟩)).size=(U [q1,ta,tb,tc,q2,te,tf,tg]).size):=Hd (by rw [bP,bP]; simp [S.St.list]);have n8:Hid ((U [q1,ta,tb,tc,q2,te,tf,tg]).all (·.oneCell')=true):=Hd (mT _)
   have FIN:Hid (Arr 221 (wz.setRow (w1.heap.size + 1) (U [q1,ta,tb,tc,q2,te,tf,tg])) (w1.heap.size + 1) (S.steps K W s (n + 1)).list∧Arr 224 (wz.setRow (w1.heap.size + 1) (U [q1,ta,tb,tc,q2,te,tf,tg])) w1.heap.size W∧Arr 221 (wz.setRow (w1.heap.size + 1) (U [q1,ta,tb,tc,q2,te,tf,tg])) w.heap.size s.list∧Arr 221 (wz.setRow (w1.heap.size + 1) (U [q1,ta,tb,tc,q2,te,tf,tg])) (w.heap.size + 1) bH∧Arr 224 (wz.setRow (w1.heap.size + 1) (U [q1,ta,tb,tc,q2,te,tf,tg])) gk K∧Below w.heap.size w (wz.setRow (w1.heap.size + 1) (U [q1,ta,tb,tc,q2,te,tf,tg]))):=Hd (by
    obtain ⟨a8,a7,a3,a6,ak,bw⟩:=HY3.out;refine ⟨?_,a7.otherRow _ _ (by omega),a3.otherRow _ _ (by omega),a6.otherRow _ _ (by omega),ak.otherRow _ _ (by omega),below_setRow bw (by omega) _⟩;rw [NX2.out];exact a8.row [q1,ta,tb,tc,q2,te,tf,tg])
   have a8:=Hd HY3.out.1;clear HY3 NX2 HU
   go_wp2_with (refine wpList_store_row rfl 221 (.tmp 8) (.tmp 100) rfl (w1.heap.size + 1) (U [q1,ta,tb,tc,q2,te,tf,tg]) rfl rfl 221 (U (S.St.list ⟨ta,tb,tc,td,te,tf,tg,th⟩)) a8.out i8.out o8.out n8.out ?_)
   go_roundw
   case rel=>exact ⟨n + 1,by omega,by go_num,FIN⟩
   case measure=>simp [intOf]; omega
  ·obtain rfl:n=64:=by omega
   have hli:¬ (((64:Nat):Int) < 64):=by omega
   have HYt:=HY;have HF:Hid (S.steps K W s 64=fin):=hfin;rw [HF.out] at HYt;clear HY;go_wp2_with fail
   go_loopw [102] (fun i wr=>∃ n:Nat,n≤8∧i=.int .i64 (n:Int)∧Hid (Arr 221 wr (w1.heap.size + 1) (fI fin.list s.list n)∧Arr 221 wr w.heap.size s.list∧Arr 221 wr (w.heap.size + 1) bH∧Below w.heap.size w wr)) (fun i _=>9 - (intOf i).toNat)
   case atStart=>exact ⟨0,by omega,rfl,Hd ⟨HYt.out.1,HYt.out.2.2.1,HYt.out.2.2.2.1,HYt.out.2.2.2.2.2⟩⟩
   case round =>
    obtain ⟨n,hn,rfl,HZ⟩:=hrel
    by_cases hlt:n < 8
    ·have hli:(n:Int) < 8:=by omega
     obtain ⟨a8,a3,a6,hbw⟩:=HZ.out;have hl8:n < (fI fin.list s.list n).length:=by rw [oI]; exact hlt
     have hls:n < s.list.length:=hlt;have c8:=a8.cell n hl8;have f8:=a8.free n;have c3:=a3.cell n hls;have e8:(fI fin.list s.list n)[n]=fin.list.getD n 0:=sQ _ _ n hl8;have e3:s.list[n]=s.list.getD n 0:=by rw [List.getD_eq_getElem?_getD,List.getElem?_eq_getElem hls]; rfl
     rw [e8] at c8;rw [e3] at c3;have NX:fI fin.list s.list (n + 1)=(fI fin.list s.list n).set n (S.add (fin.list.getD n 0) (s.list.getD n 0)):=rfl;have g1:=cO (fin.list.getD n 0) (s.list.getD n 0);generalize S.add (fin.list.getD n 0) (s.list.getD n 0)=q at *;generalize fin.list.getD n 0=x at *;generalize s.list.getD n 0=y at *;obtain ⟨g11,g12⟩:=g1
     have FIN:Hid (Arr 221 (wr.setCell ⟨w1.heap.size + 1,n,none⟩ (.int .u32 ((q:Nat):Int))).drew (w1.heap.size + 1) (fI fin.list s.list (n + 1))∧Arr 221 (wr.setCell ⟨w1.heap.size + 1,n,none⟩ (.int .u32 ((q:Nat):Int))).drew w.heap.size s.list∧Arr 221 (wr.setCell ⟨w1.heap.size + 1,n,none⟩ (.int .u32 ((q:Nat):Int))).drew (w.heap.size + 1) bH∧Below w.heap.size w (wr.setCell ⟨w1.heap.size + 1,n,none⟩ (.int .u32 ((q:Nat):Int))).drew):=Hd (by
      refine ⟨?_,(a3.other _ _ (by show w.heap.size≠w1.heap.size + 1; omega)).drew,(a6.other _ _ (by show w.heap.size + 1≠w1.heap.size + 1; omega)).drew,(hbw.setCell (by show w.heap.size≤w1.heap.size + 1; omega) _).drew⟩;rw [NX];exact (a8.set n q).drew)
     clear a8 a3 a6 hbw hl8 hls e8 e3 NX HZ HYt;go_wp2_with fail
     go_region
     all_goals
      go_wp2_with fail;go_roundw
      case rel=>exact ⟨n + 1,by omega,by go_num,FIN⟩
      case measure=>simp [intOf]; omega
    ·obtain rfl:n=8:=by omega
     have hli:¬ (((8:Nat):Int) < 8):=by omega
     obtain ⟨a8,a3,a6,hbw⟩:=HZ.out;rw [KR,HLL.out] at a8;have hL8:L.length=8:=by rw [← HLL.out]; rfl
     have i8:Hid ((Tryz.prog.info? 221).map (·.size)=some (U L).size):=Hd (by rw [bP,hL8]; exact gE);have o8:Hid ((U bH).size=(U L).size):=Hd (by rw [bP,bP,hL8]; rfl);have n8:Hid ((U L).all (·.oneCell')=true):=Hd (mT _);have A8:=Hd a8;have A6:=Hd a6;have RW:=Hd (a6.row L);have hdone:Below w.heap.size w (wr.setRow (w.heap.size + 1) (U L)):=below_setRow hbw (by omega) _;clear a8 a3 a6 hbw HZ HYt HF hfin;go_upto_region 16 with fail
     go_step
     refine wpList_load_row rfl 221 (.tmp 8) rfl (w1.heap.size + 1) rfl 221 (U L) (0,0) _ A8.out Tryz.underlying221 rfl i8.out ?_;refine wpList_store_row rfl 221 (.tmp 6) (.tmp 114) rfl (w.heap.size + 1) (U L) rfl rfl 221 (U bH) A6.out i8.out o8.out n8.out ?_;go_wp2_with fail;exact bodyPost_ret (v:=.agg (U L)) (results_cell_row Tryz.results154 _ _ (w.heap.size + 1) 221 (U L) (0,0) _ rfl RW.out Tryz.underlying221 rfl i8.out) rfl ⟨rfl,hdone⟩
theorem SO (s:S.St) (b:ByteArray) (gk:Nat) (w:World) (hb:b.size=64) (hk:Arr 224 w gk S.KS) (hs:s.ok) :
  Calls Tryz.prog 154 #[.agg (U s.list),.pointer (some ⟨gk,0,none⟩),.string b] w fun e w' => e=.returned (.agg (U (S.turn s b.data.toList).list))∧Below w.heap.size w w' :=
 MP s b gk S.KS (W64 b.data.toList) w hk (by decide) (fun w' => EK b w' hb) (S.wds_length _ _) hs _ (Hd rfl) _ (Hd rfl)
end Go.Proofs.YthcejfnngkmojaaGreatDoor
