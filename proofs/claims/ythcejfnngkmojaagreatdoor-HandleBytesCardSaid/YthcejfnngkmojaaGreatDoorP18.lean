/-
 Sq, Sa, Sf, Sg, So, Sv, Su, Hw, Ls.
-/
import Derived.Test.YthcejfnngkmojaaGreatDoorP17
import Derived.Maps.OwnIn
import Derived.Test.YthcejfnngkmojaaGreatDoorP16
import Derived.Test.YthcejfnngkmojaaGreatDoorP14
import Derived.Test.YthcejfnngkmojaaGreatDoorP02
import Derived.Test.YthcejfnngkmojaaGreatDoorP03
namespace Go.Proofs.YthcejfnngkmojaaGreatDoor
open Go Go.RowKit
set_option maxRecDepth 20000
set_option maxHeartbeats 12800000
set_option linter.unusedVariables false
set_option linter.unusedSimpArgs false
theorem TI {w0 w:World} {R:List Nat} {t d s n:Nat} {E E' : List Ent} {cap nc:Int} {id ca ep nn e id' ca' ep' nn' : Int} (h:TxS w0 R w t d s n E) (he:(e=0∧id'=id∧ca'=ca∧ep'=ep∧nn'=nn)∨(e≠0∧id'=0∧ca'=0∧ep'=0∧nn'=0))
  (HC:∀ (R' : List Nat) (wa:World) (b0 b1 b2:Nat),TxS w0 R' wa t d s n E→(wa.heap[b0]?=some (.cells #[.pointer (some ⟨t,0,none⟩)] 24))→(wa.heap[b1]?=some (.cells #[.int .i64 cap] 3))→(wa.heap[b2]?=some (.cells #[.int .u64 nc] 35))→((b0∈R'∧b0≠t)∧(b1∈R'∧b1≠t)∧(b2∈R'∧b2≠t))→Calls Tryz.prog 56 #[.pointer (some ⟨b1,0,none⟩),.pointer (some ⟨b0,0,none⟩),.pointer (some ⟨b2,0,none⟩)] wa fun e' w' => e'=.returned (.tuple #[.agg #[.int .i64 id,.int .i64 ca,.int .i64 ep,.int .u64 nn],.int .i64 e])∧TxS w0 R' w' t d s n E'∧KeptT R' t wa w') :
  Calls Tryz.prog 22 #[.pointer (some ⟨t,0,none⟩),.int .i64 cap,.int .u64 nc] w fun e' w' => e'=.returned (.tuple #[.agg #[.int .i64 id', .int .i64 ca', .int .i64 ep', .int .u64 nn'],.int .i64 e])∧TxS w0 R w' t d s n E'∧KeptT R t w w' := by
 obtain ⟨a1,a2,a3,a4,a5,a6,a7⟩:=h.box (.cells #[.pointer (some ⟨t,0,none⟩)] 24);obtain ⟨x1,hx1⟩:∃ x1,w.alloc (.cells #[.pointer (some ⟨t,0,none⟩)] 24)=x1:=⟨_,rfl⟩
 rw [hx1] at a1 a2 a3 a5;obtain ⟨b1,b2,b3,b4,b5,b6,b7⟩:=a1.box (.cells #[.int .i64 cap] 3);obtain ⟨x2,hx2⟩:∃ x2,x1.alloc (.cells #[.int .i64 cap] 3)=x2:=⟨_,rfl⟩
 rw [hx2] at b1 b2 b3 b5;rw [a5] at b1 b3 b4 b5 b6 b7;obtain ⟨c1,c2,c3,c4,c5,c6,c7⟩:=b1.box (.cells #[.int .u64 nc] 35);obtain ⟨x3,hx3⟩:∃ x3,x2.alloc (.cells #[.int .u64 nc] 35)=x3:=⟨_,rfl⟩
 rw [hx3] at c1 c2 c3 c5;rw [b5] at c1 c3 c4 c5 c6 c7;obtain ⟨d1,d2,d3,d4,d5,d6,d7⟩:=c1.box (.cells #[.int .i64 0,.int .i64 0,.int .i64 0,.int .u64 0] 37);obtain ⟨x4,hx4⟩:∃ x4,x3.alloc (.cells #[.int .i64 0,.int .i64 0,.int .i64 0,.int .u64 0] 37)=x4:=⟨_,rfl⟩
 rw [hx4] at d1 d2 d3 d5;rw [c5] at d1 d3 d4 d5 d6 d7;have hkw:KeptT R t w x4:=a2.trans ((b2.sub (fun k hk=>by simp [hk])).trans ((c2.sub (fun k hk=>by simp [hk])).trans (d2.sub (fun k hk=>by simp [hk]))))
 have VC:=Hd (uV (hk:=fun w=>by kernel_rfl) (n:=n) (E' := E') (caps:=#[.pointer (some ⟨w.heap.size + 1,0,none⟩),.pointer (some ⟨w.heap.size,0,none⟩),.pointer (some ⟨w.heap.size + 1 + 1,0,none⟩)]) d1 he (fun R' wa hs hT hK=>HC R' wa (w.heap.size) (w.heap.size + 1) (w.heap.size + 1 + 1) hT ((hK (w.heap.size) (by simp) a4).trans ((d2 (w.heap.size) (by simp) a4).trans ((c2 (w.heap.size) (by simp) a4).trans ((b2 (w.heap.size) (by simp) a4).trans (a3))))) ((hK (w.heap.size + 1) (by simp) b4).trans ((d2 (w.heap.size + 1) (by simp) b4).trans ((c2 (w.heap.size + 1) (by simp) b4).trans (b3)))) ((hK (w.heap.size + 1 + 1) (by simp) c4).trans ((d2 (w.heap.size + 1 + 1) (by simp) c4).trans (c3))) ⟨⟨hs (w.heap.size) (by simp),a4⟩,⟨hs (w.heap.size + 1) (by simp),b4⟩,⟨hs (w.heap.size + 1 + 1) (by simp),c4⟩⟩))
 have KP:=Hd (And.intro hkw (And.intro d3 (And.intro d4 (And.intro d6 (show ∀ k∈R,k≠w.heap.size + 1 + 1 + 1 from fun k hk=>d7 k (by simp [hk]))))));have bx:=(aM ((d2 (w.heap.size) (by simp) a4).trans ((c2 (w.heap.size) (by simp) a4).trans ((b2 (w.heap.size) (by simp) a4).trans (a3))))).1;have X1:=Hd (And.intro hx1 (And.intro hx2 (And.intro hx3 hx4)));clear h he HC hkw a1 a2 a3 a4 a5 a6 a7 b1 b2 b3 b4 b5 b6 b7 c1 c2 c3 c4 c5 c6 c7 d1 d2 d3 d4 d5 d6 d7 hx1 hx2 hx3 hx4;go_enter Tryz.func22,Tryz.ntmps22;go_upto_region 1 with fail
 try simp only [World.heap_size_alloc]
 rw [X1.out.1,X1.out.2.1,X1.out.2.2.1,X1.out.2.2.2];go_wp2_with fail;refine VC.out.mono ?_;rintro e' w2 ⟨rfl,h1,h2⟩;have r4:=(h2 (w.heap.size + 1 + 1 + 1) (by simp) KP.out.2.2.1).trans KP.out.2.1;obtain ⟨⟨y0,y1,y2,y3⟩,u0,u1,u2,u3⟩:=aG r4;obtain ⟨n1,n2⟩:=set4 r4 (.int .i64 id') (.int .i64 ca') (.int .i64 ep') (.int .u64 nn')
 have FIN:Hid ((st4 w2 (w.heap.size + 1 + 1 + 1) (.int .i64 id') (.int .i64 ca') (.int .i64 ep') (.int .u64 nn')).heap[w.heap.size + 1 + 1 + 1]?=some (.cells #[.int .i64 id', .int .i64 ca', .int .i64 ep', .int .u64 nn'] 37)∧TxS w0 R (st4 w2 (w.heap.size + 1 + 1 + 1) (.int .i64 id') (.int .i64 ca') (.int .i64 ep') (.int .u64 nn')) t d s n E'∧KeptT R t w (st4 w2 (w.heap.size + 1 + 1 + 1) (.int .i64 id') (.int .i64 ca') (.int .i64 ep') (.int .u64 nn'))):=Hd (by
  refine ⟨n1,(h1.turn (k:=w.heap.size + 1 + 1 + 1) (by simp) KP.out.2.2.1 KP.out.2.2.2.1 n2).sub (fun k hk=>by simp [hk]),fun k hk hn=>?_⟩;exact (n2.block k (h1.lt.1 k (by simp [hk])) (KP.out.2.2.2.2 k hk)).trans ((h2 k (by simp [hk]) hn).trans (KP.out.1 k hk hn)))
 clear h1 h2 VC r4 n1 n2 bx;unfold st4 at FIN;go_wp2_with fail;exact bodyPost_ret (v:=.tuple #[.agg #[.int .i64 id', .int .i64 ca', .int .i64 ep', .int .u64 nn'],.int .i64 e]) (aQ (fn:=Tryz.f22) rfl _ _ (w.heap.size + 1 + 1 + 1) 37 _ (0,0) _ _ rfl rfl FIN.out.1 Tryz.underlying37 rfl dV) rfl ⟨rfl,FIN.out.2⟩
theorem aCP {w0 w:World} {R:List Nat} {t d s n:Nat} {E E' : List Ent} {ii:Int} {id ca ep nn e id' ca' ep' nn' : Int} (h:TxS w0 R w t d s n E) (he:(e=0∧id'=id∧ca'=ca∧ep'=ep∧nn'=nn)∨(e≠0∧id'=0∧ca'=0∧ep'=0∧nn'=0))
  (HC:∀ (R' : List Nat) (wa:World) (b0 b1:Nat),TxS w0 R' wa t d s n E→(wa.heap[b0]?=some (.cells #[.pointer (some ⟨t,0,none⟩)] 24))→(wa.heap[b1]?=some (.cells #[.int .i64 ii] 3))→((b0∈R'∧b0≠t)∧(b1∈R'∧b1≠t))→Calls Tryz.prog 61 #[.pointer (some ⟨b1,0,none⟩),.pointer (some ⟨b0,0,none⟩)] wa fun e' w' => e'=.returned (.tuple #[.agg #[.int .i64 id,.int .i64 ca,.int .i64 ep,.int .u64 nn],.int .i64 e])∧TxS w0 R' w' t d s n E'∧KeptT R' t wa w') :
  Calls Tryz.prog 24 #[.pointer (some ⟨t,0,none⟩),.int .i64 ii] w fun e' w' => e'=.returned (.tuple #[.agg #[.int .i64 id', .int .i64 ca', .int .i64 ep', .int .u64 nn'],.int .i64 e])∧TxS w0 R w' t d s n E'∧KeptT R t w w' := by
 obtain ⟨a1,a2,a3,a4,a5,a6,a7⟩:=h.box (.cells #[.pointer (some ⟨t,0,none⟩)] 24);obtain ⟨x1,hx1⟩:∃ x1,w.alloc (.cells #[.pointer (some ⟨t,0,none⟩)] 24)=x1:=⟨_,rfl⟩
 rw [hx1] at a1 a2 a3 a5;obtain ⟨b1,b2,b3,b4,b5,b6,b7⟩:=a1.box (.cells #[.int .i64 ii] 3);obtain ⟨x2,hx2⟩:∃ x2,x1.alloc (.cells #[.int .i64 ii] 3)=x2:=⟨_,rfl⟩
 rw [hx2] at b1 b2 b3 b5;rw [a5] at b1 b3 b4 b5 b6 b7;obtain ⟨c1,c2,c3,c4,c5,c6,c7⟩:=b1.box (.cells #[.int .i64 0,.int .i64 0,.int .i64 0,.int .u64 0] 37);obtain ⟨x3,hx3⟩:∃ x3,x2.alloc (.cells #[.int .i64 0,.int .i64 0,.int .i64 0,.int .u64 0] 37)=x3:=⟨_,rfl⟩
 rw [hx3] at c1 c2 c3 c5;rw [b5] at c1 c3 c4 c5 c6 c7;have hkw:KeptT R t w x3:=a2.trans ((b2.sub (fun k hk=>by simp [hk])).trans (c2.sub (fun k hk=>by simp [hk])))
 have VC:=Hd (uV (hk:=fun w=>by kernel_rfl) (n:=n) (E' := E') (caps:=#[.pointer (some ⟨w.heap.size + 1,0,none⟩),.pointer (some ⟨w.heap.size,0,none⟩)]) c1 he (fun R' wa hs hT hK=>HC R' wa (w.heap.size) (w.heap.size + 1) hT ((hK (w.heap.size) (by simp) a4).trans ((c2 (w.heap.size) (by simp) a4).trans ((b2 (w.heap.size) (by simp) a4).trans (a3)))) ((hK (w.heap.size + 1) (by simp) b4).trans ((c2 (w.heap.size + 1) (by simp) b4).trans (b3))) ⟨⟨hs (w.heap.size) (by simp),a4⟩,⟨hs (w.heap.size + 1) (by simp),b4⟩⟩))
 have KP:=Hd (And.intro hkw (And.intro c3 (And.intro c4 (And.intro c6 (show ∀ k∈R,k≠w.heap.size + 1 + 1 from fun k hk=>c7 k (by simp [hk]))))));have bx:=(aM ((c2 (w.heap.size) (by simp) a4).trans ((b2 (w.heap.size) (by simp) a4).trans (a3)))).1;have X1:=Hd (And.intro hx1 (And.intro hx2 hx3));clear h he HC hkw a1 a2 a3 a4 a5 a6 a7 b1 b2 b3 b4 b5 b6 b7 c1 c2 c3 c4 c5 c6 c7 hx1 hx2 hx3;go_enter Tryz.func24,Tryz.ntmps24;go_upto_region 1 with fail
 try simp only [World.heap_size_alloc]
 rw [X1.out.1,X1.out.2.1,X1.out.2.2];go_wp2_with fail;refine VC.out.mono ?_;rintro e' w2 ⟨rfl,h1,h2⟩;have r4:=(h2 (w.heap.size + 1 + 1) (by simp) KP.out.2.2.1).trans KP.out.2.1;obtain ⟨⟨y0,y1,y2,y3⟩,u0,u1,u2,u3⟩:=aG r4;obtain ⟨n1,n2⟩:=set4 r4 (.int .i64 id') (.int .i64 ca') (.int .i64 ep') (.int .u64 nn')
 have FIN:Hid ((st4 w2 (w.heap.size + 1 + 1) (.int .i64 id') (.int .i64 ca') (.int .i64 ep') (.int .u64 nn')).heap[w.heap.size + 1 + 1]?=some (.cells #[.int .i64 id', .int .i64 ca', .int .i64 ep', .int .u64 nn'] 37)∧TxS w0 R (st4 w2 (w.heap.size + 1 + 1) (.int .i64 id') (.int .i64 ca') (.int .i64 ep') (.int .u64 nn')) t d s n E'∧KeptT R t w (st4 w2 (w.heap.size + 1 + 1) (.int .i64 id') (.int .i64 ca') (.int .i64 ep') (.int .u64 nn'))):=Hd (by
  refine ⟨n1,(h1.turn (k:=w.heap.size + 1 + 1) (by simp) KP.out.2.2.1 KP.out.2.2.2.1 n2).sub (fun k hk=>by simp [hk]),fun k hk hn=>?_⟩;exact (n2.block k (h1.lt.1 k (by simp [hk])) (KP.out.2.2.2.2 k hk)).trans ((h2 k (by simp [hk]) hn).trans (KP.out.1 k hk hn)))
 clear h1 h2 VC r4 n1 n2 bx;unfold st4 at FIN;go_wp2_with fail;exact bodyPost_ret (v:=.tuple #[.agg #[.int .i64 id', .int .i64 ca', .int .i64 ep', .int .u64 nn'],.int .i64 e]) (aQ (fn:=Tryz.f24) rfl _ _ (w.heap.size + 1 + 1) 37 _ (0,0) _ _ rfl rfl FIN.out.1 Tryz.underlying37 rfl dV) rfl ⟨rfl,FIN.out.2⟩
theorem yZ {w0 w:World} {R:List Nat} {t d s:Nat} {E Ys:List Ent} {ca nc:Int} {q:Nat} {ep n0:Int} (h:TxS w0 R w t d s 640 E) (hs:SlE E Ys) (hca:1≤ca∧ca≤16777215) (hnc:0≤nc∧nc≤18446744073709551615) (hbu:∀ e∈Ys,pC nc e=false) {i:Nat} (hi:i < 200) (hlo:∀ j,j < i→dX Ys j=false) (hop:dX Ys i=true) (hsl:fA Ys i=((q:Int),0,ep,n0)) (hq:q=i + 1) (hep:1≤ep∧ep≤15) :
  Calls Tryz.prog 22 #[.pointer (some ⟨t,0,none⟩),.int .i64 ca,.int .u64 nc] w fun e w' => e=.returned (.tuple #[.agg #[.int .i64 (q:Int),.int .i64 ca,.int .i64 ep,.int .u64 nc],.int .i64 0])∧TxS w0 R w' t d s 640 (bT (iJ 4 0 q) (dJ ca ep nc) E)∧KeptT R t w w' :=
 TI h (.inl ⟨rfl,rfl,rfl,rfl,rfl⟩) fun R' wa b0 b1 b2 hT g0 g1 g2 gm=>SW hT g1 g0 g2 ⟨gm.2.1,gm.1,gm.2.2⟩ hs hca hnc hbu hi hlo hop hsl hq hep
theorem aE5 {w0 w:World} {R:List Nat} {t d s bi bt n:Nat} {E:List Ent} {ii:Int} (h:TxS w0 R w t d s n E) (hc:w.heap[bi]?=some (.cells #[.int .i64 ii] 3)) (hm:bi∈R∧bi≠t) (hi:ii < 1∨200 < ii) :
  Calls Tryz.prog 61 #[.pointer (some ⟨bi,0,none⟩),.pointer (some ⟨bt,0,none⟩)] w fun e w' => e=.returned (.tuple #[.agg #[.int .i64 0,.int .i64 0,.int .i64 0,.int .u64 0],.int .i64 3])∧TxS w0 R w' t d s n E∧KeptT R t w w' := by
 obtain ⟨a1,a2,a3,a4,a5,a6,a7⟩:=h.box (.cells #[.int .i64 0,.int .i64 0,.int .i64 0,.int .u64 0] 37);obtain ⟨r3,hr3⟩:∃ r3,w.heap.size=r3:=⟨_,rfl⟩
 obtain ⟨x1,hx1⟩:∃ x1,w.alloc (.cells #[.int .i64 0,.int .i64 0,.int .i64 0,.int .u64 0] 37)=x1:=⟨_,rfl⟩
 rw [hx1] at a1 a2 a3 a5;rw [hr3] at a1 a3 a4 a5 a6 a7;have X1:=Hd hx1;have HR4:=Hd (And.intro a6 a7);have A3:=Hd (And.intro a3 a4);have A2:=Hd (And.intro a2 a1);have d0:=(aM ((a2 bi hm.1 hm.2).trans hc)).1;clear h hc hm a1 a2 a3 a4 a5 a6 a7 hx1
 rcases hi with hi | hi
 ·have e1:ii < 1:=hi
  clear hi;go_enter Tryz.func61,Tryz.ntmps61;go_upto_region 1 with fail
  rw [X1.out];clear hr3;go_upto_region 2 with fail
  obtain ⟨⟨y0,y1,y2,y3⟩,u0,u1,u2,u3⟩:=aG A3.out.1;obtain ⟨n1,n2⟩:=set4 A3.out.1 (.int .i64 0) (.int .i64 0) (.int .i64 0) (.int .u64 0)
  have FIN:Hid ((st4 x1 r3 (.int .i64 0) (.int .i64 0) (.int .i64 0) (.int .u64 0)).heap[r3]?=some (.cells #[.int .i64 0,.int .i64 0,.int .i64 0,.int .u64 0] 37)∧TxS w0 R (st4 x1 r3 (.int .i64 0) (.int .i64 0) (.int .i64 0) (.int .u64 0)) t d s n E∧KeptT R t w (st4 x1 r3 (.int .i64 0) (.int .i64 0) (.int .i64 0) (.int .u64 0))):=Hd (by
   refine ⟨n1,((A2.out.2).turn (k:=r3) (by simp) A3.out.2 HR4.out.1 n2).sub (fun k hk=>by simp [hk]),fun k hk hn=>?_⟩;exact (n2.block k ((A2.out.2).lt.1 k (by simp [hk])) (HR4.out.2 k hk)).trans (A2.out.1 k hk hn))
  unfold st4 at FIN;clear n1 n2;go_wp2_with fail;exact bodyPost_ret (v:=.tuple #[.agg #[.int .i64 0,.int .i64 0,.int .i64 0,.int .u64 0],.int .i64 3]) (aQ (fn:=Tryz.f61) rfl _ _ r3 37 _ (0,0) _ _ rfl rfl FIN.out.1 Tryz.underlying37 rfl dV) rfl ⟨rfl,FIN.out.2⟩
 ·have e1:¬ ii < 1:=by omega
  have e2:(200:Int) < ii:=hi;clear hi;go_enter Tryz.func61,Tryz.ntmps61;go_upto_region 1 with fail
  rw [X1.out];clear hr3;go_upto_region 2 with fail
  obtain ⟨⟨y0,y1,y2,y3⟩,u0,u1,u2,u3⟩:=aG A3.out.1;obtain ⟨n1,n2⟩:=set4 A3.out.1 (.int .i64 0) (.int .i64 0) (.int .i64 0) (.int .u64 0)
  have FIN:Hid ((st4 x1 r3 (.int .i64 0) (.int .i64 0) (.int .i64 0) (.int .u64 0)).heap[r3]?=some (.cells #[.int .i64 0,.int .i64 0,.int .i64 0,.int .u64 0] 37)∧TxS w0 R (st4 x1 r3 (.int .i64 0) (.int .i64 0) (.int .i64 0) (.int .u64 0)) t d s n E∧KeptT R t w (st4 x1 r3 (.int .i64 0) (.int .i64 0) (.int .i64 0) (.int .u64 0))):=Hd (by
   refine ⟨n1,((A2.out.2).turn (k:=r3) (by simp) A3.out.2 HR4.out.1 n2).sub (fun k hk=>by simp [hk]),fun k hk hn=>?_⟩;exact (n2.block k ((A2.out.2).lt.1 k (by simp [hk])) (HR4.out.2 k hk)).trans (A2.out.1 k hk hn))
  unfold st4 at FIN;clear n1 n2;go_wp2_with fail;exact bodyPost_ret (v:=.tuple #[.agg #[.int .i64 0,.int .i64 0,.int .i64 0,.int .u64 0],.int .i64 3]) (aQ (fn:=Tryz.f61) rfl _ _ r3 37 _ (0,0) _ _ rfl rfl FIN.out.1 Tryz.underlying37 rfl dV) rfl ⟨rfl,FIN.out.2⟩
theorem YF {w0 w:World} {R:List Nat} {t d s bi bt n:Nat} {E:List Ent} {ii:Int} {q:Int} (h:TxS w0 R w t d s n E) (hc:w.heap[bi]?=some (.cells #[.int .i64 ii] 3)) (hb:w.heap[bt]?=some (.cells #[.pointer (some ⟨t,0,none⟩)] 24)) (hm:(bi∈R∧bi≠t)∧(bt∈R∧bt≠t)) (hE:E.length≤600) (hi:1≤ii∧ii≤200) (hq:iJ 4 0 ii=q) (hqr:0≤q∧q≤18446744073709551615) {S:ByteArray} {ca ep nn:Int} (hg:iK q E=true) (hv:gX q E=S) (hok:mW ii S=true) (h3:tsC S=ca) (h4:tsE S=ep) (h5:tsN S=nn) :
  Calls Tryz.prog 61 #[.pointer (some ⟨bi,0,none⟩),.pointer (some ⟨bt,0,none⟩)] w fun e w' => e=.returned (.tuple #[.agg #[.int .i64 ii,.int .i64 ca,.int .i64 ep,.int .u64 nn],.int .i64 0])∧TxS w0 R w' t d s n E∧KeptT R t w w' := by
 obtain ⟨a1,a2,a3,a4,a5,a6,a7⟩:=h.box (.cells #[.int .i64 0,.int .i64 0,.int .i64 0,.int .u64 0] 37);obtain ⟨r3,hr3⟩:∃ r3,w.heap.size=r3:=⟨_,rfl⟩
 obtain ⟨x1,hx1⟩:∃ x1,w.alloc (.cells #[.int .i64 0,.int .i64 0,.int .i64 0,.int .u64 0] 37)=x1:=⟨_,rfl⟩
 rw [hx1] at a1 a2 a3 a5;rw [hr3] at a1 a3 a4 a5 a6 a7;have X1:=Hd hx1;have HR4:=Hd (And.intro a6 a7);have A3:=Hd (And.intro a3 a4);have A2:=Hd (And.intro a2 a1);have d0:=(aM ((a2 bi hm.1.1 hm.1.2).trans hc)).1;have HX:=Hd hm;have HS0:=Hd (show (fun w' : World=>w'.heap[bi]?=some (.cells #[.int .i64 ii] 3)∧w'.heap[bt]?=some (.cells #[.pointer (some ⟨t,0,none⟩)] 24)) x1.drew from ⟨(a2 bi hm.1.1 hm.1.2).trans hc,(a2 bt hm.2.1 hm.2.2).trans hb⟩);have HQ:=Hd hq;have e1:¬ ii < 1:=by omega
 have e2:¬ (200:Int) < ii:=by omega
 have GE:=Hd (CH (key:=q) (a1.below Br.drew) hE hqr S true hv hg);have TA:=Hd (fun w=>by have:=wH ii S w; unfold tsV okE at this; rw [hok,if_pos rfl,if_pos rfl,h3,h4,h5] at this; exact this);clear hg hv hok h3 h4 h5;clear h hc hb hm hE hi hq hqr a1 a2 a3 a4 a5 a6 a7 hx1;go_enter Tryz.func61,Tryz.ntmps61;go_upto_region 1 with fail
 rw [X1.out];clear hr3;go_upto_region 3 with fail
 clear d0;refine wp_region_held_drew (S:=fun w' => w'.heap[bi]?=some (.cells #[.int .i64 ii] 3)∧w'.heap[bt]?=some (.cells #[.pointer (some ⟨t,0,none⟩)] 24)) (by kernel_rfl) HS0.out (fun hS=>?_);refine Hv 0 14 ?vb0x1 hS ?hb0x1 ?_
 case hb0x1 =>
  intro w9 s9;have k9:=(aM s9.2).1;clear s9;go_simp;try (with_reducible rfl)
 simp only [SL];refine Hv 1 15 ?vb1x2 hS ?hb1x2 ?_
 case hb1x2 =>
  intro w9 s9;have k9:=(aM s9.1).1;clear s9;go_simp;try (with_reducible rfl)
 simp only [SL];refine Hs 2 (fun K HK=>?_);go_simp;go_wp2_with fail;refine (KD ii q _ HQ.out).mono ?_;rintro e w6 ⟨rfl,rfl⟩;refine HK.out _ _ ?_ ?_
 ·exact hS
 clear HK K;try simp only [Act.put,SL]
 refine Hs 3 (fun K HK=>?_);go_simp;go_wp2_with fail;refine GE.out.mono ?_;rintro e w7 ⟨rfl,h1,h2⟩;refine HK.out _ _ ?_ ?_
 ·exact ⟨(h2 bi (by simp [HX.out.1.1]) HX.out.1.2).trans hS.1,(h2 bt (by simp [HX.out.2.1]) HX.out.2.2).trans hS.2⟩
 clear HK K;try simp only [Act.put,SL]
 have hS9:=(show (_∧_) from ⟨(h2 bi (by simp [HX.out.1.1]) HX.out.1.2).trans hS.1,(h2 bt (by simp [HX.out.2.1]) HX.out.2.2).trans hS.2⟩)
 clear hS;have hS:=hS9;clear hS9;have F7:=Hd (And.intro h1 (show KeptT (r3 :: R) t x1 w7 from h2));clear h1 h2 GE;refine Hu 4 13 hS ?_;simp only [SL];refine Hu 5 18 hS ?_;simp only [SL];refine Hu 6 19 hS ?_;simp only [SL];refine Hu 7 4 hS ?_;simp only [SL];refine Hu 8 5 hS ?_;simp only [SL];refine wpAnyH_done (by kernel_rfl) ?_ _;have c7:=(aM hS.1).1;clear hS;have r7:=(F7.out.2 r3 (by simp) A3.out.2).trans A3.out.1;go_wp2_with fail;refine (TA.out _).mono ?_;rintro e w8 ⟨rfl,b8⟩;have r8:=bG r7 b8;have F8:=Hd (And.intro (F7.out.1.below b8) (F7.out.2.trans (F7.out.1.kept b8)))
 clear r7 b8 c7;obtain ⟨⟨y0,y1,y2,y3⟩,u0,u1,u2,u3⟩:=aG r8;obtain ⟨n1,n2⟩:=set4 r8 (.int .i64 ii) (.int .i64 ca) (.int .i64 ep) (.int .u64 nn)
 have FIN:Hid ((st4 w8 r3 (.int .i64 ii) (.int .i64 ca) (.int .i64 ep) (.int .u64 nn)).heap[r3]?=some (.cells #[.int .i64 ii,.int .i64 ca,.int .i64 ep,.int .u64 nn] 37)∧TxS w0 R (st4 w8 r3 (.int .i64 ii) (.int .i64 ca) (.int .i64 ep) (.int .u64 nn)) t d s n E∧KeptT R t w (st4 w8 r3 (.int .i64 ii) (.int .i64 ca) (.int .i64 ep) (.int .u64 nn))):=Hd (by
  refine ⟨n1,((F8.out.1).turn (k:=r3) (by simp) A3.out.2 HR4.out.1 n2).sub (fun k hk=>by simp [hk]),fun k hk hn=>?_⟩;exact (n2.block k ((F8.out.1).lt.1 k (by simp [hk])) (HR4.out.2 k hk)).trans ((fun k hk hn=>(F8.out.2 k (by simp [hk]) hn).trans (A2.out.1 k hk hn)) k hk hn))
 unfold st4 at FIN;clear n1 n2;go_wp2_with fail;exact bodyPost_ret (v:=.tuple #[.agg #[.int .i64 ii,.int .i64 ca,.int .i64 ep,.int .u64 nn],.int .i64 0]) (aQ (fn:=Tryz.f61) rfl _ _ r3 37 _ (0,0) _ _ rfl rfl FIN.out.1 Tryz.underlying37 rfl dV) rfl ⟨rfl,FIN.out.2⟩
theorem UD {w0 w:World} {R:List Nat} {t d s n:Nat} {E:List Ent} {ii q:Int} {S:ByteArray} {ca ep nn:Int} (h:TxS w0 R w t d s n E) (hE:E.length≤600) (hi:1≤ii∧ii≤200) (hq:iJ 4 0 ii=q) (hqr:0≤q∧q≤18446744073709551615) (hg:iK q E=true) (hv:gX q E=S) (hok:mW ii S=true) (h3:tsC S=ca) (h4:tsE S=ep) (h5:tsN S=nn) :
  Calls Tryz.prog 24 #[.pointer (some ⟨t,0,none⟩),.int .i64 ii] w fun e w' => e=.returned (.tuple #[.agg #[.int .i64 ii,.int .i64 ca,.int .i64 ep,.int .u64 nn],.int .i64 0])∧TxS w0 R w' t d s n E∧KeptT R t w w' :=
 aCP h (.inl ⟨rfl,rfl,rfl,rfl,rfl⟩) fun R' wa b0 b1 hT g0 g1 gm=>YF hT g1 g0 ⟨gm.2,gm.1⟩ hE hi hq hqr hg hv hok h3 h4 h5
theorem BK {ty:TypeId} {d:TypeDesc} (hd:(match d with | .struct _ | .array _ _=>true | _=>false)=false) (hu:Tryz.prog.underlying ty=some d) {w:World} {g:Nat} {v:Value} (h:w.cell? ⟨g,0,none⟩=some v) :
  ((asAddr (.pointer (some ⟨g,0,none⟩))).run Tryz.prog w).andThen (fun a w₁=>(loadVar ty a).run Tryz.prog w₁)=.ok v w:=by
 have hagg:(isAgg ty).run Tryz.prog w=.ok false w:=by
  unfold isAgg;rw [Sem.run_bind,run_underlying hu w]
  cases d <;> first | rfl | (simp at hd)
 simp [asAddr,loadVar,Sem.run_bind,hagg,Result.andThen,h]
section
attribute [local go_sem] Oper.semAt_some
end

theorem aDT {id c e n:Int} (h:cY id c e=true) (n0:0≤n) (n1:n≤18446744073709551615):(cE c 3=true∧0≤c)∧(cE e 1=true∧0≤e)∧(cE n 8=true∧0≤n):=by
 have:=pH h;obtain ⟨c', rfl⟩:=Int.eq_ofNat_of_zero_le (show 0≤c by omega);obtain ⟨e', rfl⟩:=Int.eq_ofNat_of_zero_le (show 0≤e by omega);obtain ⟨n', rfl⟩:=Int.eq_ofNat_of_zero_le n0;refine ⟨⟨(bM c' 3).2 ⟨by decide,by decide,?_⟩,by omega⟩,⟨(bM e' 1).2 ⟨by decide,by decide,?_⟩,by omega⟩,⟨(bM n' 8).2 ⟨by decide,by decide,?_⟩,by omega⟩⟩
 ·show c' < 16777216; omega
 ·show e' < 256; omega
 ·show n' < 18446744073709551616; omega
theorem xP {id c e n:Int} (h:cY id c e=true) (n0:0≤n) (n1:n≤18446744073709551615):tsC (dJ c e n)=c∧tsE (dJ c e n)=e∧tsN (dJ c e n)=n:=by
 obtain ⟨p0,p1,p2⟩:=aDT h n0 n1;have q0:=fun rest=>qW (n:=c) (k:=3) rest p0.2 p0.1
 have q1:=fun rest=>qW (n:=e) (k:=1) rest p1.2 p1.1
 have q2:=fun rest=>qW (n:=n) (k:=8) rest p2.2 p2.1
 have e:dJ c e n=Str (aL c 3) ++ (Str (aL e 1) ++ (Str (aL n 8) ++ ⟨#[]⟩)):=by
  unfold dJ; rw [pD,ByteArray.append_assoc]
 unfold tsC tsE tsN;rw [e,(q0 _).2,(q1 _).2];exact ⟨(q0 _).1,(q1 _).1,(q2 _).1⟩
theorem LR {id c e n:Int} (h:cY id c e=true) (n0:0≤n) (n1:n≤18446744073709551615):mW id (dJ c e n)=true:=by
 obtain ⟨e0,e1,e2⟩:=xP h n0 n1;unfold mW rY;rw [e0,e1,e2,h];simp
def slK (i:Nat):Int:=4611686018427387905 + (i:Int)
theorem wJ {i:Nat} (hi:i < 200):iJ 4 0 ((i + 1:Nat):Int)=slK i:=by
 have h:fZ 4 0 ((i + 1:Nat):Int)=true:=by
  unfold fZ;simp;omega
 unfold iJ slK;rw [if_pos h];omega
theorem sC {i:Nat} (hi:i < 200):spB (slK i)=(i:Int) + 1∧jY (slK i) 4 0=true:=by
 have h1:spK (slK i)=4:=by unfold spK slK; omega
 have h2:spA (slK i)=0:=by unfold spA slK; omega
 refine ⟨by unfold spB slK; omega,?_⟩;unfold jY;rw [h1,h2]
 rfl
def slV (x:Int × Int × Int):ByteArray:=dJ x.1 x.2.1 x.2.2
def slE:Nat→List (Int × Int × Int)→List Ent
 | _,[]=>[]
 | i,x :: L=>(slK i,slV x) :: slE (i + 1) L
theorem pJ:∀ (L:List (Int × Int × Int)) (i j:Nat),(slE i L)[j]?=L[j]?.map fun x=>(slK (i + j),slV x)
 | [],i,j=>by simp [slE]
 | x :: L,i,0=>by simp [slE]
 | x :: L,i,j + 1=>by
  rw [slE,List.getElem?_cons_succ,List.getElem?_cons_succ,pJ L (i + 1) j,show i + 1 + j=i + (j + 1) by omega]
theorem kJ:∀ (L:List (Int × Int × Int)) (i:Nat),(slE i L).length=L.length
 | [],i=>rfl
 | x :: L,i=>by rw [slE,List.length_cons,List.length_cons,kJ L (i + 1)]
theorem nX:∀ (L:List (Int × Int × Int)) (i:Nat),∀ e∈slE i L,slK i≤e.1
 | [],i,e,h=>by simp [slE] at h
 | x :: L,i,e,h=>by
  rw [slE,List.mem_cons] at h
  rcases h with rfl | h
  ·exact Int.le_refl _
  ·have:=nX L (i + 1) e h
   unfold slK at this ⊢;omega
theorem sD:∀ (L:List (Int × Int × Int)) (i:Nat),kY (slE i L)
 | [],i=>List.Pairwise.nil
 | x :: L,i=>by
  rw [slE];refine List.Pairwise.cons (fun e he=>?_) (sD L (i + 1));have:=nX L (i + 1) e he;unfold slK at this ⊢
  show 4611686018427387905 + (i:Int) < e.1
  omega
theorem tG {e:Ent} {k:Int} (h:e.1 < k) (v:ByteArray) (m:List Ent):bT k v (e :: m)=e :: bT k v m:=by
 unfold bT;have h2:¬ k < e.1:=by omega
 simp [List.filter_cons,h,h2]
theorem QB {k:Int} (u v:ByteArray) {m:List Ent} (h:∀ e∈m,k < e.1):bT k v ((k,u) :: m)=(k,v) :: m:=by
 unfold bT;have h1:m.filter (fun e=>decide (e.1 < k))=[]:=List.filter_eq_nil_iff.2 fun e he=>by have:=h e he; simp; omega
 have h2:m.filter (fun e=>decide (k < e.1))=m:=List.filter_eq_self.2 fun e he=>by simpa using h e he
 simp [List.filter_cons,h1,h2]
theorem BY:∀ (L:List (Int × Int × Int)) (i j:Nat) (x:Int × Int × Int),j < L.length→bT (slK (i + j)) (slV x) (slE i L)=slE i (L.set j x)
 | [],i,j,x,h=>by simp at h
 | y :: L,i,0,x,h=>by
  rw [slE,List.set_cons_zero,slE]
  exact QB _ _ fun e he=>by
   have:=nX L (i + 1) e he;unfold slK at this ⊢;omega
 | y :: L,i,j + 1,x,h=>by
  rw [slE,List.set_cons_succ,slE,tG (by show slK i < slK (i + (j + 1)); unfold slK; omega),show i + (j + 1)=i + 1 + j by omega,BY L (i + 1) j x (by simpa using h)]
theorem vK:∀ (L:List (Int × Int × Int)) (i:Nat) (x:Int × Int × Int),bT (slK (i + L.length)) (slV x) (slE i L)=slE i (L ++ [x])
 | [],i,x=>by simp [slE,bT]
 | y :: L,i,x=>by
  rw [slE,List.cons_append,slE,tG (by show slK i < slK (i + (L.length + 1)); unfold slK; omega),List.length_cons,show i + (L.length + 1)=i + 1 + L.length by omega,vK L (i + 1) x]
def SlL (L:List (Int × Int × Int)):Prop:=L.length≤200∧∀ (j:Nat) (x:Int × Int × Int),L[j]?=some x→cY ((j:Int) + 1) x.1 x.2.1=true∧0≤x.2.2∧x.2.2≤18446744073709551615
theorem pI {L:List (Int × Int × Int)} (h:L.length≤200) {e:Ent} (he:e∈slE 0 L):∃ j,∃ x,j < 200∧L[j]?=some x∧e=(slK j,slV x):=by
 obtain ⟨j,hj⟩:=List.mem_iff_getElem?.1 he;rw [pJ] at hj
 cases hx:L[j]? with
 | none=>rw [hx] at hj; cases hj
 | some x =>
  rw [hx] at hj;have hl:=(List.getElem?_eq_some_iff.1 hx).1;injection hj with hj;exact ⟨j,x,by omega,hx,by rw [← hj,Nat.zero_add]⟩
theorem mO {α:Type} (p:α→Bool):∀ (l:List α),(∀ x∈l,p x=true)→l.takeWhile p=l
 | [],_=>rfl
 | a :: l,h=>by rw [List.takeWhile_cons,if_pos (h a (by simp)),mO p l fun x hx=>h x (by simp [hx])]
theorem EP {L:List (Int × Int × Int)} (h:L.length≤200):gB (slE 0 L)=slE 0 L:=by
 unfold gB
 rw [uX fun e he=>by
  have:=nX L 0 e he;unfold slK at this;omega]
 refine mO _ _ fun e he=>?_
 obtain ⟨j,x,hj,_,rfl⟩:=pI h he;exact (sC hj).2
theorem aCL {L:List (Int × Int × Int)} (h:SlL L):SlE (slE 0 L) (slE 0 L):=by
 obtain ⟨h1,h2⟩:=h;refine ⟨sD L 0,fun e he=>?_,EP h1,fun e he=>?_,fun i e he=>?_,by rw [kJ]; exact h1,by rw [kJ]; omega⟩
 ·obtain ⟨j,x,hj,_,rfl⟩:=pI h1 he
  show 0≤slK j∧slK j≤_
  unfold slK;omega
 ·obtain ⟨j,x,hj,hx,rfl⟩:=pI h1 he
  obtain ⟨g1,g2,g3⟩:=h2 j x hx
  show mW (spB (slK j)) (slV x)=true
  rw [(sC hj).1];exact LR g1 g2 g3
 ·rw [pJ] at he
  cases hx:L[i]? with
  | none=>rw [hx] at he; cases he
  | some x =>
   rw [hx] at he;have hl:=(List.getElem?_eq_some_iff.1 hx).1;injection he with he;rw [← he,Nat.zero_add];exact (sC (by omega)).1
theorem rZ {L:List (Int × Int × Int)} (h:SlL L) {i:Nat} {x:Int × Int × Int} (hx:L[i]?=some x):fA (slE 0 L) i=((i:Int) + 1,x.1,x.2.1,x.2.2):=by
 obtain ⟨g1,g2,g3⟩:=h.2 i x hx;obtain ⟨e1,e2,e3⟩:=xP g1 g2 g3;have hl:=(List.getElem?_eq_some_iff.1 hx).1;unfold fA;rw [pJ,hx]
 show fld (slK (0 + i),slV x)=_
 unfold fld
 show (spB (slK (0 + i)),tsC (dJ x.1 x.2.1 x.2.2),tsE (dJ x.1 x.2.1 x.2.2),tsN (dJ x.1 x.2.1 x.2.2))=_
 rw [Nat.zero_add,(sC (by have:=h.1; omega)).1,e1,e2,e3]
theorem sB {L:List (Int × Int × Int)} {i:Nat} (hi:L.length≤i):fA (slE 0 L) i=(((i + 1:Nat):Int),0,1,0):=by
 unfold fA;rw [pJ,List.getElem?_eq_none_iff.2 hi]
 rfl
theorem DF {L:List (Int × Int × Int)} (h:SlL L) (nc:Int) (hb:∀ x∈L,iV x.1 x.2.2 nc=false):∀ e∈slE 0 L,pC nc e=false:=fun e he=>by
 obtain ⟨j,x,hj,hx,rfl⟩:=pI h.1 he;obtain ⟨g1,g2,g3⟩:=h.2 j x hx;obtain ⟨e1,e2,e3⟩:=xP g1 g2 g3
 show iV (tsC (dJ x.1 x.2.1 x.2.2)) (tsN (dJ x.1 x.2.1 x.2.2)) nc=false
 rw [e1,e3];exact hb x (List.mem_of_getElem? hx)
theorem SlL.snoc {L:List (Int × Int × Int)} (h:SlL L) {x:Int × Int × Int} (hl:L.length < 200) (hx:cY ((L.length:Int) + 1) x.1 x.2.1=true∧0≤x.2.2∧x.2.2≤18446744073709551615):SlL (L ++ [x]):=by
 refine ⟨by simp; omega,fun i y hy=>?_⟩
 by_cases hi:i < L.length
 ·rw [List.getElem?_append_left hi] at hy
  exact h.2 i y hy
 ·have hi2:i=L.length:=by
   have:=(List.getElem?_eq_some_iff.1 hy).1;simp at this;omega
  subst hi2;have hy2:x=y:=by simpa using hy
  rw [← hy2]; exact hx

theorem nD {L:List (Int × Int × Int)} (h:SlL L) {i:Nat} {x:Int × Int × Int} (hx:L[i]?=some x):dX (slE 0 L) i=iR x.1 x.2.1:=by
 unfold dX;rw [rZ h hx]
theorem GI {L:List (Int × Int × Int)} {i:Nat} (hi:L.length≤i):dX (slE 0 L) i=true:=by
 unfold dX;rw [sB hi]
 rfl
structure MtE (M:List Ent):Prop where
 s:kY M
 k:∀ e∈M,5764607523034234880≤e.1∧e.1≤18446744073709551615
 n:M.length≤50
theorem WI {k:Int} {v:ByteArray} {A M:List Ent} (h:∀ e∈M,k < e.1):bT k v (A ++ M)=bT k v A ++ M:=by
 unfold bT;have h1:M.filter (fun e=>decide (e.1 < k))=[]:=List.filter_eq_nil_iff.2 fun e he=>by have:=h e he; simp; omega
 have h2:M.filter (fun e=>decide (k < e.1))=M:=List.filter_eq_self.2 fun e he=>by simpa using h e he
 rw [List.filter_append,List.filter_append,h1,h2,List.append_nil];simp
theorem pU {k:Int} {v:ByteArray} {A M:List Ent} (h:∀ e∈A,e.1 < k):bT k v (A ++ M)=A ++ bT k v M:=by
 unfold bT;have h1:A.filter (fun e=>decide (k < e.1))=[]:=List.filter_eq_nil_iff.2 fun e he=>by have:=h e he; simp; omega
 have h2:A.filter (fun e=>decide (e.1 < k))=A:=List.filter_eq_self.2 fun e he=>by simpa using h e he
 rw [List.filter_append,List.filter_append,h1,h2];simp
theorem pW {k:Int} {A M:List Ent} (h:∀ e∈A,e.1 < k):mK k (A ++ M)=mK k M:=by
 unfold mK;rw [List.find?_append,List.find?_eq_none.2 (fun e he=>by have:=h e he; simp; omega)]
 rfl
theorem zE {L:List (Int × Int × Int)} (h:L.length≤200):∀ e∈slE 0 L,e.1≤4611686018427388104:=fun e he=>by
 obtain ⟨j,x,hj,_,rfl⟩:=pI h he
 show slK j≤_
 unfold slK;omega
theorem zD {L:List (Int × Int × Int)} {M:List Ent} (h:SlL L) (hM:MtE M):kY (slE 0 L ++ M) :=
 List.pairwise_append.2 ⟨sD L 0,hM.s,fun a ha b hb=>by
  have:=zE h.1 a ha;have:=(hM.k b hb).1;omega⟩
theorem mN {α:Type} (p:α→Bool):∀ (l m:List α),(∀ x∈l,p x=true)→(∀ x∈m,p x=false)→(l ++ m).takeWhile p=l
 | [],[],_,_=>rfl
 | [],b :: m,_,h=>by rw [List.nil_append,List.takeWhile_cons,if_neg (by rw [h b (by simp)]; decide)]
 | a :: l,m,h,g=>by rw [List.cons_append,List.takeWhile_cons,if_pos (h a (by simp)),mN p l m (fun x hx=>h x (by simp [hx])) g]
theorem TN {L:List (Int × Int × Int)} {M:List Ent} (h:L.length≤200) (hM:MtE M):gB (slE 0 L ++ M)=slE 0 L:=by
 unfold gB
 rw [uX fun e he=>by
  rcases List.mem_append.1 he with he | he
  ·have:=nX L 0 e he
   unfold slK at this;omega
  ·have:=(hM.k e he).1
   omega]
 refine mN _ _ _ (fun e he=>?_) (fun e he=>?_)
 ·obtain ⟨j,x,hj,_,rfl⟩:=pI h he
  exact (sC hj).2
 ·have h1:=(hM.k e he).1
  unfold jY spK;have:(e.1 / 1152921504606846976 == 4)=false:=by simp; omega
  rw [this,Bool.false_and]
theorem TQ {L:List (Int × Int × Int)} {M:List Ent} (h:SlL L) (hM:MtE M):SlE (slE 0 L ++ M) (slE 0 L):=by
 have q:=aCL h;refine ⟨zD h hM,fun e he=>?_,TN h.1 hM,q.ok,q.id,q.m,by rw [List.length_append,kJ]; have:=h.1; have:=hM.n; omega⟩
 rcases List.mem_append.1 he with he | he
 ·exact q.k e he
 ·have:=hM.k e he
  omega
theorem KC {L:List (Int × Int × Int)} {M:List Ent} (hM:MtE M) {i:Nat} (hi:i < 200) (v:ByteArray):bT (slK i) v (slE 0 L ++ M)=bT (slK i) v (slE 0 L) ++ M:=WI fun e he=>by
 have:=(hM.k e he).1;unfold slK;omega
theorem PE {w0 w:World} {R:List Nat} {t d s:Nat} {L:List (Int × Int × Int)} {M:List Ent} {ca nc:Int} (h:TxS w0 R w t d s 640 (slE 0 L ++ M)) (hL:SlL L) (hM:MtE M) (hca:1≤ca∧ca≤16777215) (hnc:0≤nc∧nc≤18446744073709551615) (hbu:∀ x∈L,iV x.1 x.2.2 nc=false)
  (hl:L.length < 200) (hlo:∀ y∈L,iR y.1 y.2.1=false) :
  Calls Tryz.prog 22 #[.pointer (some ⟨t,0,none⟩),.int .i64 ca,.int .u64 nc] w fun e w' => e=.returned (.tuple #[.agg #[.int .i64 ((L.length + 1:Nat):Int),.int .i64 ca,.int .i64 1,.int .u64 nc],.int .i64 0])∧TxS w0 R w' t d s 640 (slE 0 (L ++ [(ca,1,nc)]) ++ M)∧KeptT R t w w'∧SlL (L ++ [(ca,1,nc)]):=by
 have hset:SlL (L ++ [(ca,1,nc)]):=hL.snoc hl ⟨by
  unfold cY;simp only [Bool.and_eq_true,oS];exact ⟨⟨⟨by omega,by omega⟩,by decide⟩,by simp⟩,hnc.1,hnc.2⟩
 have e:=vK L 0 (ca,1,nc);rw [Nat.zero_add] at e;refine (yZ h (TQ hL hM) hca hnc (DF hL nc hbu) (i:=L.length) hl (fun j hj=>?_) (GI (Nat.le_refl _)) (sB (Nat.le_refl _)) rfl ⟨by decide,by decide⟩).mono ?_
 ·obtain ⟨y,hy⟩:∃ y,L[j]?=some y:=⟨_,List.getElem?_eq_getElem hj⟩
  rw [nD hL hy];exact hlo y (List.mem_of_getElem? hy)
 ·rintro e' w' ⟨rfl,h1,h2⟩
  rw [wJ hl,show dJ ca 1 nc=slV (ca,1,nc) from rfl,KC hM hl,e] at h1;exact ⟨rfl,h1,h2,hset⟩
theorem aEG {w0 w:World} {R:List Nat} {t d s:Nat} {L:List (Int × Int × Int)} {M:List Ent} (h:TxS w0 R w t d s 640 (slE 0 L ++ M)) (hL:SlL L) (hM:MtE M) {i:Nat} {x:Int × Int × Int} (hx:L[i]?=some x) :
  Calls Tryz.prog 24 #[.pointer (some ⟨t,0,none⟩),.int .i64 ((i + 1:Nat):Int)] w fun e w' => e=.returned (.tuple #[.agg #[.int .i64 ((i + 1:Nat):Int),.int .i64 x.1,.int .i64 x.2.1,.int .u64 x.2.2],.int .i64 0])∧TxS w0 R w' t d s 640 (slE 0 L ++ M)∧KeptT R t w w' := by
 have hi:=(List.getElem?_eq_some_iff.1 hx).1;have h200:=hL.1;have h50:=hM.n;obtain ⟨g1,g2,g3⟩:=hL.2 i x hx;obtain ⟨e1,e2,e3⟩:=xP g1 g2 g3;have hg:mK (slK i) (slE 0 L ++ M)=some (slV x):=(WZ (zD hL hM)).1 (List.mem_append_left _ (List.mem_of_getElem? (i:=i) (by rw [pJ,hx,Nat.zero_add]; rfl)));exact UD h (by rw [List.length_append,kJ]; omega) ⟨by omega,by omega⟩ (wJ (by omega)) (by unfold slK; omega) (by unfold iK; rw [hg]; rfl) (by unfold gX; rw [hg]; rfl) (LR g1 g2 g3) e1 e2 e3
open Go.RowKit

end Go.Proofs.YthcejfnngkmojaaGreatDoor
