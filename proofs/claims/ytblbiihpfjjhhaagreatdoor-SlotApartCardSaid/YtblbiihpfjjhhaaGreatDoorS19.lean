/-
 Sq, Sa, Sf, Sg, So, Sv, Su, Sud, SuL.
-/
import Derived.Test.YtblbiihpfjjhhaaGreatDoorS18
import Derived.Maps.OwnIn
import Derived.RegionIn
namespace Go.Proofs.YtblbiihpfjjhhaaGreatDoor
open Go Go.RowKit
set_option maxRecDepth 20000
set_option maxHeartbeats 12800000
set_option linter.unusedVariables false
set_option linter.unusedSimpArgs false
theorem uU {w0 w:World} {R:List Nat} {t d s n:Nat} {E E' : List Ent} {cap nc:Int} {id ca ep nn e id' ca' ep' nn' : Int} (h:TxS w0 R w t d s n E) (he:(e=0∧id'=id∧ca'=ca∧ep'=ep∧nn'=nn)∨(e≠0∧id'=0∧ca'=0∧ep'=0∧nn'=0))
  (HC:∀ (R' : List Nat) (wa:World) (b0 b1 b2:Nat),TxS w0 R' wa t d s n E→(wa.heap[b0]?=some (.cells #[.pointer (some ⟨t,0,none⟩)] 24))→(wa.heap[b1]?=some (.cells #[.int .i64 cap] 3))→(wa.heap[b2]?=some (.cells #[.int .u64 nc] 30))→((b0∈R'∧b0≠t)∧(b1∈R'∧b1≠t)∧(b2∈R'∧b2≠t))→Calls Tryz.prog 52 #[.pointer (some ⟨b1,0,none⟩),.pointer (some ⟨b0,0,none⟩),.pointer (some ⟨b2,0,none⟩)] wa fun e' w' => e'=.returned (.tuple #[.agg #[.int .i64 id,.int .i64 ca,.int .i64 ep,.int .u64 nn],.int .i64 e])∧TxS w0 R' w' t d s n E'∧KeptT R' t wa w') :
  Calls Tryz.prog 18 #[.pointer (some ⟨t,0,none⟩),.int .i64 cap,.int .u64 nc] w fun e' w' => e'=.returned (.tuple #[.agg #[.int .i64 id', .int .i64 ca', .int .i64 ep', .int .u64 nn'],.int .i64 e])∧TxS w0 R w' t d s n E'∧KeptT R t w w' := by
 obtain ⟨a1,a2,a3,a4,a5,a6,a7⟩:=h.box (.cells #[.pointer (some ⟨t,0,none⟩)] 24);obtain ⟨x1,hx1⟩:∃ x1,w.alloc (.cells #[.pointer (some ⟨t,0,none⟩)] 24)=x1:=⟨_,rfl⟩
 rw [hx1] at a1 a2 a3 a5;obtain ⟨b1,b2,b3,b4,b5,b6,b7⟩:=a1.box (.cells #[.int .i64 cap] 3);obtain ⟨x2,hx2⟩:∃ x2,x1.alloc (.cells #[.int .i64 cap] 3)=x2:=⟨_,rfl⟩
 rw [hx2] at b1 b2 b3 b5;rw [a5] at b1 b3 b4 b5 b6 b7;obtain ⟨c1,c2,c3,c4,c5,c6,c7⟩:=b1.box (.cells #[.int .u64 nc] 30);obtain ⟨x3,hx3⟩:∃ x3,x2.alloc (.cells #[.int .u64 nc] 30)=x3:=⟨_,rfl⟩
 rw [hx3] at c1 c2 c3 c5;rw [b5] at c1 c3 c4 c5 c6 c7;obtain ⟨d1,d2,d3,d4,d5,d6,d7⟩:=c1.box (.cells #[.int .i64 0,.int .i64 0,.int .i64 0,.int .u64 0] 32);obtain ⟨x4,hx4⟩:∃ x4,x3.alloc (.cells #[.int .i64 0,.int .i64 0,.int .i64 0,.int .u64 0] 32)=x4:=⟨_,rfl⟩
 rw [hx4] at d1 d2 d3 d5;rw [c5] at d1 d3 d4 d5 d6 d7;have hkw:KeptT R t w x4:=a2.trans ((b2.sub (fun k hk=>by simp [hk])).trans ((c2.sub (fun k hk=>by simp [hk])).trans (d2.sub (fun k hk=>by simp [hk]))))
 have VC:=Hd (rQ (hk:=fun w=>by kernel_rfl) (n:=n) (E' := E') (caps:=#[.pointer (some ⟨w.heap.size + 1,0,none⟩),.pointer (some ⟨w.heap.size,0,none⟩),.pointer (some ⟨w.heap.size + 1 + 1,0,none⟩)]) d1 he (fun R' wa hs hT hK=>HC R' wa (w.heap.size) (w.heap.size + 1) (w.heap.size + 1 + 1) hT ((hK (w.heap.size) (by simp) a4).trans ((d2 (w.heap.size) (by simp) a4).trans ((c2 (w.heap.size) (by simp) a4).trans ((b2 (w.heap.size) (by simp) a4).trans (a3))))) ((hK (w.heap.size + 1) (by simp) b4).trans ((d2 (w.heap.size + 1) (by simp) b4).trans ((c2 (w.heap.size + 1) (by simp) b4).trans (b3)))) ((hK (w.heap.size + 1 + 1) (by simp) c4).trans ((d2 (w.heap.size + 1 + 1) (by simp) c4).trans (c3))) ⟨⟨hs (w.heap.size) (by simp),a4⟩,⟨hs (w.heap.size + 1) (by simp),b4⟩,⟨hs (w.heap.size + 1 + 1) (by simp),c4⟩⟩))
 have KP:=Hd (And.intro hkw (And.intro d3 (And.intro d4 (And.intro d6 (show ∀ k∈R,k≠w.heap.size + 1 + 1 + 1 from fun k hk=>d7 k (by simp [hk]))))));have bx:=(aJ ((d2 (w.heap.size) (by simp) a4).trans ((c2 (w.heap.size) (by simp) a4).trans ((b2 (w.heap.size) (by simp) a4).trans (a3))))).1;have X1:=Hd (And.intro hx1 (And.intro hx2 (And.intro hx3 hx4)));clear h he HC hkw a1 a2 a3 a4 a5 a6 a7 b1 b2 b3 b4 b5 b6 b7 c1 c2 c3 c4 c5 c6 c7 d1 d2 d3 d4 d5 d6 d7 hx1 hx2 hx3 hx4;go_enter Tryz.func18,Tryz.ntmps18;go_upto_region 1 with fail
 try simp only [World.heap_size_alloc]
 rw [X1.out.1,X1.out.2.1,X1.out.2.2.1,X1.out.2.2.2];go_wp2_with fail;refine VC.out.mono ?_;rintro e' w2 ⟨rfl,h1,h2⟩;have r4:=(h2 (w.heap.size + 1 + 1 + 1) (by simp) KP.out.2.2.1).trans KP.out.2.1;obtain ⟨⟨y0,y1,y2,y3⟩,u0,u1,u2,u3⟩:=bV r4;obtain ⟨n1,n2⟩:=set4 r4 (.int .i64 id') (.int .i64 ca') (.int .i64 ep') (.int .u64 nn')
 have FIN:Hid ((st4 w2 (w.heap.size + 1 + 1 + 1) (.int .i64 id') (.int .i64 ca') (.int .i64 ep') (.int .u64 nn')).heap[w.heap.size + 1 + 1 + 1]?=some (.cells #[.int .i64 id', .int .i64 ca', .int .i64 ep', .int .u64 nn'] 32)∧TxS w0 R (st4 w2 (w.heap.size + 1 + 1 + 1) (.int .i64 id') (.int .i64 ca') (.int .i64 ep') (.int .u64 nn')) t d s n E'∧KeptT R t w (st4 w2 (w.heap.size + 1 + 1 + 1) (.int .i64 id') (.int .i64 ca') (.int .i64 ep') (.int .u64 nn'))):=Hd (by
  refine ⟨n1,(h1.turn (k:=w.heap.size + 1 + 1 + 1) (by simp) KP.out.2.2.1 KP.out.2.2.2.1 n2).sub (fun k hk=>by simp [hk]),fun k hk hn=>?_⟩;exact (n2.block k (h1.lt.1 k (by simp [hk])) (KP.out.2.2.2.2 k hk)).trans ((h2 k (by simp [hk]) hn).trans (KP.out.1 k hk hn)))
 clear h1 h2 VC r4 n1 n2 bx;unfold st4 at FIN;go_wp2_with fail;exact bodyPost_ret (v:=.tuple #[.agg #[.int .i64 id', .int .i64 ca', .int .i64 ep', .int .u64 nn'],.int .i64 e]) (aV (fn:=Tryz.f18) rfl _ _ (w.heap.size + 1 + 1 + 1) 32 _ (0,0) _ _ rfl rfl FIN.out.1 Tryz.underlying32 rfl cP) rfl ⟨rfl,FIN.out.2⟩
theorem SI {w0 w:World} {R:List Nat} {t d s n:Nat} {E E' : List Ent} {ii:Int} {id ca ep nn e id' ca' ep' nn' : Int} (h:TxS w0 R w t d s n E) (he:(e=0∧id'=id∧ca'=ca∧ep'=ep∧nn'=nn)∨(e≠0∧id'=0∧ca'=0∧ep'=0∧nn'=0))
  (HC:∀ (R' : List Nat) (wa:World) (b0 b1:Nat),TxS w0 R' wa t d s n E→(wa.heap[b0]?=some (.cells #[.pointer (some ⟨t,0,none⟩)] 24))→(wa.heap[b1]?=some (.cells #[.int .i64 ii] 3))→((b0∈R'∧b0≠t)∧(b1∈R'∧b1≠t))→Calls Tryz.prog 58 #[.pointer (some ⟨b1,0,none⟩),.pointer (some ⟨b0,0,none⟩)] wa fun e' w' => e'=.returned (.tuple #[.agg #[.int .i64 id,.int .i64 ca,.int .i64 ep,.int .u64 nn],.int .i64 e])∧TxS w0 R' w' t d s n E'∧KeptT R' t wa w') :
  Calls Tryz.prog 20 #[.pointer (some ⟨t,0,none⟩),.int .i64 ii] w fun e' w' => e'=.returned (.tuple #[.agg #[.int .i64 id', .int .i64 ca', .int .i64 ep', .int .u64 nn'],.int .i64 e])∧TxS w0 R w' t d s n E'∧KeptT R t w w' := by
 obtain ⟨a1,a2,a3,a4,a5,a6,a7⟩:=h.box (.cells #[.pointer (some ⟨t,0,none⟩)] 24);obtain ⟨x1,hx1⟩:∃ x1,w.alloc (.cells #[.pointer (some ⟨t,0,none⟩)] 24)=x1:=⟨_,rfl⟩
 rw [hx1] at a1 a2 a3 a5;obtain ⟨b1,b2,b3,b4,b5,b6,b7⟩:=a1.box (.cells #[.int .i64 ii] 3);obtain ⟨x2,hx2⟩:∃ x2,x1.alloc (.cells #[.int .i64 ii] 3)=x2:=⟨_,rfl⟩
 rw [hx2] at b1 b2 b3 b5;rw [a5] at b1 b3 b4 b5 b6 b7;obtain ⟨c1,c2,c3,c4,c5,c6,c7⟩:=b1.box (.cells #[.int .i64 0,.int .i64 0,.int .i64 0,.int .u64 0] 32);obtain ⟨x3,hx3⟩:∃ x3,x2.alloc (.cells #[.int .i64 0,.int .i64 0,.int .i64 0,.int .u64 0] 32)=x3:=⟨_,rfl⟩
 rw [hx3] at c1 c2 c3 c5;rw [b5] at c1 c3 c4 c5 c6 c7;have hkw:KeptT R t w x3:=a2.trans ((b2.sub (fun k hk=>by simp [hk])).trans (c2.sub (fun k hk=>by simp [hk])))
 have VC:=Hd (rQ (hk:=fun w=>by kernel_rfl) (n:=n) (E' := E') (caps:=#[.pointer (some ⟨w.heap.size + 1,0,none⟩),.pointer (some ⟨w.heap.size,0,none⟩)]) c1 he (fun R' wa hs hT hK=>HC R' wa (w.heap.size) (w.heap.size + 1) hT ((hK (w.heap.size) (by simp) a4).trans ((c2 (w.heap.size) (by simp) a4).trans ((b2 (w.heap.size) (by simp) a4).trans (a3)))) ((hK (w.heap.size + 1) (by simp) b4).trans ((c2 (w.heap.size + 1) (by simp) b4).trans (b3))) ⟨⟨hs (w.heap.size) (by simp),a4⟩,⟨hs (w.heap.size + 1) (by simp),b4⟩⟩))
 have KP:=Hd (And.intro hkw (And.intro c3 (And.intro c4 (And.intro c6 (show ∀ k∈R,k≠w.heap.size + 1 + 1 from fun k hk=>c7 k (by simp [hk]))))));have bx:=(aJ ((c2 (w.heap.size) (by simp) a4).trans ((b2 (w.heap.size) (by simp) a4).trans (a3)))).1;have X1:=Hd (And.intro hx1 (And.intro hx2 hx3));clear h he HC hkw a1 a2 a3 a4 a5 a6 a7 b1 b2 b3 b4 b5 b6 b7 c1 c2 c3 c4 c5 c6 c7 hx1 hx2 hx3;go_enter Tryz.func20,Tryz.ntmps20;go_upto_region 1 with fail
 try simp only [World.heap_size_alloc]
 rw [X1.out.1,X1.out.2.1,X1.out.2.2];go_wp2_with fail;refine VC.out.mono ?_;rintro e' w2 ⟨rfl,h1,h2⟩;have r4:=(h2 (w.heap.size + 1 + 1) (by simp) KP.out.2.2.1).trans KP.out.2.1;obtain ⟨⟨y0,y1,y2,y3⟩,u0,u1,u2,u3⟩:=bV r4;obtain ⟨n1,n2⟩:=set4 r4 (.int .i64 id') (.int .i64 ca') (.int .i64 ep') (.int .u64 nn')
 have FIN:Hid ((st4 w2 (w.heap.size + 1 + 1) (.int .i64 id') (.int .i64 ca') (.int .i64 ep') (.int .u64 nn')).heap[w.heap.size + 1 + 1]?=some (.cells #[.int .i64 id', .int .i64 ca', .int .i64 ep', .int .u64 nn'] 32)∧TxS w0 R (st4 w2 (w.heap.size + 1 + 1) (.int .i64 id') (.int .i64 ca') (.int .i64 ep') (.int .u64 nn')) t d s n E'∧KeptT R t w (st4 w2 (w.heap.size + 1 + 1) (.int .i64 id') (.int .i64 ca') (.int .i64 ep') (.int .u64 nn'))):=Hd (by
  refine ⟨n1,(h1.turn (k:=w.heap.size + 1 + 1) (by simp) KP.out.2.2.1 KP.out.2.2.2.1 n2).sub (fun k hk=>by simp [hk]),fun k hk hn=>?_⟩;exact (n2.block k (h1.lt.1 k (by simp [hk])) (KP.out.2.2.2.2 k hk)).trans ((h2 k (by simp [hk]) hn).trans (KP.out.1 k hk hn)))
 clear h1 h2 VC r4 n1 n2 bx;unfold st4 at FIN;go_wp2_with fail;exact bodyPost_ret (v:=.tuple #[.agg #[.int .i64 id', .int .i64 ca', .int .i64 ep', .int .u64 nn'],.int .i64 e]) (aV (fn:=Tryz.f20) rfl _ _ (w.heap.size + 1 + 1) 32 _ (0,0) _ _ rfl rfl FIN.out.1 Tryz.underlying32 rfl cP) rfl ⟨rfl,FIN.out.2⟩
theorem uT {w0 w:World} {R:List Nat} {t d s:Nat} {E Ys:List Ent} {ca nc:Int} {q:Nat} {ep n0:Int} (h:TxS w0 R w t d s 640 E) (hs:SlE E Ys) (hca:1≤ca∧ca≤16777215) (hnc:0≤nc∧nc≤18446744073709551615) (hbu:∀ e∈Ys,fI nc e=false) {i:Nat} (hi:i < 200) (hlo:∀ j,j < i→dD Ys j=false) (hop:dD Ys i=true) (hsl:eM Ys i=((q:Int),0,ep,n0)) (hq:q=i + 1) (hep:1≤ep∧ep≤15) :
  Calls Tryz.prog 18 #[.pointer (some ⟨t,0,none⟩),.int .i64 ca,.int .u64 nc] w fun e w' => e=.returned (.tuple #[.agg #[.int .i64 (q:Int),.int .i64 ca,.int .i64 ep,.int .u64 nc],.int .i64 0])∧TxS w0 R w' t d s 640 (bZ (dZ 4 0 q) (bK ca ep nc) E)∧KeptT R t w w' :=
 uU h (.inl ⟨rfl,rfl,rfl,rfl,rfl⟩) fun R' wa b0 b1 b2 hT g0 g1 g2 gm=>IX hT g1 g0 g2 ⟨gm.2.1,gm.1,gm.2.2⟩ hs hca hnc hbu hi hlo hop hsl hq hep
theorem JD {w0 w:World} {R:List Nat} {t d s:Nat} {E Ys:List Ent} {ca nc c:Int} (h:TxS w0 R w t d s 640 E) (hs:SlE E Ys) (hca:1≤ca∧ca≤16777215) (hc0:c≠0) (hL:∀ vs,LeastR Ys nc vs→vs=#[.int .i64 0,.int .i64 0,.int .i64 0,.int .u64 0,.int .i64 c]) :
  Calls Tryz.prog 18 #[.pointer (some ⟨t,0,none⟩),.int .i64 ca,.int .u64 nc] w fun e w' => e=.returned (.tuple #[.agg #[.int .i64 0,.int .i64 0,.int .i64 0,.int .u64 0],.int .i64 c])∧TxS w0 R w' t d s 640 E∧KeptT R t w w' :=
 uU h (.inr ⟨hc0,rfl,rfl,rfl,rfl⟩) fun R' wa b0 b1 b2 hT g0 g1 g2 gm=>IY hT g1 g0 g2 ⟨gm.2.1,gm.1,gm.2.2⟩ hs hca hc0 hL
theorem VS {w0 w:World} {R:List Nat} {t d s bi bt n:Nat} {E:List Ent} {ii:Int} (h:TxS w0 R w t d s n E) (hc:w.heap[bi]?=some (.cells #[.int .i64 ii] 3)) (hm:bi∈R∧bi≠t) (hi:ii < 1∨200 < ii) :
  Calls Tryz.prog 58 #[.pointer (some ⟨bi,0,none⟩),.pointer (some ⟨bt,0,none⟩)] w fun e w' => e=.returned (.tuple #[.agg #[.int .i64 0,.int .i64 0,.int .i64 0,.int .u64 0],.int .i64 3])∧TxS w0 R w' t d s n E∧KeptT R t w w' := by
 obtain ⟨a1,a2,a3,a4,a5,a6,a7⟩:=h.box (.cells #[.int .i64 0,.int .i64 0,.int .i64 0,.int .u64 0] 32);obtain ⟨r3,hr3⟩:∃ r3,w.heap.size=r3:=⟨_,rfl⟩
 obtain ⟨x1,hx1⟩:∃ x1,w.alloc (.cells #[.int .i64 0,.int .i64 0,.int .i64 0,.int .u64 0] 32)=x1:=⟨_,rfl⟩
 rw [hx1] at a1 a2 a3 a5;rw [hr3] at a1 a3 a4 a5 a6 a7;have X1:=Hd hx1;have HR4:=Hd (And.intro a6 a7);have A3:=Hd (And.intro a3 a4);have A2:=Hd (And.intro a2 a1);have d0:=(aJ ((a2 bi hm.1 hm.2).trans hc)).1;clear h hc hm a1 a2 a3 a4 a5 a6 a7 hx1
 rcases hi with hi | hi
 ·have e1:ii < 1:=hi
  clear hi;go_enter Tryz.func58,Tryz.ntmps58;go_upto_region 1 with fail
  rw [X1.out];clear hr3;go_upto_region 2 with fail
  obtain ⟨⟨y0,y1,y2,y3⟩,u0,u1,u2,u3⟩:=bV A3.out.1;obtain ⟨n1,n2⟩:=set4 A3.out.1 (.int .i64 0) (.int .i64 0) (.int .i64 0) (.int .u64 0)
  have FIN:Hid ((st4 x1 r3 (.int .i64 0) (.int .i64 0) (.int .i64 0) (.int .u64 0)).heap[r3]?=some (.cells #[.int .i64 0,.int .i64 0,.int .i64 0,.int .u64 0] 32)∧TxS w0 R (st4 x1 r3 (.int .i64 0) (.int .i64 0) (.int .i64 0) (.int .u64 0)) t d s n E∧KeptT R t w (st4 x1 r3 (.int .i64 0) (.int .i64 0) (.int .i64 0) (.int .u64 0))):=Hd (by
   refine ⟨n1,((A2.out.2).turn (k:=r3) (by simp) A3.out.2 HR4.out.1 n2).sub (fun k hk=>by simp [hk]),fun k hk hn=>?_⟩;exact (n2.block k ((A2.out.2).lt.1 k (by simp [hk])) (HR4.out.2 k hk)).trans (A2.out.1 k hk hn))
  unfold st4 at FIN;clear n1 n2;go_wp2_with fail;exact bodyPost_ret (v:=.tuple #[.agg #[.int .i64 0,.int .i64 0,.int .i64 0,.int .u64 0],.int .i64 3]) (aV (fn:=Tryz.f58) rfl _ _ r3 32 _ (0,0) _ _ rfl rfl FIN.out.1 Tryz.underlying32 rfl cP) rfl ⟨rfl,FIN.out.2⟩
 ·have e1:¬ ii < 1:=by omega
  have e2:(200:Int) < ii:=hi;clear hi;go_enter Tryz.func58,Tryz.ntmps58;go_upto_region 1 with fail
  rw [X1.out];clear hr3;go_upto_region 2 with fail
  obtain ⟨⟨y0,y1,y2,y3⟩,u0,u1,u2,u3⟩:=bV A3.out.1;obtain ⟨n1,n2⟩:=set4 A3.out.1 (.int .i64 0) (.int .i64 0) (.int .i64 0) (.int .u64 0)
  have FIN:Hid ((st4 x1 r3 (.int .i64 0) (.int .i64 0) (.int .i64 0) (.int .u64 0)).heap[r3]?=some (.cells #[.int .i64 0,.int .i64 0,.int .i64 0,.int .u64 0] 32)∧TxS w0 R (st4 x1 r3 (.int .i64 0) (.int .i64 0) (.int .i64 0) (.int .u64 0)) t d s n E∧KeptT R t w (st4 x1 r3 (.int .i64 0) (.int .i64 0) (.int .i64 0) (.int .u64 0))):=Hd (by
   refine ⟨n1,((A2.out.2).turn (k:=r3) (by simp) A3.out.2 HR4.out.1 n2).sub (fun k hk=>by simp [hk]),fun k hk hn=>?_⟩;exact (n2.block k ((A2.out.2).lt.1 k (by simp [hk])) (HR4.out.2 k hk)).trans (A2.out.1 k hk hn))
  unfold st4 at FIN;clear n1 n2;go_wp2_with fail;exact bodyPost_ret (v:=.tuple #[.agg #[.int .i64 0,.int .i64 0,.int .i64 0,.int .u64 0],.int .i64 3]) (aV (fn:=Tryz.f58) rfl _ _ r3 32 _ (0,0) _ _ rfl rfl FIN.out.1 Tryz.underlying32 rfl cP) rfl ⟨rfl,FIN.out.2⟩
theorem NA {w0 w:World} {R:List Nat} {t d s bi bt n:Nat} {E:List Ent} {ii:Int} {q:Int} (h:TxS w0 R w t d s n E) (hc:w.heap[bi]?=some (.cells #[.int .i64 ii] 3)) (hb:w.heap[bt]?=some (.cells #[.pointer (some ⟨t,0,none⟩)] 24)) (hm:(bi∈R∧bi≠t)∧(bt∈R∧bt≠t)) (hE:E.length≤600) (hi:1≤ii∧ii≤200) (hq:dZ 4 0 ii=q) (hqr:0≤q∧q≤18446744073709551615) {S:ByteArray} {ca ep nn:Int} (hg:lL q E=true) (hv:lK q E=S) (hok:kU ii S=true) (h3:tsC S=ca) (h4:tsE S=ep) (h5:tsN S=nn) :
  Calls Tryz.prog 58 #[.pointer (some ⟨bi,0,none⟩),.pointer (some ⟨bt,0,none⟩)] w fun e w' => e=.returned (.tuple #[.agg #[.int .i64 ii,.int .i64 ca,.int .i64 ep,.int .u64 nn],.int .i64 0])∧TxS w0 R w' t d s n E∧KeptT R t w w' := by
 obtain ⟨a1,a2,a3,a4,a5,a6,a7⟩:=h.box (.cells #[.int .i64 0,.int .i64 0,.int .i64 0,.int .u64 0] 32);obtain ⟨r3,hr3⟩:∃ r3,w.heap.size=r3:=⟨_,rfl⟩
 obtain ⟨x1,hx1⟩:∃ x1,w.alloc (.cells #[.int .i64 0,.int .i64 0,.int .i64 0,.int .u64 0] 32)=x1:=⟨_,rfl⟩
 rw [hx1] at a1 a2 a3 a5;rw [hr3] at a1 a3 a4 a5 a6 a7;have X1:=Hd hx1;have HR4:=Hd (And.intro a6 a7);have A3:=Hd (And.intro a3 a4);have A2:=Hd (And.intro a2 a1);have d0:=(aJ ((a2 bi hm.1.1 hm.1.2).trans hc)).1;have HX:=Hd hm;have HS0:=Hd (show (fun w' : World=>w'.heap[bi]?=some (.cells #[.int .i64 ii] 3)∧w'.heap[bt]?=some (.cells #[.pointer (some ⟨t,0,none⟩)] 24)) x1.drew from ⟨(a2 bi hm.1.1 hm.1.2).trans hc,(a2 bt hm.2.1 hm.2.2).trans hb⟩);have HQ:=Hd hq;have e1:¬ ii < 1:=by omega
 have e2:¬ (200:Int) < ii:=by omega
 have GE:=Hd (UX (key:=q) (a1.below Br.drew) hE hqr S true hv hg);have TA:=Hd (fun w=>by have:=sV ii S w; unfold tsV okE at this; rw [hok,if_pos rfl,if_pos rfl,h3,h4,h5] at this; exact this);clear hg hv hok h3 h4 h5;clear h hc hb hm hE hi hq hqr a1 a2 a3 a4 a5 a6 a7 hx1;go_enter Tryz.func58,Tryz.ntmps58;go_upto_region 1 with fail
 rw [X1.out];clear hr3;go_upto_region 3 with fail
 clear d0;refine wp_region_held_drew (S:=fun w' => w'.heap[bi]?=some (.cells #[.int .i64 ii] 3)∧w'.heap[bt]?=some (.cells #[.pointer (some ⟨t,0,none⟩)] 24)) (by kernel_rfl) HS0.out (fun hS=>?_);refine Hv 0 14 ?vb0x1 hS ?hb0x1 ?_
 case hb0x1 =>
  intro w9 s9;have k9:=(aJ s9.2).1;clear s9;go_simp;try (with_reducible rfl)
 simp only [SL];refine Hv 1 15 ?vb1x2 hS ?hb1x2 ?_
 case hb1x2 =>
  intro w9 s9;have k9:=(aJ s9.1).1;clear s9;go_simp;try (with_reducible rfl)
 simp only [SL];refine Hs 2 (fun K HK=>?_);go_simp;go_wp2_with fail;refine (AP ii q _ HQ.out).mono ?_;rintro e w6 ⟨rfl,rfl⟩;refine HK.out _ _ ?_ ?_
 ·exact hS
 clear HK K;try simp only [Act.put,SL]
 refine Hs 3 (fun K HK=>?_);go_simp;go_wp2_with fail;refine GE.out.mono ?_;rintro e w7 ⟨rfl,h1,h2⟩;refine HK.out _ _ ?_ ?_
 ·exact ⟨(h2 bi (by simp [HX.out.1.1]) HX.out.1.2).trans hS.1,(h2 bt (by simp [HX.out.2.1]) HX.out.2.2).trans hS.2⟩
 clear HK K;try simp only [Act.put,SL]
 have hS9:=(show (_∧_) from ⟨(h2 bi (by simp [HX.out.1.1]) HX.out.1.2).trans hS.1,(h2 bt (by simp [HX.out.2.1]) HX.out.2.2).trans hS.2⟩)
 clear hS;have hS:=hS9;clear hS9;have F7:=Hd (And.intro h1 (show KeptT (r3 :: R) t x1 w7 from h2));clear h1 h2 GE;refine Hu 4 13 hS ?_;simp only [SL];refine Hu 5 18 hS ?_;simp only [SL];refine Hu 6 19 hS ?_;simp only [SL];refine Hu 7 4 hS ?_;simp only [SL];refine Hu 8 5 hS ?_;simp only [SL];refine wpAnyH_done (by kernel_rfl) ?_ _;have c7:=(aJ hS.1).1;clear hS;have r7:=(F7.out.2 r3 (by simp) A3.out.2).trans A3.out.1;go_wp2_with fail;refine (TA.out _).mono ?_;rintro e w8 ⟨rfl,b8⟩;have r8:=RJ r7 b8;have F8:=Hd (And.intro (F7.out.1.below b8) (F7.out.2.trans (F7.out.1.kept b8)))
 clear r7 b8 c7;obtain ⟨⟨y0,y1,y2,y3⟩,u0,u1,u2,u3⟩:=bV r8;obtain ⟨n1,n2⟩:=set4 r8 (.int .i64 ii) (.int .i64 ca) (.int .i64 ep) (.int .u64 nn)
 have FIN:Hid ((st4 w8 r3 (.int .i64 ii) (.int .i64 ca) (.int .i64 ep) (.int .u64 nn)).heap[r3]?=some (.cells #[.int .i64 ii,.int .i64 ca,.int .i64 ep,.int .u64 nn] 32)∧TxS w0 R (st4 w8 r3 (.int .i64 ii) (.int .i64 ca) (.int .i64 ep) (.int .u64 nn)) t d s n E∧KeptT R t w (st4 w8 r3 (.int .i64 ii) (.int .i64 ca) (.int .i64 ep) (.int .u64 nn))):=Hd (by
  refine ⟨n1,((F8.out.1).turn (k:=r3) (by simp) A3.out.2 HR4.out.1 n2).sub (fun k hk=>by simp [hk]),fun k hk hn=>?_⟩;exact (n2.block k ((F8.out.1).lt.1 k (by simp [hk])) (HR4.out.2 k hk)).trans ((fun k hk hn=>(F8.out.2 k (by simp [hk]) hn).trans (A2.out.1 k hk hn)) k hk hn))
 unfold st4 at FIN;clear n1 n2;go_wp2_with fail;exact bodyPost_ret (v:=.tuple #[.agg #[.int .i64 ii,.int .i64 ca,.int .i64 ep,.int .u64 nn],.int .i64 0]) (aV (fn:=Tryz.f58) rfl _ _ r3 32 _ (0,0) _ _ rfl rfl FIN.out.1 Tryz.underlying32 rfl cP) rfl ⟨rfl,FIN.out.2⟩
theorem JT {w0 w:World} {R:List Nat} {t d s n:Nat} {E:List Ent} {ii q:Int} {S:ByteArray} {ca ep nn:Int} (h:TxS w0 R w t d s n E) (hE:E.length≤600) (hi:1≤ii∧ii≤200) (hq:dZ 4 0 ii=q) (hqr:0≤q∧q≤18446744073709551615) (hg:lL q E=true) (hv:lK q E=S) (hok:kU ii S=true) (h3:tsC S=ca) (h4:tsE S=ep) (h5:tsN S=nn) :
  Calls Tryz.prog 20 #[.pointer (some ⟨t,0,none⟩),.int .i64 ii] w fun e w' => e=.returned (.tuple #[.agg #[.int .i64 ii,.int .i64 ca,.int .i64 ep,.int .u64 nn],.int .i64 0])∧TxS w0 R w' t d s n E∧KeptT R t w w' :=
 SI h (.inl ⟨rfl,rfl,rfl,rfl,rfl⟩) fun R' wa b0 b1 hT g0 g1 gm=>NA hT g1 g0 ⟨gm.2,gm.1⟩ hE hi hq hqr hg hv hok h3 h4 h5
def jR (cap:Int) (e:Ent):Bool:=eG (tsC e.2) && (tsC e.2 == cap)
def bD (cap:Int) (Ys:List Ent):List (Int × Int):=(Ys.filter (jR cap)).map fun e=>(spB e.1,tsE e.2 + 1)
theorem oG (cap:Int) (pre:List Ent) (e:Ent):bD cap (pre ++ [e])=if jR cap e=true then bD cap pre ++ [(spB e.1,tsE e.2 + 1)] else bD cap pre:=by
 unfold bD;rw [List.filter_append,List.map_append]
 cases h:jR cap e <;> simp [List.filter_cons,h]
theorem qF (cap:Int) (Ys:List Ent):(bD cap Ys).length≤Ys.length:=by
 unfold bD;rw [List.length_map];exact List.length_filter_le ..
def sZ (p:Int × Int):List Value:=[.int .i64 p.1,.int .i64 0,.int .i64 p.2,.int .u64 0]
def nZ (L:List (Int × Int)):List Value:=(L.map sZ).flatten
theorem yA (L:List (Int × Int)) (x:Int × Int):nZ (L ++ [x])=nZ L ++ sZ x:=by simp [nZ]
theorem jK:∀ (L:List (Int × Int)) (i:Nat) (x:Int × Int) (q:Nat),L[i]?=some x→q < 4→(nZ L)[i * 4 + q]?=(sZ x)[q]?
 | [],i,x,q,h,_=>by simp at h
 | y :: L,0,x,q,h,hq=>by
  have e:y=x:=by simpa using h
  subst e;unfold nZ;rw [List.map_cons,List.flatten_cons,Nat.zero_mul,Nat.zero_add,List.getElem?_append_left (by simpa [sZ] using hq)]
 | y :: L,i + 1,x,q,h,hq=>by
  have h1:=jK L i x q (by simpa using h) hq;unfold nZ at h1 ⊢;rw [List.map_cons,List.flatten_cons,List.getElem?_append_right (by simp [sZ]; omega),← h1]
  congr 1
  simp [sZ];omega
def dU (L:List (Int × Int)) (E:List Ent):List Ent:=L.foldl (fun E p=>bZ (dZ 4 0 p.1) (bK 0 p.2 0) E) E
theorem zJ (L:List (Int × Int)) (p:Int × Int) (E:List Ent):dU (L ++ [p]) E=bZ (dZ 4 0 p.1) (bK 0 p.2 0) (dU L E):=by simp [dU]
theorem FN:∃ i z,Tryz.prog.info? 32=some i∧i.zero=some z∧i.size=4∧i.bytes=32∧z.cells.size=4:=by
 have h:(Tryz.prog.info? 32).bind (fun i=>i.zero.map fun z=>(i.size,i.bytes,z.cells.size))=some (4,32,4):=by kernel_rfl
 cases hq:Tryz.prog.info? 32 with
 | none=>rw [hq] at h; cases h
 | some i =>
  rw [hq] at h
  cases hz:i.zero with
  | none=>simp [hz] at h
  | some z=>simp [hz] at h; exact ⟨i,z,rfl,hz,h.1,h.2.1,h.2.2⟩
def FrI (lb bc:Nat) (cap:Int) (pre:List Ent) (D:Nat→Prop) (W:World):Prop :=
 ∃ v,W.heap[lb]?=some (.cells #[v] 100)∧W.heap[bc]?=some (.cells #[.int .i64 cap] 3)∧W.ownsRow (lb + 1) 32 4 v (bD cap pre).length (nZ (bD cap pre))∧∀ k,D k ↔ k=lb∨k=bc∨v.ownBlock=some k
theorem FrI.on {lb bc:Nat} {cap:Int} (pre:List Ent) (D:Nat→Prop) (A B:World) (h:FrI lb bc cap pre D A) (ho:OnC D A B):FrI lb bc cap pre D B:=by
 obtain ⟨v,h1,h2,h3,h4⟩:=h;have lt:∀ {k:Nat} {o:Obj},A.heap[k]?=some o→k < A.heap.size:=fun h=>(zl h)
 refine ⟨v,(ho.block _ (lt h1) ((h4 _).2 (.inl rfl))).trans h1,(ho.block _ (lt h2) ((h4 _).2 (.inr (.inl rfl)))).trans h2,⟨h3.1,?_⟩,h4⟩
 rcases h3.2 with hx | ⟨g,cap,cur,hv,hbg,hh,r⟩
 ·exact .inl hx
 ·exact .inr ⟨g,cap,cur,hv,hbg,(ho.block g (lt hh) ((h4 g).2 (.inr (.inr (by rw [hv]; rfl))))).trans hh,r⟩
theorem FrI.lt {lb bc:Nat} {cap:Int} (pre:List Ent) (D:Nat→Prop) (A:World) (h:FrI lb bc cap pre D A) (k:Nat) (hk:D k):k < A.heap.size:=by
 obtain ⟨v,h1,h2,h3,h4⟩:=h
 rcases (h4 k).1 hk with rfl | rfl | h5
 ·exact (zl h1)
 ·exact (zl h2)
 ·exact (h3.lt k h5).2
theorem FrI.same {lb bc:Nat} {cap:Int} {pre:List Ent} {x:Ent} {D:Nat→Prop} {A:World} (h:FrI lb bc cap pre D A) (hx:jR cap x=false):FrI lb bc cap (pre ++ [x]) D A:=by
 obtain ⟨v,h1,h2,h3,h4⟩:=h;exact ⟨v,h1,h2,by rw [oG,hx]; exact h3,h4⟩
theorem jL {P:Program} {fn:Func} {p q:Tmp} {ty tz:TypeId} (h:fn.results=#[.cell p ty,.cell q tz]) (tmps:Array Value) (w:World) (a b:Option Addr) (v u:Value)
  (hp:tmps.getD p undef=.pointer a) (hq:tmps.getD q undef=.pointer b)
  (h1:((asAddr (.pointer a)).run P w).andThen (fun a w₁=>(loadVar ty a).run P w₁)=.ok v w) (h2:((asAddr (.pointer b)).run P w).andThen (fun a w₁=>(loadVar tz a).run P w₁)=.ok u w) :
  (results fn tmps).run P w=.ok (.tuple #[v,u]) w:=by
 have e:(results fn tmps).run P w=(((asAddr (tmps.getD p undef)).run P w).andThen fun a w₁=>(loadVar ty a).run P w₁).andThen fun v w₂=>(((asAddr (tmps.getD q undef)).run P w₂).andThen fun a w₁=>(loadVar tz a).run P w₁).andThen fun u w₃=>.ok (.tuple #[v,u]) w₃:=by
  simp only [results,h];simp [Sem.run_bind,Result.andThen];generalize Sem.run P (asAddr (tmps[p]?.getD undef)) w=r
  cases r with
  | ok a w1 =>
   dsimp only
   generalize Sem.run P (loadVar ty a) w1=r2
   cases r2 with
   | ok v1 w2 =>
    dsimp only
    generalize Sem.run P (asAddr (tmps[q]?.getD undef)) w2=r3
    cases r3 with
    | ok b w3 =>
     dsimp only
    | halt x w1=>rfl
   | halt x w1=>rfl
  | halt x w1=>rfl
 rw [e,hp,h1]
 show (((asAddr (tmps.getD q undef)).run P w).andThen fun a w₁=>(loadVar tz a).run P w₁).andThen _=_
 rw [hq,h2]
 rfl
theorem iJ {ty:TypeId} {d:TypeDesc} (hd:(match d with | .struct _ | .array _ _=>true | _=>false)=false) (hu:Tryz.prog.underlying ty=some d) {w:World} {g:Nat} {v:Value} (h:w.cell? ⟨g,0,none⟩=some v) :
  ((asAddr (.pointer (some ⟨g,0,none⟩))).run Tryz.prog w).andThen (fun a w₁=>(loadVar ty a).run Tryz.prog w₁)=.ok v w:=by
 have hagg:(isAgg ty).run Tryz.prog w=.ok false w:=by
  unfold isAgg;rw [Sem.run_bind,run_underlying hu w]
  cases d <;> first | rfl | (simp at hd)
 simp [asAddr,loadVar,Sem.run_bind,hagg,Result.andThen,h]
theorem yN {w w' : World} {B:Nat} {e:TypeId} {z:Nat} {v:Value} {n:Nat} {xs:List Value} (h:w.ownsRow B e z v n xs) (hk:∀ k,v.ownBlock=some k→w'.heap[k]?=w.heap[k]?):w'.ownsRow B e z v n xs:=by
 refine ⟨h.1,?_⟩
 rcases h.2 with hx | ⟨g,cap,cur,hv,hbg,hh,r⟩
 ·exact .inl hx
 ·exact .inr ⟨g,cap,cur,hv,hbg,(hk g (by rw [hv]; rfl)).trans hh,r⟩
theorem OI {w:World} {B:Nat} {a:Option Addr} {c:Nat} {L:List (Int × Int)} (h:w.ownsRow B 32 4 (.slice a L.length c) L.length (nZ L)) {j:Nat} {p:Int × Int} (he:L[j]?=some p):∃ g,a=some ⟨g,0,none⟩∧w.cell? ⟨g,j * 4,none⟩=some (.int .i64 p.1)∧w.cell? ⟨g,j * 4 + 1,none⟩=some (.int .i64 0)∧w.cell? ⟨g,j * 4 + 2,none⟩=some (.int .i64 p.2)∧w.cell? ⟨g,j * 4 + 3,none⟩=some (.int .u64 0):=by
 have hj:j < L.length:=(List.getElem?_eq_some_iff.1 he).1;have r0:=jK L j p 0 he (by decide);have r1:=jK L j p 1 he (by decide);have r2:=jK L j p 2 he (by decide);have r3:=jK L j p 3 he (by decide)
 rcases h.2 with ⟨_,h0⟩ | ⟨g,cap,cur,hv,_,hh,_⟩
 ·omega
 ·injection hv with h1 h2 h3
  subst h1 h3;exact ⟨g,rfl,(h.cellAt (j * 4) (by omega)).trans r0,(h.cellAt (j * 4 + 1) (by omega)).trans r1,(h.cellAt (j * 4 + 2) (by omega)).trans r2,(h.cellAt (j * 4 + 3) (by omega)).trans r3⟩
section
attribute [local go_sem] Oper.semAt_some
theorem MC {w0 w:World} {R:List Nat} {t d s bt bc:Nat} {E Ys:List Ent} {cap:Int} (h:TxS w0 R w t d s 640 E) (hb:w.heap[bt]?=some (.cells #[.pointer (some ⟨t,0,none⟩)] 24)) (hc:w.heap[bc]?=some (.cells #[.int .i64 cap] 3)) (hm:(bt∈R∧bt≠t)∧(bc∈R∧bc≠t)∧w0.heap.size≤bt∧w0.heap.size≤bc) (hs:SlE E Ys)
  (hep:∀ e∈Ys,IntKind.i64.wrap (tsE e.2 + 1)=tsE e.2 + 1) (hP:∀ p∈bD cap Ys,bJ p.1 0 p.2=true) (hL:∀ k,(dU ((bD cap Ys).take k) E).length≤300) :
  Calls Tryz.prog 56 #[.pointer (some ⟨bt,0,none⟩),.pointer (some ⟨bc,0,none⟩)] w fun e w' => e=.returned (.tuple #[.int .i64 (bD cap Ys).length,.int .i64 0])∧TxS w0 R w' t d s 640 (dU (bD cap Ys) E)∧KeptT R t w w' := by
 obtain ⟨L,hLd⟩:∃ L,bD cap Ys=L:=⟨_,rfl⟩
 rw [hLd] at hP hL ⊢;have HLD:=Hd hLd;obtain ⟨n0,hn0⟩:∃ n0,w.heap.size=n0:=⟨_,rfl⟩
 obtain ⟨x1,hx1⟩:∃ x,w.alloc (.cells #[.int .i64 0] 3)=x:=⟨_,rfl⟩
 obtain ⟨x2,hx2⟩:∃ x,x1.alloc (.cells #[.int .i64 0] 27)=x:=⟨_,rfl⟩
 obtain ⟨x3,hx3⟩:∃ x,x2.alloc (.cells #[.slice none 0 0] 100)=x:=⟨_,rfl⟩
 obtain ⟨s1,m1,b1⟩:=bQ hx1 hn0;obtain ⟨s2,m2,b2⟩:=bQ hx2 s1;obtain ⟨s3,m3,b3⟩:=bQ hx3 s2;have b13:Below w.heap.size w x3:=(b1.trans (b2.mono (by omega))).trans (b3.mono (by omega));have n1:=(b3.block n0 (by omega)).trans ((b2.block n0 (by omega)).trans m1);have n2:=(b3.block (n0 + 1) (by omega)).trans m2;have hl:=h.lt;obtain ⟨F,hF,hnF,hFl⟩:=h.said;have lF3:=hF.lt;have hT3:=hF.below b13;have HNF:=Hd (And.intro hnF (And.intro hFl lF3));have ht3:=(b13.block bt (hl.1 bt hm.1.1)).trans hb;have hc3:=(b13.block bc (hl.1 bc hm.2.1.1)).trans hc
 have lbt:=hl.1 bt hm.1.1;have lbc:=hl.1 bc hm.2.1.1;have f0:=h.from.size;have HW:=Hd (And.intro hl (And.intro f0 (And.intro hn0 hm)));have HT3:=Hd hT3;have HB:=Hd (And.intro s3 (And.intro m3 (And.intro n2 (And.intro n1 (And.intro b13 (And.intro ht3 hc3))))));have HX:=Hd (And.intro hx1 (And.intro hx2 hx3));have HSL:=Hd (And.intro hs (And.intro hep (And.intro hP hL)));have HFR:=Hd (And.intro h.from (And.intro lbt lbc));have ct:=(aJ ht3).1;have HLL:Hid (L.length≤200):=Hd (by rw [← hLd]; exact Nat.le_trans (qF _ _) hs.m);have HC0:=Hd (And.intro hc h.from)
 clear h hb hc hm hs hep hP hL hLd hx1 hx2 hx3 s1 s2 s3 m1 m2 m3 b1 b2 b3 b13 n1 n2 hl hT3 ht3 hc3 lbt lbc f0 hF hnF hFl lF3;refine (callsIn_wide (n:=0)).1 (callsIn_of_wp_marks (F:=Fence.wide) (n:=0) Tryz.func56 rfl trivial (wpIn_wide.2 ?_) rfl);simp only [Tryz.ntmps56,List.size_toArray,List.length_cons,List.length_nil,Nat.reduceAdd,Nat.reduceSub,Array.replicate_succ,Array.replicate_zero,List.push_toArray,List.append_toArray,List.nil_append,List.cons_append];go_upto_region 2 with fail
 try rw [HX.out.1,HX.out.2.1,HX.out.2.2]
 try rw [hn0]
 clear hn0;go_wp2_with fail;refine (kW _ t).mono ?_;rintro e w4 ⟨rfl,m4,q4,s4⟩;rw [HB.out.1] at m4 q4 s4 ⊢;clear ct;go_wp2_with fail;have hb:=HB.out;have hw:=HW.out;have hF:=HT3.out;have hnF:=HNF.out.1;have lF3:=HNF.out.2.2;have hT4:=hF.below (by rw [hb.1]; exact q4);have lF:=hT4.lt;have hit:=kV hT4 (by have:=HSL.out.1.n; omega) HSL.out.1.s HSL.out.1.k m4 (by rw [HSL.out.1.y]; exact HSL.out.1.ok);rw [HSL.out.1.y] at hit
 have i4:FrI (n0 + 2) bc cap [] (fun k=>k=n0 + 2∨k=bc∨(Value.slice none 0 0).ownBlock=some k) w4:=⟨_,(q4.block _ (by omega)).trans hb.2.1,(q4.block _ (by have:=HFR.out.2.2; omega)).trans hb.2.2.2.2.2.2,World.ownsRow_nil _ _ _ _,fun k=>Iff.rfl⟩
 refine (wpIn_wide (n:=0)).1 (lC rfl (enters_of Tryz.func118 (by kernel_rfl) rfl) hit (fun Wz lz o hz hv=>?_) (fun k hk=>?_) (by intro _; rfl) (fun k=>k=n0 + 2∨k=bc∨(Value.slice none 0 0).ownBlock=some k) (fun k hk hg=>?_) (FrI (n0 + 2) bc cap) (fun c pre D Wz=>False) FrI.on (fun c s D A B hh ho=>hh.elim) FrI.lt (fun c s D A hh=>hh.elim) i4 ?_ ?_ ?_)
 ·exact hv.frm (bH Wz lz o) fun k hk=>by subst hk; exact ⟨fun e=>by have:=lF.1 _ e; omega,by have:=lF.2.1; omega,by have:=hT4.from.size; omega⟩
 ·rcases hk with hk | rfl | rfl | hk
  ·exact lF.1 _ hk
  ·exact lF.2.1
  ·omega
  ·have:=hT4.from.size; omega
 ·have h1:=hw.2.2.1
  have h2:=HFR.out.2.2;have h3:=hw.2.1;have h4:=hw.2.2.2;have h5:=lF3.1;have hFb:=hnF bc h4.2.1.1;have htn:=hw.1.2
  rcases hk with rfl | rfl | hk
  ·rcases hg with hg | hg | hg | hg
   ·have:=h5 _ hg; omega
   ·omega
   ·omega
   ·omega
  ·rcases hg with hg | hg | hg | hg
   ·exact hFb hg
   ·exact h4.2.1.2 hg
   ·omega
   ·omega
  ·cases hk
 ·intro l' pre x D Wz hpre hI hD hz hnl hll
  obtain ⟨xk,xv⟩:=x;have hxe:IntKind.i64.wrap (tsE xv + 1)=tsE xv + 1:=HSL.out.2.1 (xk,xv) (hpre.subset (by simp));have hpl:pre.length≤200:=by have h1:=hpre.length_le; have:=HSL.out.1.m; simp at h1; omega
  have HPL:=Hd hpl;obtain ⟨q,hq⟩:∃ q:Int,spB xk=q:=⟨_,rfl⟩
  unfold MO;simp only [hq];have HQ:=Hd hq;clear hq hpl;gi_wp2;obtain ⟨Wa,hWa⟩:∃ Wa,Wz.alloc (.cells #[.int .i64 q,.int .i64 (tsC xv),.int .i64 (tsE xv),.int .u64 (tsN xv),.int .i64 0] 92)=Wa:=⟨_,rfl⟩
  obtain ⟨sa,ma,ba⟩:=bQ hWa rfl;rw [hWa];refine ⟨ba,fun Wb hfb hIb=>?_⟩;have mb:=(hfb.block _ (zl ma) (by omega)).trans ma;obtain ⟨z0,z1,z2,z3,z4⟩:=dF mb;have HI:=Hd hIb;have HMB:=Hd mb;obtain ⟨lv,hlv⟩:∃ b,eG (tsC xv)=b:=⟨_,rfl⟩
  have LV:=Hd (fun w=>jU q (tsC xv) (tsE xv) (tsN xv) 0 w lv hlv);have HLV:=Hd hlv;clear sa ma ba hWa hfb mb hlv hIb
  gi_wp2_with fail
  refine ⟨trivial,rfl,?_⟩;refine (CallsIn.inRound l' (callsIn_wide.2 (LV.out _))).mono ?_;rintro e w8 ⟨rfl,b8⟩;have I8:=FrI.on _ _ _ _ HI.out (.of_frm (G:=fun _=>False) (Frm.of_below b8) fun _ _ h=>h);have mx8:=(b8.block _ (zl HMB.out)).trans HMB.out;have HI8:=Hd I8;have HB8:=Hd b8;obtain ⟨v,i1,i2,i3,i6⟩:=I8;clear z0 z1 z2 z3 z4 b8
  cases lv
  ·clear i1 i2 i3 i6 mx8
   gi_wp2_with fail
   refine ⟨D,⟨(Frm.of_below (F:=fun _=>False) HB8.out).mono fun _ h=>h.elim,fun k hk=>.inl hk⟩,FrI.same HI8.out ?_⟩;unfold jR;rw [HLV.out]
   rfl
  ·obtain ⟨z0,z1,z2,z3,z4⟩:=dF mx8
   have kc:=(aJ i2).1;obtain ⟨cb,hcb⟩:∃ b,(tsC xv == cap)=b:=⟨_,rfl⟩
   have HCB:=Hd hcb
   cases cb
   ·clear i1 i2 i3 i6 mx8
    gi_wp2_with fail
    refine ⟨D,⟨(Frm.of_below (F:=fun _=>False) HB8.out).mono fun _ h=>h.elim,fun k hk=>.inl hk⟩,FrI.same HI8.out ?_⟩;unfold jR;rw [HLV.out,HCB.out]
    rfl
   ·obtain ⟨d1,d1f⟩:=aJ i1
    obtain ⟨va,vc,rfl,hv1,hv2⟩:=bM i3;obtain ⟨i,z,hi,hz0,hz1,hz2,hz3⟩:=FN;obtain ⟨m,hm⟩:∃ m,(bD cap pre).length=m:=⟨_,rfl⟩
    rw [hm] at i3 i6 hv1;have OWN:=Hd i3;have HD:=Hd i6;have HM:=Hd hm;have HB1:=Hd (And.intro i1 i2);have hlen:m≤200:=by rw [← hm]; exact Nat.le_trans (qF _ _) HPL.out
    rw [hm] at d1;clear i1 i2 i3 i6 mx8 hm
    gi_wp2_with (gi_at_builtin; refine wpListIn_append_own_at _ rfl (.tmp 25) (.tmp 34) 100 rfl (n0 + 2 + 1) 32 i z 4 32 Tryz.underlying100 hi hz0 hz1 hz2 hz3 (by decide) _ _ _ rfl (OWN.out.alloc _) ⟨w8.heap.size,0,none⟩ 1 1 (sZ (q,tsE xv + 1)) rfl rfl ?c1 ?c2 ?c3 ?c4 ?c5 ?_)
    case c1 =>
     intro j u hj;obtain ⟨⟨g0,g1,g2,g3⟩,_⟩:=bV (han w8 (.cells #[.int .i64 q,.int .i64 0,.int .i64 (tsE xv + 1),.int .u64 0] 32))
     match j,hj with
     | 0,hj=>injection hj with hj; subst hj; exact g0
     | 1,hj=>injection hj with hj; subst hj; exact g1
     | 2,hj=>injection hj with hj; subst hj; exact g2
     | 3,hj=>injection hj with hj; subst hj; exact g3
     | j + 4,hj=>simp [sZ] at hj
    case c2 =>
     intro u hu;simp only [sZ,List.mem_cons,List.not_mem_nil,or_false] at hu
     rcases hu with rfl | rfl | rfl | rfl <;> rfl
    case c3=>unfold maxLen; omega
    case c4=>omega
    case c5 =>
     have:=FrI.lt _ _ _ HI8.out (n0 + 2) ((HD.out _).2 (.inl rfl));simp;omega
    intro v' w9 hown' hgrow hnil hat;rw [← yA] at hown';have olt:∀ k,(Value.slice va m vc).ownBlock=some k→n0 + 2 + 1≤k∧k < w8.heap.size:=fun k hk=>OWN.out.lt k hk
    have lb9:=FrI.lt _ _ _ HI8.out (n0 + 2) ((HD.out _).2 (.inl rfl));have lm9:=FrI.lt _ _ _ HI8.out bc ((HD.out _).2 (.inr (.inl rfl)));have ks:∀ k,k < n0 + 3→k < w8.heap.size→w9.heap[k]?=w8.heap[k]?:=fun k h1 h2=>(hgrow.block k (by simp; omega) (fun e=>by have:=olt k e.symm; omega)).trans (hao _ _ h2)
    have hbn:bc < n0:=by have h1:=HFR.out.2.2; have h2:=HW.out.2.2.1; omega
    have a1:=(ks _ (by omega) lb9).trans HB1.out.1;have a2:=(ks _ (by omega) lm9).trans HB1.out.2;obtain ⟨d1,d1f⟩:=aJ a1;obtain ⟨va', vc', rfl,_,_⟩:=bM hown'
    have FR:Hid (∀ wf,w9.setCell ⟨n0 + 2,0,none⟩ (.slice va' (m + 1) vc')=wf→Own1 D Wb (fun k=>k=n0 + 2∨k=bc∨(Value.slice va' (m + 1) vc').ownBlock=some k) wf∧FrI (n0 + 2) bc cap (pre ++ [(xk,xv)]) (fun k=>k=n0 + 2∨k=bc∨(Value.slice va' (m + 1) vc').ownBlock=some k) wf):=Hd (fun wf hwf=>by
     have og:=hown'.lt;have hsz:=HB8.out.size;refine ⟨⟨?_,fun k hk=>?_⟩,?_⟩
     ·rw [← hwf]
      exact ((((Frm.of_below (F:=fun _=>False) HB8.out).mono fun _ h=>h.elim).alloc _).grown hgrow fun k hk=>.inl ((HD.out k).2 (.inr (.inr hk)))).setCell _ _ (.inl ((HD.out _).2 (.inl rfl)))
     ·rcases hk with rfl | rfl | hk
      ·exact .inl ((HD.out _).2 (.inl rfl))
      ·exact .inl ((HD.out _).2 (.inr (.inl rfl)))
      ·rcases hat with h1 | h1
       ·exact .inl ((HD.out k).2 (.inr (.inr (h1 ▸ hk))))
       ·rw [h1] at hk; injection hk with hk; exact .inr (by first | omega | (simp at hk; omega))
     ·have hg:jR cap (xk,xv)=true:=by unfold jR; rw [HLV.out,HCB.out]; rfl
      refine ⟨.slice va' (m + 1) vc', ?_,?_,?_,fun k=>Iff.rfl⟩
      ·rw [← hwf,hss _ _ 0 _ _ _ a1]; rfl
      ·rw [← hwf,heap_setCell_other _ _ _ _ (by show bc≠n0 + 2; omega)]; exact a2
      ·rw [← hwf,oG,if_pos hg,List.length_append,HM.out,HQ.out]
       exact ownsRow_setCell_other hown' (fun e=>by have:=(og _ e).1; simp at this) _)
    clear hown' hgrow hnil hat olt ks a1 a2 lb9 lm9 HB1 OWN HD hi hz0 hz1 hz2 hz3 hv1 hv2
    gi_wp2_with fail
    obtain ⟨f1,f2⟩:=FR.out _ rfl;exact ⟨_,f1,f2⟩
 ·intro D C' Wz hDz hI hV hfr hC' hnD hdef
  obtain ⟨v,j1,j2,j3,j4⟩:=hI;rw [HLD.out] at j3;obtain ⟨va,vc,rfl,hv1,hv2⟩:=bM j3;have h1:=hw.2.2.1;have h2:=HFR.out.2.2;have h3:=hw.2.1;have h4:=hw.2.2.2;have htn:=hw.1.2;have hDw:=(zl hdef);obtain ⟨RG,hRG⟩:∃ RG,(Value.slice va L.length vc).ownBlock.toList=RG:=⟨_,rfl⟩
  have rg:∀ k,k∈RG ↔ (Value.slice va L.length vc).ownBlock=some k:=fun k=>by rw [← hRG]; simp
  have rl:∀ k∈RG,n0 + 3≤k∧k < Wz.heap.size:=fun k hk=>j3.lt k ((rg k).1 hk)
  have hFn:∀ k,F k→k < n0:=fun k hk=>by have:=lF3.1 k hk; omega
  have TS0:TxS w0 (RG ++ (n0 :: (n0 + 1) :: (n0 + 2) :: D :: R)) Wz t d s 640 E:=hV.hide fun k hk=>by
   have hz:=hfr.size
   rcases List.mem_append.1 hk with hk | hk
   ·have:=rl k hk
    exact ⟨this.2,fun e=>by have:=hFn k e; omega⟩
   ·simp only [List.mem_cons] at hk
    rcases hk with rfl | rfl | rfl | rfl | hk
    ·exact ⟨by omega,fun e=>by have:=hFn _ e; omega⟩
    ·exact ⟨by omega,fun e=>by have:=hFn _ e; omega⟩
    ·exact ⟨by omega,fun e=>by have:=hFn _ e; omega⟩
    ·exact ⟨hDw,fun e=>by have:=hFn _ e; omega⟩
    ·exact ⟨by have:=hw.1.1 k hk; omega,hnF k hk⟩
  have kept4:∀ k,k < n0 + 2→k≠bc→¬ F k→k≠t→w0.heap.size≤k→Wz.heap[k]?=x3.heap[k]?:=fun k e1 e2 e3 e4 e5=>by
   refine (hfr.block k (by omega) ?_).trans (q4.block k (by omega));rintro ((rfl | rfl | hk) | (hk | rfl | rfl | hk))
   ·omega
   ·exact e2 rfl
   ·cases hk
   ·exact e3 hk
   ·exact e4 rfl
   ·omega
   ·omega
  have KT0:KeptT R t w Wz:=fun k hk hn=>by
   have hkw:=hw.1.1 k hk
   by_cases hkb:k=bc
   ·rw [hkb]; exact j2.trans HC0.out.1.symm
   ·by_cases hk0:k < w0.heap.size
    ·exact (hV.from.block k hk0).trans (HC0.out.2.block k hk0).symm
    ·exact (kept4 k (by omega) hkb (hnF k hk) hn (by omega)).trans (hb.2.2.2.2.1.block k hkw)
  have r0:=(kept4 n0 (by omega) (by omega) (fun e=>by have:=hFn _ e; omega) (by omega) (by omega)).trans hb.2.2.2.1;have r1:=(kept4 (n0 + 1) (by omega) (by omega) (fun e=>by have:=hFn _ e; omega) (by omega) (by omega)).trans hb.2.2.1;have t0:=(KT0 bt h4.1.1 h4.1.2).trans ((hb.2.2.2.2.1.block bt (hw.1.1 bt h4.1.1)).symm.trans hb.2.2.2.2.2.1);have HZ:=Hd (And.intro j1 (And.intro j3 (And.intro r0 (And.intro r1 (And.intro t0 hdef)))));have HT0:=Hd TS0;have HK0:=Hd KT0
  have HR5:Hid ((∀ k,(Value.slice va L.length vc).ownBlock=some k→k∈RG)∧(∀ k∈RG,k≠t)∧n0≠t∧n0 + 1≠t∧n0 + 2≠t∧D≠t∧(∀ k∈R,k≠n0∧k≠n0 + 1∧k≠D)∧(w0.heap.size≤n0∧w0.heap.size≤n0 + 1∧w0.heap.size≤D)∧n0≠D∧n0 + 1≠D):=Hd ⟨fun k hk=>(rg k).2 hk,fun k hk=>by have:=rl k hk; omega,by omega,by omega,by omega,by omega,fun k hk=>by have:=hw.1.1 k hk; omega,by omega,by omega,by omega⟩;have kl:=(aJ j1).1;have hlen:(0:Int)≤(L.length:Int):=Int.natCast_nonneg _
  clear hit hfr hC' hnD hdef j1 j2 j3 j4 hV i4 kept4 TS0 KT0 r0 r1 t0 rl rg hRG h1 h2 h3 h4 htn hDw hDz hF hnF lF3 hT4 lF hFn hb hw q4 s4 m4;go_wp2_with fail
  go_loopw [38] (fun i wr=>∃ q:Nat,i=.int .i64 (q:Int)∧q≤L.length∧Hid (TxS w0 (RG ++ (n0 :: (n0 + 1) :: (n0 + 2) :: D :: R)) wr t d s 640 (dU (L.take q) E))∧Hid (KeptT (RG ++ (n0 :: (n0 + 1) :: (n0 + 2) :: D :: R)) t Wz wr)) (fun i _=>L.length - (intOf i).toNat)
  case atStart=>exact ⟨0,rfl,Nat.zero_le _,HT0,Hd (KeptT.refl _ _ _)⟩
  case round =>
   obtain ⟨q,rfl,hq,HTr,HKr⟩:=hrel
   by_cases hlt:q < L.length
   ·have hli:(q:Int) < (L.length:Int):=by omega
    obtain ⟨p,hp⟩:∃ p,L[q]?=some p:=⟨_,List.getElem?_eq_getElem hlt⟩
    obtain ⟨g1,rfl,k0,k1,k2,k3⟩:=OI (yN HZ.out.2.1 fun k hk=>HKr.out k (List.mem_append_left _ (HR5.out.1 k hk)) (HR5.out.2.1 k (HR5.out.1 k hk))) hp;have e4:IntKind.i64.wrap ((q:Int) + 1)=((q + 1:Nat):Int):=by rw [show (q:Int) + 1=((q + 1:Nat):Int) by omega]; exact IntWalk.i64_in _ (by have:=HLL.out; omega)
    have hmt:=HW.out.2.2.2.1;have kt:=(aJ ((HKr.out bt (by simp [hmt.1]) hmt.2).trans HZ.out.2.2.2.2.1)).1;obtain ⟨a1,a2,a3,a4,a5,a6,a7⟩:=HTr.out.box (.cells #[.int .i64 p.1,.int .i64 0,.int .i64 p.2,.int .u64 0] 32);obtain ⟨y1,hy1⟩:∃ y,wr.alloc (.cells #[.int .i64 p.1,.int .i64 0,.int .i64 p.2,.int .u64 0] 32)=y:=⟨_,rfl⟩
    rw [hy1] at a1 a2 a3 a5;have kt1:=(aJ ((a2 bt (by simp [hmt.1]) hmt.2).trans ((HKr.out bt (by simp [hmt.1]) hmt.2).trans HZ.out.2.2.2.2.1))).1;obtain ⟨⟨c0,c1,c2,c3⟩,_⟩:=bV a3;have PU:=Hd (uV (nn:=0) a1 (HSL.out.2.2.2 q) (HSL.out.2.2.1 p (List.mem_of_getElem? hp)) (by decide) rfl (by unfold bK; rw [ByteArray.size_append,ByteArray.size_append]; have h1:=dP 0 3 (by decide); have h2:=dP p.2 1 (by decide); have h3:=dP 0 8 (by decide); omega) (rfl:dZ 4 0 p.1=dZ 4 0 p.1));have Y1:=Hd hy1;have HA2:=Hd a2
    have HQ:=Hd (And.intro hlt (show dU (L.take (q + 1)) E=bZ (dZ 4 0 p.1) (bK 0 p.2 0) (dU (L.take q) E) from by rw [List.take_add_one,hp,Option.toList_some,zJ]));clear hlt hq hp a1 a2 a3 a4 a5 a6 a7 hy1 hmt;go_upto_region 11 with fail
    try rw [Y1.out]
    clear k0 k1 k2 k3;go_wp2_with fail;refine PU.out.mono ?_;rintro e w6 ⟨rfl,h1,h2⟩;have F6:=Hd (And.intro (h1.sub (R' := RG ++ (n0 :: (n0 + 1) :: (n0 + 2) :: D :: R)) fun k hk=>List.mem_cons_of_mem _ hk) (HKr.out.trans (HA2.out.trans (h2.sub fun k hk=>List.mem_cons_of_mem _ hk))));clear h1 h2 PU c0 c1 c2 c3 kt kt1;go_wp2_with fail;go_roundw
    case rel=>exact ⟨q + 1,rfl,HQ.out.1,Hd (by rw [HQ.out.2]; exact F6.out.1),Hd F6.out.2⟩
    case measure=>have:=HQ.out.1; simp [intOf]; omega
   ·obtain rfl:q=L.length:=by omega
    have hli:¬ ((L.length:Nat):Int) < (L.length:Int):=by omega
    have kl6:=(aJ ((HKr.out (n0 + 2) (by simp) HR5.out.2.2.2.2.1).trans HZ.out.1)).1;have r0:=(HKr.out n0 (by simp) HR5.out.2.2.1).trans HZ.out.2.2.1;have r1:=(HKr.out (n0 + 1) (by simp) HR5.out.2.2.2.1).trans HZ.out.2.2.2.1;have dd:=(HKr.out D (by simp) HR5.out.2.2.2.2.2.1).trans HZ.out.2.2.2.2.2;obtain ⟨c0,g0⟩:=aJ r0;obtain ⟨c1,g1⟩:=aJ r1;obtain ⟨y6,hy6⟩:∃ y6,(wr.setCell ⟨n0,0,none⟩ (.int .i64 (L.length:Int))).setCell ⟨n0 + 1,0,none⟩ (.int .i64 0)=y6:=⟨_,rfl⟩
    have f6:Frm (fun k=>k=n0∨k=n0 + 1) wr y6:=by rw [← hy6]; exact ((Frm.refl (fun k=>k=n0∨k=n0 + 1) wr).setCell ⟨n0,0,none⟩ _ (.inl (.inl rfl))).setCell ⟨n0 + 1,0,none⟩ _ (.inl (.inr rfl))
    have s0:y6.heap[n0]?=some (.cells #[.int .i64 (L.length:Int)] 3):=by
     rw [← hy6,heap_setCell_other _ _ _ _ (by show n0≠n0 + 1; omega),hss _ _ 0 _ _ _ r0]
     rfl
    have s1:y6.heap[n0 + 1]?=some (.cells #[.int .i64 0] 27):=by
     rw [← hy6,hss _ _ 0 _ _ _ ((heap_setCell_other _ _ _ _ (by show n0 + 1≠n0; omega)).trans r1)]
     rfl
    have T6:TxS w0 (RG ++ (n0 :: (n0 + 1) :: (n0 + 2) :: D :: R)) y6 t d s 640 (dU (L.take L.length) E):=by
     rw [← hy6];exact (HTr.out.turn (k:=n0) (by simp) HR5.out.2.2.1 HR5.out.2.2.2.2.2.2.2.1.1 ((Frm.refl (fun k=>k=n0) wr).setCell ⟨n0,0,none⟩ _ (.inl rfl))).turn (k:=n0 + 1) (by simp) HR5.out.2.2.2.1 HR5.out.2.2.2.2.2.2.2.1.2.1 ((Frm.refl (fun k=>k=n0 + 1) _).setCell ⟨n0 + 1,0,none⟩ _ (.inl rfl))
    have d6:=(f6.block D (zl dd) (by have:=HR5.out.2.2.2.2.2.2.2.2; omega)).trans dd;have HM:Hid (Marks y6 [D]):=Hd ((Marks.nil y6).cons (by simp) d6)
    have FIN:Hid (∀ W', Frm (fun k=>k∈[D]) y6 W'→W'.cell? ⟨n0,0,none⟩=some (.int .i64 (L.length:Int))∧W'.cell? ⟨n0 + 1,0,none⟩=some (.int .i64 0)∧TxS w0 R W' t d s 640 (dU L E)∧KeptT R t w W'):=Hd fun W' hm=>by
     have hx:=HR5.out.2.2.2.2.2.2;have lt6:=T6.lt.1;refine ⟨(aJ ((hm.block n0 (lt6 n0 (by simp)) (by simpa using hx.2.2.1)).trans s0)).1,(aJ ((hm.block (n0 + 1) (lt6 (n0 + 1) (by simp)) (by simpa using hx.2.2.2)).trans s1)).1,?_,fun k hk hn=>?_⟩
     ·have g:=T6.turn (k:=D) (by simp) HR5.out.2.2.2.2.2.1 hx.2.1.2.2 (hm.mono fun k hk=>by simpa using hk)
      rw [List.take_length] at g;exact g.sub fun k hk=>by simp [hk]
     ·have hy:=hx.1 k hk
      exact (hm.block k (lt6 k (by simp [hk])) (by simpa using hy.2.2)).trans ((f6.block k (HTr.out.lt.1 k (by simp [hk])) (by omega)).trans ((HKr.out k (by simp [hk]) hn).trans (HK0.out k hk hn)))
    have HY6:=Hd hy6;clear r0 r1 dd f6 s0 s1 T6 d6 hy6 hq hlt;go_wp2_with fail;rw [HY6.out];refine eJ [D] _ HM.out fun W' hm=>?_
    obtain ⟨u0,u1,u2,u3⟩:=FIN.out W' hm;exact ⟨_,jL (fn:=Tryz.f56) rfl _ W' _ _ _ _ rfl rfl (iJ rfl Tryz.underlying3 u0) (iJ rfl Tryz.underlying27 u1),rfl,u2,u3⟩
 ·intro D c pre C' W hD hpre hh
  exact hh.elim
end
theorem JM {w0 w:World} {R:List Nat} {t d s:Nat} {E Ys:List Ent} {cap:Int} (h:TxS w0 R w t d s 640 E) (hs:SlE E Ys)
  (hep:∀ e∈Ys,IntKind.i64.wrap (tsE e.2 + 1)=tsE e.2 + 1) (hP:∀ p∈bD cap Ys,bJ p.1 0 p.2=true) (hL:∀ k,(dU ((bD cap Ys).take k) E).length≤300) :
  Calls Tryz.prog 19 #[.pointer (some ⟨t,0,none⟩),.int .i64 cap] w fun e w' => e=.returned (.tuple #[.int .i64 (bD cap Ys).length,.int .i64 0])∧TxS w0 R w' t d s 640 (dU (bD cap Ys) E)∧KeptT R t w w' := by
 obtain ⟨a1,a2,a3,a4,a5,a6,a7⟩:=h.box (.cells #[.pointer (some ⟨t,0,none⟩)] 24);obtain ⟨x1,hx1⟩:∃ x1,w.alloc (.cells #[.pointer (some ⟨t,0,none⟩)] 24)=x1:=⟨_,rfl⟩
 rw [hx1] at a1 a2 a3 a5;obtain ⟨b1,b2,b3,b4,b5,b6,b7⟩:=a1.box (.cells #[.int .i64 cap] 3);obtain ⟨x2,hx2⟩:∃ x2,x1.alloc (.cells #[.int .i64 cap] 3)=x2:=⟨_,rfl⟩
 rw [hx2] at b1 b2 b3 b5;rw [a5] at b1 b3 b4 b5 b6 b7;have hbk:=(b2 w.heap.size (by simp) a4).trans a3
 have VC:=Hd (FJ (hk:=fun w=>by kernel_rfl) (x:=(bD cap Ys).length) (e:=0) (y:=(bD cap Ys).length) b1 (.inl ⟨rfl,rfl⟩) (caps:=#[.pointer (some ⟨w.heap.size,0,none⟩),.pointer (some ⟨w.heap.size + 1,0,none⟩)]) (E' := dU (bD cap Ys) E) (fun R' wa hs' hT hK=>by
  have g1:=(hK (w.heap.size + 1) (by simp) b4).trans b3;have g2:=(hK w.heap.size (by simp) a4).trans hbk;exact MC hT g2 g1 ⟨⟨hs' _ (by simp),a4⟩,⟨hs' _ (by simp),b4⟩,a6,b6⟩ hs hep hP hL))
 have KP:=Hd (a2.trans (b2.sub (fun k hk=>by simp [hk])));have X1:=Hd hx1;have X2:=Hd hx2;have A5:=Hd a5;have bx:=(aJ hbk).1;obtain ⟨L,hL⟩:∃ L,bD cap Ys=L:=⟨_,rfl⟩
 rw [hL] at VC ⊢;clear h hs hep hP hL a1 a2 a3 a4 a5 a6 a7 b1 b2 b3 b4 b5 b6 b7 hx1 hx2 hbk;go_enter Tryz.func19,Tryz.ntmps19;go_upto_region 1 with fail
 try simp only [World.heap_size_alloc]
 rw [X1.out,X2.out];go_wp2_with fail;refine VC.out.mono ?_;rintro e w2 ⟨rfl,h1,h2⟩;have FIN:Hid (TxS w0 R w2 t d s 640 (dU L E)∧KeptT R t w w2):=Hd ⟨h1.sub (fun k hk=>by simp [hk]),KP.out.trans (h2.sub (fun k hk=>by simp [hk]))⟩;clear h1 h2 VC bx;go_wp2_with fail;go_ret2;exact ⟨rfl,FIN.out⟩
theorem TY {id c e n:Int} (h:bJ id c e=true) (n0:0≤n) (n1:n≤18446744073709551615):(dG c 3=true∧0≤c)∧(dG e 1=true∧0≤e)∧(dG n 8=true∧0≤n):=by
 have:=gE h;obtain ⟨c', rfl⟩:=Int.eq_ofNat_of_zero_le (show 0≤c by omega);obtain ⟨e', rfl⟩:=Int.eq_ofNat_of_zero_le (show 0≤e by omega);obtain ⟨n', rfl⟩:=Int.eq_ofNat_of_zero_le n0;refine ⟨⟨(dN c' 3).2 ⟨by decide,by decide,?_⟩,by omega⟩,⟨(dN e' 1).2 ⟨by decide,by decide,?_⟩,by omega⟩,⟨(dN n' 8).2 ⟨by decide,by decide,?_⟩,by omega⟩⟩
 ·show c' < 16777216; omega
 ·show e' < 256; omega
 ·show n' < 18446744073709551616; omega
theorem nO {id c e n:Int} (h:bJ id c e=true) (n0:0≤n) (n1:n≤18446744073709551615):tsC (bK c e n)=c∧tsE (bK c e n)=e∧tsN (bK c e n)=n:=by
 obtain ⟨p0,p1,p2⟩:=TY h n0 n1;have q0:=fun rest=>yL (n:=c) (k:=3) rest p0.2 p0.1
 have q1:=fun rest=>yL (n:=e) (k:=1) rest p1.2 p1.1
 have q2:=fun rest=>yL (n:=n) (k:=8) rest p2.2 p2.1
 have e:bK c e n=Str (aY c 3) ++ (Str (aY e 1) ++ (Str (aY n 8) ++ ⟨#[]⟩)):=by
  unfold bK; rw [tQ,ByteArray.append_assoc]
 unfold tsC tsE tsN;rw [e,(q0 _).2,(q1 _).2];exact ⟨(q0 _).1,(q1 _).1,(q2 _).1⟩
theorem BU {id c e n:Int} (h:bJ id c e=true) (n0:0≤n) (n1:n≤18446744073709551615):kU id (bK c e n)=true:=by
 obtain ⟨e0,e1,e2⟩:=nO h n0 n1;unfold kU pJ;rw [e0,e1,e2,h];simp
def slK (i:Nat):Int:=4611686018427387905 + (i:Int)
theorem kB {i:Nat} (hi:i < 200):dZ 4 0 ((i + 1:Nat):Int)=slK i:=by
 have h:gL 4 0 ((i + 1:Nat):Int)=true:=by
  unfold gL;simp;omega
 unfold dZ slK;rw [if_pos h];omega
theorem nC {i:Nat} (hi:i < 200):spB (slK i)=(i:Int) + 1∧jC (slK i) 4 0=true:=by
 have h1:spK (slK i)=4:=by unfold spK slK; omega
 have h2:spA (slK i)=0:=by unfold spA slK; omega
 refine ⟨by unfold spB slK; omega,?_⟩;unfold jC;rw [h1,h2]
 rfl
def slV (x:Int × Int × Int):ByteArray:=bK x.1 x.2.1 x.2.2
def slE:Nat→List (Int × Int × Int)→List Ent
 | _,[]=>[]
 | i,x :: L=>(slK i,slV x) :: slE (i + 1) L
theorem jI:∀ (L:List (Int × Int × Int)) (i j:Nat),(slE i L)[j]?=L[j]?.map fun x=>(slK (i + j),slV x)
 | [],i,j=>by simp [slE]
 | x :: L,i,0=>by simp [slE]
 | x :: L,i,j + 1=>by
  rw [slE,List.getElem?_cons_succ,List.getElem?_cons_succ,jI L (i + 1) j,show i + 1 + j=i + (j + 1) by omega]
theorem mD:∀ (L:List (Int × Int × Int)) (i:Nat),(slE i L).length=L.length
 | [],i=>rfl
 | x :: L,i=>by rw [slE,List.length_cons,List.length_cons,mD L (i + 1)]
theorem mC:∀ (L:List (Int × Int × Int)) (i:Nat),∀ e∈slE i L,slK i≤e.1
 | [],i,e,h=>by simp [slE] at h
 | x :: L,i,e,h=>by
  rw [slE,List.mem_cons] at h
  rcases h with rfl | h
  ·exact Int.le_refl _
  ·have:=mC L (i + 1) e h
   unfold slK at this ⊢;omega
theorem pM:∀ (L:List (Int × Int × Int)) (i:Nat),mZ (slE i L)
 | [],i=>List.Pairwise.nil
 | x :: L,i=>by
  rw [slE];refine List.Pairwise.cons (fun e he=>?_) (pM L (i + 1));have:=mC L (i + 1) e he;unfold slK at this ⊢
  show 4611686018427387905 + (i:Int) < e.1
  omega
theorem lJ {e:Ent} {k:Int} (h:e.1 < k) (v:ByteArray) (m:List Ent):bZ k v (e :: m)=e :: bZ k v m:=by
 unfold bZ;have h2:¬ k < e.1:=by omega
 simp [List.filter_cons,h,h2]
theorem sC {k:Int} (u v:ByteArray) {m:List Ent} (h:∀ e∈m,k < e.1):bZ k v ((k,u) :: m)=(k,v) :: m:=by
 unfold bZ;have h1:m.filter (fun e=>decide (e.1 < k))=[]:=List.filter_eq_nil_iff.2 fun e he=>by have:=h e he; simp; omega
 have h2:m.filter (fun e=>decide (k < e.1))=m:=List.filter_eq_self.2 fun e he=>by simpa using h e he
 simp [List.filter_cons,h1,h2]
theorem qE:∀ (L:List (Int × Int × Int)) (i j:Nat) (x:Int × Int × Int),j < L.length→bZ (slK (i + j)) (slV x) (slE i L)=slE i (L.set j x)
 | [],i,j,x,h=>by simp at h
 | y :: L,i,0,x,h=>by
  rw [slE,List.set_cons_zero,slE]
  exact sC _ _ fun e he=>by
   have:=mC L (i + 1) e he;unfold slK at this ⊢;omega
 | y :: L,i,j + 1,x,h=>by
  rw [slE,List.set_cons_succ,slE,lJ (by show slK i < slK (i + (j + 1)); unfold slK; omega),show i + (j + 1)=i + 1 + j by omega,qE L (i + 1) j x (by simpa using h)]
theorem sB:∀ (L:List (Int × Int × Int)) (i:Nat) (x:Int × Int × Int),bZ (slK (i + L.length)) (slV x) (slE i L)=slE i (L ++ [x])
 | [],i,x=>by simp [slE,bZ]
 | y :: L,i,x=>by
  rw [slE,List.cons_append,slE,lJ (by show slK i < slK (i + (L.length + 1)); unfold slK; omega),List.length_cons,show i + (L.length + 1)=i + 1 + L.length by omega,sB L (i + 1) x]
def SlL (L:List (Int × Int × Int)):Prop:=L.length≤200∧∀ (j:Nat) (x:Int × Int × Int),L[j]?=some x→bJ ((j:Int) + 1) x.1 x.2.1=true∧0≤x.2.2∧x.2.2≤18446744073709551615
theorem pN {L:List (Int × Int × Int)} (h:L.length≤200) {e:Ent} (he:e∈slE 0 L):∃ j,∃ x,j < 200∧L[j]?=some x∧e=(slK j,slV x):=by
 obtain ⟨j,hj⟩:=List.mem_iff_getElem?.1 he;rw [jI] at hj
 cases hx:L[j]? with
 | none=>rw [hx] at hj; cases hj
 | some x =>
  rw [hx] at hj;have hl:=(List.getElem?_eq_some_iff.1 hx).1;injection hj with hj;exact ⟨j,x,by omega,hx,by rw [← hj,Nat.zero_add]⟩
theorem kN {α:Type} (p:α→Bool):∀ (l:List α),(∀ x∈l,p x=true)→l.takeWhile p=l
 | [],_=>rfl
 | a :: l,h=>by rw [List.takeWhile_cons,if_pos (h a (by simp)),kN p l fun x hx=>h x (by simp [hx])]
theorem xW {L:List (Int × Int × Int)} (h:L.length≤200):gJ (slE 0 L)=slE 0 L:=by
 unfold gJ
 rw [DQ fun e he=>by
  have:=mC L 0 e he;unfold slK at this;omega]
 refine kN _ _ fun e he=>?_
 obtain ⟨j,x,hj,_,rfl⟩:=pN h he;exact (nC hj).2
theorem nB {L:List (Int × Int × Int)} (h:SlL L):SlE (slE 0 L) (slE 0 L):=by
 obtain ⟨h1,h2⟩:=h;refine ⟨pM L 0,fun e he=>?_,xW h1,fun e he=>?_,fun i e he=>?_,by rw [mD]; exact h1,by rw [mD]; omega⟩
 ·obtain ⟨j,x,hj,_,rfl⟩:=pN h1 he
  show 0≤slK j∧slK j≤_
  unfold slK;omega
 ·obtain ⟨j,x,hj,hx,rfl⟩:=pN h1 he
  obtain ⟨g1,g2,g3⟩:=h2 j x hx
  show kU (spB (slK j)) (slV x)=true
  rw [(nC hj).1];exact BU g1 g2 g3
 ·rw [jI] at he
  cases hx:L[i]? with
  | none=>rw [hx] at he; cases he
  | some x =>
   rw [hx] at he;have hl:=(List.getElem?_eq_some_iff.1 hx).1;injection he with he;rw [← he,Nat.zero_add];exact (nC (by omega)).1
theorem pK {L:List (Int × Int × Int)} (h:SlL L) {i:Nat} {x:Int × Int × Int} (hx:L[i]?=some x):eM (slE 0 L) i=((i:Int) + 1,x.1,x.2.1,x.2.2):=by
 obtain ⟨g1,g2,g3⟩:=h.2 i x hx;obtain ⟨e1,e2,e3⟩:=nO g1 g2 g3;have hl:=(List.getElem?_eq_some_iff.1 hx).1;unfold eM;rw [jI,hx]
 show fld (slK (0 + i),slV x)=_
 unfold fld
 show (spB (slK (0 + i)),tsC (bK x.1 x.2.1 x.2.2),tsE (bK x.1 x.2.1 x.2.2),tsN (bK x.1 x.2.1 x.2.2))=_
 rw [Nat.zero_add,(nC (by have:=h.1; omega)).1,e1,e2,e3]
theorem pL {L:List (Int × Int × Int)} {i:Nat} (hi:L.length≤i):eM (slE 0 L) i=(((i + 1:Nat):Int),0,1,0):=by
 unfold eM;rw [jI,List.getElem?_eq_none_iff.2 hi]
 rfl
theorem qR {L:List (Int × Int × Int)} (h:SlL L) (nc:Int) (hb:∀ x∈L,bX x.1 x.2.2 nc=false):∀ e∈slE 0 L,fI nc e=false:=fun e he=>by
 obtain ⟨j,x,hj,hx,rfl⟩:=pN h.1 he;obtain ⟨g1,g2,g3⟩:=h.2 j x hx;obtain ⟨e1,e2,e3⟩:=nO g1 g2 g3
 show bX (tsC (bK x.1 x.2.1 x.2.2)) (tsN (bK x.1 x.2.1 x.2.2)) nc=false
 rw [e1,e3];exact hb x (List.mem_of_getElem? hx)
theorem kS {L:List (Int × Int × Int)} (h:SlL L) (nc:Int) {j:Nat} {x:Int × Int × Int} (hx:L[j]?=some x) (hb:bX x.1 x.2.2 nc=true):∃ e∈slE 0 L,fI nc e=true:=by
 obtain ⟨g1,g2,g3⟩:=h.2 j x hx;obtain ⟨e1,e2,e3⟩:=nO g1 g2 g3;refine ⟨(slK (0 + j),slV x),List.mem_of_getElem? (i:=j) (by rw [jI,hx]; rfl),?_⟩
 show bX (tsC (bK x.1 x.2.1 x.2.2)) (tsN (bK x.1 x.2.1 x.2.2)) nc=true
 rw [e1,e3];exact hb
theorem SlL.set {L:List (Int × Int × Int)} (h:SlL L) {j:Nat} {x:Int × Int × Int} (hj:j < L.length) (hx:bJ ((j:Int) + 1) x.1 x.2.1=true∧0≤x.2.2∧x.2.2≤18446744073709551615):SlL (L.set j x):=by
 refine ⟨by rw [List.length_set]; exact h.1,fun i y hy=>?_⟩;rw [List.getElem?_set] at hy
 by_cases hji:j=i
 ·subst hji
  rw [if_pos rfl,if_pos hj] at hy;injection hy with hy;rw [← hy]; exact hx
 ·rw [if_neg hji] at hy
  exact h.2 i y hy
theorem SlL.snoc {L:List (Int × Int × Int)} (h:SlL L) {x:Int × Int × Int} (hl:L.length < 200) (hx:bJ ((L.length:Int) + 1) x.1 x.2.1=true∧0≤x.2.2∧x.2.2≤18446744073709551615):SlL (L ++ [x]):=by
 refine ⟨by simp; omega,fun i y hy=>?_⟩
 by_cases hi:i < L.length
 ·rw [List.getElem?_append_left hi] at hy
  exact h.2 i y hy
 ·have hi2:i=L.length:=by
   have:=(List.getElem?_eq_some_iff.1 hy).1;simp at this;omega
  subst hi2;have hy2:x=y:=by simpa using hy
  rw [← hy2]; exact hx
def cG (cap:Int) (x:Int × Int × Int):Bool:=eG x.1 && (x.1 == cap)
def cW (cap:Int) (x:Int × Int × Int):Int × Int × Int:=if cG cap x=true then (0,x.2.1 + 1,0) else x
def OkX (i:Nat) (x:Int × Int × Int):Prop:=bJ ((i:Int) + 1) x.1 x.2.1=true∧0≤x.2.2∧x.2.2≤18446744073709551615
theorem kH {cap:Int} {i j:Nat} {x:Int × Int × Int} (h:OkX i x):jR cap (slK j,slV x)=cG cap x∧tsE (slV x)=x.2.1:=by
 obtain ⟨g1,g2,g3⟩:=h;obtain ⟨e1,e2,e3⟩:=nO g1 g2 g3;refine ⟨?_,e2⟩
 show (eG (tsC (bK x.1 x.2.1 x.2.2)) && (tsC (bK x.1 x.2.1 x.2.2) == cap))=_
 rw [e1]
 rfl
theorem jS:∀ (ps:List (Int × Int)) (e:Ent) (m:List Ent),(∀ p∈ps,e.1 < dZ 4 0 p.1)→dU ps (e :: m)=e :: dU ps m
 | [],e,m,_=>rfl
 | p :: ps,e,m,h=>by
  show dU ps (bZ (dZ 4 0 p.1) (bK 0 p.2 0) (e :: m))=e :: dU ps (bZ (dZ 4 0 p.1) (bK 0 p.2 0) m)
  rw [lJ (h p (by simp)),jS ps e _ fun q hq=>h q (by simp [hq])]
theorem oH (cap:Int) (e:Ent) (Ys:List Ent):bD cap (e :: Ys)=if jR cap e=true then (spB e.1,tsE e.2 + 1) :: bD cap Ys else bD cap Ys:=by
 unfold bD
 cases h:jR cap e <;> simp [List.filter_cons,h]
theorem sD {cap:Int} {i:Nat} {L:List (Int × Int × Int)} (hl:i + L.length≤200) (hok:∀ (j:Nat) (x:Int × Int × Int),L[j]?=some x→OkX (i + j) x) {p:Int × Int} (hp:p∈bD cap (slE i L)) :
  ∃ j,∃ x,L[j]?=some x∧cG cap x=true∧p=(((i + j + 1:Nat):Int),x.2.1 + 1)∧i + j < 200:=by
 unfold bD at hp;obtain ⟨e,he,rfl⟩:=List.mem_map.1 hp;obtain ⟨he,hg⟩:=List.mem_filter.1 he;obtain ⟨j,hj⟩:=List.mem_iff_getElem?.1 he;rw [jI] at hj
 cases hx:L[j]? with
 | none=>rw [hx] at hj; cases hj
 | some x =>
  rw [hx] at hj;have hlt:=(List.getElem?_eq_some_iff.1 hx).1;injection hj with hj;subst hj;obtain ⟨g1,g2⟩:=kH (cap:=cap) (j:=i + j) (hok j x hx);rw [g1] at hg;refine ⟨j,x,hx,hg,?_,by omega⟩
  show (spB (slK (i + j)),tsE (slV x) + 1)=_
  rw [g2,(nC (by omega)).1]
  rfl
theorem sE (cap:Int):∀ (L:List (Int × Int × Int)) (i:Nat),i + L.length≤200→(∀ (j:Nat) (x:Int × Int × Int),L[j]?=some x→OkX (i + j) x)→dU (bD cap (slE i L)) (slE i L)=slE i (L.map (cW cap))
 | [],i,_,_=>rfl
 | x :: L,i,hl,hok=>by
  have h0:OkX i x:=hok 0 x rfl;have hl' : i + 1 + L.length≤200:=by simp at hl; omega
  have hok' : ∀ (j:Nat) (y:Int × Int × Int),L[j]?=some y→OkX (i + 1 + j) y:=fun j y hy=>by
   have:=hok (j + 1) y (by simpa using hy);rwa [show i + (j + 1)=i + 1 + j by omega] at this
  have IH:=sE cap L (i + 1) hl' hok';obtain ⟨g1,g2⟩:=kH (cap:=cap) (j:=i) h0
  have hgt:∀ p∈bD cap (slE (i + 1) L),slK i < dZ 4 0 p.1:=fun p hp=>by
   obtain ⟨j,y,hy,_,rfl,hj⟩:=sD hl' hok' hp
   show slK i < dZ 4 0 (((i + 1 + j + 1:Nat):Int))
   rw [kB hj];unfold slK;omega
  rw [slE,oH,g1,List.map_cons,slE]
  cases hg:cG cap x
  ·rw [if_neg (by decide),jS _ _ _ hgt,IH]
   unfold cW;rw [hg]
   rfl
  ·rw [if_pos rfl]
   show dU (bD cap (slE (i + 1) L)) (bZ (dZ 4 0 (spB (slK i))) (bK 0 (tsE (slV x) + 1) 0) ((slK i,slV x) :: slE (i + 1) L))=_
   have hk:dZ 4 0 (spB (slK i))=slK i:=by
    rw [(nC (by simp at hl; omega)).1];exact kB (by simp at hl; omega)
   rw [hk,sC _ _ fun e he=>by
    have:=mC L (i + 1) e he;unfold slK at this ⊢;omega,jS _ _ _ hgt,IH,g2]
   have e2:cW cap x=(0,x.2.1 + 1,0):=by unfold cW; rw [if_pos hg]
   rw [e2]
   rfl
theorem sF:∀ (ps:List (Int × Int)) (L:List (Int × Int × Int)),(∀ p∈ps,∃ j,j < L.length∧j < 200∧p.1=((j + 1:Nat):Int))→(dU ps (slE 0 L)).length=L.length
 | [],L,_=>mD L 0
 | p :: ps,L,h=>by
  obtain ⟨j,h1,h2,h3⟩:=h p (by simp)
  show (dU ps (bZ (dZ 4 0 p.1) (bK 0 p.2 0) (slE 0 L))).length=_
  have:=qE L 0 j (0,p.2,0) h1;rw [Nat.zero_add] at this
  rw [h3,kB h2,show bK 0 p.2 0=slV (0,p.2,0) from rfl,this,sF ps _ fun q hq=>by
   obtain ⟨k,k1,k2,k3⟩:=h q (by simp [hq]);exact ⟨k,by rw [List.length_set]; exact k1,k2,k3⟩,List.length_set]
theorem SlL.okx {L:List (Int × Int × Int)} (h:SlL L):∀ (j:Nat) (x:Int × Int × Int),L[j]?=some x→OkX (0 + j) x:=fun j x hx=>by
 rw [Nat.zero_add];exact h.2 j x hx
theorem mR (cap:Int):∀ (L:List (Int × Int × Int)) (i:Nat),(∀ (j:Nat) (x:Int × Int × Int),L[j]?=some x→OkX (i + j) x)→(bD cap (slE i L)).length=(L.filter (cG cap)).length
 | [],i,_=>rfl
 | x :: L,i,hok=>by
  have h0:OkX i x:=hok 0 x rfl
  have IH:=mR cap L (i + 1) fun j y hy=>by
   have:=hok (j + 1) y (by simpa using hy);rwa [show i + (j + 1)=i + 1 + j by omega] at this
  rw [slE,oH,(kH (cap:=cap) (j:=i) h0).1]
  cases hg:cG cap x
  ·rw [if_neg (by decide),IH,List.filter_cons,if_neg (by rw [hg]; decide)]
  ·rw [if_pos rfl,List.length_cons,IH,List.filter_cons,if_pos hg,List.length_cons]
theorem SlL.free {L:List (Int × Int × Int)} (h:SlL L) (cap:Int):SlL (L.map (cW cap)):=by
 refine ⟨by rw [List.length_map]; exact h.1,fun j y hy=>?_⟩;rw [List.getElem?_map] at hy
 cases hx:L[j]? with
 | none=>rw [hx] at hy; cases hy
 | some x =>
  rw [hx] at hy;obtain ⟨g1,g2,g3⟩:=h.2 j x hx;have hy2:cW cap x=y:=by simpa using hy
  subst hy2;unfold cW
  split
  ·rename_i hg
   refine ⟨?_,by show (0:Int)≤0; decide,by show (0:Int)≤_; decide⟩
   have h15:x.2.1≠16:=fun e=>by
    unfold bJ at g1;unfold cG eG at hg;simp only [Bool.and_eq_true,Bool.or_eq_true] at g1 hg
    rcases g1.2 with h9 | h9
    ·rw [e] at h9; exact absurd h9 (by decide)
    ·have:=hg.1; simp at this h9; exact this h9
   have hin:=gE g1;unfold bJ;simp only [Bool.and_eq_true,iV];exact ⟨⟨⟨by omega,by decide⟩,by omega⟩,by simp⟩
  ·exact ⟨g1,g2,g3⟩
theorem sY {w0 w:World} {R:List Nat} {t d s:Nat} {L:List (Int × Int × Int)} (cap:Int) (h:TxS w0 R w t d s 640 (slE 0 L)) (hL:SlL L) :
  Calls Tryz.prog 19 #[.pointer (some ⟨t,0,none⟩),.int .i64 cap] w fun e w' => e=.returned (.tuple #[.int .i64 (L.filter (cG cap)).length,.int .i64 0])∧TxS w0 R w' t d s 640 (slE 0 (L.map (cW cap)))∧KeptT R t w w' := by
 have hl:0 + L.length≤200:=by have:=hL.1; omega
 have hf:=hL.free cap
 have hsub:∀ p∈bD cap (slE 0 L),∃ j,j < L.length∧j < 200∧p.1=((j + 1:Nat):Int)∧bJ p.1 0 p.2=true:=fun p hp=>by
  obtain ⟨j,x,hx,hg,rfl,hj⟩:=sD hl hL.okx hp;have h1:=(hf.2 j (cW cap x) (by rw [List.getElem?_map,hx]; rfl)).1;have e2:cW cap x=(0,x.2.1 + 1,0):=by unfold cW; rw [if_pos hg]
  rw [e2] at h1;refine ⟨j,(List.getElem?_eq_some_iff.1 hx).1,by omega,by rw [Nat.zero_add],?_⟩;rw [Nat.zero_add];exact h1
 have:=JM (cap:=cap) h (nB hL) (fun e he=>by
  obtain ⟨j,x,hj,hx,rfl⟩:=pN hL.1 he;have hin:=gE (hL.2 j x hx).1;have e2:=(kH (cap:=cap) (j:=j) (hL.2 j x hx)).2
  show IntKind.i64.wrap (tsE (slV x) + 1)=tsE (slV x) + 1
  rw [e2];exact IntWalk.i64_in _ (by omega)) (fun p hp=>(hsub p hp).choose_spec.2.2.2) (fun k=>by
  rw [sF _ _ fun p hp=>by
   obtain ⟨j,h1,h2,h3,_⟩:=hsub p (List.mem_of_mem_take hp);exact ⟨j,h1,h2,h3⟩]
  have:=hL.1;omega)
 rw [sE cap L 0 hl hL.okx,mR cap L 0 hL.okx] at this;exact this
theorem lG {L:List (Int × Int × Int)} (h:SlL L) {i:Nat} {x:Int × Int × Int} (hx:L[i]?=some x):dD (slE 0 L) i=eE x.1 x.2.1:=by
 unfold dD;rw [pK h hx]
theorem yO {L:List (Int × Int × Int)} {i:Nat} (hi:L.length≤i):dD (slE 0 L) i=true:=by
 unfold dD;rw [pL hi]
 rfl
theorem rN {w0 w:World} {R:List Nat} {t d s:Nat} {L:List (Int × Int × Int)} {ca nc:Int} (h:TxS w0 R w t d s 640 (slE 0 L)) (hL:SlL L) (hca:1≤ca∧ca≤16777215) (hnc:0≤nc∧nc≤18446744073709551615) (hbu:∀ x∈L,bX x.1 x.2.2 nc=false)
  {i:Nat} {x:Int × Int × Int} (hx:L[i]?=some x) (hop:eE x.1 x.2.1=true) (hlo:∀ (j:Nat) (y:Int × Int × Int),j < i→L[j]?=some y→eE y.1 y.2.1=false) :
  Calls Tryz.prog 18 #[.pointer (some ⟨t,0,none⟩),.int .i64 ca,.int .u64 nc] w fun e w' => e=.returned (.tuple #[.agg #[.int .i64 ((i + 1:Nat):Int),.int .i64 ca,.int .i64 x.2.1,.int .u64 nc],.int .i64 0])∧TxS w0 R w' t d s 640 (slE 0 (L.set i (ca,x.2.1,nc)))∧KeptT R t w w'∧SlL (L.set i (ca,x.2.1,nc)):=by
 have hi:=(List.getElem?_eq_some_iff.1 hx).1;have h200:=hL.1
 have h0:x.1=0∧x.2.1≤15:=by
  unfold eE at hop
  simpa using hop
 have hin:=gE (hL.2 i x hx).1
 have hset:SlL (L.set i (ca,x.2.1,nc)):=hL.set hi ⟨by
  unfold bJ;simp only [Bool.and_eq_true,iV];refine ⟨⟨⟨by omega,by omega⟩,by omega⟩,?_⟩;have:(x.2.1 != 16)=true:=by simp; omega
  rw [this]; rfl,hnc.1,hnc.2⟩
 have hs:eM (slE 0 L) i=(((i + 1:Nat):Int),0,x.2.1,x.2.2):=by
  rw [pK hL hx,h0.1]
  rfl
 have e:=qE L 0 i (ca,x.2.1,nc) hi;rw [Nat.zero_add] at e;refine (uT h (nB hL) hca hnc (qR hL nc hbu) (i:=i) (by omega) (fun j hj=>?_) (by rw [lG hL hx]; exact hop) hs rfl ⟨by omega,h0.2⟩).mono ?_
 ·obtain ⟨y,hy⟩:∃ y,L[j]?=some y:=⟨_,List.getElem?_eq_getElem (by omega)⟩
  rw [lG hL hy];exact hlo j y hj hy
 ·rintro e' w' ⟨rfl,h1,h2⟩
  rw [kB (by omega),show bK ca x.2.1 nc=slV (ca,x.2.1,nc) from rfl,e] at h1;exact ⟨rfl,h1,h2,hset⟩
theorem rO {w0 w:World} {R:List Nat} {t d s:Nat} {L:List (Int × Int × Int)} {ca nc:Int} (h:TxS w0 R w t d s 640 (slE 0 L)) (hL:SlL L) (hca:1≤ca∧ca≤16777215) (hnc:0≤nc∧nc≤18446744073709551615) (hbu:∀ x∈L,bX x.1 x.2.2 nc=false)
  (hl:L.length < 200) (hlo:∀ y∈L,eE y.1 y.2.1=false) :
  Calls Tryz.prog 18 #[.pointer (some ⟨t,0,none⟩),.int .i64 ca,.int .u64 nc] w fun e w' => e=.returned (.tuple #[.agg #[.int .i64 ((L.length + 1:Nat):Int),.int .i64 ca,.int .i64 1,.int .u64 nc],.int .i64 0])∧TxS w0 R w' t d s 640 (slE 0 (L ++ [(ca,1,nc)]))∧KeptT R t w w'∧SlL (L ++ [(ca,1,nc)]):=by
 have hset:SlL (L ++ [(ca,1,nc)]):=hL.snoc hl ⟨by
  unfold bJ;simp only [Bool.and_eq_true,iV];exact ⟨⟨⟨by omega,by omega⟩,by decide⟩,by simp⟩,hnc.1,hnc.2⟩
 have e:=sB L 0 (ca,1,nc);rw [Nat.zero_add] at e;refine (uT h (nB hL) hca hnc (qR hL nc hbu) (i:=L.length) hl (fun j hj=>?_) (yO (Nat.le_refl _)) (pL (Nat.le_refl _)) rfl ⟨by decide,by decide⟩).mono ?_
 ·obtain ⟨y,hy⟩:∃ y,L[j]?=some y:=⟨_,List.getElem?_eq_getElem hj⟩
  rw [lG hL hy];exact hlo y (List.mem_of_getElem? hy)
 ·rintro e' w' ⟨rfl,h1,h2⟩
  rw [kB hl,show bK ca 1 nc=slV (ca,1,nc) from rfl,e] at h1;exact ⟨rfl,h1,h2,hset⟩
theorem pI {w0 w:World} {R:List Nat} {t d s:Nat} {L:List (Int × Int × Int)} {ca nc:Int} (h:TxS w0 R w t d s 640 (slE 0 L)) (hL:SlL L) (hca:1≤ca∧ca≤16777215) {j:Nat} {x:Int × Int × Int} (hx:L[j]?=some x) (hb:bX x.1 x.2.2 nc=true) :
  Calls Tryz.prog 18 #[.pointer (some ⟨t,0,none⟩),.int .i64 ca,.int .u64 nc] w fun e w' => e=.returned (.tuple #[.agg #[.int .i64 0,.int .i64 0,.int .i64 0,.int .u64 0],.int .i64 13])∧TxS w0 R w' t d s 640 (slE 0 L)∧KeptT R t w w' := by
 obtain ⟨e,he,hb'⟩:=kS hL nc hx hb;exact JD h (nB hL) hca (by decide) fun vs hv=>hv.busy he hb'
theorem RC {w0 w:World} {R:List Nat} {t d s:Nat} {L:List (Int × Int × Int)} (h:TxS w0 R w t d s 640 (slE 0 L)) (hL:SlL L) {i:Nat} {x:Int × Int × Int} (hx:L[i]?=some x) :
  Calls Tryz.prog 20 #[.pointer (some ⟨t,0,none⟩),.int .i64 ((i + 1:Nat):Int)] w fun e w' => e=.returned (.tuple #[.agg #[.int .i64 ((i + 1:Nat):Int),.int .i64 x.1,.int .i64 x.2.1,.int .u64 x.2.2],.int .i64 0])∧TxS w0 R w' t d s 640 (slE 0 L)∧KeptT R t w w' := by
 have hi:=(List.getElem?_eq_some_iff.1 hx).1;have h200:=hL.1;obtain ⟨g1,g2,g3⟩:=hL.2 i x hx;obtain ⟨e1,e2,e3⟩:=nO g1 g2 g3;have hg:oL (slK i) (slE 0 L)=some (slV x):=(LX (pM L 0)).1 (List.mem_of_getElem? (i:=i) (by rw [jI,hx,Nat.zero_add]; rfl));exact JT h (by rw [mD]; omega) ⟨by omega,by omega⟩ (kB (by omega)) (by unfold slK; omega) (by unfold lL; rw [hg]; rfl) (by unfold lK; rw [hg]; rfl) (BU g1 g2 g3) e1 e2 e3
def UdI (n0 bc:Nat) (nc:Int) (pre:List Ent) (D:Nat→Prop) (W:World):Prop:=(∀ k,D k ↔ k=n0∨k=n0 + 1∨k=bc)∧W.heap[n0]?=some (.cells #[.bool false] 4)∧W.heap[n0 + 1]?=some (.cells #[.int .i64 0] 27)∧W.heap[bc]?=some (.cells #[.int .u64 nc] 30)∧∀ e∈pre,fI nc e=false
def UdX (n0 bc:Nat) (nc:Int) (pre:List Ent) (D:Nat→Prop) (W:World):Prop:=(∀ k,D k ↔ k=n0∨k=n0 + 1∨k=bc)∧W.heap[n0]?=some (.cells #[.bool true] 4)∧W.heap[n0 + 1]?=some (.cells #[.int .i64 0] 27)∧W.heap[bc]?=some (.cells #[.int .u64 nc] 30)∧∃ e∈pre,fI nc e=true
theorem UdI.on {n0 bc:Nat} {nc:Int} (pre:List Ent) (D:Nat→Prop) (A B:World) (h:UdI n0 bc nc pre D A) (ho:OnC D A B):UdI n0 bc nc pre D B:=by
 obtain ⟨h1,h2,h3,h4,h5⟩:=h;have lt:∀ {k:Nat} {o:Obj},A.heap[k]?=some o→k < A.heap.size:=fun h=>(zl h)
 exact ⟨h1,(ho.block _ (lt h2) ((h1 _).2 (.inl rfl))).trans h2,(ho.block _ (lt h3) ((h1 _).2 (.inr (.inl rfl)))).trans h3,(ho.block _ (lt h4) ((h1 _).2 (.inr (.inr rfl)))).trans h4,h5⟩
theorem UdX.on {n0 bc:Nat} {nc:Int} (pre:List Ent) (D:Nat→Prop) (A B:World) (h:UdX n0 bc nc pre D A) (ho:OnC D A B):UdX n0 bc nc pre D B:=by
 obtain ⟨h1,h2,h3,h4,h5⟩:=h;have lt:∀ {k:Nat} {o:Obj},A.heap[k]?=some o→k < A.heap.size:=fun h=>(zl h)
 exact ⟨h1,(ho.block _ (lt h2) ((h1 _).2 (.inl rfl))).trans h2,(ho.block _ (lt h3) ((h1 _).2 (.inr (.inl rfl)))).trans h3,(ho.block _ (lt h4) ((h1 _).2 (.inr (.inr rfl)))).trans h4,h5⟩
theorem UdI.lt {n0 bc:Nat} {nc:Int} (pre:List Ent) (D:Nat→Prop) (A:World) (h:UdI n0 bc nc pre D A) (k:Nat) (hk:D k):k < A.heap.size:=by
 obtain ⟨h1,h2,h3,h4,h5⟩:=h
 rcases (h1 k).1 hk with rfl | rfl | rfl
 ·exact (zl h2)
 ·exact (zl h3)
 ·exact (zl h4)
theorem UdX.lt {n0 bc:Nat} {nc:Int} (pre:List Ent) (D:Nat→Prop) (A:World) (h:UdX n0 bc nc pre D A) (k:Nat) (hk:D k):k < A.heap.size:=by
 obtain ⟨h1,h2,h3,h4,h5⟩:=h
 rcases (h1 k).1 hk with rfl | rfl | rfl
 ·exact (zl h2)
 ·exact (zl h3)
 ·exact (zl h4)
section
attribute [local go_sem] Oper.semAt_some
theorem IM {w0 w:World} {R:List Nat} {t d s bt bc:Nat} {E Ys:List Ent} {nc:Int} {v:Bool} (hv:Ys.any (fI nc)=v) (h:TxS w0 R w t d s 640 E) (hb:w.heap[bt]?=some (.cells #[.pointer (some ⟨t,0,none⟩)] 24)) (hc:w.heap[bc]?=some (.cells #[.int .u64 nc] 30)) (hm:(bt∈R∧bt≠t)∧(bc∈R∧bc≠t)∧w0.heap.size≤bc) (hs:SlE E Ys) :
  Calls Tryz.prog 48 #[.pointer (some ⟨bt,0,none⟩),.pointer (some ⟨bc,0,none⟩)] w fun e w' => e=.returned (.tuple #[.bool v,.int .i64 0])∧TxS w0 R w' t d s 640 E∧KeptT R t w w' := by
 have HVV:=Hd hv;clear hv;obtain ⟨n0,hn0⟩:∃ n0,w.heap.size=n0:=⟨_,rfl⟩
 obtain ⟨x1,hx1⟩:∃ x,w.alloc (.cells #[.bool false] 4)=x:=⟨_,rfl⟩
 obtain ⟨x2,hx2⟩:∃ x,x1.alloc (.cells #[.int .i64 0] 27)=x:=⟨_,rfl⟩
 obtain ⟨s1,m1,b1⟩:=bQ hx1 hn0;obtain ⟨s2,m2,b2⟩:=bQ hx2 s1;have b13:Below w.heap.size w x2:=b1.trans (b2.mono (by omega));have n1:=(b2.block n0 (by omega)).trans m1;have hl:=h.lt;obtain ⟨F,hF,hnF,hFl⟩:=h.said;have lF3:=hF.lt;have hT3:=hF.below b13;have HNF:=Hd (And.intro hnF (And.intro hFl lF3));have ht3:=(b13.block bt (hl.1 bt hm.1.1)).trans hb;have hc3:=(b13.block bc (hl.1 bc hm.2.1.1)).trans hc;have lbt:=hl.1 bt hm.1.1;have lbc:=hl.1 bc hm.2.1.1;have f0:=h.from.size;have HW:=Hd (And.intro hl (And.intro f0 (And.intro hn0 hm)));have HT3:=Hd hT3
 have HB:=Hd (And.intro s2 (And.intro m2 (And.intro n1 (And.intro b13 (And.intro ht3 hc3)))));have HX:=Hd (And.intro hx1 hx2);have HSL:=Hd hs;have HFR:=Hd (And.intro h.from (And.intro lbt lbc));have ct:=(aJ ht3).1;have HC0:=Hd (And.intro hc h.from);clear h hb hc hm hs hx1 hx2 s1 s2 m1 m2 b1 b2 b13 n1 hl hT3 ht3 hc3 lbt lbc f0 hF hnF hFl lF3;refine (callsIn_wide (n:=0)).1 (callsIn_of_wp_marks (F:=Fence.wide) (n:=0) Tryz.func48 rfl trivial (wpIn_wide.2 ?_) rfl)
 simp only [Tryz.ntmps48,List.size_toArray,List.length_cons,List.length_nil,Nat.reduceAdd,Nat.reduceSub,Array.replicate_succ,Array.replicate_zero,List.push_toArray,List.append_toArray,List.nil_append,List.cons_append];go_upto_region 1 with fail
 try rw [HX.out.1,HX.out.2]
 try rw [hn0]
 clear hn0;go_wp2_with fail;refine (kW _ t).mono ?_;rintro e w4 ⟨rfl,m4,q4,s4⟩;rw [HB.out.1] at m4 q4 s4 ⊢;clear ct;go_wp2_with fail;have hb:=HB.out;have hw:=HW.out;have hF:=HT3.out;have hnF:=HNF.out.1;have lF3:=HNF.out.2.2;have hT4:=hF.below (by rw [hb.1]; exact q4);have lF:=hT4.lt;have hit:=kV hT4 (by have:=HSL.out.n; omega) HSL.out.s HSL.out.k m4 (by rw [HSL.out.y]; exact HSL.out.ok);rw [HSL.out.y] at hit
 have i4:UdI n0 bc nc [] (fun k=>k=n0∨k=n0 + 1∨k=bc) w4:=⟨fun k=>Iff.rfl,(q4.block _ (by omega)).trans hb.2.2.1,(q4.block _ (by omega)).trans hb.2.1,(q4.block _ (by have:=HFR.out.2.2; omega)).trans hb.2.2.2.2.2,fun e he=>by cases he⟩
 have hbcn:bc < n0:=by have h1:=HFR.out.2.2; have h2:=hw.2.2.1; omega
 have hFn:∀ k,F k→k < n0:=fun k hk=>by have:=lF3.1 k hk; have:=hw.2.2.1; omega
 have TSO:∀ (Wz:World) (D:Nat),TxF w0 F Wz t d s 640 E→Frm (fun k=>(k=n0∨k=n0 + 1∨k=bc)∨GS w0 F t (n0 + 1 + 1) k) w4 Wz→Wz.heap[bc]?=some (.cells #[.int .u64 nc] 30)→w4.heap.size≤D→Wz.heap[D]?=some (.deferred (some []))→TxS w0 (n0 :: (n0 + 1) :: D :: R) Wz t d s 640 E∧KeptT R t w Wz:=by
  intro Wz D hV hfr j3 hDz hdef;have h1:=hw.2.2.1;have h2:=HFR.out.2.2;have h3:=hw.2.1;have h4:=hw.2.2.2;have htn:=hw.1.2;have hDw:=(zl hdef);have hz:=hfr.size;refine ⟨hV.hide fun k hk=>?_,fun k hk hn=>?_⟩
  ·simp only [List.mem_cons] at hk
   rcases hk with rfl | rfl | rfl | hk
   ·exact ⟨by omega,fun e=>by have:=hFn _ e; omega⟩
   ·exact ⟨by omega,fun e=>by have:=hFn _ e; omega⟩
   ·exact ⟨hDw,fun e=>by have:=hFn _ e; omega⟩
   ·exact ⟨by have:=hw.1.1 k hk; omega,hnF k hk⟩
  ·have hkw:=hw.1.1 k hk
   by_cases hkb:k=bc
   ·rw [hkb]; exact j3.trans HC0.out.1.symm
   ·by_cases hk0:k < w0.heap.size
    ·exact (hV.from.block k hk0).trans (HC0.out.2.block k hk0).symm
    ·refine ((hfr.block k (by omega) ?_).trans (q4.block k (by omega))).trans (hb.2.2.2.1.block k hkw)
     rintro ((rfl | rfl | hk') | (hk' | rfl | rfl | hk'))
     ·omega
     ·omega
     ·exact hkb hk'
     ·exact hnF k hk hk'
     ·exact hn rfl
     ·omega
     ·omega
 refine (wpIn_wide (n:=0)).1 (lC rfl (enters_of Tryz.func118 (by kernel_rfl) rfl) hit (fun Wz lz o hz hv=>?_) (fun k hk=>?_) (by intro _; rfl) (fun k=>k=n0∨k=n0 + 1∨k=bc) (fun k hk hg=>?_) (UdI n0 bc nc) (fun c pre D Wz=>c=.ret∧UdX n0 bc nc pre D Wz) UdI.on (fun c s D A B hh ho=>⟨hh.1,UdX.on s D A B hh.2 ho⟩) UdI.lt (fun c s D A hh=>UdX.lt s D A hh.2) i4 ?_ ?_ ?_)
 ·exact hv.frm (bH Wz lz o) fun k hk=>by subst hk; exact ⟨fun e=>by have:=lF.1 _ e; omega,by have:=lF.2.1; omega,by have:=hT4.from.size; omega⟩
 ·rcases hk with hk | rfl | rfl | hk
  ·exact lF.1 _ hk
  ·exact lF.2.1
  ·omega
  ·have:=hT4.from.size; omega
 ·have h1:=hw.2.2.1
  have h2:=HFR.out.2.2;have h3:=hw.2.1;have h4:=hw.2.2.2;have h5:=lF3.1;have hFb:=hnF bc h4.2.1.1;have htn:=hw.1.2
  rcases hk with rfl | rfl | rfl
  ·rcases hg with hg | hg | hg | hg
   ·have:=h5 _ hg; omega
   ·omega
   ·omega
   ·omega
  ·rcases hg with hg | hg | hg | hg
   ·have:=h5 _ hg; omega
   ·omega
   ·omega
   ·omega
  ·rcases hg with hg | hg | hg | hg
   ·exact hFb hg
   ·exact h4.2.1.2 hg
   ·omega
   ·omega
 ·intro l' pre x D Wz hpre hI hD hz hnl hll
  obtain ⟨xk,xv⟩:=x;obtain ⟨q,hq⟩:∃ q:Int,spB xk=q:=⟨_,rfl⟩
  unfold MO;simp only [hq];clear hq;gi_wp2;obtain ⟨Wa,hWa⟩:∃ Wa,Wz.alloc (.cells #[.int .i64 q,.int .i64 (tsC xv),.int .i64 (tsE xv),.int .u64 (tsN xv),.int .i64 0] 92)=Wa:=⟨_,rfl⟩
  obtain ⟨sa,ma,ba⟩:=bQ hWa rfl;rw [hWa];refine ⟨ba,fun Wb hfb hIb=>?_⟩;have mb:=(hfb.block _ (zl ma) (by omega)).trans ma;obtain ⟨z0,z1,z2,z3,z4⟩:=dF mb;have HI:=Hd hIb;have HMB:=Hd mb;obtain ⟨i1,i2,i3,i6,i7⟩:=hIb;have kn:=(aJ i6).1;obtain ⟨by_,hby⟩:∃ b,bX (tsC xv) (tsN xv) nc=b:=⟨_,rfl⟩
  have BE:=Hd (fun w=>sJ q (tsC xv) (tsE xv) (tsN xv) 0 nc w by_ hby);have HBY:=Hd hby;clear sa ma ba hWa hfb mb i1 i2 i3 i6 i7 hby
  gi_wp2_with fail
  refine ⟨trivial,rfl,?_⟩;refine (CallsIn.inRound l' (callsIn_wide.2 (BE.out _))).mono ?_;rintro e w8 ⟨rfl,b8⟩;have I8:=UdI.on _ _ _ _ HI.out (.of_frm (G:=fun _=>False) (Frm.of_below b8) fun _ _ h=>h);have mx8:=(b8.block _ (zl HMB.out)).trans HMB.out;have HI8:=Hd I8;have HB8:=Hd b8;obtain ⟨i1,i2,i3,i6,i7⟩:=I8;clear z0 z1 z2 z3 z4 kn b8
  cases by_
  ·clear i1 i2 i3 i6 i7 mx8
   gi_wp2_with fail
   refine ⟨D,⟨(Frm.of_below (F:=fun _=>False) HB8.out).mono fun _ h=>h.elim,fun k hk=>.inl hk⟩,HI8.out.1,HI8.out.2.1,HI8.out.2.2.1,HI8.out.2.2.2.1,fun e he=>?_⟩
   rcases List.mem_append.1 he with he | he
   ·exact HI8.out.2.2.2.2 e he
   ·obtain rfl:=List.mem_singleton.1 he
    exact HBY.out
  ·obtain ⟨z0,z1,z2,z3,z4⟩:=dF mx8
   obtain ⟨c0,g0⟩:=aJ i2;obtain ⟨c1,g1⟩:=aJ i3
   have RX:Hid (∃ D' : Nat→Prop,Own1 D Wb D' ((w8.setCell ⟨n0,0,none⟩ (.bool true)).setCell ⟨n0 + 1,0,none⟩ (.int .i64 0)).drew∧UdX n0 bc nc (pre ++ [(xk,xv)]) D' ((w8.setCell ⟨n0,0,none⟩ (.bool true)).setCell ⟨n0 + 1,0,none⟩ (.int .i64 0)).drew):=Hd (by
    have fn:Frm (fun k=>k=n0∨k=n0 + 1) w8 ((w8.setCell ⟨n0,0,none⟩ (.bool true)).setCell ⟨n0 + 1,0,none⟩ (.int .i64 0)).drew:=(((Frm.refl (fun k=>k=n0∨k=n0 + 1) w8).setCell ⟨n0,0,none⟩ _ (.inl (.inl rfl))).setCell ⟨n0 + 1,0,none⟩ _ (.inl (.inr rfl))).drew;refine ⟨D,⟨((Frm.of_below (F:=fun _=>False) HB8.out).mono fun _ h=>h.elim).trans fn fun k hk=>.inl ((i1 k).2 (by omega)),fun k hk=>.inl hk⟩,i1,?_,?_,(fn.block _ (zl i6) (by omega)).trans i6,(xk,xv),by simp,HBY.out⟩
    ·show ((w8.setCell ⟨n0,0,none⟩ (.bool true)).setCell ⟨n0 + 1,0,none⟩ (.int .i64 0)).heap[n0]?=_
     rw [heap_setCell_other _ _ _ _ (by show n0≠n0 + 1; omega),hss _ _ 0 _ _ _ i2]
     rfl
    ·show ((w8.setCell ⟨n0,0,none⟩ (.bool true)).setCell ⟨n0 + 1,0,none⟩ (.int .i64 0)).heap[n0 + 1]?=_
     rw [hss _ _ 0 _ _ _ ((heap_setCell_other _ _ _ _ (by show n0 + 1≠n0; omega)).trans i3)]
     rfl)
   clear i1 i2 i3 i6 i7 mx8
   gi_wp2_with fail
   gi_region
   all_goals gi_wp2_with fail
   all_goals exact (let ⟨D9,k1,k2⟩:=RX.out; ⟨D9,k1,rfl,k2⟩)
 ·intro D C' Wz hDz hI hV hfr hC' hnD hdef
  obtain ⟨j1,j2,j3,j6,j7⟩:=hI;have h1:=hw.2.2.1;have h2:=HFR.out.2.2;have h3:=hw.2.1;obtain ⟨T0,K0⟩:=TSO Wz D hV hfr j6 hDz hdef
  have hDn:n0≠D∧n0 + 1≠D∧w0.heap.size≤D∧w0.heap.size≤n0∧w0.heap.size≤n0 + 1∧D≠t∧n0≠t∧n0 + 1≠t:=by
   have:=hw.1.2;have:=q4.size;omega
  have hRD:∀ k∈R,k≠n0∧k≠n0 + 1∧k≠D:=fun k hk=>by have:=hw.1.1 k hk; have:=q4.size; omega
  obtain ⟨c0,g0⟩:=aJ j2;obtain ⟨c1,g1⟩:=aJ j3;have hany:Ys.any (fI nc)=false:=by rw [List.any_eq_false]; intro e he; simp [j7 e he]
  have HAN:Hid (v=false):=Hd (HVV.out.symm.trans hany);obtain ⟨y6,hy6⟩:∃ y6,(Wz.setCell ⟨n0,0,none⟩ (.bool false)).setCell ⟨n0 + 1,0,none⟩ (.int .i64 0)=y6:=⟨_,rfl⟩
  have f6:Frm (fun k=>k=n0∨k=n0 + 1) Wz y6:=by rw [← hy6]; exact ((Frm.refl (fun k=>k=n0∨k=n0 + 1) Wz).setCell ⟨n0,0,none⟩ _ (.inl (.inl rfl))).setCell ⟨n0 + 1,0,none⟩ _ (.inl (.inr rfl))
  have s0:y6.heap[n0]?=some (.cells #[.bool false] 4):=by
   rw [← hy6,heap_setCell_other _ _ _ _ (by show n0≠n0 + 1; omega),hss _ _ 0 _ _ _ j2]
   rfl
  have s1:y6.heap[n0 + 1]?=some (.cells #[.int .i64 0] 27):=by
   rw [← hy6,hss _ _ 0 _ _ _ ((heap_setCell_other _ _ _ _ (by show n0 + 1≠n0; omega)).trans j3)]
   rfl
  have T6:TxS w0 (n0 :: (n0 + 1) :: D :: R) y6 t d s 640 E:=by
   rw [← hy6];exact (T0.turn (k:=n0) (by simp) (by omega) (by omega) ((Frm.refl (fun k=>k=n0) Wz).setCell ⟨n0,0,none⟩ _ (.inl rfl))).turn (k:=n0 + 1) (by simp) (by omega) (by omega) ((Frm.refl (fun k=>k=n0 + 1) _).setCell ⟨n0 + 1,0,none⟩ _ (.inl rfl))
  have d6:=(f6.block D (zl hdef) (by omega)).trans hdef;have HM:Hid (Marks y6 [D]):=Hd ((Marks.nil y6).cons (by simp) d6)
  have FIN:Hid (∀ W', Frm (fun k=>k∈[D]) y6 W'→W'.cell? ⟨n0,0,none⟩=some (.bool false)∧W'.cell? ⟨n0 + 1,0,none⟩=some (.int .i64 0)∧TxS w0 R W' t d s 640 E∧KeptT R t w W'):=Hd fun W' hm=>by
   have lt6:=T6.lt.1;refine ⟨(aJ ((hm.block n0 (lt6 n0 (by simp)) (by simpa using hDn.1)).trans s0)).1,(aJ ((hm.block (n0 + 1) (lt6 (n0 + 1) (by simp)) (by simpa using hDn.2.1)).trans s1)).1,?_,fun k hk hn=>?_⟩
   ·exact (T6.turn (k:=D) (by simp) (by omega) (by omega) (hm.mono fun k hk=>by simpa using hk)).sub fun k hk=>by simp [hk]
   ·have hy:=hRD k hk
    exact (hm.block k (lt6 k (by simp [hk])) (by simpa using hy.2.2)).trans ((f6.block k (T0.lt.1 k (by simp [hk])) (by omega)).trans (K0 k hk hn))
  have HY6:=Hd hy6;clear hit hfr hC' hnD hdef j1 j2 j3 j6 j7 hV i4 TSO T0 K0 f6 s0 s1 T6 d6 hy6 hany hF hnF lF3 hT4 lF hFn hb q4 s4 m4 hw h1 h2 h3 hDn hRD hbcn hDz;go_wp2_with fail;rw [HY6.out];refine eJ [D] _ HM.out fun W' hm=>?_
  obtain ⟨u0,u1,u2,u3⟩:=FIN.out W' hm;exact ⟨_,jL (fn:=Tryz.f48) rfl _ W' _ _ _ _ rfl rfl (iJ rfl Tryz.underlying4 u0) (iJ rfl Tryz.underlying27 u1),by rw [HAN.out],u2,u3⟩
 ·rintro D c pre C' Wz hDz hpre ⟨rfl,j1,j2,j3,j6,j7⟩ hV hfr hC' hnD hdef
  have h1:=hw.2.2.1;have h2:=HFR.out.2.2;have h3:=hw.2.1;obtain ⟨T0,K0⟩:=TSO Wz D hV hfr j6 hDz hdef
  have hDn:n0≠D∧n0 + 1≠D∧w0.heap.size≤D∧w0.heap.size≤n0∧w0.heap.size≤n0 + 1∧D≠t∧n0≠t∧n0 + 1≠t:=by
   have:=hw.1.2;have:=q4.size;omega
  have hRD:∀ k∈R,k≠n0∧k≠n0 + 1∧k≠D:=fun k hk=>by have:=hw.1.1 k hk; have:=q4.size; omega
  have hany:Ys.any (fI nc)=true:=by obtain ⟨e,h8,h9⟩:=j7; exact List.any_eq_true.2 ⟨e,hpre.subset h8,h9⟩
  have HAN:Hid (v=true):=Hd (HVV.out.symm.trans hany);refine wpIn_wide.2 ?_;have HM:Hid (Marks Wz [D]):=Hd ((Marks.nil Wz).cons (by simp) hdef)
  have FIN:Hid (∀ W', Frm (fun k=>k∈[D]) Wz W'→W'.cell? ⟨n0,0,none⟩=some (.bool true)∧W'.cell? ⟨n0 + 1,0,none⟩=some (.int .i64 0)∧TxS w0 R W' t d s 640 E∧KeptT R t w W'):=Hd fun W' hm=>by
   have lt6:=T0.lt.1;refine ⟨(aJ ((hm.block n0 (lt6 n0 (by simp)) (by simpa using hDn.1)).trans j2)).1,(aJ ((hm.block (n0 + 1) (lt6 (n0 + 1) (by simp)) (by simpa using hDn.2.1)).trans j3)).1,?_,fun k hk hn=>?_⟩
   ·exact (T0.turn (k:=D) (by simp) (by omega) (by omega) (hm.mono fun k hk=>by simpa using hk)).sub fun k hk=>by simp [hk]
   ·have hy:=hRD k hk
    exact (hm.block k (lt6 k (by simp [hk])) (by simpa using hy.2.2)).trans (K0 k hk hn)
  clear hit hfr hC' hnD hdef j1 j2 j3 j6 j7 hV i4 TSO T0 K0 hany hF hnF lF3 hT4 lF hFn hb q4 s4 m4 hw h1 h2 h3 hDn hRD hbcn hDz hpre;go_wp2_with fail;refine eJ [D] _ HM.out fun W' hm=>?_
  obtain ⟨u0,u1,u2,u3⟩:=FIN.out W' hm;exact ⟨_,jL (fn:=Tryz.f48) rfl _ W' _ _ _ _ rfl rfl (iJ rfl Tryz.underlying4 u0) (iJ rfl Tryz.underlying27 u1),by rw [HAN.out],u2,u3⟩
end
theorem GX {w0 w:World} {R:List Nat} {t d s n b c:Nat} {E E' : List Ent} {k:Nat} {caps:Array Value} {x:Bool} {e:Int} (h:TxS w0 R w t d s n E) (hb:w.heap[b]?=some (.cells #[.func (.func k) #[] caps] 94)) (hc:w.heap[c]?=some (.cells #[.bool false] 4)) (hcR:c∈R) (hct:c≠t) (hc0:w0.heap.size≤c)
  (hk:∀ w,(callFunc k caps).run Tryz.prog w=.ok (.enter k caps) w) (HC:Calls Tryz.prog k caps w fun e' w' => e'=.returned (.tuple #[.bool x,.int .i64 e])∧TxS w0 R w' t d s n E'∧KeptT R t w w') :
  Calls Tryz.prog 117 #[.pointer (some ⟨b,0,none⟩),.pointer (some ⟨c,0,none⟩)] w fun e' w' => e'=.returned (.int .i64 e)∧TxS w0 R w' t d s n E'∧w'.heap[c]?=some (.cells #[.bool x] 4)∧∀ k∈R,k≠t→k≠c→w'.heap[k]?=w.heap[k]?:=by
 have cb:=(aJ hb).1;have H:=Hd HC;have HX:=Hd (And.intro hc (And.intro hcR (And.intro hct hc0)));clear h hb hc hcR hct hc0 HC;go_enter Tryz.func117,Tryz.ntmps117;go_wp2_with fail;refine H.out.mono ?_;rintro e' w1 ⟨rfl,h1,h2⟩;have hc1:=(h2 c HX.out.2.1 HX.out.2.2.1).trans HX.out.1;obtain ⟨c1,g1⟩:=aJ hc1
 have FIN:Hid (TxS w0 R (w1.setCell ⟨c,0,none⟩ (.bool x)) t d s n E'∧(w1.setCell ⟨c,0,none⟩ (.bool x)).heap[c]?=some (.cells #[.bool x] 4)∧∀ k∈R,k≠t→k≠c→(w1.setCell ⟨c,0,none⟩ (.bool x)).heap[k]?=w.heap[k]?):=Hd (by
  have f:=fS (w:=w1) (b:=c) (i:=0) (.bool x);refine ⟨h1.turn HX.out.2.1 HX.out.2.2.1 HX.out.2.2.2 f,?_,fun k hk hn hnc=>(f.block k (h1.lt.1 k hk) hnc).trans (h2 k hk hn)⟩;rw [hss _ _ 0 _ _ _ hc1]; rfl)
 clear h1 h2 hc1 cb;go_wp2_with fail;go_ret;exact ⟨rfl,FIN.out⟩
theorem zW {w0 w:World} {R:List Nat} {t d s n:Nat} {E E' : List Ent} {k:Nat} {caps:Array Value} {x y:Bool} {e:Int} (h:TxS w0 R w t d s n E) (he:(e=0∧y=x)∨(e≠0∧y=false))
  (hk:∀ w,(callFunc k caps).run Tryz.prog w=.ok (.enter k caps) w) (HC:∀ R' wa,(∀ k∈R,k∈R')→TxS w0 R' wa t d s n E→KeptT R t w wa→Calls Tryz.prog k caps wa fun e' w' => e'=.returned (.tuple #[.bool x,.int .i64 e])∧TxS w0 R' w' t d s n E'∧KeptT R' t wa w') :
  Calls Tryz.prog 47 #[.pointer (some ⟨t,0,none⟩),.func (.func k) #[] caps] w fun e' w' => e'=.returned (.tuple #[.bool y,.int .i64 e])∧TxS w0 R w' t d s n E'∧KeptT R t w w' := by
 obtain ⟨a1,a2,a3,a4,a5,a6,a7⟩:=h.box (.cells #[.func (.func k) #[] caps] 94);obtain ⟨x1,hx1⟩:∃ x1,w.alloc (.cells #[.func (.func k) #[] caps] 94)=x1:=⟨_,rfl⟩
 rw [hx1] at a1 a2 a3 a5;obtain ⟨b1,b2,b3,b4,b5,b6,b7⟩:=a1.box (.cells #[.bool false] 4);obtain ⟨x2,hx2⟩:∃ x2,x1.alloc (.cells #[.bool false] 4)=x2:=⟨_,rfl⟩
 rw [hx2] at b1 b2 b3 b5;rw [a5] at b1 b3 b4 b5 b6 b7;have hbk:=(b2 w.heap.size (by simp) a4).trans a3;have HK:=HC ((w.heap.size + 1) :: w.heap.size :: R) x2 (fun k hk=>by simp [hk]) b1 (a2.trans (b2.sub (fun k hk=>by simp [hk])));have V1:=Hd (qO b1 (fun w=>by kernel_rfl) (GX b1 hbk b3 (by simp) b4 b6 hk HK));have KP:=Hd (And.intro a2 (And.intro b2 (And.intro a7 b7)));have HE:=Hd he;have X1:=Hd hx1;have X2:=Hd hx2;clear h he HC a1 a2 a3 a4 a6 a7 b1 b2 b3 b4 b5 b6 b7 hbk HK hx1 hx2;have A5:=Hd a5;clear a5;go_enter Tryz.func47,Tryz.ntmps47
 go_upto_region 2 with fail
 try simp only [Nat.add_assoc,Nat.reduceAdd,World.heap_size_alloc]
 rw [X1.out,X2.out];go_wp2_with fail;refine V1.out.mono ?_;rintro e' w4 ⟨rfl,h1,h2,h3⟩;have c2:=(aJ h2).1;have FIN:Hid (TxS w0 R w4 t d s n E'∧KeptT R t w w4):=Hd ⟨h1.sub (fun k hk=>by simp [hk]),fun k hk hn=>(h3 k (by simp [hk]) hn (KP.out.2.2.2 k (by simp [hk]))).trans ((KP.out.2.1 k (by simp [hk]) hn).trans (KP.out.1 k hk hn))⟩;clear h1 h2 h3 V1
 rcases HE.out with ⟨rfl,rfl⟩ | ⟨hne,rfl⟩
 ·go_wp2_with fail
  go_ret2;exact ⟨rfl,FIN.out⟩
 ·have hn1:(e == 0)=false:=by simpa using hne
  have hn2:(e != 0)=true:=by simp [hne]
  clear hne;go_wp2_with fail;go_ret2;exact ⟨rfl,FIN.out⟩
theorem NJ {w0 w:World} {R:List Nat} {t d s n:Nat} {E E' : List Ent} {nc:Int} {x y:Bool} {e:Int} (h:TxS w0 R w t d s n E) (he:(e=0∧y=x)∨(e≠0∧y=false))
  (HC:∀ (R' : List Nat) (wa:World) (b0 b1:Nat),TxS w0 R' wa t d s n E→(wa.heap[b0]?=some (.cells #[.pointer (some ⟨t,0,none⟩)] 24))→(wa.heap[b1]?=some (.cells #[.int .u64 nc] 30))→((b0∈R'∧b0≠t∧w0.heap.size≤b0)∧(b1∈R'∧b1≠t∧w0.heap.size≤b1))→Calls Tryz.prog 48 #[.pointer (some ⟨b0,0,none⟩),.pointer (some ⟨b1,0,none⟩)] wa fun e' w' => e'=.returned (.tuple #[.bool x,.int .i64 e])∧TxS w0 R' w' t d s n E'∧KeptT R' t wa w') :
  Calls Tryz.prog 17 #[.pointer (some ⟨t,0,none⟩),.int .u64 nc] w fun e' w' => e'=.returned (.tuple #[.bool y,.int .i64 e])∧TxS w0 R w' t d s n E'∧KeptT R t w w' := by
 obtain ⟨a1,a2,a3,a4,a5,a6,a7⟩:=h.box (.cells #[.pointer (some ⟨t,0,none⟩)] 24);obtain ⟨x1,hx1⟩:∃ x1,w.alloc (.cells #[.pointer (some ⟨t,0,none⟩)] 24)=x1:=⟨_,rfl⟩
 rw [hx1] at a1 a2 a3 a5;obtain ⟨b1,b2,b3,b4,b5,b6,b7⟩:=a1.box (.cells #[.int .u64 nc] 30);obtain ⟨x2,hx2⟩:∃ x2,x1.alloc (.cells #[.int .u64 nc] 30)=x2:=⟨_,rfl⟩
 rw [hx2] at b1 b2 b3 b5;rw [a5] at b1 b3 b4 b5 b6 b7;have hkw:KeptT R t w x2:=a2.trans (b2.sub (fun k hk=>by simp [hk]))
 have VC:=Hd (zW (hk:=fun w=>by kernel_rfl) (n:=n) (E' := E') (x:=x) (e:=e) (y:=y) (caps:=#[.pointer (some ⟨w.heap.size,0,none⟩),.pointer (some ⟨w.heap.size + 1,0,none⟩)]) b1 he (fun R' wa hs hT hK=>HC R' wa (w.heap.size) (w.heap.size + 1) hT ((hK (w.heap.size) (by simp) a4).trans ((b2 (w.heap.size) (by simp) a4).trans (a3))) ((hK (w.heap.size + 1) (by simp) b4).trans (b3)) ⟨⟨hs (w.heap.size) (by simp),a4,a6⟩,⟨hs (w.heap.size + 1) (by simp),b4,b6⟩⟩));have KP:=Hd hkw;have bx:=(aJ ((b2 (w.heap.size) (by simp) a4).trans (a3))).1
 have X1:=Hd (And.intro hx1 hx2);clear h he HC hkw a1 a2 a3 a4 a5 a6 a7 b1 b2 b3 b4 b5 b6 b7 hx1 hx2;go_enter Tryz.func17,Tryz.ntmps17;go_upto_region 1 with fail
 try simp only [World.heap_size_alloc]
 rw [X1.out.1,X1.out.2];go_wp2_with fail;refine VC.out.mono ?_;rintro e' w2 ⟨rfl,h1,h2⟩;have FIN:Hid (TxS w0 R w2 t d s n E'∧KeptT R t w w2):=Hd ⟨h1.sub (fun k hk=>by simp [hk]),KP.out.trans (h2.sub (fun k hk=>by simp [hk]))⟩;clear h1 h2 VC bx;go_wp2_with fail;go_ret2;exact ⟨rfl,FIN.out⟩
theorem uQ {w0 w:World} {R:List Nat} {t d s:Nat} {E Ys:List Ent} {nc:Int} (h:TxS w0 R w t d s 640 E) (hs:SlE E Ys) :
  Calls Tryz.prog 17 #[.pointer (some ⟨t,0,none⟩),.int .u64 nc] w fun e' w' => e'=.returned (.tuple #[.bool (Ys.any (fI nc)),.int .i64 0])∧TxS w0 R w' t d s 640 E∧KeptT R t w w' :=
 NJ h (.inl ⟨rfl,rfl⟩) fun R' wa b0 b1 hT h0 h1 hm=>IM rfl hT h0 h1 ⟨⟨hm.1.1,hm.1.2.1⟩,⟨hm.2.1,hm.2.2.1⟩,hm.2.2.2⟩ hs
theorem JB {w0 w:World} {R:List Nat} {t d s:Nat} {L:List (Int × Int × Int)} {nc:Int} (h:TxS w0 R w t d s 640 (slE 0 L)) (hL:SlL L) (hbu:∀ x∈L,bX x.1 x.2.2 nc=false) :
  Calls Tryz.prog 17 #[.pointer (some ⟨t,0,none⟩),.int .u64 nc] w fun e w' => e=.returned (.tuple #[.bool false,.int .i64 0])∧TxS w0 R w' t d s 640 (slE 0 L)∧KeptT R t w w' := by
 have e:(slE 0 L).any (fI nc)=false:=by rw [List.any_eq_false]; intro x hx; simp [qR hL nc hbu x hx]
 have:=uQ (nc:=nc) h (nB hL);rw [e] at this;exact this
theorem DF {w0 w:World} {R:List Nat} {t d s:Nat} {L:List (Int × Int × Int)} {nc:Int} (h:TxS w0 R w t d s 640 (slE 0 L)) (hL:SlL L) {j:Nat} {x:Int × Int × Int} (hx:L[j]?=some x) (hb:bX x.1 x.2.2 nc=true) :
  Calls Tryz.prog 17 #[.pointer (some ⟨t,0,none⟩),.int .u64 nc] w fun e w' => e=.returned (.tuple #[.bool true,.int .i64 0])∧TxS w0 R w' t d s 640 (slE 0 L)∧KeptT R t w w' := by
 obtain ⟨e,he,hb'⟩:=kS hL nc hx hb;have e:(slE 0 L).any (fI nc)=true:=List.any_eq_true.2 ⟨e,he,hb'⟩;have:=uQ (nc:=nc) h (nB hL);rw [e] at this;exact this
end Go.Proofs.YtblbiihpfjjhhaaGreatDoor
