/-
 Sq, Sa, Sf, Sg, So, Sv, Su, Hw, Ls, ShaMath, Arr, Sha1.
-/
import Derived.Test.YthcejfnngkmojaaGreatDoorO18
import Derived.Maps.OwnIn
import Derived.Test.YthcejfnngkmojaaGreatDoorO17
import Derived.Test.YthcejfnngkmojaaGreatDoorO15
import Derived.Test.YthcejfnngkmojaaGreatDoorO02
import Derived.Test.YthcejfnngkmojaaGreatDoorO03
import Derived.Test.YthcejfnngkmojaaGreatDoorO05
import Derived.Laws.Rows
import Derived.Laws.Tables
import Derived.BigRegion
import Derived.Outline
namespace Go.Proofs.YthcejfnngkmojaaGreatDoor
open Go Go.RowKit
set_option maxRecDepth 20000
set_option maxHeartbeats 12800000
set_option linter.unusedVariables false
set_option linter.unusedSimpArgs false
theorem zH {w0 w:World} {R:List Nat} {t d s n:Nat} {E E' : List Ent} {cap nc:Int} {id ca ep nn e id' ca' ep' nn' : Int} (h:TxS w0 R w t d s n E) (he:(e = 0 ∧ id' = id ∧ ca' = ca ∧ ep' = ep ∧ nn' = nn) ∨ (e ≠ 0 ∧ id' = 0 ∧ ca' = 0 ∧ ep' = 0 ∧ nn' = 0))
  (HC:∀ (R' : List Nat) (wa:World) (b0 b1 b2:Nat),TxS w0 R' wa t d s n E → (wa.heap[b0]? = some (.cells #[.pointer (some ⟨t,0,none⟩)] 24)) → (wa.heap[b1]? = some (.cells #[.int .i64 cap] 3)) → (wa.heap[b2]? = some (.cells #[.int .u64 nc] 35)) → ((b0 ∈ R' ∧ b0 ≠ t) ∧ (b1 ∈ R' ∧ b1 ≠ t) ∧ (b2 ∈ R' ∧ b2 ≠ t)) → Calls Tryz.prog 56 #[.pointer (some ⟨b1,0,none⟩),.pointer (some ⟨b0,0,none⟩),.pointer (some ⟨b2,0,none⟩)] wa fun e' w' => e' = .returned (.tuple #[.agg #[.int .i64 id,.int .i64 ca,.int .i64 ep,.int .u64 nn],.int .i64 e]) ∧ TxS w0 R' w' t d s n E' ∧ KeptT R' t wa w') :
  Calls Tryz.prog 22 #[.pointer (some ⟨t,0,none⟩),.int .i64 cap,.int .u64 nc] w fun e' w' => e' = .returned (.tuple #[.agg #[.int .i64 id', .int .i64 ca', .int .i64 ep', .int .u64 nn'],.int .i64 e]) ∧ TxS w0 R w' t d s n E' ∧ KeptT R t w w' := by
 obtain ⟨a1,a2,a3,a4,a5,a6,a7⟩:=h.box (.cells #[.pointer (some ⟨t,0,none⟩)] 24);obtain ⟨x1,hx1⟩:∃ x1,w.alloc (.cells #[.pointer (some ⟨t,0,none⟩)] 24) = x1:=⟨_,rfl⟩
 rw [hx1] at a1 a2 a3 a5;obtain ⟨b1,b2,b3,b4,b5,b6,b7⟩:=a1.box (.cells #[.int .i64 cap] 3);obtain ⟨x2,hx2⟩:∃ x2,x1.alloc (.cells #[.int .i64 cap] 3) = x2:=⟨_,rfl⟩
 rw [hx2] at b1 b2 b3 b5;rw [a5] at b1 b3 b4 b5 b6 b7;obtain ⟨c1,c2,c3,c4,c5,c6,c7⟩:=b1.box (.cells #[.int .u64 nc] 35);obtain ⟨x3,hx3⟩:∃ x3,x2.alloc (.cells #[.int .u64 nc] 35) = x3:=⟨_,rfl⟩
 rw [hx3] at c1 c2 c3 c5;rw [b5] at c1 c3 c4 c5 c6 c7;obtain ⟨d1,d2,d3,d4,d5,d6,d7⟩:=c1.box (.cells #[.int .i64 0,.int .i64 0,.int .i64 0,.int .u64 0] 37);obtain ⟨x4,hx4⟩:∃ x4,x3.alloc (.cells #[.int .i64 0,.int .i64 0,.int .i64 0,.int .u64 0] 37) = x4:=⟨_,rfl⟩
 rw [hx4] at d1 d2 d3 d5;rw [c5] at d1 d3 d4 d5 d6 d7;have hkw:KeptT R t w x4:=a2.trans ((b2.sub (fun k hk=>by simp [hk])).trans ((c2.sub (fun k hk=>by simp [hk])).trans (d2.sub (fun k hk=>by simp [hk]))))
 have VC:=Hd (vF (hk:=fun w=>by kernel_rfl) (n:=n) (E' := E') (caps:=#[.pointer (some ⟨w.heap.size + 1,0,none⟩),.pointer (some ⟨w.heap.size,0,none⟩),.pointer (some ⟨w.heap.size + 1 + 1,0,none⟩)]) d1 he (fun R' wa hs hT hK=>HC R' wa (w.heap.size) (w.heap.size + 1) (w.heap.size + 1 + 1) hT ((hK (w.heap.size) (by simp) a4).trans ((d2 (w.heap.size) (by simp) a4).trans ((c2 (w.heap.size) (by simp) a4).trans ((b2 (w.heap.size) (by simp) a4).trans (a3))))) ((hK (w.heap.size + 1) (by simp) b4).trans ((d2 (w.heap.size + 1) (by simp) b4).trans ((c2 (w.heap.size + 1) (by simp) b4).trans (b3)))) ((hK (w.heap.size + 1 + 1) (by simp) c4).trans ((d2 (w.heap.size + 1 + 1) (by simp) c4).trans (c3))) ⟨⟨hs (w.heap.size) (by simp),a4⟩,⟨hs (w.heap.size + 1) (by simp),b4⟩,⟨hs (w.heap.size + 1 + 1) (by simp),c4⟩⟩))
 have KP:=Hd (And.intro hkw (And.intro d3 (And.intro d4 (And.intro d6 (show ∀ k ∈ R,k ≠ w.heap.size + 1 + 1 + 1 from fun k hk=>d7 k (by simp [hk]))))));have bx:=(aF ((d2 (w.heap.size) (by simp) a4).trans ((c2 (w.heap.size) (by simp) a4).trans ((b2 (w.heap.size) (by simp) a4).trans (a3))))).1;have X1:=Hd (And.intro hx1 (And.intro hx2 (And.intro hx3 hx4)));clear h he HC hkw a1 a2 a3 a4 a5 a6 a7 b1 b2 b3 b4 b5 b6 b7 c1 c2 c3 c4 c5 c6 c7 d1 d2 d3 d4 d5 d6 d7 hx1 hx2 hx3 hx4;go_enter Tryz.func22,Tryz.ntmps22;go_upto_region 1 with fail
 try simp only [World.heap_size_alloc]
 rw [X1.out.1,X1.out.2.1,X1.out.2.2.1,X1.out.2.2.2];go_wp2_with fail;refine VC.out.mono ?_;rintro e' w2 ⟨rfl,h1,h2⟩;have r4:=(h2 (w.heap.size + 1 + 1 + 1) (by simp) KP.out.2.2.1).trans KP.out.2.1;obtain ⟨⟨y0,y1,y2,y3⟩,u0,u1,u2,u3⟩:=aR r4;obtain ⟨n1,n2⟩:=set4 r4 (.int .i64 id') (.int .i64 ca') (.int .i64 ep') (.int .u64 nn')
 have FIN:Hid ((st4 w2 (w.heap.size + 1 + 1 + 1) (.int .i64 id') (.int .i64 ca') (.int .i64 ep') (.int .u64 nn')).heap[w.heap.size + 1 + 1 + 1]? = some (.cells #[.int .i64 id', .int .i64 ca', .int .i64 ep', .int .u64 nn'] 37) ∧ TxS w0 R (st4 w2 (w.heap.size + 1 + 1 + 1) (.int .i64 id') (.int .i64 ca') (.int .i64 ep') (.int .u64 nn')) t d s n E' ∧ KeptT R t w (st4 w2 (w.heap.size + 1 + 1 + 1) (.int .i64 id') (.int .i64 ca') (.int .i64 ep') (.int .u64 nn'))):=Hd (by
  refine ⟨n1,(h1.turn (k:=w.heap.size + 1 + 1 + 1) (by simp) KP.out.2.2.1 KP.out.2.2.2.1 n2).sub (fun k hk=>by simp [hk]),fun k hk hn=>?_⟩;exact (n2.block k (h1.lt.1 k (by simp [hk])) (KP.out.2.2.2.2 k hk)).trans ((h2 k (by simp [hk]) hn).trans (KP.out.1 k hk hn)))
 clear h1 h2 VC r4 n1 n2 bx;unfold st4 at FIN;go_wp2_with fail;exact bodyPost_ret (v:=.tuple #[.agg #[.int .i64 id', .int .i64 ca', .int .i64 ep', .int .u64 nn'],.int .i64 e]) (aI (fn:=Tryz.f22) rfl _ _ (w.heap.size + 1 + 1 + 1) 37 _ (0,0) _ _ rfl rfl FIN.out.1 Tryz.underlying37 rfl dD) rfl ⟨rfl,FIN.out.2⟩
theorem aCH {w0 w:World} {R:List Nat} {t d s n:Nat} {E E' : List Ent} {ii:Int} {id ca ep nn e id' ca' ep' nn' : Int} (h:TxS w0 R w t d s n E) (he:(e = 0 ∧ id' = id ∧ ca' = ca ∧ ep' = ep ∧ nn' = nn) ∨ (e ≠ 0 ∧ id' = 0 ∧ ca' = 0 ∧ ep' = 0 ∧ nn' = 0))
  (HC:∀ (R' : List Nat) (wa:World) (b0 b1:Nat),TxS w0 R' wa t d s n E → (wa.heap[b0]? = some (.cells #[.pointer (some ⟨t,0,none⟩)] 24)) → (wa.heap[b1]? = some (.cells #[.int .i64 ii] 3)) → ((b0 ∈ R' ∧ b0 ≠ t) ∧ (b1 ∈ R' ∧ b1 ≠ t)) → Calls Tryz.prog 61 #[.pointer (some ⟨b1,0,none⟩),.pointer (some ⟨b0,0,none⟩)] wa fun e' w' => e' = .returned (.tuple #[.agg #[.int .i64 id,.int .i64 ca,.int .i64 ep,.int .u64 nn],.int .i64 e]) ∧ TxS w0 R' w' t d s n E' ∧ KeptT R' t wa w') :
  Calls Tryz.prog 24 #[.pointer (some ⟨t,0,none⟩),.int .i64 ii] w fun e' w' => e' = .returned (.tuple #[.agg #[.int .i64 id', .int .i64 ca', .int .i64 ep', .int .u64 nn'],.int .i64 e]) ∧ TxS w0 R w' t d s n E' ∧ KeptT R t w w' := by
 obtain ⟨a1,a2,a3,a4,a5,a6,a7⟩:=h.box (.cells #[.pointer (some ⟨t,0,none⟩)] 24);obtain ⟨x1,hx1⟩:∃ x1,w.alloc (.cells #[.pointer (some ⟨t,0,none⟩)] 24) = x1:=⟨_,rfl⟩
 rw [hx1] at a1 a2 a3 a5;obtain ⟨b1,b2,b3,b4,b5,b6,b7⟩:=a1.box (.cells #[.int .i64 ii] 3);obtain ⟨x2,hx2⟩:∃ x2,x1.alloc (.cells #[.int .i64 ii] 3) = x2:=⟨_,rfl⟩
 rw [hx2] at b1 b2 b3 b5;rw [a5] at b1 b3 b4 b5 b6 b7;obtain ⟨c1,c2,c3,c4,c5,c6,c7⟩:=b1.box (.cells #[.int .i64 0,.int .i64 0,.int .i64 0,.int .u64 0] 37);obtain ⟨x3,hx3⟩:∃ x3,x2.alloc (.cells #[.int .i64 0,.int .i64 0,.int .i64 0,.int .u64 0] 37) = x3:=⟨_,rfl⟩
 rw [hx3] at c1 c2 c3 c5;rw [b5] at c1 c3 c4 c5 c6 c7;have hkw:KeptT R t w x3:=a2.trans ((b2.sub (fun k hk=>by simp [hk])).trans (c2.sub (fun k hk=>by simp [hk])))
 have VC:=Hd (vF (hk:=fun w=>by kernel_rfl) (n:=n) (E' := E') (caps:=#[.pointer (some ⟨w.heap.size + 1,0,none⟩),.pointer (some ⟨w.heap.size,0,none⟩)]) c1 he (fun R' wa hs hT hK=>HC R' wa (w.heap.size) (w.heap.size + 1) hT ((hK (w.heap.size) (by simp) a4).trans ((c2 (w.heap.size) (by simp) a4).trans ((b2 (w.heap.size) (by simp) a4).trans (a3)))) ((hK (w.heap.size + 1) (by simp) b4).trans ((c2 (w.heap.size + 1) (by simp) b4).trans (b3))) ⟨⟨hs (w.heap.size) (by simp),a4⟩,⟨hs (w.heap.size + 1) (by simp),b4⟩⟩))
 have KP:=Hd (And.intro hkw (And.intro c3 (And.intro c4 (And.intro c6 (show ∀ k ∈ R,k ≠ w.heap.size + 1 + 1 from fun k hk=>c7 k (by simp [hk]))))));have bx:=(aF ((c2 (w.heap.size) (by simp) a4).trans ((b2 (w.heap.size) (by simp) a4).trans (a3)))).1;have X1:=Hd (And.intro hx1 (And.intro hx2 hx3));clear h he HC hkw a1 a2 a3 a4 a5 a6 a7 b1 b2 b3 b4 b5 b6 b7 c1 c2 c3 c4 c5 c6 c7 hx1 hx2 hx3;go_enter Tryz.func24,Tryz.ntmps24;go_upto_region 1 with fail
 try simp only [World.heap_size_alloc]
 rw [X1.out.1,X1.out.2.1,X1.out.2.2];go_wp2_with fail;refine VC.out.mono ?_;rintro e' w2 ⟨rfl,h1,h2⟩;have r4:=(h2 (w.heap.size + 1 + 1) (by simp) KP.out.2.2.1).trans KP.out.2.1;obtain ⟨⟨y0,y1,y2,y3⟩,u0,u1,u2,u3⟩:=aR r4;obtain ⟨n1,n2⟩:=set4 r4 (.int .i64 id') (.int .i64 ca') (.int .i64 ep') (.int .u64 nn')
 have FIN:Hid ((st4 w2 (w.heap.size + 1 + 1) (.int .i64 id') (.int .i64 ca') (.int .i64 ep') (.int .u64 nn')).heap[w.heap.size + 1 + 1]? = some (.cells #[.int .i64 id', .int .i64 ca', .int .i64 ep', .int .u64 nn'] 37) ∧ TxS w0 R (st4 w2 (w.heap.size + 1 + 1) (.int .i64 id') (.int .i64 ca') (.int .i64 ep') (.int .u64 nn')) t d s n E' ∧ KeptT R t w (st4 w2 (w.heap.size + 1 + 1) (.int .i64 id') (.int .i64 ca') (.int .i64 ep') (.int .u64 nn'))):=Hd (by
  refine ⟨n1,(h1.turn (k:=w.heap.size + 1 + 1) (by simp) KP.out.2.2.1 KP.out.2.2.2.1 n2).sub (fun k hk=>by simp [hk]),fun k hk hn=>?_⟩;exact (n2.block k (h1.lt.1 k (by simp [hk])) (KP.out.2.2.2.2 k hk)).trans ((h2 k (by simp [hk]) hn).trans (KP.out.1 k hk hn)))
 clear h1 h2 VC r4 n1 n2 bx;unfold st4 at FIN;go_wp2_with fail;exact bodyPost_ret (v:=.tuple #[.agg #[.int .i64 id', .int .i64 ca', .int .i64 ep', .int .u64 nn'],.int .i64 e]) (aI (fn:=Tryz.f24) rfl _ _ (w.heap.size + 1 + 1) 37 _ (0,0) _ _ rfl rfl FIN.out.1 Tryz.underlying37 rfl dD) rfl ⟨rfl,FIN.out.2⟩
theorem zG {w0 w:World} {R:List Nat} {t d s:Nat} {E Ys:List Ent} {ca nc:Int} {q:Nat} {ep n0:Int} (h:TxS w0 R w t d s 640 E) (hs:SlE E Ys) (hca:1 ≤ ca ∧ ca ≤ 16777215) (hnc:0 ≤ nc ∧ nc ≤ 18446744073709551615) (hbu:∀ e ∈ Ys,lY nc e = false) {i:Nat} (hi:i < 200) (hlo:∀ j,j < i → dS Ys j = false) (hop:dS Ys i = true) (hsl:fC Ys i = ((q:Int),0,ep,n0)) (hq:q = i + 1) (hep:1 ≤ ep ∧ ep ≤ 15) :
  Calls Tryz.prog 22 #[.pointer (some ⟨t,0,none⟩),.int .i64 ca,.int .u64 nc] w fun e w' => e = .returned (.tuple #[.agg #[.int .i64 (q:Int),.int .i64 ca,.int .i64 ep,.int .u64 nc],.int .i64 0]) ∧ TxS w0 R w' t d s 640 (bJ (dM 4 0 q) (bT ca ep nc) E) ∧ KeptT R t w w' :=
 zH h (.inl ⟨rfl,rfl,rfl,rfl,rfl⟩) fun R' wa b0 b1 b2 hT g0 g1 g2 gm=>RV hT g1 g0 g2 ⟨gm.2.1,gm.1,gm.2.2⟩ hs hca hnc hbu hi hlo hop hsl hq hep
theorem SN {w0 w:World} {R:List Nat} {t d s:Nat} {E Ys:List Ent} {ca nc c:Int} (h:TxS w0 R w t d s 640 E) (hs:SlE E Ys) (hca:1 ≤ ca ∧ ca ≤ 16777215) (hc0:c ≠ 0) (hL:∀ vs,LeastR Ys nc vs → vs = #[.int .i64 0,.int .i64 0,.int .i64 0,.int .u64 0,.int .i64 c]) :
  Calls Tryz.prog 22 #[.pointer (some ⟨t,0,none⟩),.int .i64 ca,.int .u64 nc] w fun e w' => e = .returned (.tuple #[.agg #[.int .i64 0,.int .i64 0,.int .i64 0,.int .u64 0],.int .i64 c]) ∧ TxS w0 R w' t d s 640 E ∧ KeptT R t w w' :=
 zH h (.inr ⟨hc0,rfl,rfl,rfl,rfl⟩) fun R' wa b0 b1 b2 hT g0 g1 g2 gm=>RX hT g1 g0 g2 ⟨gm.2.1,gm.1,gm.2.2⟩ hs hca hc0 hL
theorem aE0 {w0 w:World} {R:List Nat} {t d s bi bt n:Nat} {E:List Ent} {ii:Int} (h:TxS w0 R w t d s n E) (hc:w.heap[bi]? = some (.cells #[.int .i64 ii] 3)) (hm:bi ∈ R ∧ bi ≠ t) (hi:ii < 1 ∨ 200 < ii) :
  Calls Tryz.prog 61 #[.pointer (some ⟨bi,0,none⟩),.pointer (some ⟨bt,0,none⟩)] w fun e w' => e = .returned (.tuple #[.agg #[.int .i64 0,.int .i64 0,.int .i64 0,.int .u64 0],.int .i64 3]) ∧ TxS w0 R w' t d s n E ∧ KeptT R t w w' := by
 obtain ⟨a1,a2,a3,a4,a5,a6,a7⟩:=h.box (.cells #[.int .i64 0,.int .i64 0,.int .i64 0,.int .u64 0] 37);obtain ⟨r3,hr3⟩:∃ r3,w.heap.size = r3:=⟨_,rfl⟩
 obtain ⟨x1,hx1⟩:∃ x1,w.alloc (.cells #[.int .i64 0,.int .i64 0,.int .i64 0,.int .u64 0] 37) = x1:=⟨_,rfl⟩
 rw [hx1] at a1 a2 a3 a5;rw [hr3] at a1 a3 a4 a5 a6 a7;have X1:=Hd hx1;have HR4:=Hd (And.intro a6 a7);have A3:=Hd (And.intro a3 a4);have A2:=Hd (And.intro a2 a1);have d0:=(aF ((a2 bi hm.1 hm.2).trans hc)).1;clear h hc hm a1 a2 a3 a4 a5 a6 a7 hx1
 rcases hi with hi | hi
 ·have e1:ii < 1:=hi
  clear hi;go_enter Tryz.func61,Tryz.ntmps61;go_upto_region 1 with fail
  rw [X1.out];clear hr3;go_upto_region 2 with fail
  obtain ⟨⟨y0,y1,y2,y3⟩,u0,u1,u2,u3⟩:=aR A3.out.1;obtain ⟨n1,n2⟩:=set4 A3.out.1 (.int .i64 0) (.int .i64 0) (.int .i64 0) (.int .u64 0)
  have FIN:Hid ((st4 x1 r3 (.int .i64 0) (.int .i64 0) (.int .i64 0) (.int .u64 0)).heap[r3]? = some (.cells #[.int .i64 0,.int .i64 0,.int .i64 0,.int .u64 0] 37) ∧ TxS w0 R (st4 x1 r3 (.int .i64 0) (.int .i64 0) (.int .i64 0) (.int .u64 0)) t d s n E ∧ KeptT R t w (st4 x1 r3 (.int .i64 0) (.int .i64 0) (.int .i64 0) (.int .u64 0))):=Hd (by
   refine ⟨n1,((A2.out.2).turn (k:=r3) (by simp) A3.out.2 HR4.out.1 n2).sub (fun k hk=>by simp [hk]),fun k hk hn=>?_⟩;exact (n2.block k ((A2.out.2).lt.1 k (by simp [hk])) (HR4.out.2 k hk)).trans (A2.out.1 k hk hn))
  unfold st4 at FIN;clear n1 n2;go_wp2_with fail;exact bodyPost_ret (v:=.tuple #[.agg #[.int .i64 0,.int .i64 0,.int .i64 0,.int .u64 0],.int .i64 3]) (aI (fn:=Tryz.f61) rfl _ _ r3 37 _ (0,0) _ _ rfl rfl FIN.out.1 Tryz.underlying37 rfl dD) rfl ⟨rfl,FIN.out.2⟩
 ·have e1:¬ ii < 1:=by omega
  have e2:(200:Int) < ii:=hi;clear hi;go_enter Tryz.func61,Tryz.ntmps61;go_upto_region 1 with fail
  rw [X1.out];clear hr3;go_upto_region 2 with fail
  obtain ⟨⟨y0,y1,y2,y3⟩,u0,u1,u2,u3⟩:=aR A3.out.1;obtain ⟨n1,n2⟩:=set4 A3.out.1 (.int .i64 0) (.int .i64 0) (.int .i64 0) (.int .u64 0)
  have FIN:Hid ((st4 x1 r3 (.int .i64 0) (.int .i64 0) (.int .i64 0) (.int .u64 0)).heap[r3]? = some (.cells #[.int .i64 0,.int .i64 0,.int .i64 0,.int .u64 0] 37) ∧ TxS w0 R (st4 x1 r3 (.int .i64 0) (.int .i64 0) (.int .i64 0) (.int .u64 0)) t d s n E ∧ KeptT R t w (st4 x1 r3 (.int .i64 0) (.int .i64 0) (.int .i64 0) (.int .u64 0))):=Hd (by
   refine ⟨n1,((A2.out.2).turn (k:=r3) (by simp) A3.out.2 HR4.out.1 n2).sub (fun k hk=>by simp [hk]),fun k hk hn=>?_⟩;exact (n2.block k ((A2.out.2).lt.1 k (by simp [hk])) (HR4.out.2 k hk)).trans (A2.out.1 k hk hn))
  unfold st4 at FIN;clear n1 n2;go_wp2_with fail;exact bodyPost_ret (v:=.tuple #[.agg #[.int .i64 0,.int .i64 0,.int .i64 0,.int .u64 0],.int .i64 3]) (aI (fn:=Tryz.f61) rfl _ _ r3 37 _ (0,0) _ _ rfl rfl FIN.out.1 Tryz.underlying37 rfl dD) rfl ⟨rfl,FIN.out.2⟩
theorem XN {w0 w:World} {R:List Nat} {t d s bi bt n:Nat} {E:List Ent} {ii:Int} {q:Int} (h:TxS w0 R w t d s n E) (hc:w.heap[bi]? = some (.cells #[.int .i64 ii] 3)) (hb:w.heap[bt]? = some (.cells #[.pointer (some ⟨t,0,none⟩)] 24)) (hm:(bi ∈ R ∧ bi ≠ t) ∧ (bt ∈ R ∧ bt ≠ t)) (hE:E.length ≤ 600) (hi:1 ≤ ii ∧ ii ≤ 200) (hq:dM 4 0 ii = q) (hqr:0 ≤ q ∧ q ≤ 18446744073709551615) {S:ByteArray} {ca ep nn:Int} (hg:iE q E = true) (hv:gV q E = S) (hok:nJ ii S = true) (h3:tsC S = ca) (h4:tsE S = ep) (h5:tsN S = nn) :
  Calls Tryz.prog 61 #[.pointer (some ⟨bi,0,none⟩),.pointer (some ⟨bt,0,none⟩)] w fun e w' => e = .returned (.tuple #[.agg #[.int .i64 ii,.int .i64 ca,.int .i64 ep,.int .u64 nn],.int .i64 0]) ∧ TxS w0 R w' t d s n E ∧ KeptT R t w w' := by
 obtain ⟨a1,a2,a3,a4,a5,a6,a7⟩:=h.box (.cells #[.int .i64 0,.int .i64 0,.int .i64 0,.int .u64 0] 37);obtain ⟨r3,hr3⟩:∃ r3,w.heap.size = r3:=⟨_,rfl⟩
 obtain ⟨x1,hx1⟩:∃ x1,w.alloc (.cells #[.int .i64 0,.int .i64 0,.int .i64 0,.int .u64 0] 37) = x1:=⟨_,rfl⟩
 rw [hx1] at a1 a2 a3 a5;rw [hr3] at a1 a3 a4 a5 a6 a7;have X1:=Hd hx1;have HR4:=Hd (And.intro a6 a7);have A3:=Hd (And.intro a3 a4);have A2:=Hd (And.intro a2 a1);have d0:=(aF ((a2 bi hm.1.1 hm.1.2).trans hc)).1;have HX:=Hd hm;have HS0:=Hd (show (fun w' : World=>w'.heap[bi]? = some (.cells #[.int .i64 ii] 3) ∧ w'.heap[bt]? = some (.cells #[.pointer (some ⟨t,0,none⟩)] 24)) x1.drew from ⟨(a2 bi hm.1.1 hm.1.2).trans hc,(a2 bt hm.2.1 hm.2.2).trans hb⟩);have HQ:=Hd hq;have e1:¬ ii < 1:=by omega
 have e2:¬ (200:Int) < ii:=by omega
 have GE:=Hd (CB (key:=q) (a1.below Br.drew) hE hqr S true hv hg);have TA:=Hd (fun w=>by have:=wS ii S w; unfold tsV okE at this; rw [hok,if_pos rfl,if_pos rfl,h3,h4,h5] at this; exact this);clear hg hv hok h3 h4 h5;clear h hc hb hm hE hi hq hqr a1 a2 a3 a4 a5 a6 a7 hx1;go_enter Tryz.func61,Tryz.ntmps61;go_upto_region 1 with fail
 rw [X1.out];clear hr3;go_upto_region 3 with fail
 clear d0;refine wp_region_held_drew (S:=fun w' => w'.heap[bi]? = some (.cells #[.int .i64 ii] 3) ∧ w'.heap[bt]? = some (.cells #[.pointer (some ⟨t,0,none⟩)] 24)) (by kernel_rfl) HS0.out (fun hS=>?_);refine Hv 0 14 ?vb0x1 hS ?hb0x1 ?_
 case hb0x1 =>
  intro w9 s9;have k9:=(aF s9.2).1;clear s9;go_simp;try (with_reducible rfl)
 simp only [SL];refine Hv 1 15 ?vb1x2 hS ?hb1x2 ?_
 case hb1x2 =>
  intro w9 s9;have k9:=(aF s9.1).1;clear s9;go_simp;try (with_reducible rfl)
 simp only [SL];refine Hs 2 (fun K HK=>?_);go_simp;go_wp2_with fail;refine (JQ ii q _ HQ.out).mono ?_;rintro e w6 ⟨rfl,rfl⟩;refine HK.out _ _ ?_ ?_
 ·exact hS
 clear HK K;try simp only [Act.put,SL]
 refine Hs 3 (fun K HK=>?_);go_simp;go_wp2_with fail;refine GE.out.mono ?_;rintro e w7 ⟨rfl,h1,h2⟩;refine HK.out _ _ ?_ ?_
 ·exact ⟨(h2 bi (by simp [HX.out.1.1]) HX.out.1.2).trans hS.1,(h2 bt (by simp [HX.out.2.1]) HX.out.2.2).trans hS.2⟩
 clear HK K;try simp only [Act.put,SL]
 have hS9:=(show (_ ∧ _) from ⟨(h2 bi (by simp [HX.out.1.1]) HX.out.1.2).trans hS.1,(h2 bt (by simp [HX.out.2.1]) HX.out.2.2).trans hS.2⟩)
 clear hS;have hS:=hS9;clear hS9;have F7:=Hd (And.intro h1 (show KeptT (r3 :: R) t x1 w7 from h2));clear h1 h2 GE;refine Hu 4 13 hS ?_;simp only [SL];refine Hu 5 18 hS ?_;simp only [SL];refine Hu 6 19 hS ?_;simp only [SL];refine Hu 7 4 hS ?_;simp only [SL];refine Hu 8 5 hS ?_;simp only [SL];refine wpAnyH_done (by kernel_rfl) ?_ _;have c7:=(aF hS.1).1;clear hS;have r7:=(F7.out.2 r3 (by simp) A3.out.2).trans A3.out.1;go_wp2_with fail;refine (TA.out _).mono ?_;rintro e w8 ⟨rfl,b8⟩;have r8:=eU r7 b8;have F8:=Hd (And.intro (F7.out.1.below b8) (F7.out.2.trans (F7.out.1.kept b8)))
 clear r7 b8 c7;obtain ⟨⟨y0,y1,y2,y3⟩,u0,u1,u2,u3⟩:=aR r8;obtain ⟨n1,n2⟩:=set4 r8 (.int .i64 ii) (.int .i64 ca) (.int .i64 ep) (.int .u64 nn)
 have FIN:Hid ((st4 w8 r3 (.int .i64 ii) (.int .i64 ca) (.int .i64 ep) (.int .u64 nn)).heap[r3]? = some (.cells #[.int .i64 ii,.int .i64 ca,.int .i64 ep,.int .u64 nn] 37) ∧ TxS w0 R (st4 w8 r3 (.int .i64 ii) (.int .i64 ca) (.int .i64 ep) (.int .u64 nn)) t d s n E ∧ KeptT R t w (st4 w8 r3 (.int .i64 ii) (.int .i64 ca) (.int .i64 ep) (.int .u64 nn))):=Hd (by
  refine ⟨n1,((F8.out.1).turn (k:=r3) (by simp) A3.out.2 HR4.out.1 n2).sub (fun k hk=>by simp [hk]),fun k hk hn=>?_⟩;exact (n2.block k ((F8.out.1).lt.1 k (by simp [hk])) (HR4.out.2 k hk)).trans ((fun k hk hn=>(F8.out.2 k (by simp [hk]) hn).trans (A2.out.1 k hk hn)) k hk hn))
 unfold st4 at FIN;clear n1 n2;go_wp2_with fail;exact bodyPost_ret (v:=.tuple #[.agg #[.int .i64 ii,.int .i64 ca,.int .i64 ep,.int .u64 nn],.int .i64 0]) (aI (fn:=Tryz.f61) rfl _ _ r3 37 _ (0,0) _ _ rfl rfl FIN.out.1 Tryz.underlying37 rfl dD) rfl ⟨rfl,FIN.out.2⟩
theorem TL {w0 w:World} {R:List Nat} {t d s n:Nat} {E:List Ent} {ii q:Int} {S:ByteArray} {ca ep nn:Int} (h:TxS w0 R w t d s n E) (hE:E.length ≤ 600) (hi:1 ≤ ii ∧ ii ≤ 200) (hq:dM 4 0 ii = q) (hqr:0 ≤ q ∧ q ≤ 18446744073709551615) (hg:iE q E = true) (hv:gV q E = S) (hok:nJ ii S = true) (h3:tsC S = ca) (h4:tsE S = ep) (h5:tsN S = nn) :
  Calls Tryz.prog 24 #[.pointer (some ⟨t,0,none⟩),.int .i64 ii] w fun e w' => e = .returned (.tuple #[.agg #[.int .i64 ii,.int .i64 ca,.int .i64 ep,.int .u64 nn],.int .i64 0]) ∧ TxS w0 R w' t d s n E ∧ KeptT R t w w' :=
 aCH h (.inl ⟨rfl,rfl,rfl,rfl,rfl⟩) fun R' wa b0 b1 hT g0 g1 gm=>XN hT g1 g0 ⟨gm.2,gm.1⟩ hE hi hq hqr hg hv hok h3 h4 h5
def lN (cap:Int) (e:Ent):Bool:=gW (tsC e.2) && (tsC e.2 == cap)
def bK (cap:Int) (Ys:List Ent):List (Int × Int):=(Ys.filter (lN cap)).map fun e=>(spB e.1,tsE e.2 + 1)
theorem rC (cap:Int) (pre:List Ent) (e:Ent):bK cap (pre ++ [e]) = if lN cap e = true then bK cap pre ++ [(spB e.1,tsE e.2 + 1)] else bK cap pre:=by
 unfold bK;rw [List.filter_append,List.map_append]
 cases h:lN cap e <;> simp [List.filter_cons,h]
theorem tV (cap:Int) (Ys:List Ent):(bK cap Ys).length ≤ Ys.length:=by
 unfold bK;rw [List.length_map];exact List.length_filter_le ..
def wX (p:Int × Int):List Value:=[.int .i64 p.1,.int .i64 0,.int .i64 p.2,.int .u64 0]
def qR (L:List (Int × Int)):List Value:=(L.map wX).flatten
theorem EQ (L:List (Int × Int)) (x:Int × Int):qR (L ++ [x]) = qR L ++ wX x:=by simp [qR]
theorem lG:∀ (L:List (Int × Int)) (i:Nat) (x:Int × Int) (q:Nat),L[i]? = some x → q < 4 → (qR L)[i * 4 + q]? = (wX x)[q]?
 | [],i,x,q,h,_=>by simp at h
 | y :: L,0,x,q,h,hq=>by
  have e:y = x:=by simpa using h
  subst e;unfold qR;rw [List.map_cons,List.flatten_cons,Nat.zero_mul,Nat.zero_add,List.getElem?_append_left (by simpa [wX] using hq)]
 | y :: L,i + 1,x,q,h,hq=>by
  have h1:=lG L i x q (by simpa using h) hq;unfold qR at h1 ⊢;rw [List.map_cons,List.flatten_cons,List.getElem?_append_right (by simp [wX]; omega),← h1]
  congr 1
  simp [wX];omega
def dJ (L:List (Int × Int)) (E:List Ent):List Ent:=L.foldl (fun E p=>bJ (dM 4 0 p.1) (bT 0 p.2 0) E) E
theorem IG (L:List (Int × Int)) (p:Int × Int) (E:List Ent):dJ (L ++ [p]) E = bJ (dM 4 0 p.1) (bT 0 p.2 0) (dJ L E):=by simp [dJ]
theorem OX:∃ i z,Tryz.prog.info? 37 = some i ∧ i.zero = some z ∧ i.size = 4 ∧ i.bytes = 32 ∧ z.cells.size = 4:=by
 have h:(Tryz.prog.info? 37).bind (fun i=>i.zero.map fun z=>(i.size,i.bytes,z.cells.size)) = some (4,32,4):=by kernel_rfl
 cases hq:Tryz.prog.info? 37 with
 | none=>rw [hq] at h; cases h
 | some i =>
  rw [hq] at h
  cases hz:i.zero with
  | none=>simp [hz] at h
  | some z=>simp [hz] at h; exact ⟨i,z,rfl,hz,h.1,h.2.1,h.2.2⟩
def FrI (lb bc:Nat) (cap:Int) (pre:List Ent) (D:Nat → Prop) (W:World):Prop :=
 ∃ v,W.heap[lb]? = some (.cells #[v] 104) ∧ W.heap[bc]? = some (.cells #[.int .i64 cap] 3) ∧ W.ownsRow (lb + 1) 37 4 v (bK cap pre).length (qR (bK cap pre)) ∧ ∀ k,D k ↔ k = lb ∨ k = bc ∨ v.ownBlock = some k
theorem FrI.on {lb bc:Nat} {cap:Int} (pre:List Ent) (D:Nat → Prop) (A B:World) (h:FrI lb bc cap pre D A) (ho:OnC D A B):FrI lb bc cap pre D B:=by
 obtain ⟨v,h1,h2,h3,h4⟩:=h;have lt:∀ {k:Nat} {o:Obj},A.heap[k]? = some o → k < A.heap.size:=fun h=>(zl h)
 refine ⟨v,(ho.block _ (lt h1) ((h4 _).2 (.inl rfl))).trans h1,(ho.block _ (lt h2) ((h4 _).2 (.inr (.inl rfl)))).trans h2,⟨h3.1,?_⟩,h4⟩
 rcases h3.2 with hx | ⟨g,cap,cur,hv,hbg,hh,r⟩
 ·exact .inl hx
 ·exact .inr ⟨g,cap,cur,hv,hbg,(ho.block g (lt hh) ((h4 g).2 (.inr (.inr (by rw [hv]; rfl))))).trans hh,r⟩
theorem FrI.lt {lb bc:Nat} {cap:Int} (pre:List Ent) (D:Nat → Prop) (A:World) (h:FrI lb bc cap pre D A) (k:Nat) (hk:D k):k < A.heap.size:=by
 obtain ⟨v,h1,h2,h3,h4⟩:=h
 rcases (h4 k).1 hk with rfl | rfl | h5
 ·exact (zl h1)
 ·exact (zl h2)
 ·exact (h3.lt k h5).2
theorem FrI.same {lb bc:Nat} {cap:Int} {pre:List Ent} {x:Ent} {D:Nat → Prop} {A:World} (h:FrI lb bc cap pre D A) (hx:lN cap x = false):FrI lb bc cap (pre ++ [x]) D A:=by
 obtain ⟨v,h1,h2,h3,h4⟩:=h;exact ⟨v,h1,h2,by rw [rC,hx]; exact h3,h4⟩
theorem AD {P:Program} {fn:Func} {p q:Tmp} {ty tz:TypeId} (h:fn.results = #[.cell p ty,.cell q tz]) (tmps:Array Value) (w:World) (a b:Option Addr) (v u:Value)
  (hp:tmps.getD p undef = .pointer a) (hq:tmps.getD q undef = .pointer b)
  (h1:((asAddr (.pointer a)).run P w).andThen (fun a w₁=>(loadVar ty a).run P w₁) = .ok v w) (h2:((asAddr (.pointer b)).run P w).andThen (fun a w₁=>(loadVar tz a).run P w₁) = .ok u w) :
  (results fn tmps).run P w = .ok (.tuple #[v,u]) w:=by
 have e:(results fn tmps).run P w = (((asAddr (tmps.getD p undef)).run P w).andThen fun a w₁=>(loadVar ty a).run P w₁).andThen fun v w₂=>(((asAddr (tmps.getD q undef)).run P w₂).andThen fun a w₁=>(loadVar tz a).run P w₁).andThen fun u w₃=>.ok (.tuple #[v,u]) w₃:=by
  simp only [results,h];simp [Sem.run_bind,Result.andThen];generalize Sem.run P (asAddr (tmps[p]?.getD undef)) w = r
  cases r with
  | ok a w1 =>
   dsimp only
   generalize Sem.run P (loadVar ty a) w1 = r2
   cases r2 with
   | ok v1 w2 =>
    dsimp only
    generalize Sem.run P (asAddr (tmps[q]?.getD undef)) w2 = r3
    cases r3 with
    | ok b w3 =>
     dsimp only
    | halt x w1=>rfl
   | halt x w1=>rfl
  | halt x w1=>rfl
 rw [e,hp,h1]
 show (((asAddr (tmps.getD q undef)).run P w).andThen fun a w₁=>(loadVar tz a).run P w₁).andThen _ = _
 rw [hq,h2]
 rfl
theorem pA {ty:TypeId} {d:TypeDesc} (hd:(match d with | .struct _ | .array _ _=>true | _=>false) = false) (hu:Tryz.prog.underlying ty = some d) {w:World} {g:Nat} {v:Value} (h:w.cell? ⟨g,0,none⟩ = some v) :
  ((asAddr (.pointer (some ⟨g,0,none⟩))).run Tryz.prog w).andThen (fun a w₁=>(loadVar ty a).run Tryz.prog w₁) = .ok v w:=by
 have hagg:(isAgg ty).run Tryz.prog w = .ok false w:=by
  unfold isAgg;rw [Sem.run_bind,run_underlying hu w]
  cases d <;> first | rfl | (simp at hd)
 simp [asAddr,loadVar,Sem.run_bind,hagg,Result.andThen,h]
theorem tC {w w' : World} {B:Nat} {e:TypeId} {z:Nat} {v:Value} {n:Nat} {xs:List Value} (h:w.ownsRow B e z v n xs) (hk:∀ k,v.ownBlock = some k → w'.heap[k]? = w.heap[k]?):w'.ownsRow B e z v n xs:=by
 refine ⟨h.1,?_⟩
 rcases h.2 with hx | ⟨g,cap,cur,hv,hbg,hh,r⟩
 ·exact .inl hx
 ·exact .inr ⟨g,cap,cur,hv,hbg,(hk g (by rw [hv]; rfl)).trans hh,r⟩
theorem ZI {w:World} {B:Nat} {a:Option Addr} {c:Nat} {L:List (Int × Int)} (h:w.ownsRow B 37 4 (.slice a L.length c) L.length (qR L)) {j:Nat} {p:Int × Int} (he:L[j]? = some p):∃ g,a = some ⟨g,0,none⟩ ∧ w.cell? ⟨g,j * 4,none⟩ = some (.int .i64 p.1) ∧ w.cell? ⟨g,j * 4 + 1,none⟩ = some (.int .i64 0) ∧ w.cell? ⟨g,j * 4 + 2,none⟩ = some (.int .i64 p.2) ∧ w.cell? ⟨g,j * 4 + 3,none⟩ = some (.int .u64 0):=by
 have hj:j < L.length:=(List.getElem?_eq_some_iff.1 he).1;have r0:=lG L j p 0 he (by decide);have r1:=lG L j p 1 he (by decide);have r2:=lG L j p 2 he (by decide);have r3:=lG L j p 3 he (by decide)
 rcases h.2 with ⟨_,h0⟩ | ⟨g,cap,cur,hv,_,hh,_⟩
 ·omega
 ·injection hv with h1 h2 h3
  subst h1 h3;exact ⟨g,rfl,(h.cellAt (j * 4) (by omega)).trans r0,(h.cellAt (j * 4 + 1) (by omega)).trans r1,(h.cellAt (j * 4 + 2) (by omega)).trans r2,(h.cellAt (j * 4 + 3) (by omega)).trans r3⟩
section
attribute [local go_sem] Oper.semAt_some
theorem WI {w0 w:World} {R:List Nat} {t d s bt bc:Nat} {E Ys:List Ent} {cap:Int} (h:TxS w0 R w t d s 640 E) (hb:w.heap[bt]? = some (.cells #[.pointer (some ⟨t,0,none⟩)] 24)) (hc:w.heap[bc]? = some (.cells #[.int .i64 cap] 3)) (hm:(bt ∈ R ∧ bt ≠ t) ∧ (bc ∈ R ∧ bc ≠ t) ∧ w0.heap.size ≤ bt ∧ w0.heap.size ≤ bc) (hs:SlE E Ys)
  (hep:∀ e ∈ Ys,IntKind.i64.wrap (tsE e.2 + 1) = tsE e.2 + 1) (hP:∀ p ∈ bK cap Ys,bV p.1 0 p.2 = true) (hL:∀ k,(dJ ((bK cap Ys).take k) E).length ≤ 300) :
  Calls Tryz.prog 59 #[.pointer (some ⟨bt,0,none⟩),.pointer (some ⟨bc,0,none⟩)] w fun e w' => e = .returned (.tuple #[.int .i64 (bK cap Ys).length,.int .i64 0]) ∧ TxS w0 R w' t d s 640 (dJ (bK cap Ys) E) ∧ KeptT R t w w' := by
 obtain ⟨L,hLd⟩:∃ L,bK cap Ys = L:=⟨_,rfl⟩
 rw [hLd] at hP hL ⊢;have HLD:=Hd hLd;obtain ⟨n0,hn0⟩:∃ n0,w.heap.size = n0:=⟨_,rfl⟩
 obtain ⟨x1,hx1⟩:∃ x,w.alloc (.cells #[.int .i64 0] 3) = x:=⟨_,rfl⟩
 obtain ⟨x2,hx2⟩:∃ x,x1.alloc (.cells #[.int .i64 0] 26) = x:=⟨_,rfl⟩
 obtain ⟨x3,hx3⟩:∃ x,x2.alloc (.cells #[.slice none 0 0] 104) = x:=⟨_,rfl⟩
 obtain ⟨s1,m1,b1⟩:=bP hx1 hn0;obtain ⟨s2,m2,b2⟩:=bP hx2 s1;obtain ⟨s3,m3,b3⟩:=bP hx3 s2;have b13:Below w.heap.size w x3:=(b1.trans (b2.mono (by omega))).trans (b3.mono (by omega));have n1:=(b3.block n0 (by omega)).trans ((b2.block n0 (by omega)).trans m1);have n2:=(b3.block (n0 + 1) (by omega)).trans m2;have hl:=h.lt;obtain ⟨F,hF,hnF,hFl⟩:=h.said;have lF3:=hF.lt;have hT3:=hF.below b13;have HNF:=Hd (And.intro hnF (And.intro hFl lF3));have ht3:=(b13.block bt (hl.1 bt hm.1.1)).trans hb;have hc3:=(b13.block bc (hl.1 bc hm.2.1.1)).trans hc
 have lbt:=hl.1 bt hm.1.1;have lbc:=hl.1 bc hm.2.1.1;have f0:=h.from.size;have HW:=Hd (And.intro hl (And.intro f0 (And.intro hn0 hm)));have HT3:=Hd hT3;have HB:=Hd (And.intro s3 (And.intro m3 (And.intro n2 (And.intro n1 (And.intro b13 (And.intro ht3 hc3))))));have HX:=Hd (And.intro hx1 (And.intro hx2 hx3));have HSL:=Hd (And.intro hs (And.intro hep (And.intro hP hL)));have HFR:=Hd (And.intro h.from (And.intro lbt lbc));have ct:=(aF ht3).1;have HLL:Hid (L.length ≤ 200):=Hd (by rw [← hLd]; exact Nat.le_trans (tV _ _) hs.m);have HC0:=Hd (And.intro hc h.from)
 clear h hb hc hm hs hep hP hL hLd hx1 hx2 hx3 s1 s2 s3 m1 m2 m3 b1 b2 b3 b13 n1 n2 hl hT3 ht3 hc3 lbt lbc f0 hF hnF hFl lF3;refine (callsIn_wide (n:=0)).1 (callsIn_of_wp_marks (F:=Fence.wide) (n:=0) Tryz.func59 rfl trivial (wpIn_wide.2 ?_) rfl);simp only [Tryz.ntmps59,List.size_toArray,List.length_cons,List.length_nil,Nat.reduceAdd,Nat.reduceSub,Array.replicate_succ,Array.replicate_zero,List.push_toArray,List.append_toArray,List.nil_append,List.cons_append];go_upto_region 2 with fail
 try rw [HX.out.1,HX.out.2.1,HX.out.2.2]
 try rw [hn0]
 clear hn0;go_wp2_with fail;refine (sO _ t).mono ?_;rintro e w4 ⟨rfl,m4,q4,s4⟩;rw [HB.out.1] at m4 q4 s4 ⊢;clear ct;go_wp2_with fail;have hb:=HB.out;have hw:=HW.out;have hF:=HT3.out;have hnF:=HNF.out.1;have lF3:=HNF.out.2.2;have hT4:=hF.below (by rw [hb.1]; exact q4);have lF:=hT4.lt;have hit:=sN hT4 (by have:=HSL.out.1.n; omega) HSL.out.1.s HSL.out.1.k m4 (by rw [HSL.out.1.y]; exact HSL.out.1.ok);rw [HSL.out.1.y] at hit
 have i4:FrI (n0 + 2) bc cap [] (fun k=>k = n0 + 2 ∨ k = bc ∨ (Value.slice none 0 0).ownBlock = some k) w4:=⟨_,(q4.block _ (by omega)).trans hb.2.1,(q4.block _ (by have:=HFR.out.2.2; omega)).trans hb.2.2.2.2.2.2,World.ownsRow_nil _ _ _ _,fun k=>Iff.rfl⟩
 refine (wpIn_wide (n:=0)).1 (pT rfl (enters_of Tryz.func98 (by kernel_rfl) rfl) hit (fun Wz lz o hz hv=>?_) (fun k hk=>?_) (by intro _; rfl) (fun k=>k = n0 + 2 ∨ k = bc ∨ (Value.slice none 0 0).ownBlock = some k) (fun k hk hg=>?_) (FrI (n0 + 2) bc cap) (fun c pre D Wz=>False) FrI.on (fun c s D A B hh ho=>hh.elim) FrI.lt (fun c s D A hh=>hh.elim) i4 ?_ ?_ ?_)
 ·exact hv.frm (bX Wz lz o) fun k hk=>by subst hk; exact ⟨fun e=>by have:=lF.1 _ e; omega,by have:=lF.2.1; omega,by have:=hT4.from.size; omega⟩
 ·rcases hk with hk | rfl | rfl | hk
  ·exact lF.1 _ hk
  ·exact lF.2.1
  ·omega
  ·have:=hT4.from.size; omega
 ·have h1:=hw.2.2.1
  have h2:=HFR.out.2.2;have h3:=hw.2.1;have h4:=hw.2.2.2;have h5:=lF3.1;have hFb:=hnF bc h4.2.1.1;have htn:=hw.1.2
  rcases hk with rfl | rfl | hk
  ·rcases hg with hg | hg | hg | hg
   ·have:=h5 _ hg; omega
   ·omega
   ·omega
   ·omega
  ·rcases hg with hg | hg | hg | hg
   ·exact hFb hg
   ·exact h4.2.1.2 hg
   ·omega
   ·omega
  ·cases hk
 ·intro l' pre x D Wz hpre hI hD hz hnl hll
  obtain ⟨xk,xv⟩:=x;have hxe:IntKind.i64.wrap (tsE xv + 1) = tsE xv + 1:=HSL.out.2.1 (xk,xv) (hpre.subset (by simp));have hpl:pre.length ≤ 200:=by have h1:=hpre.length_le; have:=HSL.out.1.m; simp at h1; omega
  have HPL:=Hd hpl;obtain ⟨q,hq⟩:∃ q:Int,spB xk = q:=⟨_,rfl⟩
  unfold aA9;simp only [hq];have HQ:=Hd hq;clear hq hpl;gi_wp2;obtain ⟨Wa,hWa⟩:∃ Wa,Wz.alloc (.cells #[.int .i64 q,.int .i64 (tsC xv),.int .i64 (tsE xv),.int .u64 (tsN xv),.int .i64 0] 97) = Wa:=⟨_,rfl⟩
  obtain ⟨sa,ma,ba⟩:=bP hWa rfl;rw [hWa];refine ⟨ba,fun Wb hfb hIb=>?_⟩;have mb:=(hfb.block _ (zl ma) (by omega)).trans ma;obtain ⟨z0,z1,z2,z3,z4⟩:=eZ mb;have HI:=Hd hIb;have HMB:=Hd mb;obtain ⟨lv,hlv⟩:∃ b,gW (tsC xv) = b:=⟨_,rfl⟩
  have LV:=Hd (fun w=>lQ q (tsC xv) (tsE xv) (tsN xv) 0 w lv hlv);have HLV:=Hd hlv;clear sa ma ba hWa hfb mb hlv hIb
  gi_wp2_with fail
  refine ⟨trivial,rfl,?_⟩;refine (CallsIn.inRound l' (callsIn_wide.2 (LV.out _))).mono ?_;rintro e w8 ⟨rfl,b8⟩;have I8:=FrI.on _ _ _ _ HI.out (.of_frm (G:=fun _=>False) (Frm.of_below b8) fun _ _ h=>h);have mx8:=(b8.block _ (zl HMB.out)).trans HMB.out;have HI8:=Hd I8;have HB8:=Hd b8;obtain ⟨v,i1,i2,i3,i6⟩:=I8;clear z0 z1 z2 z3 z4 b8
  cases lv
  ·clear i1 i2 i3 i6 mx8
   gi_wp2_with fail
   refine ⟨D,⟨(Frm.of_below (F:=fun _=>False) HB8.out).mono fun _ h=>h.elim,fun k hk=>.inl hk⟩,FrI.same HI8.out ?_⟩;unfold lN;rw [HLV.out]
   rfl
  ·obtain ⟨z0,z1,z2,z3,z4⟩:=eZ mx8
   have kc:=(aF i2).1;obtain ⟨cb,hcb⟩:∃ b,(tsC xv == cap) = b:=⟨_,rfl⟩
   have HCB:=Hd hcb
   cases cb
   ·clear i1 i2 i3 i6 mx8
    gi_wp2_with fail
    refine ⟨D,⟨(Frm.of_below (F:=fun _=>False) HB8.out).mono fun _ h=>h.elim,fun k hk=>.inl hk⟩,FrI.same HI8.out ?_⟩;unfold lN;rw [HLV.out,HCB.out]
    rfl
   ·obtain ⟨d1,d1f⟩:=aF i1
    obtain ⟨va,vc,rfl,hv1,hv2⟩:=bY i3;obtain ⟨i,z,hi,hz0,hz1,hz2,hz3⟩:=OX;obtain ⟨m,hm⟩:∃ m,(bK cap pre).length = m:=⟨_,rfl⟩
    rw [hm] at i3 i6 hv1;have OWN:=Hd i3;have HD:=Hd i6;have HM:=Hd hm;have HB1:=Hd (And.intro i1 i2);have hlen:m ≤ 200:=by rw [← hm]; exact Nat.le_trans (tV _ _) HPL.out
    rw [hm] at d1;clear i1 i2 i3 i6 mx8 hm
    gi_wp2_with (gi_at_builtin; refine wpListIn_append_own_at _ rfl (.tmp 25) (.tmp 34) 104 rfl (n0 + 2 + 1) 37 i z 4 32 Tryz.underlying104 hi hz0 hz1 hz2 hz3 (by decide) _ _ _ rfl (OWN.out.alloc _) ⟨w8.heap.size,0,none⟩ 1 1 (wX (q,tsE xv + 1)) rfl rfl ?c1 ?c2 ?c3 ?c4 ?c5 ?_)
    case c1 =>
     intro j u hj;obtain ⟨⟨g0,g1,g2,g3⟩,_⟩:=aR (han w8 (.cells #[.int .i64 q,.int .i64 0,.int .i64 (tsE xv + 1),.int .u64 0] 37))
     match j,hj with
     | 0,hj=>injection hj with hj; subst hj; exact g0
     | 1,hj=>injection hj with hj; subst hj; exact g1
     | 2,hj=>injection hj with hj; subst hj; exact g2
     | 3,hj=>injection hj with hj; subst hj; exact g3
     | j + 4,hj=>simp [wX] at hj
    case c2 =>
     intro u hu;simp only [wX,List.mem_cons,List.not_mem_nil,or_false] at hu
     rcases hu with rfl | rfl | rfl | rfl <;> rfl
    case c3=>unfold maxLen; omega
    case c4=>omega
    case c5 =>
     have:=FrI.lt _ _ _ HI8.out (n0 + 2) ((HD.out _).2 (.inl rfl));simp;omega
    intro v' w9 hown' hgrow hnil hat;rw [← EQ] at hown';have olt:∀ k,(Value.slice va m vc).ownBlock = some k → n0 + 2 + 1 ≤ k ∧ k < w8.heap.size:=fun k hk=>OWN.out.lt k hk
    have lb9:=FrI.lt _ _ _ HI8.out (n0 + 2) ((HD.out _).2 (.inl rfl));have lm9:=FrI.lt _ _ _ HI8.out bc ((HD.out _).2 (.inr (.inl rfl)));have ks:∀ k,k < n0 + 3 → k < w8.heap.size → w9.heap[k]? = w8.heap[k]?:=fun k h1 h2=>(hgrow.block k (by simp; omega) (fun e=>by have:=olt k e.symm; omega)).trans (hao _ _ h2)
    have hbn:bc < n0:=by have h1:=HFR.out.2.2; have h2:=HW.out.2.2.1; omega
    have a1:=(ks _ (by omega) lb9).trans HB1.out.1;have a2:=(ks _ (by omega) lm9).trans HB1.out.2;obtain ⟨d1,d1f⟩:=aF a1;obtain ⟨va', vc', rfl,_,_⟩:=bY hown'
    have FR:Hid (∀ wf,w9.setCell ⟨n0 + 2,0,none⟩ (.slice va' (m + 1) vc') = wf → Own1 D Wb (fun k=>k = n0 + 2 ∨ k = bc ∨ (Value.slice va' (m + 1) vc').ownBlock = some k) wf ∧ FrI (n0 + 2) bc cap (pre ++ [(xk,xv)]) (fun k=>k = n0 + 2 ∨ k = bc ∨ (Value.slice va' (m + 1) vc').ownBlock = some k) wf):=Hd (fun wf hwf=>by
     have og:=hown'.lt;have hsz:=HB8.out.size;refine ⟨⟨?_,fun k hk=>?_⟩,?_⟩
     ·rw [← hwf]
      exact ((((Frm.of_below (F:=fun _=>False) HB8.out).mono fun _ h=>h.elim).alloc _).grown hgrow fun k hk=>.inl ((HD.out k).2 (.inr (.inr hk)))).setCell _ _ (.inl ((HD.out _).2 (.inl rfl)))
     ·rcases hk with rfl | rfl | hk
      ·exact .inl ((HD.out _).2 (.inl rfl))
      ·exact .inl ((HD.out _).2 (.inr (.inl rfl)))
      ·rcases hat with h1 | h1
       ·exact .inl ((HD.out k).2 (.inr (.inr (h1 ▸ hk))))
       ·rw [h1] at hk; injection hk with hk; exact .inr (by first | omega | (simp at hk; omega))
     ·have hg:lN cap (xk,xv) = true:=by unfold lN; rw [HLV.out,HCB.out]; rfl
      refine ⟨.slice va' (m + 1) vc', ?_,?_,?_,fun k=>Iff.rfl⟩
      ·rw [← hwf,hss _ _ 0 _ _ _ a1]; rfl
      ·rw [← hwf,heap_setCell_other _ _ _ _ (by show bc ≠ n0 + 2; omega)]; exact a2
      ·rw [← hwf,rC,if_pos hg,List.length_append,HM.out,HQ.out]
       exact ownsRow_setCell_other hown' (fun e=>by have:=(og _ e).1; simp at this) _)
    clear hown' hgrow hnil hat olt ks a1 a2 lb9 lm9 HB1 OWN HD hi hz0 hz1 hz2 hz3 hv1 hv2
    gi_wp2_with fail
    obtain ⟨f1,f2⟩:=FR.out _ rfl;exact ⟨_,f1,f2⟩
 ·intro D C' Wz hDz hI hV hfr hC' hnD hdef
  obtain ⟨v,j1,j2,j3,j4⟩:=hI;rw [HLD.out] at j3;obtain ⟨va,vc,rfl,hv1,hv2⟩:=bY j3;have h1:=hw.2.2.1;have h2:=HFR.out.2.2;have h3:=hw.2.1;have h4:=hw.2.2.2;have htn:=hw.1.2;have hDw:=(zl hdef);obtain ⟨RG,hRG⟩:∃ RG,(Value.slice va L.length vc).ownBlock.toList = RG:=⟨_,rfl⟩
  have rg:∀ k,k ∈ RG ↔ (Value.slice va L.length vc).ownBlock = some k:=fun k=>by rw [← hRG]; simp
  have rl:∀ k ∈ RG,n0 + 3 ≤ k ∧ k < Wz.heap.size:=fun k hk=>j3.lt k ((rg k).1 hk)
  have hFn:∀ k,F k → k < n0:=fun k hk=>by have:=lF3.1 k hk; omega
  have TS0:TxS w0 (RG ++ (n0 :: (n0 + 1) :: (n0 + 2) :: D :: R)) Wz t d s 640 E:=hV.hide fun k hk=>by
   have hz:=hfr.size
   rcases List.mem_append.1 hk with hk | hk
   ·have:=rl k hk
    exact ⟨this.2,fun e=>by have:=hFn k e; omega⟩
   ·simp only [List.mem_cons] at hk
    rcases hk with rfl | rfl | rfl | rfl | hk
    ·exact ⟨by omega,fun e=>by have:=hFn _ e; omega⟩
    ·exact ⟨by omega,fun e=>by have:=hFn _ e; omega⟩
    ·exact ⟨by omega,fun e=>by have:=hFn _ e; omega⟩
    ·exact ⟨hDw,fun e=>by have:=hFn _ e; omega⟩
    ·exact ⟨by have:=hw.1.1 k hk; omega,hnF k hk⟩
  have kept4:∀ k,k < n0 + 2 → k ≠ bc → ¬ F k → k ≠ t → w0.heap.size ≤ k → Wz.heap[k]? = x3.heap[k]?:=fun k e1 e2 e3 e4 e5=>by
   refine (hfr.block k (by omega) ?_).trans (q4.block k (by omega));rintro ((rfl | rfl | hk) | (hk | rfl | rfl | hk))
   ·omega
   ·exact e2 rfl
   ·cases hk
   ·exact e3 hk
   ·exact e4 rfl
   ·omega
   ·omega
  have KT0:KeptT R t w Wz:=fun k hk hn=>by
   have hkw:=hw.1.1 k hk
   by_cases hkb:k = bc
   ·rw [hkb]; exact j2.trans HC0.out.1.symm
   ·by_cases hk0:k < w0.heap.size
    ·exact (hV.from.block k hk0).trans (HC0.out.2.block k hk0).symm
    ·exact (kept4 k (by omega) hkb (hnF k hk) hn (by omega)).trans (hb.2.2.2.2.1.block k hkw)
  have r0:=(kept4 n0 (by omega) (by omega) (fun e=>by have:=hFn _ e; omega) (by omega) (by omega)).trans hb.2.2.2.1;have r1:=(kept4 (n0 + 1) (by omega) (by omega) (fun e=>by have:=hFn _ e; omega) (by omega) (by omega)).trans hb.2.2.1;have t0:=(KT0 bt h4.1.1 h4.1.2).trans ((hb.2.2.2.2.1.block bt (hw.1.1 bt h4.1.1)).symm.trans hb.2.2.2.2.2.1);have HZ:=Hd (And.intro j1 (And.intro j3 (And.intro r0 (And.intro r1 (And.intro t0 hdef)))));have HT0:=Hd TS0;have HK0:=Hd KT0
  have HR5:Hid ((∀ k,(Value.slice va L.length vc).ownBlock = some k → k ∈ RG) ∧ (∀ k ∈ RG,k ≠ t) ∧ n0 ≠ t ∧ n0 + 1 ≠ t ∧ n0 + 2 ≠ t ∧ D ≠ t ∧ (∀ k ∈ R,k ≠ n0 ∧ k ≠ n0 + 1 ∧ k ≠ D) ∧ (w0.heap.size ≤ n0 ∧ w0.heap.size ≤ n0 + 1 ∧ w0.heap.size ≤ D) ∧ n0 ≠ D ∧ n0 + 1 ≠ D):=Hd ⟨fun k hk=>(rg k).2 hk,fun k hk=>by have:=rl k hk; omega,by omega,by omega,by omega,by omega,fun k hk=>by have:=hw.1.1 k hk; omega,by omega,by omega,by omega⟩;have kl:=(aF j1).1;have hlen:(0:Int) ≤ (L.length:Int):=Int.natCast_nonneg _
  clear hit hfr hC' hnD hdef j1 j2 j3 j4 hV i4 kept4 TS0 KT0 r0 r1 t0 rl rg hRG h1 h2 h3 h4 htn hDw hDz hF hnF lF3 hT4 lF hFn hb hw q4 s4 m4;go_wp2_with fail
  go_loopw [38] (fun i wr=>∃ q:Nat,i = .int .i64 (q:Int) ∧ q ≤ L.length ∧ Hid (TxS w0 (RG ++ (n0 :: (n0 + 1) :: (n0 + 2) :: D :: R)) wr t d s 640 (dJ (L.take q) E)) ∧ Hid (KeptT (RG ++ (n0 :: (n0 + 1) :: (n0 + 2) :: D :: R)) t Wz wr)) (fun i _=>L.length - (intOf i).toNat)
  case atStart=>exact ⟨0,rfl,Nat.zero_le _,HT0,Hd (KeptT.refl _ _ _)⟩
  case round =>
   obtain ⟨q,rfl,hq,HTr,HKr⟩:=hrel
   by_cases hlt:q < L.length
   ·have hli:(q:Int) < (L.length:Int):=by omega
    obtain ⟨p,hp⟩:∃ p,L[q]? = some p:=⟨_,List.getElem?_eq_getElem hlt⟩
    obtain ⟨g1,rfl,k0,k1,k2,k3⟩:=ZI (tC HZ.out.2.1 fun k hk=>HKr.out k (List.mem_append_left _ (HR5.out.1 k hk)) (HR5.out.2.1 k (HR5.out.1 k hk))) hp;have e4:IntKind.i64.wrap ((q:Int) + 1) = ((q + 1:Nat):Int):=by rw [show (q:Int) + 1 = ((q + 1:Nat):Int) by omega]; exact IntWalk.i64_in _ (by have:=HLL.out; omega)
    have hmt:=HW.out.2.2.2.1;have kt:=(aF ((HKr.out bt (by simp [hmt.1]) hmt.2).trans HZ.out.2.2.2.2.1)).1;obtain ⟨a1,a2,a3,a4,a5,a6,a7⟩:=HTr.out.box (.cells #[.int .i64 p.1,.int .i64 0,.int .i64 p.2,.int .u64 0] 37);obtain ⟨y1,hy1⟩:∃ y,wr.alloc (.cells #[.int .i64 p.1,.int .i64 0,.int .i64 p.2,.int .u64 0] 37) = y:=⟨_,rfl⟩
    rw [hy1] at a1 a2 a3 a5;have kt1:=(aF ((a2 bt (by simp [hmt.1]) hmt.2).trans ((HKr.out bt (by simp [hmt.1]) hmt.2).trans HZ.out.2.2.2.2.1))).1;obtain ⟨⟨c0,c1,c2,c3⟩,_⟩:=aR a3;have PU:=Hd (zJ (nn:=0) a1 (HSL.out.2.2.2 q) (HSL.out.2.2.1 p (List.mem_of_getElem? hp)) (by decide) rfl (by unfold bT; rw [ByteArray.size_append,ByteArray.size_append]; have h1:=eM 0 3 (by decide); have h2:=eM p.2 1 (by decide); have h3:=eM 0 8 (by decide); omega) (rfl:dM 4 0 p.1 = dM 4 0 p.1));have Y1:=Hd hy1;have HA2:=Hd a2
    have HQ:=Hd (And.intro hlt (show dJ (L.take (q + 1)) E = bJ (dM 4 0 p.1) (bT 0 p.2 0) (dJ (L.take q) E) from by rw [List.take_add_one,hp,Option.toList_some,IG]));clear hlt hq hp a1 a2 a3 a4 a5 a6 a7 hy1 hmt;go_upto_region 11 with fail
    try rw [Y1.out]
    clear k0 k1 k2 k3;go_wp2_with fail;refine PU.out.mono ?_;rintro e w6 ⟨rfl,h1,h2⟩;have F6:=Hd (And.intro (h1.sub (R' := RG ++ (n0 :: (n0 + 1) :: (n0 + 2) :: D :: R)) fun k hk=>List.mem_cons_of_mem _ hk) (HKr.out.trans (HA2.out.trans (h2.sub fun k hk=>List.mem_cons_of_mem _ hk))));clear h1 h2 PU c0 c1 c2 c3 kt kt1;go_wp2_with fail;go_roundw
    case rel=>exact ⟨q + 1,rfl,HQ.out.1,Hd (by rw [HQ.out.2]; exact F6.out.1),Hd F6.out.2⟩
    case measure=>have:=HQ.out.1; simp [intOf]; omega
   ·obtain rfl:q = L.length:=by omega
    have hli:¬ ((L.length:Nat):Int) < (L.length:Int):=by omega
    have kl6:=(aF ((HKr.out (n0 + 2) (by simp) HR5.out.2.2.2.2.1).trans HZ.out.1)).1;have r0:=(HKr.out n0 (by simp) HR5.out.2.2.1).trans HZ.out.2.2.1;have r1:=(HKr.out (n0 + 1) (by simp) HR5.out.2.2.2.1).trans HZ.out.2.2.2.1;have dd:=(HKr.out D (by simp) HR5.out.2.2.2.2.2.1).trans HZ.out.2.2.2.2.2;obtain ⟨c0,g0⟩:=aF r0;obtain ⟨c1,g1⟩:=aF r1;obtain ⟨y6,hy6⟩:∃ y6,(wr.setCell ⟨n0,0,none⟩ (.int .i64 (L.length:Int))).setCell ⟨n0 + 1,0,none⟩ (.int .i64 0) = y6:=⟨_,rfl⟩
    have f6:Frm (fun k=>k = n0 ∨ k = n0 + 1) wr y6:=by rw [← hy6]; exact ((Frm.refl (fun k=>k = n0 ∨ k = n0 + 1) wr).setCell ⟨n0,0,none⟩ _ (.inl (.inl rfl))).setCell ⟨n0 + 1,0,none⟩ _ (.inl (.inr rfl))
    have s0:y6.heap[n0]? = some (.cells #[.int .i64 (L.length:Int)] 3):=by
     rw [← hy6,heap_setCell_other _ _ _ _ (by show n0 ≠ n0 + 1; omega),hss _ _ 0 _ _ _ r0]
     rfl
    have s1:y6.heap[n0 + 1]? = some (.cells #[.int .i64 0] 26):=by
     rw [← hy6,hss _ _ 0 _ _ _ ((heap_setCell_other _ _ _ _ (by show n0 + 1 ≠ n0; omega)).trans r1)]
     rfl
    have T6:TxS w0 (RG ++ (n0 :: (n0 + 1) :: (n0 + 2) :: D :: R)) y6 t d s 640 (dJ (L.take L.length) E):=by
     rw [← hy6];exact (HTr.out.turn (k:=n0) (by simp) HR5.out.2.2.1 HR5.out.2.2.2.2.2.2.2.1.1 ((Frm.refl (fun k=>k = n0) wr).setCell ⟨n0,0,none⟩ _ (.inl rfl))).turn (k:=n0 + 1) (by simp) HR5.out.2.2.2.1 HR5.out.2.2.2.2.2.2.2.1.2.1 ((Frm.refl (fun k=>k = n0 + 1) _).setCell ⟨n0 + 1,0,none⟩ _ (.inl rfl))
    have d6:=(f6.block D (zl dd) (by have:=HR5.out.2.2.2.2.2.2.2.2; omega)).trans dd;have HM:Hid (Marks y6 [D]):=Hd ((Marks.nil y6).cons (by simp) d6)
    have FIN:Hid (∀ W', Frm (fun k=>k ∈ [D]) y6 W' → W'.cell? ⟨n0,0,none⟩ = some (.int .i64 (L.length:Int)) ∧ W'.cell? ⟨n0 + 1,0,none⟩ = some (.int .i64 0) ∧ TxS w0 R W' t d s 640 (dJ L E) ∧ KeptT R t w W'):=Hd fun W' hm=>by
     have hx:=HR5.out.2.2.2.2.2.2;have lt6:=T6.lt.1;refine ⟨(aF ((hm.block n0 (lt6 n0 (by simp)) (by simpa using hx.2.2.1)).trans s0)).1,(aF ((hm.block (n0 + 1) (lt6 (n0 + 1) (by simp)) (by simpa using hx.2.2.2)).trans s1)).1,?_,fun k hk hn=>?_⟩
     ·have g:=T6.turn (k:=D) (by simp) HR5.out.2.2.2.2.2.1 hx.2.1.2.2 (hm.mono fun k hk=>by simpa using hk)
      rw [List.take_length] at g;exact g.sub fun k hk=>by simp [hk]
     ·have hy:=hx.1 k hk
      exact (hm.block k (lt6 k (by simp [hk])) (by simpa using hy.2.2)).trans ((f6.block k (HTr.out.lt.1 k (by simp [hk])) (by omega)).trans ((HKr.out k (by simp [hk]) hn).trans (HK0.out k hk hn)))
    have HY6:=Hd hy6;clear r0 r1 dd f6 s0 s1 T6 d6 hy6 hq hlt;go_wp2_with fail;rw [HY6.out];refine gK [D] _ HM.out fun W' hm=>?_
    obtain ⟨u0,u1,u2,u3⟩:=FIN.out W' hm;exact ⟨_,AD (fn:=Tryz.f59) rfl _ W' _ _ _ _ rfl rfl (pA rfl Tryz.underlying3 u0) (pA rfl Tryz.underlying26 u1),rfl,u2,u3⟩
 ·intro D c pre C' W hD hpre hh
  exact hh.elim
end
theorem SX {w0 w:World} {R:List Nat} {t d s:Nat} {E Ys:List Ent} {cap:Int} (h:TxS w0 R w t d s 640 E) (hs:SlE E Ys)
  (hep:∀ e ∈ Ys,IntKind.i64.wrap (tsE e.2 + 1) = tsE e.2 + 1) (hP:∀ p ∈ bK cap Ys,bV p.1 0 p.2 = true) (hL:∀ k,(dJ ((bK cap Ys).take k) E).length ≤ 300) :
  Calls Tryz.prog 23 #[.pointer (some ⟨t,0,none⟩),.int .i64 cap] w fun e w' => e = .returned (.tuple #[.int .i64 (bK cap Ys).length,.int .i64 0]) ∧ TxS w0 R w' t d s 640 (dJ (bK cap Ys) E) ∧ KeptT R t w w' := by
 obtain ⟨a1,a2,a3,a4,a5,a6,a7⟩:=h.box (.cells #[.pointer (some ⟨t,0,none⟩)] 24);obtain ⟨x1,hx1⟩:∃ x1,w.alloc (.cells #[.pointer (some ⟨t,0,none⟩)] 24) = x1:=⟨_,rfl⟩
 rw [hx1] at a1 a2 a3 a5;obtain ⟨b1,b2,b3,b4,b5,b6,b7⟩:=a1.box (.cells #[.int .i64 cap] 3);obtain ⟨x2,hx2⟩:∃ x2,x1.alloc (.cells #[.int .i64 cap] 3) = x2:=⟨_,rfl⟩
 rw [hx2] at b1 b2 b3 b5;rw [a5] at b1 b3 b4 b5 b6 b7;have hbk:=(b2 w.heap.size (by simp) a4).trans a3
 have VC:=Hd (mL (hk:=fun w=>by kernel_rfl) (x:=(bK cap Ys).length) (e:=0) (y:=(bK cap Ys).length) b1 (.inl ⟨rfl,rfl⟩) (caps:=#[.pointer (some ⟨w.heap.size,0,none⟩),.pointer (some ⟨w.heap.size + 1,0,none⟩)]) (E' := dJ (bK cap Ys) E) (fun R' wa hs' hT hK=>by
  have g1:=(hK (w.heap.size + 1) (by simp) b4).trans b3;have g2:=(hK w.heap.size (by simp) a4).trans hbk;exact WI hT g2 g1 ⟨⟨hs' _ (by simp),a4⟩,⟨hs' _ (by simp),b4⟩,a6,b6⟩ hs hep hP hL))
 have KP:=Hd (a2.trans (b2.sub (fun k hk=>by simp [hk])));have X1:=Hd hx1;have X2:=Hd hx2;have A5:=Hd a5;have bx:=(aF hbk).1;obtain ⟨L,hL⟩:∃ L,bK cap Ys = L:=⟨_,rfl⟩
 rw [hL] at VC ⊢;clear h hs hep hP hL a1 a2 a3 a4 a5 a6 a7 b1 b2 b3 b4 b5 b6 b7 hx1 hx2 hbk;go_enter Tryz.func23,Tryz.ntmps23;go_upto_region 1 with fail
 try simp only [World.heap_size_alloc]
 rw [X1.out,X2.out];go_wp2_with fail;refine VC.out.mono ?_;rintro e w2 ⟨rfl,h1,h2⟩;have FIN:Hid (TxS w0 R w2 t d s 640 (dJ L E) ∧ KeptT R t w w2):=Hd ⟨h1.sub (fun k hk=>by simp [hk]),KP.out.trans (h2.sub (fun k hk=>by simp [hk]))⟩;clear h1 h2 VC bx;go_wp2_with fail;go_ret2;exact ⟨rfl,FIN.out⟩
theorem aDK {id c e n:Int} (h:bV id c e = true) (n0:0 ≤ n) (n1:n ≤ 18446744073709551615):(cU c 3 = true ∧ 0 ≤ c) ∧ (cU e 1 = true ∧ 0 ≤ e) ∧ (cU n 8 = true ∧ 0 ≤ n):=by
 have:=jO h;obtain ⟨c', rfl⟩:=Int.eq_ofNat_of_zero_le (show 0 ≤ c by omega);obtain ⟨e', rfl⟩:=Int.eq_ofNat_of_zero_le (show 0 ≤ e by omega);obtain ⟨n', rfl⟩:=Int.eq_ofNat_of_zero_le n0;refine ⟨⟨(bM c' 3).2 ⟨by decide,by decide,?_⟩,by omega⟩,⟨(bM e' 1).2 ⟨by decide,by decide,?_⟩,by omega⟩,⟨(bM n' 8).2 ⟨by decide,by decide,?_⟩,by omega⟩⟩
 ·show c' < 16777216; omega
 ·show e' < 256; omega
 ·show n' < 18446744073709551616; omega
theorem qF {id c e n:Int} (h:bV id c e = true) (n0:0 ≤ n) (n1:n ≤ 18446744073709551615):tsC (bT c e n) = c ∧ tsE (bT c e n) = e ∧ tsN (bT c e n) = n:=by
 obtain ⟨p0,p1,p2⟩:=aDK h n0 n1;have q0:=fun rest=>rH (n:=c) (k:=3) rest p0.2 p0.1
 have q1:=fun rest=>rH (n:=e) (k:=1) rest p1.2 p1.1
 have q2:=fun rest=>rH (n:=n) (k:=8) rest p2.2 p2.1
 have e:bT c e n = Str (aJ c 3) ++ (Str (aJ e 1) ++ (Str (aJ n 8) ++ ⟨#[]⟩)):=by
  unfold bT; rw [pM,ByteArray.append_assoc]
 unfold tsC tsE tsN;rw [e,(q0 _).2,(q1 _).2];exact ⟨(q0 _).1,(q1 _).1,(q2 _).1⟩
theorem LG {id c e n:Int} (h:bV id c e = true) (n0:0 ≤ n) (n1:n ≤ 18446744073709551615):nJ id (bT c e n) = true:=by
 obtain ⟨e0,e1,e2⟩:=qF h n0 n1;unfold nJ sP;rw [e0,e1,e2,h];simp
def slK (i:Nat):Int:=4611686018427387905 + (i:Int)
theorem kE {i:Nat} (hi:i < 200):dM 4 0 ((i + 1:Nat):Int) = slK i:=by
 have h:fW 4 0 ((i + 1:Nat):Int) = true:=by
  unfold fW;simp;omega
 unfold dM slK;rw [if_pos h];omega
theorem nK {i:Nat} (hi:i < 200):spB (slK i) = (i:Int) + 1 ∧ jU (slK i) 4 0 = true:=by
 have h1:spK (slK i) = 4:=by unfold spK slK; omega
 have h2:spA (slK i) = 0:=by unfold spA slK; omega
 refine ⟨by unfold spB slK; omega,?_⟩;unfold jU;rw [h1,h2]
 rfl
def slV (x:Int × Int × Int):ByteArray:=bT x.1 x.2.1 x.2.2
def slE:Nat → List (Int × Int × Int) → List Ent
 | _,[]=>[]
 | i,x :: L=>(slK i,slV x) :: slE (i + 1) L
theorem lC:∀ (L:List (Int × Int × Int)) (i j:Nat),(slE i L)[j]? = L[j]?.map fun x=>(slK (i + j),slV x)
 | [],i,j=>by simp [slE]
 | x :: L,i,0=>by simp [slE]
 | x :: L,i,j + 1=>by
  rw [slE,List.getElem?_cons_succ,List.getElem?_cons_succ,lC L (i + 1) j,show i + 1 + j = i + (j + 1) by omega]
theorem iT:∀ (L:List (Int × Int × Int)) (i:Nat),(slE i L).length = L.length
 | [],i=>rfl
 | x :: L,i=>by rw [slE,List.length_cons,List.length_cons,iT L (i + 1)]
theorem mD:∀ (L:List (Int × Int × Int)) (i:Nat),∀ e ∈ slE i L,slK i ≤ e.1
 | [],i,e,h=>by simp [slE] at h
 | x :: L,i,e,h=>by
  rw [slE,List.mem_cons] at h
  rcases h with rfl | h
  ·exact Int.le_refl _
  ·have:=mD L (i + 1) e h
   unfold slK at this ⊢;omega
theorem sS:∀ (L:List (Int × Int × Int)) (i:Nat),kV (slE i L)
 | [],i=>List.Pairwise.nil
 | x :: L,i=>by
  rw [slE];refine List.Pairwise.cons (fun e he=>?_) (sS L (i + 1));have:=mD L (i + 1) e he;unfold slK at this ⊢
  show 4611686018427387905 + (i:Int) < e.1
  omega
theorem nV {e:Ent} {k:Int} (h:e.1 < k) (v:ByteArray) (m:List Ent):bJ k v (e :: m) = e :: bJ k v m:=by
 unfold bJ;have h2:¬ k < e.1:=by omega
 simp [List.filter_cons,h,h2]
theorem vT {k:Int} (u v:ByteArray) {m:List Ent} (h:∀ e ∈ m,k < e.1):bJ k v ((k,u) :: m) = (k,v) :: m:=by
 unfold bJ;have h1:m.filter (fun e=>decide (e.1 < k)) = []:=List.filter_eq_nil_iff.2 fun e he=>by have:=h e he; simp; omega
 have h2:m.filter (fun e=>decide (k < e.1)) = m:=List.filter_eq_self.2 fun e he=>by simpa using h e he
 simp [List.filter_cons,h1,h2]
theorem tO:∀ (L:List (Int × Int × Int)) (i j:Nat) (x:Int × Int × Int),j < L.length → bJ (slK (i + j)) (slV x) (slE i L) = slE i (L.set j x)
 | [],i,j,x,h=>by simp at h
 | y :: L,i,0,x,h=>by
  rw [slE,List.set_cons_zero,slE]
  exact vT _ _ fun e he=>by
   have:=mD L (i + 1) e he;unfold slK at this ⊢;omega
 | y :: L,i,j + 1,x,h=>by
  rw [slE,List.set_cons_succ,slE,nV (by show slK i < slK (i + (j + 1)); unfold slK; omega),show i + (j + 1) = i + 1 + j by omega,tO L (i + 1) j x (by simpa using h)]
theorem vS:∀ (L:List (Int × Int × Int)) (i:Nat) (x:Int × Int × Int),bJ (slK (i + L.length)) (slV x) (slE i L) = slE i (L ++ [x])
 | [],i,x=>by simp [slE,bJ]
 | y :: L,i,x=>by
  rw [slE,List.cons_append,slE,nV (by show slK i < slK (i + (L.length + 1)); unfold slK; omega),List.length_cons,show i + (L.length + 1) = i + 1 + L.length by omega,vS L (i + 1) x]
def SlL (L:List (Int × Int × Int)):Prop:=L.length ≤ 200 ∧ ∀ (j:Nat) (x:Int × Int × Int),L[j]? = some x → bV ((j:Int) + 1) x.1 x.2.1 = true ∧ 0 ≤ x.2.2 ∧ x.2.2 ≤ 18446744073709551615
theorem nL {L:List (Int × Int × Int)} (h:L.length ≤ 200) {e:Ent} (he:e ∈ slE 0 L):∃ j,∃ x,j < 200 ∧ L[j]? = some x ∧ e = (slK j,slV x):=by
 obtain ⟨j,hj⟩:=List.mem_iff_getElem?.1 he;rw [lC] at hj
 cases hx:L[j]? with
 | none=>rw [hx] at hj; cases hj
 | some x =>
  rw [hx] at hj;have hl:=(List.getElem?_eq_some_iff.1 hx).1;injection hj with hj;exact ⟨j,x,by omega,hx,by rw [← hj,Nat.zero_add]⟩
theorem mY {α:Type} (p:α → Bool):∀ (l:List α),(∀ x ∈ l,p x = true) → l.takeWhile p = l
 | [],_=>rfl
 | a :: l,h=>by rw [List.takeWhile_cons,if_pos (h a (by simp)),mY p l fun x hx=>h x (by simp [hx])]
theorem EK {L:List (Int × Int × Int)} (h:L.length ≤ 200):fY (slE 0 L) = slE 0 L:=by
 unfold fY
 rw [vH fun e he=>by
  have:=mD L 0 e he;unfold slK at this;omega]
 refine mY _ _ fun e he=>?_
 obtain ⟨j,x,hj,_,rfl⟩:=nL h he;exact (nK hj).2
theorem aCD {L:List (Int × Int × Int)} (h:SlL L):SlE (slE 0 L) (slE 0 L):=by
 obtain ⟨h1,h2⟩:=h;refine ⟨sS L 0,fun e he=>?_,EK h1,fun e he=>?_,fun i e he=>?_,by rw [iT]; exact h1,by rw [iT]; omega⟩
 ·obtain ⟨j,x,hj,_,rfl⟩:=nL h1 he
  show 0 ≤ slK j ∧ slK j ≤ _
  unfold slK;omega
 ·obtain ⟨j,x,hj,hx,rfl⟩:=nL h1 he
  obtain ⟨g1,g2,g3⟩:=h2 j x hx
  show nJ (spB (slK j)) (slV x) = true
  rw [(nK hj).1];exact LG g1 g2 g3
 ·rw [lC] at he
  cases hx:L[i]? with
  | none=>rw [hx] at he; cases he
  | some x =>
   rw [hx] at he;have hl:=(List.getElem?_eq_some_iff.1 hx).1;injection he with he;rw [← he,Nat.zero_add];exact (nK (by omega)).1
theorem sQ {L:List (Int × Int × Int)} (h:SlL L) {i:Nat} {x:Int × Int × Int} (hx:L[i]? = some x):fC (slE 0 L) i = ((i:Int) + 1,x.1,x.2.1,x.2.2):=by
 obtain ⟨g1,g2,g3⟩:=h.2 i x hx;obtain ⟨e1,e2,e3⟩:=qF g1 g2 g3;have hl:=(List.getElem?_eq_some_iff.1 hx).1;unfold fC;rw [lC,hx]
 show fld (slK (0 + i),slV x) = _
 unfold fld
 show (spB (slK (0 + i)),tsC (bT x.1 x.2.1 x.2.2),tsE (bT x.1 x.2.1 x.2.2),tsN (bT x.1 x.2.1 x.2.2)) = _
 rw [Nat.zero_add,(nK (by have:=h.1; omega)).1,e1,e2,e3]
theorem sR {L:List (Int × Int × Int)} {i:Nat} (hi:L.length ≤ i):fC (slE 0 L) i = (((i + 1:Nat):Int),0,1,0):=by
 unfold fC;rw [lC,List.getElem?_eq_none_iff.2 hi]
 rfl
theorem CW {L:List (Int × Int × Int)} (h:SlL L) (nc:Int) (hb:∀ x ∈ L,dV x.1 x.2.2 nc = false):∀ e ∈ slE 0 L,lY nc e = false:=fun e he=>by
 obtain ⟨j,x,hj,hx,rfl⟩:=nL h.1 he;obtain ⟨g1,g2,g3⟩:=h.2 j x hx;obtain ⟨e1,e2,e3⟩:=qF g1 g2 g3
 show dV (tsC (bT x.1 x.2.1 x.2.2)) (tsN (bT x.1 x.2.1 x.2.2)) nc = false
 rw [e1,e3];exact hb x (List.mem_of_getElem? hx)
theorem uT {L:List (Int × Int × Int)} (h:SlL L) (nc:Int) {j:Nat} {x:Int × Int × Int} (hx:L[j]? = some x) (hb:dV x.1 x.2.2 nc = true):∃ e ∈ slE 0 L,lY nc e = true:=by
 obtain ⟨g1,g2,g3⟩:=h.2 j x hx;obtain ⟨e1,e2,e3⟩:=qF g1 g2 g3;refine ⟨(slK (0 + j),slV x),List.mem_of_getElem? (i:=j) (by rw [lC,hx]; rfl),?_⟩
 show dV (tsC (bT x.1 x.2.1 x.2.2)) (tsN (bT x.1 x.2.1 x.2.2)) nc = true
 rw [e1,e3];exact hb
theorem SlL.snoc {L:List (Int × Int × Int)} (h:SlL L) {x:Int × Int × Int} (hl:L.length < 200) (hx:bV ((L.length:Int) + 1) x.1 x.2.1 = true ∧ 0 ≤ x.2.2 ∧ x.2.2 ≤ 18446744073709551615):SlL (L ++ [x]):=by
 refine ⟨by simp; omega,fun i y hy=>?_⟩
 by_cases hi:i < L.length
 ·rw [List.getElem?_append_left hi] at hy
  exact h.2 i y hy
 ·have hi2:i = L.length:=by
   have:=(List.getElem?_eq_some_iff.1 hy).1;simp at this;omega
  subst hi2;have hy2:x = y:=by simpa using hy
  rw [← hy2]; exact hx
def nB (cap:Int) (x:Int × Int × Int):Bool:=gW x.1 && (x.1 == cap)
def jB (cap:Int) (x:Int × Int × Int):Int × Int × Int:=if nB cap x = true then (0,x.2.1 + 1,0) else x
def OkX (i:Nat) (x:Int × Int × Int):Prop:=bV ((i:Int) + 1) x.1 x.2.1 = true ∧ 0 ≤ x.2.2 ∧ x.2.2 ≤ 18446744073709551615
theorem mN {cap:Int} {i j:Nat} {x:Int × Int × Int} (h:OkX i x):lN cap (slK j,slV x) = nB cap x ∧ tsE (slV x) = x.2.1:=by
 obtain ⟨g1,g2,g3⟩:=h;obtain ⟨e1,e2,e3⟩:=qF g1 g2 g3;refine ⟨?_,e2⟩
 show (gW (tsC (bT x.1 x.2.1 x.2.2)) && (tsC (bT x.1 x.2.1 x.2.2) == cap)) = _
 rw [e1]
 rfl
theorem lO:∀ (ps:List (Int × Int)) (e:Ent) (m:List Ent),(∀ p ∈ ps,e.1 < dM 4 0 p.1) → dJ ps (e :: m) = e :: dJ ps m
 | [],e,m,_=>rfl
 | p :: ps,e,m,h=>by
  show dJ ps (bJ (dM 4 0 p.1) (bT 0 p.2 0) (e :: m)) = e :: dJ ps (bJ (dM 4 0 p.1) (bT 0 p.2 0) m)
  rw [nV (h p (by simp)),lO ps e _ fun q hq=>h q (by simp [hq])]
theorem rD (cap:Int) (e:Ent) (Ys:List Ent):bK cap (e :: Ys) = if lN cap e = true then (spB e.1,tsE e.2 + 1) :: bK cap Ys else bK cap Ys:=by
 unfold bK
 cases h:lN cap e <;> simp [List.filter_cons,h]
theorem vV {cap:Int} {i:Nat} {L:List (Int × Int × Int)} (hl:i + L.length ≤ 200) (hok:∀ (j:Nat) (x:Int × Int × Int),L[j]? = some x → OkX (i + j) x) {p:Int × Int} (hp:p ∈ bK cap (slE i L)) :
  ∃ j,∃ x,L[j]? = some x ∧ nB cap x = true ∧ p = (((i + j + 1:Nat):Int),x.2.1 + 1) ∧ i + j < 200:=by
 unfold bK at hp;obtain ⟨e,he,rfl⟩:=List.mem_map.1 hp;obtain ⟨he,hg⟩:=List.mem_filter.1 he;obtain ⟨j,hj⟩:=List.mem_iff_getElem?.1 he;rw [lC] at hj
 cases hx:L[j]? with
 | none=>rw [hx] at hj; cases hj
 | some x =>
  rw [hx] at hj;have hlt:=(List.getElem?_eq_some_iff.1 hx).1;injection hj with hj;subst hj;obtain ⟨g1,g2⟩:=mN (cap:=cap) (j:=i + j) (hok j x hx);rw [g1] at hg;refine ⟨j,x,hx,hg,?_,by omega⟩
  show (spB (slK (i + j)),tsE (slV x) + 1) = _
  rw [g2,(nK (by omega)).1]
  rfl
theorem vW (cap:Int):∀ (L:List (Int × Int × Int)) (i:Nat),i + L.length ≤ 200 → (∀ (j:Nat) (x:Int × Int × Int),L[j]? = some x → OkX (i + j) x) → dJ (bK cap (slE i L)) (slE i L) = slE i (L.map (jB cap))
 | [],i,_,_=>rfl
 | x :: L,i,hl,hok=>by
  have h0:OkX i x:=hok 0 x rfl;have hl' : i + 1 + L.length ≤ 200:=by simp at hl; omega
  have hok' : ∀ (j:Nat) (y:Int × Int × Int),L[j]? = some y → OkX (i + 1 + j) y:=fun j y hy=>by
   have:=hok (j + 1) y (by simpa using hy);rwa [show i + (j + 1) = i + 1 + j by omega] at this
  have IH:=vW cap L (i + 1) hl' hok';obtain ⟨g1,g2⟩:=mN (cap:=cap) (j:=i) h0
  have hgt:∀ p ∈ bK cap (slE (i + 1) L),slK i < dM 4 0 p.1:=fun p hp=>by
   obtain ⟨j,y,hy,_,rfl,hj⟩:=vV hl' hok' hp
   show slK i < dM 4 0 (((i + 1 + j + 1:Nat):Int))
   rw [kE hj];unfold slK;omega
  rw [slE,rD,g1,List.map_cons,slE]
  cases hg:nB cap x
  ·rw [if_neg (by decide),lO _ _ _ hgt,IH]
   unfold jB;rw [hg]
   rfl
  ·rw [if_pos rfl]
   show dJ (bK cap (slE (i + 1) L)) (bJ (dM 4 0 (spB (slK i))) (bT 0 (tsE (slV x) + 1) 0) ((slK i,slV x) :: slE (i + 1) L)) = _
   have hk:dM 4 0 (spB (slK i)) = slK i:=by
    rw [(nK (by simp at hl; omega)).1];exact kE (by simp at hl; omega)
   rw [hk,vT _ _ fun e he=>by
    have:=mD L (i + 1) e he;unfold slK at this ⊢;omega,lO _ _ _ hgt,IH,g2]
   have e2:jB cap x = (0,x.2.1 + 1,0):=by unfold jB; rw [if_pos hg]
   rw [e2]
   rfl
theorem vX:∀ (ps:List (Int × Int)) (L:List (Int × Int × Int)),(∀ p ∈ ps,∃ j,j < L.length ∧ j < 200 ∧ p.1 = ((j + 1:Nat):Int)) → (dJ ps (slE 0 L)).length = L.length
 | [],L,_=>iT L 0
 | p :: ps,L,h=>by
  obtain ⟨j,h1,h2,h3⟩:=h p (by simp)
  show (dJ ps (bJ (dM 4 0 p.1) (bT 0 p.2 0) (slE 0 L))).length = _
  have:=tO L 0 j (0,p.2,0) h1;rw [Nat.zero_add] at this
  rw [h3,kE h2,show bT 0 p.2 0 = slV (0,p.2,0) from rfl,this,vX ps _ fun q hq=>by
   obtain ⟨k,k1,k2,k3⟩:=h q (by simp [hq]);exact ⟨k,by rw [List.length_set]; exact k1,k2,k3⟩,List.length_set]
theorem SlL.okx {L:List (Int × Int × Int)} (h:SlL L):∀ (j:Nat) (x:Int × Int × Int),L[j]? = some x → OkX (0 + j) x:=fun j x hx=>by
 rw [Nat.zero_add];exact h.2 j x hx
theorem pE (cap:Int):∀ (L:List (Int × Int × Int)) (i:Nat),(∀ (j:Nat) (x:Int × Int × Int),L[j]? = some x → OkX (i + j) x) → (bK cap (slE i L)).length = (L.filter (nB cap)).length
 | [],i,_=>rfl
 | x :: L,i,hok=>by
  have h0:OkX i x:=hok 0 x rfl
  have IH:=pE cap L (i + 1) fun j y hy=>by
   have:=hok (j + 1) y (by simpa using hy);rwa [show i + (j + 1) = i + 1 + j by omega] at this
  rw [slE,rD,(mN (cap:=cap) (j:=i) h0).1]
  cases hg:nB cap x
  ·rw [if_neg (by decide),IH,List.filter_cons,if_neg (by rw [hg]; decide)]
  ·rw [if_pos rfl,List.length_cons,IH,List.filter_cons,if_pos hg,List.length_cons]
theorem SlL.free {L:List (Int × Int × Int)} (h:SlL L) (cap:Int):SlL (L.map (jB cap)):=by
 refine ⟨by rw [List.length_map]; exact h.1,fun j y hy=>?_⟩;rw [List.getElem?_map] at hy
 cases hx:L[j]? with
 | none=>rw [hx] at hy; cases hy
 | some x =>
  rw [hx] at hy;obtain ⟨g1,g2,g3⟩:=h.2 j x hx;have hy2:jB cap x = y:=by simpa using hy
  subst hy2;unfold jB
  split
  ·rename_i hg
   refine ⟨?_,by show (0:Int) ≤ 0; decide,by show (0:Int) ≤ _; decide⟩
   have h15:x.2.1 ≠ 16:=fun e=>by
    unfold bV at g1;unfold nB gW at hg;simp only [Bool.and_eq_true,Bool.or_eq_true] at g1 hg
    rcases g1.2 with h9 | h9
    ·rw [e] at h9; exact absurd h9 (by decide)
    ·have:=hg.1; simp at this h9; exact this h9
   have hin:=jO g1;unfold bV;simp only [Bool.and_eq_true,gL];exact ⟨⟨⟨by omega,by decide⟩,by omega⟩,by simp⟩
  ·exact ⟨g1,g2,g3⟩
theorem nS {L:List (Int × Int × Int)} (h:SlL L) {i:Nat} {x:Int × Int × Int} (hx:L[i]? = some x):dS (slE 0 L) i = gS x.1 x.2.1:=by
 unfold dS;rw [sQ h hx]
theorem FO {L:List (Int × Int × Int)} {i:Nat} (hi:L.length ≤ i):dS (slE 0 L) i = true:=by
 unfold dS;rw [sR hi]
 rfl
structure MtE (M:List Ent):Prop where
 s:kV M
 k:∀ e ∈ M,5764607523034234880 ≤ e.1 ∧ e.1 ≤ 18446744073709551615
 n:M.length ≤ 50
theorem BS {k:Int} {v:ByteArray} {A M:List Ent} (h:∀ e ∈ M,k < e.1):bJ k v (A ++ M) = bJ k v A ++ M:=by
 unfold bJ;have h1:M.filter (fun e=>decide (e.1 < k)) = []:=List.filter_eq_nil_iff.2 fun e he=>by have:=h e he; simp; omega
 have h2:M.filter (fun e=>decide (k < e.1)) = M:=List.filter_eq_self.2 fun e he=>by simpa using h e he
 rw [List.filter_append,List.filter_append,h1,h2,List.append_nil];simp
theorem qA {k:Int} {v:ByteArray} {A M:List Ent} (h:∀ e ∈ A,e.1 < k):bJ k v (A ++ M) = A ++ bJ k v M:=by
 unfold bJ;have h1:A.filter (fun e=>decide (k < e.1)) = []:=List.filter_eq_nil_iff.2 fun e he=>by have:=h e he; simp; omega
 have h2:A.filter (fun e=>decide (e.1 < k)) = A:=List.filter_eq_self.2 fun e he=>by simpa using h e he
 rw [List.filter_append,List.filter_append,h1,h2];simp
theorem qC {k:Int} {A M:List Ent} (h:∀ e ∈ A,e.1 < k):mU k (A ++ M) = mU k M:=by
 unfold mU;rw [List.find?_append,List.find?_eq_none.2 (fun e he=>by have:=h e he; simp; omega)]
 rfl
theorem zO {L:List (Int × Int × Int)} (h:L.length ≤ 200):∀ e ∈ slE 0 L,e.1 ≤ 4611686018427388104:=fun e he=>by
 obtain ⟨j,x,hj,_,rfl⟩:=nL h he
 show slK j ≤ _
 unfold slK;omega
theorem zN {L:List (Int × Int × Int)} {M:List Ent} (h:SlL L) (hM:MtE M):kV (slE 0 L ++ M) :=
 List.pairwise_append.2 ⟨sS L 0,hM.s,fun a ha b hb=>by
  have:=zO h.1 a ha;have:=(hM.k b hb).1;omega⟩
theorem mX {α:Type} (p:α → Bool):∀ (l m:List α),(∀ x ∈ l,p x = true) → (∀ x ∈ m,p x = false) → (l ++ m).takeWhile p = l
 | [],[],_,_=>rfl
 | [],b :: m,_,h=>by rw [List.nil_append,List.takeWhile_cons,if_neg (by rw [h b (by simp)]; decide)]
 | a :: l,m,h,g=>by rw [List.cons_append,List.takeWhile_cons,if_pos (h a (by simp)),mX p l m (fun x hx=>h x (by simp [hx])) g]
theorem SR {L:List (Int × Int × Int)} {M:List Ent} (h:L.length ≤ 200) (hM:MtE M):fY (slE 0 L ++ M) = slE 0 L:=by
 unfold fY
 rw [vH fun e he=>by
  rcases List.mem_append.1 he with he | he
  ·have:=mD L 0 e he
   unfold slK at this;omega
  ·have:=(hM.k e he).1
   omega]
 refine mX _ _ _ (fun e he=>?_) (fun e he=>?_)
 ·obtain ⟨j,x,hj,_,rfl⟩:=nL h he
  exact (nK hj).2
 ·have h1:=(hM.k e he).1
  unfold jU spK;have:(e.1 / 1152921504606846976 == 4) = false:=by simp; omega
  rw [this,Bool.false_and]
theorem wW {L:List (Int × Int × Int)} {M:List Ent} (h:SlL L) (hM:MtE M):SlE (slE 0 L ++ M) (slE 0 L):=by
 have q:=aCD h;refine ⟨zN h hM,fun e he=>?_,SR h.1 hM,q.ok,q.id,q.m,by rw [List.length_append,iT]; have:=h.1; have:=hM.n; omega⟩
 rcases List.mem_append.1 he with he | he
 ·exact q.k e he
 ·have:=hM.k e he
  omega
theorem JP {L:List (Int × Int × Int)} {M:List Ent} (hM:MtE M) {i:Nat} (hi:i < 200) (v:ByteArray):bJ (slK i) v (slE 0 L ++ M) = bJ (slK i) v (slE 0 L) ++ M:=BS fun e he=>by
 have:=(hM.k e he).1;unfold slK;omega
theorem pY {w0 w:World} {R:List Nat} {t d s:Nat} {L:List (Int × Int × Int)} {M:List Ent} {ca nc:Int} (h:TxS w0 R w t d s 640 (slE 0 L ++ M)) (hL:SlL L) (hM:MtE M) (hca:1 ≤ ca ∧ ca ≤ 16777215) (hnc:0 ≤ nc ∧ nc ≤ 18446744073709551615) (hbu:∀ x ∈ L,dV x.1 x.2.2 nc = false)
  (hl:L.length < 200) (hlo:∀ y ∈ L,gS y.1 y.2.1 = false) :
  Calls Tryz.prog 22 #[.pointer (some ⟨t,0,none⟩),.int .i64 ca,.int .u64 nc] w fun e w' => e = .returned (.tuple #[.agg #[.int .i64 ((L.length + 1:Nat):Int),.int .i64 ca,.int .i64 1,.int .u64 nc],.int .i64 0]) ∧ TxS w0 R w' t d s 640 (slE 0 (L ++ [(ca,1,nc)]) ++ M) ∧ KeptT R t w w' ∧ SlL (L ++ [(ca,1,nc)]):=by
 have hset:SlL (L ++ [(ca,1,nc)]):=hL.snoc hl ⟨by
  unfold bV;simp only [Bool.and_eq_true,gL];exact ⟨⟨⟨by omega,by omega⟩,by decide⟩,by simp⟩,hnc.1,hnc.2⟩
 have e:=vS L 0 (ca,1,nc);rw [Nat.zero_add] at e;refine (zG h (wW hL hM) hca hnc (CW hL nc hbu) (i:=L.length) hl (fun j hj=>?_) (FO (Nat.le_refl _)) (sR (Nat.le_refl _)) rfl ⟨by decide,by decide⟩).mono ?_
 ·obtain ⟨y,hy⟩:∃ y,L[j]? = some y:=⟨_,List.getElem?_eq_getElem hj⟩
  rw [nS hL hy];exact hlo y (List.mem_of_getElem? hy)
 ·rintro e' w' ⟨rfl,h1,h2⟩
  rw [kE hl,show bT ca 1 nc = slV (ca,1,nc) from rfl,JP hM hl,e] at h1;exact ⟨rfl,h1,h2,hset⟩
theorem GB {w0 w:World} {R:List Nat} {t d s:Nat} {L:List (Int × Int × Int)} {M:List Ent} {ca nc:Int} (h:TxS w0 R w t d s 640 (slE 0 L ++ M)) (hL:SlL L) (hM:MtE M) (hca:1 ≤ ca ∧ ca ≤ 16777215) {j:Nat} {x:Int × Int × Int} (hx:L[j]? = some x) (hb:dV x.1 x.2.2 nc = true) :
  Calls Tryz.prog 22 #[.pointer (some ⟨t,0,none⟩),.int .i64 ca,.int .u64 nc] w fun e w' => e = .returned (.tuple #[.agg #[.int .i64 0,.int .i64 0,.int .i64 0,.int .u64 0],.int .i64 13]) ∧ TxS w0 R w' t d s 640 (slE 0 L ++ M) ∧ KeptT R t w w' := by
 obtain ⟨e,he,hb'⟩:=uT hL nc hx hb;exact SN h (wW hL hM) hca (by decide) fun vs hv=>hv.busy he hb'
theorem aEA {w0 w:World} {R:List Nat} {t d s:Nat} {L:List (Int × Int × Int)} {M:List Ent} (h:TxS w0 R w t d s 640 (slE 0 L ++ M)) (hL:SlL L) (hM:MtE M) {i:Nat} {x:Int × Int × Int} (hx:L[i]? = some x) :
  Calls Tryz.prog 24 #[.pointer (some ⟨t,0,none⟩),.int .i64 ((i + 1:Nat):Int)] w fun e w' => e = .returned (.tuple #[.agg #[.int .i64 ((i + 1:Nat):Int),.int .i64 x.1,.int .i64 x.2.1,.int .u64 x.2.2],.int .i64 0]) ∧ TxS w0 R w' t d s 640 (slE 0 L ++ M) ∧ KeptT R t w w' := by
 have hi:=(List.getElem?_eq_some_iff.1 hx).1;have h200:=hL.1;have h50:=hM.n;obtain ⟨g1,g2,g3⟩:=hL.2 i x hx;obtain ⟨e1,e2,e3⟩:=qF g1 g2 g3;have hg:mU (slK i) (slE 0 L ++ M) = some (slV x):=(WC (zN hL hM)).1 (List.mem_append_left _ (List.mem_of_getElem? (i:=i) (by rw [lC,hx,Nat.zero_add]; rfl)));exact TL h (by rw [List.length_append,iT]; omega) ⟨by omega,by omega⟩ (kE (by omega)) (by unfold slK; omega) (by unfold iE; rw [hg]; rfl) (by unfold gV; rw [hg]; rfl) (LG g1 g2 g3) e1 e2 e3
theorem xK {M:List Ent} (hM:MtE M):∀ (ps:List (Int × Int)) (A:List Ent),(∀ p ∈ ps,∃ j,j < 200 ∧ p.1 = ((j + 1:Nat):Int)) → dJ ps (A ++ M) = dJ ps A ++ M
 | [],A,_=>rfl
 | p :: ps,A,h=>by
  obtain ⟨j,h1,h2⟩:=h p (by simp)
  show dJ ps (bJ (dM 4 0 p.1) (bT 0 p.2 0) (A ++ M)) = dJ ps (bJ (dM 4 0 p.1) (bT 0 p.2 0) A) ++ M
  rw [h2,kE h1,BS (fun e he=>by have:=(hM.k e he).1; unfold slK; omega),xK hM ps _ fun q hq=>h q (by simp [hq])]
theorem aAR {w0 w:World} {R:List Nat} {t d s:Nat} {L:List (Int × Int × Int)} {M:List Ent} (cap:Int) (h:TxS w0 R w t d s 640 (slE 0 L ++ M)) (hL:SlL L) (hM:MtE M) :
  Calls Tryz.prog 23 #[.pointer (some ⟨t,0,none⟩),.int .i64 cap] w fun e w' => e = .returned (.tuple #[.int .i64 (L.filter (nB cap)).length,.int .i64 0]) ∧ TxS w0 R w' t d s 640 (slE 0 (L.map (jB cap)) ++ M) ∧ KeptT R t w w' := by
 have hl:0 + L.length ≤ 200:=by have:=hL.1; omega
 have hf:=hL.free cap
 have hsub:∀ p ∈ bK cap (slE 0 L),∃ j,j < L.length ∧ j < 200 ∧ p.1 = ((j + 1:Nat):Int) ∧ bV p.1 0 p.2 = true:=fun p hp=>by
  obtain ⟨j,x,hx,hg,rfl,hj⟩:=vV hl hL.okx hp;have h1:=(hf.2 j (jB cap x) (by rw [List.getElem?_map,hx]; rfl)).1;have e2:jB cap x = (0,x.2.1 + 1,0):=by unfold jB; rw [if_pos hg]
  rw [e2] at h1;refine ⟨j,(List.getElem?_eq_some_iff.1 hx).1,by omega,by rw [Nat.zero_add],?_⟩;rw [Nat.zero_add];exact h1
 have:=SX (cap:=cap) h (wW hL hM) (fun e he=>by
  obtain ⟨j,x,hj,hx,rfl⟩:=nL hL.1 he;have hin:=jO (hL.2 j x hx).1;have e2:=(mN (cap:=cap) (j:=j) (hL.2 j x hx)).2
  show IntKind.i64.wrap (tsE (slV x) + 1) = tsE (slV x) + 1
  rw [e2];exact IntWalk.i64_in _ (by omega)) (fun p hp=>(hsub p hp).choose_spec.2.2.2) (fun k=>by
  rw [xK hM _ _ (fun p hp=>by
   obtain ⟨j,h1,h2,h3,_⟩:=hsub p (List.mem_of_mem_take hp);exact ⟨j,h2,h3⟩),List.length_append,vX _ _ fun p hp=>by
   obtain ⟨j,h1,h2,h3,_⟩:=hsub p (List.mem_of_mem_take hp);exact ⟨j,h1,h2,h3⟩]
  have:=hL.1;have:=hM.n;omega)
 rw [xK hM _ _ (fun p hp=>by
  obtain ⟨j,h1,h2,h3,_⟩:=hsub p hp;exact ⟨j,h2,h3⟩),vW cap L 0 hl hL.okx,pE cap L 0 hL.okx] at this
 exact this
open Go.RowKit

theorem iH (a:Nat) (ha:a < 4294967296):(BitVec.ofInt 32 (a:Int)).toNat = a:=by
 rw [BitVec.ofInt_natCast,BitVec.toNat_ofNat]; exact Nat.mod_eq_of_lt (by omega)
theorem cJ (a b:Nat) (ha:a < 4294967296) (hb:b < 4294967296):bits .or .u32 (a:Int) (b:Int) = ((a ||| b:Nat):Int):=by
 have hx:a ||| b < 2 ^ 32:=Nat.or_lt_two_pow (by omega) (by omega)
 show IntKind.u32.wrap ((BitVec.ofInt 32 (a:Int) ||| BitVec.ofInt 32 (b:Int)).toNat:Int) = _
 rw [BitVec.toNat_or,iH a ha,iH b hb,IntKind.wrap_u32];omega
theorem dI (a b:Nat) (ha:a < 4294967296) (hb:b < 4294967296):bits .xor .u32 (a:Int) (b:Int) = ((a ^^^ b:Nat):Int):=by
 have hx:a ^^^ b < 2 ^ 32:=Nat.xor_lt_two_pow (by omega) (by omega)
 show IntKind.u32.wrap ((BitVec.ofInt 32 (a:Int) ^^^ BitVec.ofInt 32 (b:Int)).toNat:Int) = _
 rw [BitVec.toNat_xor,iH a ha,iH b hb,IntKind.wrap_u32];omega
theorem gO (a b:Nat) (ha:a < 4294967296) (hb:b < 4294967296):bits .and .u32 (a:Int) (b:Int) = ((a &&& b:Nat):Int):=by
 have hx:a &&& b < 2 ^ 32:=Nat.and_lt_two_pow _ (by omega)
 show IntKind.u32.wrap ((BitVec.ofInt 32 (a:Int) &&& BitVec.ofInt 32 (b:Int)).toNat:Int) = _
 rw [BitVec.toNat_and,iH a ha,iH b hb,IntKind.wrap_u32];omega
namespace S
def rot (x n:Nat):Nat:=(x * 2 ^ (32 - n) % 4294967296) ||| (x / 2 ^ n)
theorem rot_lt (x n:Nat) (hx:x < 4294967296):rot x n < 4294967296:=by
 unfold rot;exact Nat.or_lt_two_pow (n:=32) (Nat.mod_lt _ (by decide)) (Nat.lt_of_le_of_lt (Nat.div_le_self _ _) hx)
def x3 (a b c:Nat):Nat:=a ^^^ b ^^^ c
theorem xor_lt {a b:Nat} (ha:a < 4294967296) (hb:b < 4294967296):a ^^^ b < 4294967296:=Nat.xor_lt_two_pow (n:=32) ha hb
theorem and_lt {a b:Nat} (ha:a < 4294967296):a &&& b < 4294967296:=Nat.lt_of_le_of_lt Nat.and_le_left ha
def s0 (x:Nat):Nat:=x3 (rot x 7) (rot x 18) (x / 8)
def s1 (x:Nat):Nat:=x3 (rot x 17) (rot x 19) (x / 1024)
def S0 (x:Nat):Nat:=x3 (rot x 2) (rot x 13) (rot x 22)
def S1 (x:Nat):Nat:=x3 (rot x 6) (rot x 11) (rot x 25)
def ch (e f g:Nat):Nat:=(e &&& f) ^^^ ((4294967295 ^^^ e) &&& g)
def maj (a b c:Nat):Nat:=x3 (a &&& b) (a &&& c) (b &&& c)
def add (a b:Nat):Nat:=(a + b) % 4294967296
theorem iN (a b:Nat):add a b < 4294967296:=Nat.mod_lt _ (by decide)
def word (b:List UInt8) (i:Nat):Nat:=M.val ((b.drop (4 * i)).take 4)
theorem XY (b:List UInt8) (i:Nat):word b i < 4294967296:=by
 have h1:=M.val_lt ((b.drop (4 * i)).take 4);have h2:256 ^ ((b.drop (4 * i)).take 4).length ≤ 256 ^ 4:=Nat.pow_le_pow_right (by decide) (by simp; omega);unfold word;have h3:(256:Nat) ^ 4 = 4294967296:=by decide
 omega
def wnext (w:List Nat) (i:Nat):Nat:=add (add (add (s1 (w.getD (i - 2) 0)) (w.getD (i - 7) 0)) (s0 (w.getD (i - 15) 0))) (w.getD (i - 16) 0)
def wds (b:List UInt8):Nat → List Nat
 | 0=>[]
 | n + 1=>wds b n ++ [if n < 16 then word b n else wnext (wds b n) n]
theorem wds_length (b:List UInt8) (n:Nat):(wds b n).length = n:=by
 induction n with
 | zero=>rfl
 | succ n ih=>simp [wds,ih]
theorem wds_lt (b:List UInt8) (n:Nat):∀ x ∈ wds b n,x < 4294967296:=by
 induction n with
 | zero=>simp [wds]
 | succ n ih =>
  intro x hx;rw [wds] at hx
  rcases List.mem_append.1 hx with h | h
  ·exact ih x h
  ·simp only [List.mem_singleton] at h
   subst h
   split
   ·exact XY _ _
   ·exact iN _ _
structure St where
 a:Nat
 b:Nat
 c:Nat
 d:Nat
 e:Nat
 f:Nat
 g:Nat
 h:Nat
def St.ok (s:St):Prop:=s.a < 4294967296 ∧ s.b < 4294967296 ∧ s.c < 4294967296 ∧ s.d < 4294967296 ∧ s.e < 4294967296 ∧ s.f < 4294967296 ∧ s.g < 4294967296 ∧ s.h < 4294967296
def t1 (s:St) (k w:Nat):Nat:=add (add (add (add s.h (S1 s.e)) (ch s.e s.f s.g)) k) w
def t2 (s:St):Nat:=add (S0 s.a) (maj s.a s.b s.c)
def step (s:St) (k w:Nat):St:=⟨add (t1 s k w) (t2 s),s.a,s.b,s.c,add s.d (t1 s k w),s.e,s.f,s.g⟩
theorem YR (s:St) (k w:Nat) (h:s.ok):(step s k w).ok:=⟨iN _ _,h.1,h.2.1,h.2.2.1,iN _ _,h.2.2.2.2.1,h.2.2.2.2.2.1,h.2.2.2.2.2.2.1⟩
def steps (K W:List Nat) (s:St):Nat → St
 | 0=>s
 | n + 1=>step (steps K W s n) (K.getD n 0) (W.getD n 0)
theorem steps_ok (K W:List Nat) (s:St) (n:Nat) (h:s.ok):(steps K W s n).ok:=by
 induction n with
 | zero=>exact h
 | succ n ih=>exact YR _ _ _ ih
def plus (s t:St):St:=⟨add s.a t.a,add s.b t.b,add s.c t.c,add s.d t.d,add s.e t.e,add s.f t.f,add s.g t.g,add s.h t.h⟩
theorem plus_ok (s t:St):(plus s t).ok:=⟨iN _ _,iN _ _,iN _ _,iN _ _,iN _ _,iN _ _,iN _ _,iN _ _⟩
def KS:List Nat:=[
 0x428a2f98,0x71374491,0xb5c0fbcf,0xe9b5dba5,0x3956c25b,0x59f111f1,0x923f82a4,0xab1c5ed5,
 0xd807aa98,0x12835b01,0x243185be,0x550c7dc3,0x72be5d74,0x80deb1fe,0x9bdc06a7,0xc19bf174,
 0xe49b69c1,0xefbe4786,0x0fc19dc6,0x240ca1cc,0x2de92c6f,0x4a7484aa,0x5cb0a9dc,0x76f988da,
 0x983e5152,0xa831c66d,0xb00327c8,0xbf597fc7,0xc6e00bf3,0xd5a79147,0x06ca6351,0x14292967,
 0x27b70a85,0x2e1b2138,0x4d2c6dfc,0x53380d13,0x650a7354,0x766a0abb,0x81c2c92e,0x92722c85,
 0xa2bfe8a1,0xa81a664b,0xc24b8b70,0xc76c51a3,0xd192e819,0xd6990624,0xf40e3585,0x106aa070,
 0x19a4c116,0x1e376c08,0x2748774c,0x34b0bcb5,0x391c0cb3,0x4ed8aa4a,0x5b9cca4f,0x682e6ff3,
 0x748f82ee,0x78a5636f,0x84c87814,0x8cc70208,0x90befffa,0xa4506ceb,0xbef9a3f7,0xc67178f2]
def HS:St:=⟨0x6a09e667,0xbb67ae85,0x3c6ef372,0xa54ff53a,0x510e527f,0x9b05688c,0x1f83d9ab,0x5be0cd19⟩
def turn (s:St) (b:List UInt8):St:=plus (steps KS (wds b 64) s 64) s
def blocks (p:List UInt8):Nat → St
 | 0=>HS
 | n + 1=>turn (blocks p n) ((p.drop (64 * n)).take 64)
def zeros (n:Nat):Nat:=(119 - n % 64) % 64
def tail (left:List UInt8) (size:Nat):List UInt8:=left ++ [0x80] ++ List.replicate (zeros left.length) 0 ++ M.be 8 (size * 8)
def St.list (s:St):List Nat:=[s.a,s.b,s.c,s.d,s.e,s.f,s.g,s.h]
def digest (s:St):List UInt8:=(s.list.map (M.be 4)).flatten
def padded (s:List UInt8):List UInt8:=s.take (s.length / 64 * 64) ++ tail (s.drop (s.length / 64 * 64)) s.length
def sum (s:List UInt8):List UInt8:=digest (blocks (padded s) ((padded s).length / 64))
end S
def U (l:List Nat):Array Value:=(l.map fun n=>Value.int .u32 ((n:Nat):Int)).toArray
theorem bQ (l:List Nat):(U l).size = l.length:=by simp [U]
theorem aEQ (l:List Nat) (j:Nat) (h:j < l.length):(U l)[j]? = some (.int .u32 ((l[j]:Nat):Int)):=by simp [U,List.getElem?_eq_getElem h]
theorem nD (l:List Nat):(U l).all (·.oneCell') = true:=by
 rw [Array.all_eq_true];intro i hi;simp [U]
 rfl
def Arr (T:TypeId) (w:World) (g:Nat) (l:List Nat):Prop:=w.heap[g]? = some (.cells (U l) T (0,0))
theorem Arr.lt {T:TypeId} {w:World} {g:Nat} {l:List Nat} (h:Arr T w g l):g < w.heap.size:=(zl h)
theorem Arr.cell {T:TypeId} {w:World} {g:Nat} {l:List Nat} (h:Arr T w g l) (j:Nat) (hj:j < l.length):w.cell? ⟨g,j,none⟩ = some (.int .u32 ((l[j]:Nat):Int)):=by
 rw [cell_of_row w g j _ T _ h,aEQ l j hj]
theorem Arr.free {T:TypeId} {w:World} {g:Nat} {l:List Nat} (h:Arr T w g l) (j:Nat):w.frozen? ⟨g,j,none⟩ = false:=frozen_of_row w g j _ T h
theorem Arr.drew {T:TypeId} {w:World} {g:Nat} {l:List Nat} (h:Arr T w g l):Arr T w.drew g l:=h
theorem Arr.drewN {T:TypeId} {w:World} {g:Nat} {l:List Nat} (h:Arr T w g l) (n:Nat):Arr T (w.drewN n) g l:=h
theorem aEP (l:List Nat) (j v:Nat):(U l).setIfInBounds j (.int .u32 (v:Int)) = U (l.set j v):=by
 apply Array.ext';simp [U,List.map_set]
theorem Arr.set {T:TypeId} {w:World} {g:Nat} {l:List Nat} (h:Arr T w g l) (j v:Nat):Arr T (w.setCell ⟨g,j,none⟩ (.int .u32 (v:Int))) g (l.set j v):=by
 unfold Arr;rw [hss w g j _ T _ h,aEP]
theorem Arr.other {T:TypeId} {w:World} {g:Nat} {l:List Nat} (h:Arr T w g l) (a:Addr) (v:Value) (hne:g ≠ a.block):Arr T (w.setCell a v) g l:=by
 unfold Arr;rw [heap_setCell_other w a g v hne];exact h
theorem Arr.alloc {T:TypeId} {w:World} {g:Nat} {l:List Nat} (h:Arr T w g l) (o:Obj):Arr T (w.alloc o) g l:=by
 unfold Arr;have hs:=h.lt;have:(w.alloc o).heap = w.heap.push o:=rfl;rw [this,Array.getElem?_push_lt hs];rw [← Array.getElem?_eq_getElem hs];exact h
theorem Arr.below {T:TypeId} {w w' : World} {g:Nat} {l:List Nat} (h:Arr T w g l) (hb:Below w.heap.size w w'):Arr T w' g l:=(hb.block g h.lt).trans h
theorem Arr.new {T:TypeId} (w:World) (l:List Nat):Arr T (w.alloc (.cells (U l) T)) w.heap.size l:=han w _
theorem Arr.row {T:TypeId} {w:World} {g:Nat} {l:List Nat} (h:Arr T w g l) (m:List Nat):Arr T (w.setRow g (U m)) g m:=setRow_heap w g _ _ T _ h
theorem aCK (x:Nat) (w:World) (hx:x < 4294967296) :
  Calls Tryz.prog 201 #[.int .u32 (x:Int),.int .i64 (-2)] w fun e w' => e = .returned (.int .u32 (S.rot x 2:Int)) ∧ w = w' := by
 have ho:=cJ (x * 2 ^ (32 - 2) % 4294967296) (x / 2 ^ 2) (Nat.mod_lt _ (by decide)) (Nat.lt_of_le_of_lt (Nat.div_le_self _ _) hx);have hb:bits .and .u64 (IntKind.u64.wrap (-2)) 31 = 30:=by decide
 change _ = (S.rot x 2:Int) at ho;generalize S.rot x 2 = r at *;simp only [Int.natCast_emod,Int.natCast_mul,Int.natCast_ediv,Nat.reducePow,Nat.reduceSub,Int.cast_ofNat_Int] at ho;go_enter Tryz.func201,Tryz.ntmps201;go_wp2_with fail;go_ret;exact ⟨rfl,rfl⟩
theorem ZS (x:Nat) (w:World) (hx:x < 4294967296) :
  Calls Tryz.prog 180 #[.int .u32 (x:Int),.int .i64 2] w fun e w' => e = .returned (.int .u32 (S.rot x 2:Int)) ∧ w = w' := by
 go_enter Tryz.func180,Tryz.ntmps180;go_wp2_with fail;refine (aCK _ _ hx).mono ?_;rintro e w1 ⟨rfl,rfl⟩;go_wp2_with fail;go_ret;exact ⟨rfl,rfl⟩
theorem aCJ (x:Nat) (w:World) (hx:x < 4294967296) :
  Calls Tryz.prog 201 #[.int .u32 (x:Int),.int .i64 (-6)] w fun e w' => e = .returned (.int .u32 (S.rot x 6:Int)) ∧ w = w' := by
 have ho:=cJ (x * 2 ^ (32 - 6) % 4294967296) (x / 2 ^ 6) (Nat.mod_lt _ (by decide)) (Nat.lt_of_le_of_lt (Nat.div_le_self _ _) hx);have hb:bits .and .u64 (IntKind.u64.wrap (-6)) 31 = 26:=by decide
 change _ = (S.rot x 6:Int) at ho;generalize S.rot x 6 = r at *;simp only [Int.natCast_emod,Int.natCast_mul,Int.natCast_ediv,Nat.reducePow,Nat.reduceSub,Int.cast_ofNat_Int] at ho;go_enter Tryz.func201,Tryz.ntmps201;go_wp2_with fail;go_ret;exact ⟨rfl,rfl⟩
theorem ZR (x:Nat) (w:World) (hx:x < 4294967296) :
  Calls Tryz.prog 180 #[.int .u32 (x:Int),.int .i64 6] w fun e w' => e = .returned (.int .u32 (S.rot x 6:Int)) ∧ w = w' := by
 go_enter Tryz.func180,Tryz.ntmps180;go_wp2_with fail;refine (aCJ _ _ hx).mono ?_;rintro e w1 ⟨rfl,rfl⟩;go_wp2_with fail;go_ret;exact ⟨rfl,rfl⟩
theorem aCI (x:Nat) (w:World) (hx:x < 4294967296) :
  Calls Tryz.prog 201 #[.int .u32 (x:Int),.int .i64 (-7)] w fun e w' => e = .returned (.int .u32 (S.rot x 7:Int)) ∧ w = w' := by
 have ho:=cJ (x * 2 ^ (32 - 7) % 4294967296) (x / 2 ^ 7) (Nat.mod_lt _ (by decide)) (Nat.lt_of_le_of_lt (Nat.div_le_self _ _) hx);have hb:bits .and .u64 (IntKind.u64.wrap (-7)) 31 = 25:=by decide
 change _ = (S.rot x 7:Int) at ho;generalize S.rot x 7 = r at *;simp only [Int.natCast_emod,Int.natCast_mul,Int.natCast_ediv,Nat.reducePow,Nat.reduceSub,Int.cast_ofNat_Int] at ho;go_enter Tryz.func201,Tryz.ntmps201;go_wp2_with fail;go_ret;exact ⟨rfl,rfl⟩
theorem JT (x:Nat) (w:World) (hx:x < 4294967296) :
  Calls Tryz.prog 180 #[.int .u32 (x:Int),.int .i64 7] w fun e w' => e = .returned (.int .u32 (S.rot x 7:Int)) ∧ w = w' := by
 go_enter Tryz.func180,Tryz.ntmps180;go_wp2_with fail;refine (aCI _ _ hx).mono ?_;rintro e w1 ⟨rfl,rfl⟩;go_wp2_with fail;go_ret;exact ⟨rfl,rfl⟩
theorem ZP (x:Nat) (w:World) (hx:x < 4294967296) :
  Calls Tryz.prog 201 #[.int .u32 (x:Int),.int .i64 (-11)] w fun e w' => e = .returned (.int .u32 (S.rot x 11:Int)) ∧ w = w' := by
 have ho:=cJ (x * 2 ^ (32 - 11) % 4294967296) (x / 2 ^ 11) (Nat.mod_lt _ (by decide)) (Nat.lt_of_le_of_lt (Nat.div_le_self _ _) hx);have hb:bits .and .u64 (IntKind.u64.wrap (-11)) 31 = 21:=by decide
 change _ = (S.rot x 11:Int) at ho;generalize S.rot x 11 = r at *;simp only [Int.natCast_emod,Int.natCast_mul,Int.natCast_ediv,Nat.reducePow,Nat.reduceSub,Int.cast_ofNat_Int] at ho;go_enter Tryz.func201,Tryz.ntmps201;go_wp2_with fail;go_ret;exact ⟨rfl,rfl⟩
theorem TT (x:Nat) (w:World) (hx:x < 4294967296) :
  Calls Tryz.prog 180 #[.int .u32 (x:Int),.int .i64 11] w fun e w' => e = .returned (.int .u32 (S.rot x 11:Int)) ∧ w = w' := by
 go_enter Tryz.func180,Tryz.ntmps180;go_wp2_with fail;refine (ZP _ _ hx).mono ?_;rintro e w1 ⟨rfl,rfl⟩;go_wp2_with fail;go_ret;exact ⟨rfl,rfl⟩
theorem ZO (x:Nat) (w:World) (hx:x < 4294967296) :
  Calls Tryz.prog 201 #[.int .u32 (x:Int),.int .i64 (-13)] w fun e w' => e = .returned (.int .u32 (S.rot x 13:Int)) ∧ w = w' := by
 have ho:=cJ (x * 2 ^ (32 - 13) % 4294967296) (x / 2 ^ 13) (Nat.mod_lt _ (by decide)) (Nat.lt_of_le_of_lt (Nat.div_le_self _ _) hx);have hb:bits .and .u64 (IntKind.u64.wrap (-13)) 31 = 19:=by decide
 change _ = (S.rot x 13:Int) at ho;generalize S.rot x 13 = r at *;simp only [Int.natCast_emod,Int.natCast_mul,Int.natCast_ediv,Nat.reducePow,Nat.reduceSub,Int.cast_ofNat_Int] at ho;go_enter Tryz.func201,Tryz.ntmps201;go_wp2_with fail;go_ret;exact ⟨rfl,rfl⟩
theorem TR (x:Nat) (w:World) (hx:x < 4294967296) :
  Calls Tryz.prog 180 #[.int .u32 (x:Int),.int .i64 13] w fun e w' => e = .returned (.int .u32 (S.rot x 13:Int)) ∧ w = w' := by
 go_enter Tryz.func180,Tryz.ntmps180;go_wp2_with fail;refine (ZO _ _ hx).mono ?_;rintro e w1 ⟨rfl,rfl⟩;go_wp2_with fail;go_ret;exact ⟨rfl,rfl⟩
theorem ZN (x:Nat) (w:World) (hx:x < 4294967296) :
  Calls Tryz.prog 201 #[.int .u32 (x:Int),.int .i64 (-17)] w fun e w' => e = .returned (.int .u32 (S.rot x 17:Int)) ∧ w = w' := by
 have ho:=cJ (x * 2 ^ (32 - 17) % 4294967296) (x / 2 ^ 17) (Nat.mod_lt _ (by decide)) (Nat.lt_of_le_of_lt (Nat.div_le_self _ _) hx);have hb:bits .and .u64 (IntKind.u64.wrap (-17)) 31 = 15:=by decide
 change _ = (S.rot x 17:Int) at ho;generalize S.rot x 17 = r at *;simp only [Int.natCast_emod,Int.natCast_mul,Int.natCast_ediv,Nat.reducePow,Nat.reduceSub,Int.cast_ofNat_Int] at ho;go_enter Tryz.func201,Tryz.ntmps201;go_wp2_with fail;go_ret;exact ⟨rfl,rfl⟩
theorem AC (x:Nat) (w:World) (hx:x < 4294967296) :
  Calls Tryz.prog 180 #[.int .u32 (x:Int),.int .i64 17] w fun e w' => e = .returned (.int .u32 (S.rot x 17:Int)) ∧ w = w' := by
 go_enter Tryz.func180,Tryz.ntmps180;go_wp2_with fail;refine (ZN _ _ hx).mono ?_;rintro e w1 ⟨rfl,rfl⟩;go_wp2_with fail;go_ret;exact ⟨rfl,rfl⟩
theorem ZM (x:Nat) (w:World) (hx:x < 4294967296) :
  Calls Tryz.prog 201 #[.int .u32 (x:Int),.int .i64 (-18)] w fun e w' => e = .returned (.int .u32 (S.rot x 18:Int)) ∧ w = w' := by
 have ho:=cJ (x * 2 ^ (32 - 18) % 4294967296) (x / 2 ^ 18) (Nat.mod_lt _ (by decide)) (Nat.lt_of_le_of_lt (Nat.div_le_self _ _) hx);have hb:bits .and .u64 (IntKind.u64.wrap (-18)) 31 = 14:=by decide
 change _ = (S.rot x 18:Int) at ho;generalize S.rot x 18 = r at *;simp only [Int.natCast_emod,Int.natCast_mul,Int.natCast_ediv,Nat.reducePow,Nat.reduceSub,Int.cast_ofNat_Int] at ho;go_enter Tryz.func201,Tryz.ntmps201;go_wp2_with fail;go_ret;exact ⟨rfl,rfl⟩
theorem AB (x:Nat) (w:World) (hx:x < 4294967296) :
  Calls Tryz.prog 180 #[.int .u32 (x:Int),.int .i64 18] w fun e w' => e = .returned (.int .u32 (S.rot x 18:Int)) ∧ w = w' := by
 go_enter Tryz.func180,Tryz.ntmps180;go_wp2_with fail;refine (ZM _ _ hx).mono ?_;rintro e w1 ⟨rfl,rfl⟩;go_wp2_with fail;go_ret;exact ⟨rfl,rfl⟩
theorem ZL (x:Nat) (w:World) (hx:x < 4294967296) :
  Calls Tryz.prog 201 #[.int .u32 (x:Int),.int .i64 (-19)] w fun e w' => e = .returned (.int .u32 (S.rot x 19:Int)) ∧ w = w' := by
 have ho:=cJ (x * 2 ^ (32 - 19) % 4294967296) (x / 2 ^ 19) (Nat.mod_lt _ (by decide)) (Nat.lt_of_le_of_lt (Nat.div_le_self _ _) hx);have hb:bits .and .u64 (IntKind.u64.wrap (-19)) 31 = 13:=by decide
 change _ = (S.rot x 19:Int) at ho;generalize S.rot x 19 = r at *;simp only [Int.natCast_emod,Int.natCast_mul,Int.natCast_ediv,Nat.reducePow,Nat.reduceSub,Int.cast_ofNat_Int] at ho;go_enter Tryz.func201,Tryz.ntmps201;go_wp2_with fail;go_ret;exact ⟨rfl,rfl⟩
theorem AA (x:Nat) (w:World) (hx:x < 4294967296) :
  Calls Tryz.prog 180 #[.int .u32 (x:Int),.int .i64 19] w fun e w' => e = .returned (.int .u32 (S.rot x 19:Int)) ∧ w = w' := by
 go_enter Tryz.func180,Tryz.ntmps180;go_wp2_with fail;refine (ZL _ _ hx).mono ?_;rintro e w1 ⟨rfl,rfl⟩;go_wp2_with fail;go_ret;exact ⟨rfl,rfl⟩
theorem ZK (x:Nat) (w:World) (hx:x < 4294967296) :
  Calls Tryz.prog 201 #[.int .u32 (x:Int),.int .i64 (-22)] w fun e w' => e = .returned (.int .u32 (S.rot x 22:Int)) ∧ w = w' := by
 have ho:=cJ (x * 2 ^ (32 - 22) % 4294967296) (x / 2 ^ 22) (Nat.mod_lt _ (by decide)) (Nat.lt_of_le_of_lt (Nat.div_le_self _ _) hx);have hb:bits .and .u64 (IntKind.u64.wrap (-22)) 31 = 10:=by decide
 change _ = (S.rot x 22:Int) at ho;generalize S.rot x 22 = r at *;simp only [Int.natCast_emod,Int.natCast_mul,Int.natCast_ediv,Nat.reducePow,Nat.reduceSub,Int.cast_ofNat_Int] at ho;go_enter Tryz.func201,Tryz.ntmps201;go_wp2_with fail;go_ret;exact ⟨rfl,rfl⟩
theorem TQ (x:Nat) (w:World) (hx:x < 4294967296) :
  Calls Tryz.prog 180 #[.int .u32 (x:Int),.int .i64 22] w fun e w' => e = .returned (.int .u32 (S.rot x 22:Int)) ∧ w = w' := by
 go_enter Tryz.func180,Tryz.ntmps180;go_wp2_with fail;refine (ZK _ _ hx).mono ?_;rintro e w1 ⟨rfl,rfl⟩;go_wp2_with fail;go_ret;exact ⟨rfl,rfl⟩
theorem ZJ (x:Nat) (w:World) (hx:x < 4294967296) :
  Calls Tryz.prog 201 #[.int .u32 (x:Int),.int .i64 (-25)] w fun e w' => e = .returned (.int .u32 (S.rot x 25:Int)) ∧ w = w' := by
 have ho:=cJ (x * 2 ^ (32 - 25) % 4294967296) (x / 2 ^ 25) (Nat.mod_lt _ (by decide)) (Nat.lt_of_le_of_lt (Nat.div_le_self _ _) hx);have hb:bits .and .u64 (IntKind.u64.wrap (-25)) 31 = 7:=by decide
 change _ = (S.rot x 25:Int) at ho;generalize S.rot x 25 = r at *;simp only [Int.natCast_emod,Int.natCast_mul,Int.natCast_ediv,Nat.reducePow,Nat.reduceSub,Int.cast_ofNat_Int] at ho;go_enter Tryz.func201,Tryz.ntmps201;go_wp2_with fail;go_ret;exact ⟨rfl,rfl⟩
theorem TP (x:Nat) (w:World) (hx:x < 4294967296) :
  Calls Tryz.prog 180 #[.int .u32 (x:Int),.int .i64 25] w fun e w' => e = .returned (.int .u32 (S.rot x 25:Int)) ∧ w = w' := by
 go_enter Tryz.func180,Tryz.ntmps180;go_wp2_with fail;refine (ZJ _ _ hx).mono ?_;rintro e w1 ⟨rfl,rfl⟩;go_wp2_with fail;go_ret;exact ⟨rfl,rfl⟩
end Go.Proofs.YthcejfnngkmojaaGreatDoor
