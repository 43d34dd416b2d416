/-
 Ht, Hx.
-/
import Derived.Test.YthcejfnngkmojaaGreatDoorP19
import Derived.Test.YthcejfnngkmojaaGreatDoorP18
import Derived.Deep.DeepCutAuto
namespace Go.Proofs.YthcejfnngkmojaaGreatDoor
open Go Go.RowKit
set_option maxRecDepth 20000
set_option maxHeartbeats 12800000
set_option linter.unusedVariables false
set_option linter.unusedSimpArgs false
theorem ZH {w:World} {g:Nat} {v:Value} {t:TypeId} (h:w.heap[g]?=some (.cells #[v] t)) (u:Value):(w.setCell ⟨g,0,none⟩ u).heap[g]?=some (.cells #[u] t):=by
 rw [hss _ _ 0 _ _ _ h]; rfl
theorem UA {w0 w:World} {R:List Nat} {t d s bt bc bd bs bu ln cp:Nat} {E' : List Ent} {a:Option Addr} {ca e uv u0:Int} {sv s0:ByteArray} (hb:w.heap[bt]?=some (.cells #[.pointer (some ⟨t,0,none⟩)] 24)) (hc:w.heap[bc]?=some (.cells #[.int .i64 ca] 3)) (hd:w.heap[bd]?=some (.cells #[.slice a ln cp] 66)) (hs:w.heap[bs]?=some (.cells #[.string s0] 9)) (hu:w.heap[bu]?=some (.cells #[.int .i64 u0] 3)) (hm:((bs∈R∧bs≠t)∧w0.heap.size≤bs)∧((bu∈R∧bu≠t)∧w0.heap.size≤bu)∧bs≠bu)
  (HC:Calls Tryz.prog 76 #[.pointer (some ⟨t,0,none⟩),.int .i64 ca,.slice a ln cp] w fun e' w' => e'=.returned (.tuple #[.string sv,.int .i64 uv,.int .i64 e])∧TxS w0 R w' t d s 640 E'∧KeptT R t w w') :
  Calls Tryz.prog 75 #[.pointer (some ⟨bt,0,none⟩),.pointer (some ⟨bc,0,none⟩),.pointer (some ⟨bd,0,none⟩),.pointer (some ⟨bs,0,none⟩),.pointer (some ⟨bu,0,none⟩)] w fun e' w' => e'=.returned (.int .i64 e)∧TxS w0 R w' t d s 640 E'∧(w'.heap[bs]?=some (.cells #[.string sv] 9)∧w'.heap[bu]?=some (.cells #[.int .i64 uv] 3)∧∀ k∈R,k≠t→k≠bs→k≠bu→w'.heap[k]?=w.heap[k]?):=by
 have c0:=(aM hb).1;have c1:=(aM hc).1;have c2:=(aM hd).1;have H:=Hd HC;have HS:=Hd (And.intro hs hu);have HM:=Hd hm;clear hb hc hd hs hu hm HC;go_enter Tryz.func75,Tryz.ntmps75;go_wp2_with fail;refine H.out.mono ?_;rintro e' w1 ⟨rfl,h1,h2⟩;have m1:=(h2 bs HM.out.1.1.1 HM.out.1.1.2).trans HS.out.1;have m2:=(h2 bu HM.out.2.1.1.1 HM.out.2.1.1.2).trans HS.out.2;obtain ⟨k1,g1⟩:=aM m1;obtain ⟨k2,g2⟩:=aM m2;have f1:=eE (w:=w1) (b:=bs) (i:=0) (.string sv);have m3:=(f1.block bu (h1.lt.1 bu HM.out.2.1.1.1) (fun h=>HM.out.2.2 h.symm)).trans m2
 have f2:=eE (w:=w1.setCell ⟨bs,0,none⟩ (.string sv)) (b:=bu) (i:=0) (.int .i64 uv);have t1:=h1.turn HM.out.1.1.1 HM.out.1.1.2 HM.out.1.2 f1
 have FIN:Hid (TxS w0 R ((w1.setCell ⟨bs,0,none⟩ (.string sv)).setCell ⟨bu,0,none⟩ (.int .i64 uv)) t d s 640 E'∧(((w1.setCell ⟨bs,0,none⟩ (.string sv)).setCell ⟨bu,0,none⟩ (.int .i64 uv)).heap[bs]?=some (.cells #[.string sv] 9)∧((w1.setCell ⟨bs,0,none⟩ (.string sv)).setCell ⟨bu,0,none⟩ (.int .i64 uv)).heap[bu]?=some (.cells #[.int .i64 uv] 3)∧∀ k∈R,k≠t→k≠bs→k≠bu→((w1.setCell ⟨bs,0,none⟩ (.string sv)).setCell ⟨bu,0,none⟩ (.int .i64 uv)).heap[k]?=w.heap[k]?)):=Hd
  ⟨t1.turn HM.out.2.1.1.1 HM.out.2.1.1.2 HM.out.2.1.2 f2,(f2.block bs (t1.lt.1 bs HM.out.1.1.1) HM.out.2.2).trans (ZH m1 _),ZH m3 _,fun k hk hn n1 n2=>(f2.block k (t1.lt.1 k hk) n2).trans ((f1.block k (h1.lt.1 k hk) n1).trans (h2 k hk hn))⟩
 have ne1:¬ bs=bu:=HM.out.2.2;have ne2:¬ bu=bs:=fun e=>HM.out.2.2 e.symm
 clear h1 h2 m1 m2 m3 f1 f2 t1 c0 c1 c2;go_wp2_with fail;go_ret;exact ⟨rfl,FIN.out⟩
theorem qU {P:Program} {fn:Func} {p q r:Tmp} {ty tz:TypeId} (h:fn.results=#[.cell p ty,.cell q tz,.tmp r]) (tmps:Array Value) (w:World) (a b:Option Addr) (v u x:Value)
  (hp:tmps.getD p undef=.pointer a) (hq:tmps.getD q undef=.pointer b) (hx:tmps.getD r undef=x)
  (h1:((asAddr (.pointer a)).run P w).andThen (fun a w₁=>(loadVar ty a).run P w₁)=.ok v w) (h2:((asAddr (.pointer b)).run P w).andThen (fun a w₁=>(loadVar tz a).run P w₁)=.ok u w) :
  (results fn tmps).run P w=.ok (.tuple #[v,u,x]) w:=by
 have e:(results fn tmps).run P w=(((asAddr (tmps.getD p undef)).run P w).andThen fun a w₁=>(loadVar ty a).run P w₁).andThen fun v w₂=>(((asAddr (tmps.getD q undef)).run P w₂).andThen fun a w₁=>(loadVar tz a).run P w₁).andThen fun u w₃=>.ok (.tuple #[v,u,tmps.getD r undef]) w₃:=by
  simp only [results,h];simp [Sem.run_bind,Result.andThen];generalize Sem.run P (asAddr (tmps[p]?.getD undef)) w=r
  cases r with
  | ok a w1 =>
   dsimp only
   generalize Sem.run P (loadVar ty a) w1=r2
   cases r2 with
   | ok v1 w2 =>
    dsimp only
    generalize Sem.run P (asAddr (tmps[q]?.getD undef)) w2=r3
    cases r3 with
    | ok b w3 =>
     dsimp only
    | halt x w1=>rfl
   | halt x w1=>rfl
  | halt x w1=>rfl
 rw [e,hp,h1]
 show (((asAddr (tmps.getD q undef)).run P w).andThen fun a w₁=>(loadVar tz a).run P w₁).andThen _=_
 rw [hq,h2,hx]
 rfl
structure SlW (w0 w:World) (R Rb:List Nat) (t d s:Nat) (E:List Ent) (b6 b7:Nat) (sv:ByteArray) (uv:Int) (w' : World):Prop where
 tx:TxS w0 Rb w' t d s 640 E
 c6:w'.heap[b6]?=some (.cells #[.string sv] 9)
 c7:w'.heap[b7]?=some (.cells #[.int .i64 uv] 3)
 kp:∀ k∈R,k≠t→w'.heap[k]?=w.heap[k]?
structure SlN (w0:World) (R Rb:List Nat) (t b6 b7:Nat):Prop where
 m6:b6∈Rb∧b6≠t∧w0.heap.size≤b6
 m7:b7∈Rb∧b7≠t∧w0.heap.size≤b7
 ne:b6≠b7
 sub:∀ k∈R,k∈Rb∧k≠b6∧k≠b7
theorem SlW.set6 {w0 w w' : World} {R Rb:List Nat} {t d s b6 b7:Nat} {E:List Ent} {sv:ByteArray} {uv:Int} (h:SlW w0 w R Rb t d s E b6 b7 sv uv w') (n:SlN w0 R Rb t b6 b7):SlW w0 w R Rb t d s E b6 b7 sv uv (w'.setCell ⟨b6,0,none⟩ (.string sv)):=by
 have f:=eE (w:=w') (b:=b6) (i:=0) (.string sv);exact ⟨h.tx.turn n.m6.1 n.m6.2.1 n.m6.2.2 f,ZH h.c6 _,(f.block b7 (h.tx.lt.1 b7 n.m7.1) (fun e=>n.ne e.symm)).trans h.c7,fun k hk hn=>(f.block k (h.tx.lt.1 k (n.sub k hk).1) (n.sub k hk).2.1).trans (h.kp k hk hn)⟩
theorem SlW.set7 {w0 w w' : World} {R Rb:List Nat} {t d s b6 b7:Nat} {E:List Ent} {sv:ByteArray} {uv:Int} (h:SlW w0 w R Rb t d s E b6 b7 sv uv w') (n:SlN w0 R Rb t b6 b7):SlW w0 w R Rb t d s E b6 b7 sv uv (w'.setCell ⟨b7,0,none⟩ (.int .i64 uv)):=by
 have f:=eE (w:=w') (b:=b7) (i:=0) (.int .i64 uv);exact ⟨h.tx.turn n.m7.1 n.m7.2.1 n.m7.2.2 f,(f.block b6 (h.tx.lt.1 b6 n.m6.1) n.ne).trans h.c6,ZH h.c7 _,fun k hk hn=>(f.block k (h.tx.lt.1 k (n.sub k hk).1) (n.sub k hk).2.2).trans (h.kp k hk hn)⟩
theorem WN {w0 w:World} {R:List Nat} {t d s ln cp:Nat} {E E' : List Ent} {a:Option Addr} {ca e uv:Int} {sv:ByteArray} (h:TxS w0 R w t d s 640 E)
  (HC:∀ (R' : List Nat) (wa:World),(∀ k∈R,k∈R')→TxS w0 R' wa t d s 640 E→KeptT R t w wa→Calls Tryz.prog 76 #[.pointer (some ⟨t,0,none⟩),.int .i64 ca,.slice a ln cp] wa fun e' w' => e'=.returned (.tuple #[.string sv,.int .i64 uv,.int .i64 e])∧TxS w0 R' w' t d s 640 E'∧KeptT R' t wa w') :
  Calls Tryz.prog 36 #[.pointer (some ⟨t,0,none⟩),.int .i64 ca,.slice a ln cp] w fun e' w' => e'=.returned (.tuple #[.string sv,.int .i64 uv,.int .i64 e])∧TxS w0 R w' t d s 640 E'∧KeptT R t w w' := by
 obtain ⟨a1,a2,a3,a4,a5,a6,a7⟩:=h.box (.cells #[.pointer (some ⟨t,0,none⟩)] 24);obtain ⟨x1,hx1⟩:∃ xx,w.alloc (.cells #[.pointer (some ⟨t,0,none⟩)] 24)=xx:=⟨_,rfl⟩
 rw [hx1] at a1 a2 a3 a5;obtain ⟨b1,b2,b3,b4,b5,b6,b7⟩:=a1.box (.cells #[.int .i64 ca] 3);obtain ⟨x2,hx2⟩:∃ xx,x1.alloc (.cells #[.int .i64 ca] 3)=xx:=⟨_,rfl⟩
 rw [hx2] at b1 b2 b3 b5;rw [a5] at b1 b3 b4 b5 b6 b7;obtain ⟨f1,f2,f3,f4,f5,f6,f7⟩:=b1.box (.cells #[.slice a ln cp] 66);obtain ⟨x3,hx3⟩:∃ xx,x2.alloc (.cells #[.slice a ln cp] 66)=xx:=⟨_,rfl⟩
 rw [hx3] at f1 f2 f3 f5;rw [b5] at f1 f3 f4 f5 f6 f7;obtain ⟨g1,g2,g3,g4,g5,g6,g7⟩:=f1.box (.cells #[.string ⟨#[]⟩] 9);obtain ⟨x4,hx4⟩:∃ xx,x3.alloc (.cells #[.string ⟨#[]⟩] 9)=xx:=⟨_,rfl⟩
 rw [hx4] at g1 g2 g3 g5;rw [f5] at g1 g3 g4 g5 g6 g7;obtain ⟨h1,h2,h3,h4,h5,h6,h7⟩:=g1.box (.cells #[.int .i64 0] 3);obtain ⟨x5,hx5⟩:∃ xx,x4.alloc (.cells #[.int .i64 0] 3)=xx:=⟨_,rfl⟩
 rw [hx5] at h1 h2 h3 h5;rw [g5] at h1 h3 h4 h5 h6 h7;have hkw:KeptT R t w x5:=a2.trans ((b2.sub (fun k hk=>by simp [hk])).trans ((f2.sub (fun k hk=>by simp [hk])).trans ((g2.sub (fun k hk=>by simp [hk])).trans (h2.sub (fun k hk=>by simp [hk])))));have m0:=(h2 (w.heap.size) (by simp) a4).trans ((g2 (w.heap.size) (by simp) a4).trans ((f2 (w.heap.size) (by simp) a4).trans ((b2 (w.heap.size) (by simp) a4).trans (a3))));have m1:=(h2 (w.heap.size + 1) (by simp) b4).trans ((g2 (w.heap.size + 1) (by simp) b4).trans ((f2 (w.heap.size + 1) (by simp) b4).trans (b3)))
 have m2:=(h2 (w.heap.size + 1 + 1) (by simp) f4).trans ((g2 (w.heap.size + 1 + 1) (by simp) f4).trans (f3));have m3:=(h2 (w.heap.size + 1 + 1 + 1) (by simp) g4).trans (g3);have m4:=h3;have HK:=HC ((w.heap.size + 1 + 1 + 1 + 1) :: (w.heap.size + 1 + 1 + 1) :: (w.heap.size + 1 + 1) :: (w.heap.size + 1) :: (w.heap.size) :: R) x5 (fun k hk=>by simp [hk]) h1 hkw;have V1:=Hd (oX h1 (fun w=>by kernel_rfl) (UA (sv:=sv) (uv:=uv) (e:=e) m0 m1 m2 m3 m4 ⟨⟨⟨by simp,g4⟩,g6⟩,⟨⟨by simp,h4⟩,h6⟩,by omega⟩ HK))
 have HN:Hid (SlN w0 R ((w.heap.size + 1 + 1 + 1 + 1) :: (w.heap.size + 1 + 1 + 1) :: (w.heap.size + 1 + 1) :: (w.heap.size + 1) :: (w.heap.size) :: R) t (w.heap.size + 1 + 1 + 1) (w.heap.size + 1 + 1 + 1 + 1)):=Hd ⟨⟨by simp,g4,g6⟩,⟨by simp,h4,h6⟩,by omega,fun k hk=>⟨by simp [hk],g7 k (by simp [hk]),h7 k (by simp [hk])⟩⟩;have HKW:=Hd hkw;have HM0:=Hd (And.intro m0 a4);have HR7:Hid (∀ k∈R,k≠w.heap.size + 1 + 1 + 1∧k≠w.heap.size + 1 + 1 + 1 + 1):=Hd fun k hk=>⟨g7 k (by simp [hk]),h7 k (by simp [hk])⟩
 have c0:=(aM m0).1;have X1:=Hd (And.intro hx1 (And.intro hx2 (And.intro hx3 (And.intro hx4 hx5))));clear h HC hkw HK m0 m1 m2 m3 m4 a1 a2 a3 a4 a5 a6 a7 b1 b2 b3 b4 b5 b6 b7 f1 f2 f3 f4 f5 f6 f7 g1 g2 g3 g4 g5 g6 g7 h1 h2 h3 h4 h5 h6 h7 hx1 hx2 hx3 hx4 hx5;go_enter Tryz.func36,Tryz.ntmps36;go_upto_region 1 with fail
 try simp only [World.heap_size_alloc]
 rw [X1.out.1,X1.out.2.1,X1.out.2.2.1,X1.out.2.2.2.1,X1.out.2.2.2.2];go_wp2_with fail;refine V1.out.mono ?_;rintro e' w4 ⟨rfl,t1,p1,p2,p3⟩;have ER:=Hd (XN t1);have mt:=(p3 w.heap.size (by simp) HM0.out.2 (by omega) (by omega)).trans HM0.out.1
 have HSW:Hid (SlW w0 w R ((w.heap.size + 1 + 1 + 1 + 1) :: (w.heap.size + 1 + 1 + 1) :: (w.heap.size + 1 + 1) :: (w.heap.size + 1) :: (w.heap.size) :: R) t d s E' (w.heap.size + 1 + 1 + 1) (w.heap.size + 1 + 1 + 1 + 1) sv uv w4.drew):=Hd ⟨t1.below Br.drew,p1,p2,fun k hk hn=>(p3 k (by simp [hk]) hn (HR7.out k hk).1 (HR7.out k hk).2).trans (HKW.out k hk hn)⟩;clear c0;have c0:=(aM mt).1;clear t1 p1 p2 p3 mt V1;go_wp2_with fail;refine ER.out.mono ?_;rintro e' w5 ⟨rfl,rfl⟩;clear ER c0;obtain ⟨wd,hwd⟩:∃ wd,w4.drew=wd:=⟨_,rfl⟩
 rw [hwd] at HSW;have HWD:=Hd hwd;clear hwd;go_upto_region 4 with fail
 have hwd:=HWD.out;obtain ⟨k6,g6⟩:=aM HSW.out.c6;obtain ⟨k7,g7⟩:=aM HSW.out.c7;refine wp_region_held_drew (S:=fun w' => SlW w0 w R ((w.heap.size + 1 + 1 + 1 + 1) :: (w.heap.size + 1 + 1 + 1) :: (w.heap.size + 1 + 1) :: (w.heap.size + 1) :: (w.heap.size) :: R) t d s E' (w.heap.size + 1 + 1 + 1) (w.heap.size + 1 + 1 + 1 + 1) sv uv w') (by kernel_rfl) (by rw [hwd]; exact HSW.out) (fun hS=>?_);rw [hwd] at hS ⊢;clear hwd;refine Hv 0 16 ?va0x1 hS ?ha0x1 ?_
 case ha0x1 =>
  intro w9 s9;have k9:=(aM s9.c6).1;clear s9;go_simp;try (with_reducible rfl)
 simp only [SL];refine Hv 1 17 ?va1x2 hS ?ha1x2 ?_
 case ha1x2 =>
  intro w9 s9;have k9:=(aM s9.c7).1;clear s9;go_simp;try (with_reducible rfl)
 simp only [SL];refine Hu 2 18 hS ?_;simp only [SL];refine Hs 3 (fun K HK=>?_);go_simp;refine HK.out _ _ ?_ ?_
 ·exact hS.set6 HN.out
 clear HK K;try simp only [Act.put,SL]
 have hS9:=hS.set6 HN.out;clear hS;have hS:=hS9;clear hS9;refine Hs 4 (fun K HK=>?_);go_simp;refine HK.out _ _ ?_ ?_
 ·exact hS.set7 HN.out
 clear HK K;try simp only [Act.put,SL]
 have hS9:=hS.set7 HN.out;clear hS;have hS:=hS9;clear hS9;refine Hu 5 8 hS ?_;simp only [SL];refine wpAnyH_done (by kernel_rfl) ?_ _;have l1:=BK (ty:=9) (by rfl) Tryz.underlying9 (aM hS.c6).1;have l2:=BK (ty:=3) (by rfl) Tryz.underlying3 (aM hS.c7).1;have FIN:=Hd (And.intro (hS.tx.sub (R' := R) fun k hk=>by simp [hk]) (show KeptT R t w _ from fun k hk hn=>hS.kp k hk hn));clear hS;go_wp2_with fail;exact bodyPost_ret (qU (fn:=Tryz.f36) rfl _ _ _ _ _ _ _ rfl rfl rfl l1 l2) rfl ⟨rfl,FIN.out⟩
theorem WM {w0 w:World} {R:List Nat} {t d s cp:Nat} {E E' : List Ent} {a:Option Addr} {D:List Int} {ca v sl ep z:Int} {ka kb:ByteArray} {k:Nat} (h:TxS w0 R w t d s 640 E) (hd:DrwS R t w a D) (hE:E.length≤600) (hr:RingE E v ka kb) (hv:v≠0) (hln:D.length≤1000)
  (hbusy:∀ j z,j < k→D[j]?=some z→∀ R w,TxS w0 R w t d s 640 E→Calls Tryz.prog 22 #[.pointer (some ⟨t,0,none⟩),.int .i64 ca,.int .u64 z] w fun e w' => e=.returned (.tuple #[.agg #[.int .i64 0,.int .i64 0,.int .i64 0,.int .u64 0],.int .i64 13])∧TxS w0 R w' t d s 640 E∧KeptT R t w w')
  (hk8:k < 8) (hz:D[k]?=some z) (hnz:0≤z∧z≤18446744073709551615) (hks:ka.size≤140737488351232) (hok:fF sl ep v=true)
  (htake:∀ R w,TxS w0 R w t d s 640 E→Calls Tryz.prog 22 #[.pointer (some ⟨t,0,none⟩),.int .i64 ca,.int .u64 z] w fun e w' => e=.returned (.tuple #[.agg #[.int .i64 sl,.int .i64 ca,.int .i64 ep,.int .u64 z],.int .i64 0])∧TxS w0 R w' t d s 640 E'∧KeptT R t w w') :
  Calls Tryz.prog 36 #[.pointer (some ⟨t,0,none⟩),.int .i64 ca,.slice a D.length cp] w fun e w' => e=.returned (.tuple #[.string (cM sl ep z v ka),.int .i64 ((k:Int) + 1),.int .i64 0])∧TxS w0 R w' t d s 640 E'∧KeptT R t w w' :=
 WN h fun R' wa hs hT hK=>ZI hT ((hd.kept hK).sub hs) hE hr hv hln hbusy hk8 hz hnz hks hok htake
theorem PJ (w:World) :
  Calls Tryz.prog 33 #[] w fun e w' => ∃ t d s,e=.returned (.pointer (some ⟨t,0,none⟩))∧TxS w [] w' t d s 640 []:=by
 have NY:=Hd fun w=>aAW w 640 (by decide) (by decide)
 have hln:(DkS.fresh 640).S.length=640:=by show (List.replicate 640 zs).length=640; rw [List.length_replicate]
 have FG:=Hd (XJ (DkS.fresh 640) rfl rfl (by rw [hln]; decide) (by rw [hln]; decide));rw [hln] at FG;clear hln;go_enter Tryz.func33,Tryz.ntmps33;go_wp2_with fail;refine (NY.out _).mono ?_;intro e w1 hm;obtain ⟨d,rfl,hd⟩:=aC3 Br hm;clear hm NY;have HD:=Hd hd;clear hd;have pn:=VG ⟨d,0,none⟩;go_wp2_with fail;refine (XI HD.out FG.out.1).mono ?_;rintro e w3 ⟨s,rfl,hs⟩;have BG:=Hd (aBS hs FG.out.2.1 FG.out.2.2.1 FG.out.2.2.2);clear hs HD;have sn:=VF ⟨s,0,none⟩;go_wp2_with fail;refine BG.out.mono ?_;rintro e w4 ⟨t,rfl,h1,h2,h3⟩
 have FIN:=Hd (show TxS w [] w4 t d s 640 [] from ⟨⟨0,h1,h2⟩,h3⟩);clear h1 h2 h3 BG;go_wp2_with fail;go_ret;exact ⟨t,d,s,rfl,FIN.out⟩
theorem JZ {L:List (Int × Int × Int)} (hL:SlL L) (n:Nat) (a b:ByteArray):(slE 0 L ++ fH n a b).length≤290:=by
 have h1:=(oD n a b).n;have h2:=hL.1;rw [List.length_append,kJ];omega
theorem IM {w0 w:World} {R:List Nat} {t d s n:Nat} {L:List (Int × Int × Int)} {a b ky:ByteArray} {sl ep nn k c e:Int} (h:TxS w0 R w t d s 640 (slE 0 L ++ fH n a b)) (hL:SlL L) (hn:n≤65535) (h0:n=0→a=⟨#[]⟩∧b=⟨#[]⟩) (hok:fF sl ep k=true) (n0:0≤nn) (n1:nn≤18446744073709551615) (hky:byR (n:Int) a b k ky true) (hks:ky.size≤140737488351232) {i:Nat} {x:Int × Int × Int} (hx:L[i]?=some x) (hsl:sl=((i + 1:Nat):Int)) (hr:aB6 x ep nn c e) :
  Calls Tryz.prog 37 #[.pointer (some ⟨t,0,none⟩),.string (cM sl ep nn k ky)] w fun e' w' => e'=.returned (.tuple #[.int .i64 c,.int .i64 e])∧TxS w0 R w' t d s 640 (slE 0 L ++ fH n a b)∧KeptT R t w w' := by
 obtain ⟨z1,z2,z3,z4,z5,z6,z7⟩:=vM hok n0 n1 ky;have hE:=JZ hL n a b;refine WO (c:=cM sl ep nn k ky) (v:=(n:Int)) (a:=a) (b:=b) (ky:=ky) (is:=true) (rc:=c) (re:=e) (y:=c) h ?_ z2 (by omega) (wK hL.1 hn h0) (by rw [z6]; exact hky) hks ?_
 ·rcases hr with ⟨_,h1,h2⟩ | ⟨_,_,h1,h2⟩ | ⟨_,_,_,h1,h2⟩
  ·exact .inr ⟨by rw [h2]; decide,h1⟩
  ·exact .inr ⟨by rw [h2]; decide,h1⟩
  ·exact .inl ⟨h2,rfl⟩
 ·rw [z3,z4,z5,z6,z7]
  exact .inr (.inr ⟨rfl,rfl,fun R w h=>WP h hL (oD n a b) hx hsl hr⟩)
def oR (b:UInt8) (n:Nat):List UInt8:=List.replicate n b ++ List.replicate (32 - n) 0
def WB (b:UInt8):ByteArray:=Str (List.replicate 32 b)
theorem PW (b:UInt8):(WB b).size=32:=by unfold WB; rw [aK,List.length_replicate]
theorem vI (b:UInt8) (n:Nat) (h:n≤32):(oR b n).length=32:=by
 unfold oR;rw [List.length_append,List.length_replicate,List.length_replicate];omega
theorem PR (b:UInt8) (n:Nat) (h:n < 32):(oR b n).set n b=oR b (n + 1):=by
 unfold oR;rw [List.set_append_right _ _ (by simp),List.length_replicate,Nat.sub_self]
 have e:List.replicate (32 - n) (0:UInt8)=0 :: List.replicate (32 - (n + 1)) 0:=by
  rw [← List.replicate_succ]
  congr 1
  omega
 rw [e,List.set_cons_zero,List.replicate_succ', List.append_assoc]
 rfl
theorem aA6 (b:UInt8) (z:Int) (hz:(b.toNat:Int)=z) (w:World) :
  Calls Tryz.prog 35 #[.int .u8 z] w fun e w' => e=.returned (.string (WB b))∧Below w.heap.size w w' := by
 obtain ⟨w2,hmk,hrow,hbel⟩:=sV w 32 32 (Nat.le_refl _) (by decide);have hmk' : (Instr.makeSlice 31 (.int .i64 32) (.int .i64 32)).run Tryz.prog w=.ok (.slice (some ⟨w.heap.size,0,none⟩) 32 32) w2:=hmk;have HR:Hid (Byt 5 w2 w.heap.size (oR b 0)):=Hd hrow;have HB:=Hd hbel;have HZ:=Hd hz;obtain ⟨kt,hkt⟩:∃ x,WB b=x:=⟨_,rfl⟩
 have HKT:=Hd hkt;rw [hkt];clear hmk hrow hbel hz hkt;go_enter Tryz.func35,Tryz.ntmps35;go_wp2_with fail
 go_loopw [4] (fun i wr=>∃ n:Nat,n≤32∧i=.int .i64 (n:Int)∧Hid (Byt 5 wr w.heap.size (oR b n))∧Hid (Below w.heap.size w wr)) (fun i _=>33 - (intOf i).toNat)
 case atStart=>exact ⟨0,by omega,rfl,HR,HB⟩
 case round =>
  obtain ⟨n,hn,rfl,HY,HBW⟩:=hrel
  by_cases hlt:n < 32
  ·have hli:(n:Int) < 32:=by omega
   have FIN:=Hd (HY.out.set n b);rw [PR b n hlt] at FIN;have FB:Hid (Below w.heap.size w (wr.setCell ⟨w.heap.size,n,none⟩ (vb b))):=Hd (HBW.out.setCell (Nat.le_refl _) _);obtain ⟨y,c9⟩:∃ y,wr.cell? ⟨w.heap.size,n,none⟩=some y:=⟨_,HY.out.cell n (by rw [vI _ _ hn]; exact hlt)⟩
   have f9:=HY.out.free n;unfold vb at FIN FB;rw [HZ.out] at FIN FB;have HL:=Hd hlt;clear HY HBW hlt hn;go_wp2_with fail;go_roundw
   case rel=>exact ⟨n + 1,HL.out,by go_num,FIN,FB⟩
   case measure=>have:=HL.out; simp [intOf]; omega
  ·obtain rfl:n=32:=by omega
   have hcv:=HY.out.conv 32 32 (by rw [vI _ _ (Nat.le_refl _)]; exact Nat.le_refl _)
   rw [show (oR b 32).take 32=List.replicate 32 b from by
    unfold oR;rw [Nat.sub_self,List.replicate_zero,List.append_nil,List.take_of_length_le (by rw [List.length_replicate]; exact Nat.le_refl _)],show Str (List.replicate 32 b)=kt from HKT.out] at hcv
   go_wp2_with fail;go_ret;exact ⟨rfl,HBW.out⟩
theorem aBI {R:List Nat} {t:Nat} {w:World} {g:Nat} {T:TypeId} {z:Int} (hg:g∈R) (hn:g≠t) (h:w.heap[g]?=some (.cells #[.int .u64 z] T)):DrwS R t w (some ⟨g,0,none⟩) [z]:=fun j y hy=>by
 cases j with
 | zero =>
  obtain rfl:z=y:=by simpa using hy
  exact ⟨g,rfl,hg,hn,(aM h).1⟩
 | succ j=>simp at hy
theorem uW:SlL []:=⟨by decide,fun j x h=>by simp at h⟩
theorem UJ (L:List (Int × Int × Int)):slE 0 L ++ fH 0 ⟨#[]⟩ ⟨#[]⟩=slE 0 L:=List.append_nil _
theorem tP (w:World) :
  Calls Tryz.prog 25 #[] w fun e w' => e=.returned (.bool true)∧Below w.heap.size w w' := by
 have MD:=Hd (PJ w);have KK:=Hd (fun w=>aA6 1 1 rfl w);have hks:=PW 1;obtain ⟨K,hK⟩:∃ K,WB 1=K:=⟨_,rfl⟩
 rw [hK] at KK hks;have HKS:=Hd hks;clear hK hks;go_enter Tryz.func25,Tryz.ntmps25;try simp only [List.append_eq,List.cons_append,List.nil_append]
 go_wp2_with fail;refine MD.out.mono ?_;rintro e w1 ⟨t,d,s,rfl,h1⟩;have pn:=VE ⟨t,0,none⟩;have HT1:=Hd h1;clear h1 MD;go_wp2_with fail;refine (KK.out _).mono ?_;rintro e w2 ⟨rfl,b2⟩;have RO:=Hd (IL (n:=0) (L:=[]) (a:=⟨#[]⟩) (b:=⟨#[]⟩) (c:=K) (by rw [UJ]; exact HT1.out.below b2) (by decide) (by decide) (fun _=>⟨rfl,rfl⟩) (by decide) HKS.out);clear b2;go_wp2_with fail;refine RO.out.mono ?_;rintro e w3 ⟨rfl,h1,_⟩;obtain ⟨a1,a2,a3,a4,a5,a6,a7⟩:=h1.box (.cells #[.int .u64 9] 35);obtain ⟨bd,hbd⟩:∃ r3,w3.heap.size=r3:=⟨_,rfl⟩
 obtain ⟨x1,hx1⟩:∃ xx,w3.alloc (.cells #[.int .u64 9] 35)=xx:=⟨_,rfl⟩
 rw [hx1] at a1 a2 a3 a5;rw [hbd] at a1 a3 a4 a5 a6 a7;have X1:=Hd (And.intro hx1 hbd);have hRI:=wK (L:=[]) (n:=1) (a:=K) (b:=⟨#[]⟩) (by decide) (by decide) (fun h=>by cases h);have hLL:=uW
 have SE:=Hd (WM (D:=[9]) (k:=0) (ca:=5) (v:=1) (sl:=1) (ep:=1) (z:=9) (ka:=K) (kb:=⟨#[]⟩) (cp:=1) a1 (aBI (by simp) a4 a3) (Nat.le_trans (JZ hLL 1 K ⟨#[]⟩) (by decide)) hRI (by decide) (by decide) (fun j z hj=>by omega) (by decide) rfl (by decide) (by have:=HKS.out; omega) (by decide) (fun R w h=>by
  have:=PE (ca:=5) (nc:=9) h hLL (oD 1 K ⟨#[]⟩) (by decide) (by decide) (fun x hx=>by cases hx) (by decide) (fun x hx=>by cases hx);exact this.mono fun _ _ g=>⟨g.1,g.2.1,g.2.2.1⟩))
 have hL1:SlL ([] ++ [(5,1,9)]):=uW.snoc (by decide) (by decide);have HL1:=Hd hL1;obtain ⟨S,hS⟩:∃ S,cM 1 1 9 1 K=S:=⟨_,rfl⟩
 have hsz:=(vM (s:=1) (ep:=1) (nn:=9) (k:=1) (by decide) (by decide) (by decide) K).1;rw [hS] at SE hsz;have HSZ:=Hd (show (S.size:Int)=29 by omega);have HS:=Hd hS;clear h1 RO hx1 hbd a1 a2 a3 a4 a5 a6 a7 hRI hLL hL1 hsz hS;go_upto_region 5 with fail
 go_wp2_with fail;rw [X1.out.1,X1.out.2];refine SE.out.mono ?_;rintro e w4 ⟨rfl,h1,_⟩;have OP:=IM (sl:=1) (ep:=1) (nn:=9) (k:=1) (c:=5) (e:=0) (ky:=K) (i:=0) (x:=(5,1,9)) h1 HL1.out (by decide) (fun h=>by cases h) (by decide) (by decide) (by decide) (.inl ⟨rfl,rfl,rfl⟩) (by have:=HKS.out; omega) rfl rfl (.inr (.inr ⟨rfl,rfl,by decide,rfl,rfl⟩));rw [HS.out] at OP;have OP:=Hd OP;clear h1 SE;go_wp2_with fail;refine OP.out.mono ?_;rintro e w5 ⟨rfl,h1,_⟩;have OF:=Hd (IP (c:=⟨#[]⟩) h1 (by decide));clear h1 OP;go_wp2_with fail
 refine OF.out.mono ?_;rintro e w6 ⟨rfl,h1,_⟩;have FIN:=Hd h1.from;have hsz:=HSZ.out;clear h1 OF;go_wp2_with fail;go_ret;exact ⟨rfl,FIN.out⟩
end Go.Proofs.YthcejfnngkmojaaGreatDoor
