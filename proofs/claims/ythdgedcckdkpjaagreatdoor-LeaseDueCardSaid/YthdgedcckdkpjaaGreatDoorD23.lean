import Derived.Test.YthdgedcckdkpjaaGreatDoorD22
namespace Go.Proofs.YthdgedcckdkpjaaGreatDoor
open Go.RowKit
set_option maxRecDepth 20000
set_option maxHeartbeats 12800000
set_option linter.unusedVariables false
set_option linter.unusedSimpArgs false
theorem ZS {w0 w:World}{R:List Nat}{t d s n b c:Nat}{E E':List Ent}{caps:Array Value}{x e:Int}(h:TxS w0 R w t d s n E)(hb:w.heap[b]?=some (.cells #[.func (.func 57) #[] caps] 59))(hc:w.heap[c]?=some (.cells #[(0:Int)] 3))(hcR:c∈R)(hct:c≠t)(hc0:w0.heap.size<=c)
  (HC:Calls Tryz.prog 57 caps w fun e' w'=>e'=.returned (.tuple #[x,e])/\TxS w0 R w' t d s n E'/\KeptT R t w w') :
  () 67 #[b,c] w fun e' w'=>e'=.returned e/\TxS w0 R w' t d s n E'/\w'.heap[c]?=some (.cells #[x] 3)/\∀ k∈R,k≠t->k≠c->w'.heap[k]?=w.heap[k]?:=by
 have cb:=(aD hb).1;have H:=Hd HC;have HX:=Hd (And.intro hc (And.intro hcR (And.intro hct hc0)));clear h hb hc hcR hct hc0 HC;go_enter Tryz.func67,Tryz.ntmps67;go_wp2_with fail;refine H.mono ?_;rintro e' w1 ⟨rfl,h1,h2⟩;have hc1:=(h2 c HX.2.1 HX.2.2.1).trans HX.1;obtain⟨c1,g1⟩:=aD hc1
 have FIN:Hid (TxS w0 R (w1.setCell ⟨c,0,none⟩ (.int .i64 x)) t d s n E'/\(w1.setCell ⟨c,0,none⟩ (.int .i64 x)).heap[c]?=some (.cells #[x] 3)/\∀ k∈R,k≠t->k≠c->(w1.setCell ⟨c,0,none⟩ (.int .i64 x)).heap[k]?=w.heap[k]?):=Hd (by
  have f:=eT (w:=w1) (b:=c) (i:=0) (.int .i64 x);refine⟨h1.turn HX.2.1 HX.2.2.1 HX.2.2.2 f,?_,fun k hk hn hnc=>(f.block k (h1.lt.1 k hk) hnc).trans (h2 k hk hn)⟩;rw[hss _ _ 0 _ _ _ hc1];rfl)
 clear h1 h2 hc1 cb;go_wp2_with fail;go_ret;exact⟨rfl,FIN.o⟩
theorem TR {w0 w:World}{R:List Nat}{t d s n:Nat}{E E':List Ent}{caps:Array Value}{e:Int}{Q:World->Prop}(h:TxS w0 R w t d s n E)
  (HC:Calls Tryz.prog 67 caps w fun e' w'=>e'=.returned e/\TxS w0 R w' t d s n E'/\Q w') :
  () 41 #[t,.func (.func 67) #[] caps] w fun e' w'=>e'=.returned e/\TxS w0 R w' t d s n E'/\Q w':=by
 have ER:=Hd (xA h);have H:=Hd HC;clear h HC;go_enter Tryz.func41,Tryz.ntmps41;go_wp2_with fail;refine ER.mono ?_;rintro e' w1 ⟨rfl,rfl⟩;clear ER;go_wp2_with fail;refine H.mono ?_;rintro e' w2 ⟨rfl,h1,h2⟩;have ER:=Hd (xA h1);have FIN:=Hd (And.intro h1 h2);clear h1 h2 H;go_wp2_with fail;refine ER.mono ?_;rintro e' w1 ⟨rfl,rfl⟩;clear ER;go_wp2_with fail;go_ret;exact⟨rfl,FIN.o⟩
theorem TQ {w0 w:World}{R:List Nat}{t d s n:Nat}{E E':List Ent}{caps:Array Value}{x e y:Int}(h:TxS w0 R w t d s n E)(he:(e=0/\y=x)\/(e≠0/\y=0))
  (HC:∀ R' wa,(∀ k∈R,k∈R')->TxS w0 R' wa t d s n E->KeptT R t w wa->Calls Tryz.prog 57 caps wa fun e' w'=>e'=.returned (.tuple #[x,e])/\TxS w0 R' w' t d s n E'/\KeptT R' t wa w') :
  () 23 #[t,.func (.func 57) #[] caps] w fun e' w'=>e'=.returned (.tuple #[y,e])/\TxS w0 R w' t d s n E'/\KeptT R t w w':=by
 obtain⟨a1,a2,a3,a4,a5,a6,a7⟩:=h.box (.cells #[.func (.func 57) #[] caps] 59);obtain⟨x1,hx1⟩:∃ x1,w.alloc (.cells #[.func (.func 57) #[] caps] 59)=x1:=⟨_,rfl⟩
 rw[hx1] at a1 a2 a3 a5;obtain⟨b1,b2,b3,b4,b5,b6,b7⟩:=a1.box (.cells #[(0:Int)] 3);obtain⟨x2,hx2⟩:∃ x2,x1.alloc (.cells #[(0:Int)] 3)=x2:=⟨_,rfl⟩
 rw[hx2] at b1 b2 b3 b5;rw[a5] at b1 b3 b4 b5 b6 b7;have hbk:=(b2 w.heap.size (by simp) a4).trans a3;have HK:=HC ((w.heap.size+1)::w.heap.size::R) x2 (fun k hk=>by simp[hk]) b1 (a2.trans (b2.sub (fun k hk=>by simp[hk])));have V1:=Hd (TR b1 (ZS b1 hbk b3 (by simp) b4 b6 HK));have KP:=Hd (And.intro a2 (And.intro b2 (And.intro a7 b7)));have HE:=Hd he;have X1:=Hd hx1;have X2:=Hd hx2;clear h he HC a1 a2 a3 a4 a6 a7 b1 b2 b3 b4 b5 b6 b7 hbk HK hx1 hx2;have A5:=Hd a5;clear a5;go_enter Tryz.func23,Tryz.ntmps23;go_upto_region 2 with fail
 try simp only[Nat.add_assoc,Nat.reduceAdd,World.heap_size_alloc]
 rw[X1.o,X2.o];go_wp2_with fail;refine V1.mono ?_;rintro e' w4 ⟨rfl,h1,h2,h3⟩;have c2:=(aD h2).1;have FIN:Hid (TxS w0 R w4 t d s n E'/\KeptT R t w w4):=Hd ⟨h1.sub (fun k hk=>by simp[hk]),fun k hk hn=>(h3 k (by simp[hk]) hn (KP.2.2.2 k (by simp[hk]))).trans ((KP.2.1 k (by simp[hk]) hn).trans (KP.1 k hk hn))⟩;clear h1 h2 h3 V1
 rcases HE.o with⟨rfl,rfl⟩|⟨hne,rfl⟩
 ·go_wp2_with fail
  go_ret2;exact⟨rfl,FIN.o⟩
 ·have hn1:(e==0)=false:=by simpa using hne
  have hn2:(e != 0)=true:=by simp[hne]
  clear hne;go_wp2_with fail;go_ret2;exact⟨rfl,FIN.o⟩
theorem UV {w0 w:World}{R:List Nat}{t d s n b c:Nat}{E E':List Ent}{caps:Array Value}{x e:Int}(h:TxS w0 R w t d s n E)(hb:w.heap[b]?=some (.cells #[.func (.func 60) #[] caps] 59))(hc:w.heap[c]?=some (.cells #[(0:Int)] 3))(hcR:c∈R)(hct:c≠t)(hc0:w0.heap.size<=c)
  (HC:Calls Tryz.prog 60 caps w fun e' w'=>e'=.returned (.tuple #[x,e])/\TxS w0 R w' t d s n E'/\KeptT R t w w') :
  () 67 #[b,c] w fun e' w'=>e'=.returned e/\TxS w0 R w' t d s n E'/\w'.heap[c]?=some (.cells #[x] 3)/\∀ k∈R,k≠t->k≠c->w'.heap[k]?=w.heap[k]?:=by
 have cb:=(aD hb).1;have H:=Hd HC;have HX:=Hd (And.intro hc (And.intro hcR (And.intro hct hc0)));clear h hb hc hcR hct hc0 HC;go_enter Tryz.func67,Tryz.ntmps67;go_wp2_with fail;refine H.mono ?_;rintro e' w1 ⟨rfl,h1,h2⟩;have hc1:=(h2 c HX.2.1 HX.2.2.1).trans HX.1;obtain⟨c1,g1⟩:=aD hc1
 have FIN:Hid (TxS w0 R (w1.setCell ⟨c,0,none⟩ (.int .i64 x)) t d s n E'/\(w1.setCell ⟨c,0,none⟩ (.int .i64 x)).heap[c]?=some (.cells #[x] 3)/\∀ k∈R,k≠t->k≠c->(w1.setCell ⟨c,0,none⟩ (.int .i64 x)).heap[k]?=w.heap[k]?):=Hd (by
  have f:=eT (w:=w1) (b:=c) (i:=0) (.int .i64 x);refine⟨h1.turn HX.2.1 HX.2.2.1 HX.2.2.2 f,?_,fun k hk hn hnc=>(f.block k (h1.lt.1 k hk) hnc).trans (h2 k hk hn)⟩;rw[hss _ _ 0 _ _ _ hc1];rfl)
 clear h1 h2 hc1 cb;go_wp2_with fail;go_ret;exact⟨rfl,FIN.o⟩
theorem OD {w0 w:World}{R:List Nat}{t d s n:Nat}{E E':List Ent}{caps:Array Value}{e:Int}{Q:World->Prop}(h:TxS w0 R w t d s n E)
  (HC:Calls Tryz.prog 67 caps w fun e' w'=>e'=.returned e/\TxS w0 R w' t d s n E'/\Q w') :
  () 41 #[t,.func (.func 67) #[] caps] w fun e' w'=>e'=.returned e/\TxS w0 R w' t d s n E'/\Q w':=by
 have ER:=Hd (xA h);have H:=Hd HC;clear h HC;go_enter Tryz.func41,Tryz.ntmps41;go_wp2_with fail;refine ER.mono ?_;rintro e' w1 ⟨rfl,rfl⟩;clear ER;go_wp2_with fail;refine H.mono ?_;rintro e' w2 ⟨rfl,h1,h2⟩;have ER:=Hd (xA h1);have FIN:=Hd (And.intro h1 h2);clear h1 h2 H;go_wp2_with fail;refine ER.mono ?_;rintro e' w1 ⟨rfl,rfl⟩;clear ER;go_wp2_with fail;go_ret;exact⟨rfl,FIN.o⟩
theorem vO {w0 w:World}{R:List Nat}{t d s n:Nat}{E E':List Ent}{caps:Array Value}{x e y:Int}(h:TxS w0 R w t d s n E)(he:(e=0/\y=x)\/(e≠0/\y=0))
  (HC:∀ R' wa,(∀ k∈R,k∈R')->TxS w0 R' wa t d s n E->KeptT R t w wa->Calls Tryz.prog 60 caps wa fun e' w'=>e'=.returned (.tuple #[x,e])/\TxS w0 R' w' t d s n E'/\KeptT R' t wa w') :
  () 23 #[t,.func (.func 60) #[] caps] w fun e' w'=>e'=.returned (.tuple #[y,e])/\TxS w0 R w' t d s n E'/\KeptT R t w w':=by
 obtain⟨a1,a2,a3,a4,a5,a6,a7⟩:=h.box (.cells #[.func (.func 60) #[] caps] 59);obtain⟨x1,hx1⟩:∃ x1,w.alloc (.cells #[.func (.func 60) #[] caps] 59)=x1:=⟨_,rfl⟩
 rw[hx1] at a1 a2 a3 a5;obtain⟨b1,b2,b3,b4,b5,b6,b7⟩:=a1.box (.cells #[(0:Int)] 3);obtain⟨x2,hx2⟩:∃ x2,x1.alloc (.cells #[(0:Int)] 3)=x2:=⟨_,rfl⟩
 rw[hx2] at b1 b2 b3 b5;rw[a5] at b1 b3 b4 b5 b6 b7;have hbk:=(b2 w.heap.size (by simp) a4).trans a3;have HK:=HC ((w.heap.size+1)::w.heap.size::R) x2 (fun k hk=>by simp[hk]) b1 (a2.trans (b2.sub (fun k hk=>by simp[hk])));have V1:=Hd (OD b1 (UV b1 hbk b3 (by simp) b4 b6 HK));have KP:=Hd (And.intro a2 (And.intro b2 (And.intro a7 b7)));have HE:=Hd he;have X1:=Hd hx1;have X2:=Hd hx2;clear h he HC a1 a2 a3 a4 a6 a7 b1 b2 b3 b4 b5 b6 b7 hbk HK hx1 hx2;have A5:=Hd a5;clear a5;go_enter Tryz.func23,Tryz.ntmps23;go_upto_region 2 with fail
 try simp only[Nat.add_assoc,Nat.reduceAdd,World.heap_size_alloc]
 rw[X1.o,X2.o];go_wp2_with fail;refine V1.mono ?_;rintro e' w4 ⟨rfl,h1,h2,h3⟩;have c2:=(aD h2).1;have FIN:Hid (TxS w0 R w4 t d s n E'/\KeptT R t w w4):=Hd ⟨h1.sub (fun k hk=>by simp[hk]),fun k hk hn=>(h3 k (by simp[hk]) hn (KP.2.2.2 k (by simp[hk]))).trans ((KP.2.1 k (by simp[hk]) hn).trans (KP.1 k hk hn))⟩;clear h1 h2 h3 V1
 rcases HE.o with⟨rfl,rfl⟩|⟨hne,rfl⟩
 ·go_wp2_with fail
  go_ret2;exact⟨rfl,FIN.o⟩
 ·have hn1:(e==0)=false:=by simpa using hne
  have hn2:(e != 0)=true:=by simp[hne]
  clear hne;go_wp2_with fail;go_ret2;exact⟨rfl,FIN.o⟩
theorem kS (k a b q:Int)(w:World)(hq:aE k a b=q) :
  () 50 #[k,a,b] w fun e w'=>e=.returned (.int .u64 q)/\w=w':=by
 have HQ:=Hd hq;clear hq;go_enter Tryz.func50,Tryz.ntmps50;go_wp2_with fail;refine(nZ _ _ _ _).mono ?_;rw[HQ.o];rintro e w1 ⟨rfl,rfl⟩;go_wp2_with fail;go_ret;exact⟨rfl,rfl⟩
def ClkE (E:List Ent)(now:Int):Prop:=(eE 10376293541461622788 E=false/\now=0)\/(eE 10376293541461622788 E=true/\jJ 10376293541461622788 E=Str (aK now 4)/\0<=now/\now<=268435455)
theorem ClkE.range {E:List Ent}{now:Int}(h:ClkE E now):0<=now/\now<=268435455:=by
 rcases h with⟨_,rfl⟩|⟨_,_,h⟩
 ·decide
 ·exact h
theorem ClkE.ins (E:List Ent){now:Int}(h0:0<=now)(h1:now<=268435455):ClkE (aY 10376293541461622788 (Str (aK now 4)) E) now:=by
 refine .inr ⟨?_,?_,h0,h1⟩
 ·unfold eE;rw[uD,if_pos rfl];rfl
 ·unfold jJ;rw[uD,if_pos rfl]
theorem MO {now:Int}(h0:0<=now)(h1:now<=268435455):aT (Str (aK now 4)) 4=now/\aA (Str (aK now 4)) 4=⟨#[]⟩/\dE (Str (aK now 4)) 4=0/\(Str (aK now 4)).size=4:=by
 have hp:cU now 4=true:=by
  obtain⟨m,rfl⟩:=Int.eq_ofNat_of_zero_le h0;exact(fC m 4).2 ⟨by decide,by decide,by show m<4294967296;omega⟩
 have h2:=mO (n:=now) (k:=4) ⟨#[]⟩ h0 hp;rw[fJ] at h2;have h3:=cW hp;refine⟨h2.1,h2.2,?_,by omega⟩;have hk:dA (Str (aK now 4)) 4=true:=by unfold dA;simp;omega
 unfold dE;rw[if_pos hk]
theorem DX {w0 w:World}{R:List Nat}{t d s n:Nat}{E:List Ent}{b:Nat}(h:TxS w0 R w t d s n E)(hb:w.heap[b]?=some (.cells #[t] 24))(hbR:b∈R)(hbt:b≠t)(hE:E.length<=600)(hg:eE 10376293541461622788 E=false) :
  () 57 #[b] w fun e w'=>e=.returned (.tuple #[(0:Int),(0:Int)])/\TxS w0 R w' t d s n E/\KeptT R t w w':=by
 have GE:=Hd (wW (key:=10376293541461622788) (h.below Br.drew) hE (by decide) ⟨#[]⟩ false (by unfold jJ eE at *;revert hg;cases cP 10376293541461622788 E <;> simp) hg);clear hg;have HB:=Hd (And.intro (show w.drew.heap[b]?=some (.cells #[t] 24) from hb) (And.intro hbR hbt));clear h hb hbR hbt hE;go_enter Tryz.func57,Tryz.ntmps57;go_upto_region 1 with fail
 refine wp_region_held_drew (S:=fun w'=>w'.heap[b]?=some (.cells #[t] 24)) (by kernel_rfl) HB.1 (fun hS=>?_);refine Hv 0 9 ?va0x1 hS ?ha0x1 ?_
 case ha0x1=>
  intro w9 s9;have k9:=(aD s9).1;clear s9;go_simp;try (with_reducible rfl)
 simp only[SL];refine Hs 1 (fun K HK=>?_);go_simp;go_wp2_with fail;refine(kS 9 0 4 10376293541461622788 _ (by decide)).mono ?_;rintro e w6 ⟨rfl,rfl⟩;refine HK _ _ ?_ ?_
 ·exact hS
 clear HK K;try simp only[Act.put,SL]
 refine Hs 2 (fun K HK=>?_);go_simp;go_wp2_with fail;refine GE.mono ?_;rintro e w7 ⟨rfl,h1,h2⟩;refine HK _ _ ?_ ?_
 ·exact(h2 b HB.2.1 HB.2.2).trans hS
 clear HK K;try simp only[Act.put,SL]
 have hS9:=(h2 b HB.2.1 HB.2.2).trans hS;clear hS;have hS:=hS9;clear hS9;have FIN:=Hd (And.intro h1 (show KeptT R t w w7 from h2));clear h1 h2 GE;refine Hu 3 8 hS ?_;simp only[SL];refine Hu 4 12 hS ?_;simp only[SL];refine Hu 5 13 hS ?_;simp only[SL];refine Hu 6 3 hS ?_;simp only[SL];refine Hu 7 4 hS ?_;simp only[SL];refine wpAnyH_done (by kernel_rfl) ?_ _;clear hS;go_wp2_with fail;go_ret2;exact⟨rfl,FIN.o⟩
theorem DW {w0 w:World}{R:List Nat}{t d s n:Nat}{E:List Ent}{b:Nat}(h:TxS w0 R w t d s n E)(hb:w.heap[b]?=some (.cells #[t] 24))(hbR:b∈R)(hbt:b≠t)(hE:E.length<=600){now:Int}(hg:eE 10376293541461622788 E=true)(hv:jJ 10376293541461622788 E=Str (aK now 4))(h0:0<=now)(h1:now<=268435455) :
  () 57 #[b] w fun e w'=>e=.returned (.tuple #[now,(0:Int)])/\TxS w0 R w' t d s n E/\KeptT R t w w':=by
 obtain⟨q1,q2,q3,q4⟩:=MO h0 h1;obtain⟨X,hX⟩:∃ X,Str (aK now 4)=X:=⟨_,rfl⟩
 rw[hX] at q1 q2 q3 hv;have TA:=Hd (fun w=>by have:=mI X 4 w;rw[q1,q2,q3] at this;exact this);have GE:=Hd (wW (key:=10376293541461622788) (h.below Br.drew) hE (by decide) X true hv hg);have hn1:¬ (268435455:Int)<now:=by omega
 have hw1:IntKind.i64.wrap now=now:=IntWalk.i64_in _ (by omega);clear hg hv h0 h1 q1 q2 q3 q4 hX;have HB:=Hd (And.intro (show w.drew.heap[b]?=some (.cells #[t] 24) from hb) (And.intro hbR hbt));clear h hb hbR hbt hE;go_enter Tryz.func57,Tryz.ntmps57;go_upto_region 1 with fail
 refine wp_region_held_drew (S:=fun w'=>w'.heap[b]?=some (.cells #[t] 24)) (by kernel_rfl) HB.1 (fun hS=>?_);refine Hv 0 9 ?va0x1 hS ?ha0x1 ?_
 case ha0x1=>
  intro w9 s9;have k9:=(aD s9).1;clear s9;go_simp;try (with_reducible rfl)
 simp only[SL];refine Hs 1 (fun K HK=>?_);go_simp;go_wp2_with fail;refine(kS 9 0 4 10376293541461622788 _ (by decide)).mono ?_;rintro e w6 ⟨rfl,rfl⟩;refine HK _ _ ?_ ?_
 ·exact hS
 clear HK K;try simp only[Act.put,SL]
 refine Hs 2 (fun K HK=>?_);go_simp;go_wp2_with fail;refine GE.mono ?_;rintro e w7 ⟨rfl,h1,h2⟩;refine HK _ _ ?_ ?_
 ·exact(h2 b HB.2.1 HB.2.2).trans hS
 clear HK K;try simp only[Act.put,SL]
 have hS9:=(h2 b HB.2.1 HB.2.2).trans hS;clear hS;have hS:=hS9;clear hS9;have FIN:=Hd (And.intro h1 (show KeptT R t w w7 from h2));clear h1 h2 GE;refine Hu 3 8 hS ?_;simp only[SL];refine Hu 4 12 hS ?_;simp only[SL];refine Hu 5 13 hS ?_;simp only[SL];refine Hu 6 3 hS ?_;simp only[SL];refine Hu 7 4 hS ?_;simp only[SL];refine wpAnyH_done (by kernel_rfl) ?_ _;clear hS;go_wp2_with fail;refine(TA _).mono ?_;rintro e w8 ⟨rfl,b8⟩;have F8:=Hd (And.intro (FIN.1.below b8) (FIN.2.trans (FIN.1.kept b8)));clear b8 FIN;go_wp2_with fail;go_ret2;exact⟨rfl,F8.o⟩
theorem uQ {w0 w:World}{R:List Nat}{t d s n:Nat}{E:List Ent}{now:Int}(h:TxS w0 R w t d s n E)(hE:E.length<=600)(hc:ClkE E now) :
  () 18 #[t] w fun e w'=>e=.returned (.tuple #[now,(0:Int)])/\TxS w0 R w' t d s n E/\KeptT R t w w':=by
 obtain⟨a1,a2,a3,a4,a5,a6,a7⟩:=h.box (.cells #[t] 24);obtain⟨x1,hx1⟩:∃ x1,w.alloc (.cells #[t] 24)=x1:=⟨_,rfl⟩
 rw[hx1] at a1 a2 a3 a5
 have VC:=Hd (TQ (x:=now) (e:=0) (y:=now) a1 (.inl ⟨rfl,rfl⟩) (caps:=#[.pointer (some ⟨w.heap.size,0,none⟩)]) (E':=E) (fun R' wa hs hT hK=>by
  have hb:=(hK w.heap.size (by simp) a4).trans a3;have hm:=hs w.heap.size (by simp)
  rcases hc with⟨g1,rfl⟩|⟨g1,g2,g3,g4⟩
  ·exact DX hT hb hm a4 hE g1
  ·exact DW hT hb hm a4 hE g1 g2 g3 g4))
 have KP:=Hd a2;have X1:=Hd hx1;have bx:=(aD a3).1;clear h hE hc a1 a2 a3 a4 a5 a6 a7 hx1;go_enter Tryz.func18,Tryz.ntmps18;go_upto_region 1 with fail
 rw[X1.o];go_wp2_with fail;refine VC.mono ?_;rintro e w2 ⟨rfl,h1,h2⟩;have FIN:Hid (TxS w0 R w2 t d s n E/\KeptT R t w w2):=Hd ⟨h1.sub (fun k hk=>by simp[hk]),KP.trans (h2.sub (fun k hk=>by simp[hk]))⟩;clear h1 h2 VC bx;go_wp2_with fail;go_ret2;exact⟨rfl,FIN.o⟩
theorem OF {w0 w:World}{R:List Nat}{t d s:Nat}{E:List Ent}{bn bt:Nat}{a:Int}{now:Int}(h:TxS w0 R w t d s 640 E)(hn:w.heap[bn]?=some (.cells #[a] 3))(hb:w.heap[bt]?=some (.cells #[t] 24))(hm:(bn∈R/\bn≠t)/\(bt∈R/\bt≠t))(hE:E.length<=300)(hc:ClkE E now)(ha:0<=a)(hf:268435455-now<a) :
  () 60 #[bn,bt] w fun e w'=>e=.returned (.tuple #[(0:Int),(12:Int)])/\TxS w0 R w' t d s 640 E/\KeptT R t w w':=by
 have c0:=(aD hn).1;have c1:=(aD hb).1;have hr:=hc.range;have hw:IntKind.i64.wrap (268435455-now)=268435455-now:=IntWalk.i64_in _ (by omega);have ha':¬ a<0:=by omega
 have CL:=Hd (uQ h (by omega) hc);have HX:=Hd (And.intro hn (And.intro hb hm));clear h hn hb hm hE hc hr ha;go_enter Tryz.func60,Tryz.ntmps60;go_wp2_with fail;refine CL.mono ?_;rintro e w1 ⟨rfl,h1,h2⟩;have d0:=(aD ((h2 bn HX.2.2.1.1 HX.2.2.1.2).trans HX.1)).1;have FIN:=Hd (And.intro h1 h2);clear h1 h2 c0 c1 CL;go_wp2_with fail;go_ret2;exact⟨rfl,FIN.o⟩
theorem OE {w0 w:World}{R:List Nat}{t d s:Nat}{E:List Ent}{bn bt:Nat}{a:Int}{now m:Int}(h:TxS w0 R w t d s 640 E)(hn:w.heap[bn]?=some (.cells #[a] 3))(hb:w.heap[bt]?=some (.cells #[t] 24))(hm:(bn∈R/\bn≠t)/\(bt∈R/\bt≠t))(hE:E.length<=300)(hc:ClkE E now)(ha:0<=a)(hf:a<=268435455-now)(hsm:now+a=m) :
  () 60 #[bn,bt] w fun e w'=>e=.returned (.tuple #[m,(0:Int)])/\TxS w0 R w' t d s 640 (aY 10376293541461622788 (Str (aK m 4)) E)/\KeptT R t w w':=by
 have c0:=(aD hn).1;have c1:=(aD hb).1;have hr:=hc.range;have hw:IntKind.i64.wrap (268435455-now)=268435455-now:=IntWalk.i64_in _ (by omega);have hw2:IntKind.i64.wrap (now+a)=m:=by rw[hsm];exact IntWalk.i64_in _ (by omega)
 have hw3:IntKind.u64.wrap m=m:=IntWalk.u64_in _ (by omega);have ha':¬ a<0:=by omega
 have hf':¬ 268435455-now<a:=by omega
 have HM:Hid (0<=m/\m<=268435455):=Hd (by omega);have CL:=Hd (uQ h (by omega) hc);have HX:=Hd (And.intro hn (And.intro hb hm));obtain⟨Y,hY⟩:∃ Y,Str (aK m 4)=Y:=⟨_,rfl⟩
 have PT:=Hd (fun w=>by have:=lL m 4 w HM.1;rw[hY] at this;exact this);have HY:Hid (Y.size<=40):=Hd (by rw[<-hY];have:=(MO HM.1 HM.2).2.2.2;omega);have HE:=Hd hE;rw[hY];clear h hn hb hm hE hc hr ha hf hsm hY;go_enter Tryz.func60,Tryz.ntmps60;go_wp2_with fail;refine CL.mono ?_;rintro e w1 ⟨rfl,h1,h2⟩;have d0:=(aD ((h2 bn HX.2.2.1.1 HX.2.2.1.2).trans HX.1)).1;have FIN:=Hd (And.intro h1 h2);clear h1 h2 c0 c1 CL;go_wp2_with fail;refine(PT _).mono ?_;rintro e w3 ⟨rfl,b3⟩
 have F3:=Hd (And.intro (FIN.1.below b3) (FIN.2.trans (FIN.1.kept b3)));clear b3 FIN d0;have PU:=Hd (pR (key:=10376293541461622788) (val:=Y) (F3.1.below Br.drew) HE (by decide) HY.o);have HB:Hid (w3.drew.heap[bt]?=some (.cells #[t] 24)):=Hd ((F3.2 bt HX.2.2.2.1 HX.2.2.2.2).trans HX.2.1);go_upto_region 10 with fail
 refine wp_region_held_drew (S:=fun w'=>w'.heap[bt]?=some (.cells #[t] 24)) (by kernel_rfl) HB (fun hS=>?_);refine Hv 0 31 ?va0x1 hS ?ha0x1 ?_
 case ha0x1=>
  intro w9 s9;have k9:=(aD s9).1;clear s9;go_simp;try (with_reducible rfl)
 simp only[SL];refine Hu 2 33 hS ?_;simp only[SL];refine Hs 1 (fun K HK=>?_);go_simp;go_wp2_with fail;refine(kS 9 0 4 10376293541461622788 _ (by decide)).mono ?_;rintro e w6 ⟨rfl,rfl⟩;refine HK _ _ ?_ ?_
 ·exact hS
 clear HK K;try simp only[Act.put,SL]
 refine Hs 3 (fun K HK=>?_);go_simp;go_wp2_with fail;refine PU.mono ?_;rintro e w7 ⟨rfl,h1,h2⟩;refine HK _ _ ?_ ?_
 ·exact(h2 bt HX.2.2.2.1 HX.2.2.2.2).trans hS
 clear HK K;try simp only[Act.put,SL]
 have FIN:=Hd (And.intro h1 (F3.2.trans (show KeptT R t w3 w7 from h2)));clear h1 h2 PU;refine wpAnyH_done (by kernel_rfl) ?_ _;clear hS;go_wp2_with fail;go_ret2;exact⟨rfl,FIN.o⟩
theorem UX {w0 w:World}{R:List Nat}{t d s:Nat}{E:List Ent}{a now m:Int}(h:TxS w0 R w t d s 640 E)(hE:E.length<=300)(hc:ClkE E now)(ha:0<=a)(hf:268435455-now<a) :
  () 19 #[t,a] w fun e w'=>e=.returned (.tuple #[(0:Int),(12:Int)])/\TxS w0 R w' t d s 640 (E)/\KeptT R t w w':=by
 obtain⟨a1,a2,a3,a4,a5,a6,a7⟩:=h.box (.cells #[t] 24);obtain⟨x1,hx1⟩:∃ x1,w.alloc (.cells #[t] 24)=x1:=⟨_,rfl⟩
 rw[hx1] at a1 a2 a3 a5;obtain⟨b1,b2,b3,b4,b5,b6,b7⟩:=a1.box (.cells #[a] 3);obtain⟨x2,hx2⟩:∃ x2,x1.alloc (.cells #[a] 3)=x2:=⟨_,rfl⟩
 rw[hx2] at b1 b2 b3 b5;rw[a5] at b1 b3 b4 b5 b6 b7;have hbk:=(b2 w.heap.size (by simp) a4).trans a3
 have VC:=Hd (vO (x:=0) (e:=12) (y:=0) b1 (by first|exact .inl ⟨rfl,rfl⟩|exact .inr ⟨by decide,rfl⟩) (caps:=#[.pointer (some ⟨w.heap.size+1,0,none⟩),.pointer (some ⟨w.heap.size,0,none⟩)]) (E':=E) (fun R' wa hs hT hK=>by
  have g1:=(hK (w.heap.size+1) (by simp) b4).trans b3;have g2:=(hK w.heap.size (by simp) a4).trans hbk;exact OF hT g1 g2 ⟨⟨hs _ (by simp),b4⟩,⟨hs _ (by simp),a4⟩⟩ hE hc ha hf))
 have KP:=Hd (a2.trans (b2.sub (fun k hk=>by simp[hk])));have X1:=Hd hx1;have X2:=Hd hx2;have A5:=Hd a5;have bx:=(aD hbk).1;clear h hE hc a1 a2 a3 a4 a5 a6 a7 b1 b2 b3 b4 b5 b6 b7 hx1 hx2 hbk;go_enter Tryz.func19,Tryz.ntmps19;go_upto_region 1 with fail
 try simp only[World.heap_size_alloc]
 rw[X1.o,X2.o];go_wp2_with fail;refine VC.mono ?_;rintro e w2 ⟨rfl,h1,h2⟩;have FIN:Hid (TxS w0 R w2 t d s 640 (E)/\KeptT R t w w2):=Hd ⟨h1.sub (fun k hk=>by simp[hk]),KP.trans (h2.sub (fun k hk=>by simp[hk]))⟩;clear h1 h2 VC bx;go_wp2_with fail;go_ret2;exact⟨rfl,FIN.o⟩
theorem UW {w0 w:World}{R:List Nat}{t d s:Nat}{E:List Ent}{a now m:Int}(h:TxS w0 R w t d s 640 E)(hE:E.length<=300)(hc:ClkE E now)(ha:0<=a)(hf:a<=268435455-now)(hsm:now+a=m) :
  () 19 #[t,a] w fun e w'=>e=.returned (.tuple #[m,(0:Int)])/\TxS w0 R w' t d s 640 (aY 10376293541461622788 (Str (aK m 4)) E)/\KeptT R t w w':=by
 obtain⟨a1,a2,a3,a4,a5,a6,a7⟩:=h.box (.cells #[t] 24);obtain⟨x1,hx1⟩:∃ x1,w.alloc (.cells #[t] 24)=x1:=⟨_,rfl⟩
 rw[hx1] at a1 a2 a3 a5;obtain⟨b1,b2,b3,b4,b5,b6,b7⟩:=a1.box (.cells #[a] 3);obtain⟨x2,hx2⟩:∃ x2,x1.alloc (.cells #[a] 3)=x2:=⟨_,rfl⟩
 rw[hx2] at b1 b2 b3 b5;rw[a5] at b1 b3 b4 b5 b6 b7;have hbk:=(b2 w.heap.size (by simp) a4).trans a3
 have VC:=Hd (vO (x:=m) (e:=0) (y:=m) b1 (by first|exact .inl ⟨rfl,rfl⟩|exact .inr ⟨by decide,rfl⟩) (caps:=#[.pointer (some ⟨w.heap.size+1,0,none⟩),.pointer (some ⟨w.heap.size,0,none⟩)]) (E':=aY 10376293541461622788 (Str (aK m 4)) E) (fun R' wa hs hT hK=>by
  have g1:=(hK (w.heap.size+1) (by simp) b4).trans b3;have g2:=(hK w.heap.size (by simp) a4).trans hbk;exact OE hT g1 g2 ⟨⟨hs _ (by simp),b4⟩,⟨hs _ (by simp),a4⟩⟩ hE hc ha hf hsm))
 have KP:=Hd (a2.trans (b2.sub (fun k hk=>by simp[hk])));have X1:=Hd hx1;have X2:=Hd hx2;have A5:=Hd a5;have bx:=(aD hbk).1;clear h hE hc a1 a2 a3 a4 a5 a6 a7 b1 b2 b3 b4 b5 b6 b7 hx1 hx2 hbk;go_enter Tryz.func19,Tryz.ntmps19;go_upto_region 1 with fail
 try simp only[World.heap_size_alloc]
 rw[X1.o,X2.o];go_wp2_with fail;refine VC.mono ?_;rintro e w2 ⟨rfl,h1,h2⟩;have FIN:Hid (TxS w0 R w2 t d s 640 (aY 10376293541461622788 (Str (aK m 4)) E)/\KeptT R t w w2):=Hd ⟨h1.sub (fun k hk=>by simp[hk]),KP.trans (h2.sub (fun k hk=>by simp[hk]))⟩;clear h1 h2 VC bx;go_wp2_with fail;go_ret2;exact⟨rfl,FIN.o⟩
theorem aER (w:World)(t s:Nat)(root:Int)(caps:Array Value)(hc:w.heap[t]?=some (txC s root 0 false))(R:Int->World->Prop)
  (HC:Calls Tryz.prog 113 caps w fun e w'=>∃ c,e=.returned (.int .i64 c)/\R c w'/\∃ root',w'.heap[t]?=some (txC s root' 0 false)) :
  () 86 #[t,.func (.func 113) #[] caps] w fun e w'=>∃ c w1,e=.returned (.bool (c==0))/\R c w1/\w1.setCell ⟨t,2,none⟩ (.int .i64 c)=w':=by
 have H:=Hd HC;obtain⟨c0,c1,c2,c3,fz⟩:=eJ hc;clear hc HC fz;go_enter Tryz.func86,Tryz.ntmps86;go_wp2_with fail;refine H.mono ?_;rintro e w1 ⟨c,rfl,hR,root',hc1⟩;have FIN:=Hd hR;obtain⟨d0,d1,d2,d3,g⟩:=eJ hc1;have g2:=g 2;obtain⟨w2,hw2⟩:∃ w2,w1.setCell ⟨t,2,none⟩ (.int .i64 c)=w2:=⟨_,rfl⟩
 have e2:w2.cell? ⟨t,2,none⟩=some (.int .i64 c):=by
  unfold txC at hc1;have h9:=hss w1 t 2 _ _ (.int .i64 c) hc1;rw[hw2] at h9;rw[cob h9];rfl
 have HW:=Hd hw2;clear hR hc1 g c0 c1 c2 c3 H;go_upto_region 4 with fail
 try rw[hw2]
 clear hw2 d0 d1 d2 d3 g2;go_wp2_with fail;go_ret;exact⟨c,w1,rfl,FIN.o,HW.o⟩
theorem aCT {w0 w:World}{R:List Nat}{t d s n bt bk bw:Nat}{root key:Int}{E:List Ent}(h:TrR w0 R w d s n root E)(ps:GetS bt bk t s root key w)(hm:bt∈R/\bk∈R/\t∈R)(ht0:w0.heap.size<=t)(hw:w.heap[bw]?=some (.cells #[false] 4)/\bw∈R/\w0.heap.size<=bw/\bw≠t)
  (H0:Nat)(h9:H0<=8)(hE:E.length<2 ^ (H0+1))(hn:2*E.length+2*H0+5<=n)(hk:0<=key/\key<=18446744073709551615)(gb:Bool)(hgb:eE key E=gb) :
  () 113 #[bt,bk,bw] w fun e w'=>e=.returned (.int .i64 0)/\∃ q,TrR w0 R w' d s n q (iP key E)/\w'.heap[t]?=some (txC s q 0 false)/\w'.heap[bw]?=some (.cells #[gb] 4)/\∀ k∈R,k≠t->k≠bw->w'.heap[k]?=w.heap[k]?:=by
 have PS:=Hd (show GetS bt bk t s root key w.drew from ps);have PT0:=aFZ (h.below Br.drew) H0 h9 hE hn key hk;rw[hgb] at PT0;have PT:=Hd PT0;have HM:=Hd hm;have HT0:=Hd ht0;have HB:=Hd hw;clear h ps h9 hE hn hk ht0 hw hgb PT0;go_enter Tryz.func113,Tryz.ntmps113;go_upto_region 1 with fail
 refine wp_region_held_drew (S:=fun w'=>GetS bt bk t s root key w') (by kernel_rfl) PS (fun hS=>?_);refine Hv 0 8 ?va0x1 hS ?ha0x1 ?_
 case ha0x1=>
  intro w9 s9;have k9:=(aD s9.1).1;clear s9;go_simp;try (with_reducible rfl)
 simp only[SL];refine Hu 1 9 hS ?_;simp only[SL];refine Hu 2 10 hS ?_;simp only[SL];refine Hv 3 11 ?va3x4 hS ?ha3x4 ?_
 case ha3x4=>
  intro w9 s9;obtain⟨k0,k1,_,_,_⟩:=eJ s9.2.2;clear s9;go_simp;try (with_reducible rfl)
 simp only[SL];refine Hv 4 12 ?va4x5 hS ?ha4x5 ?_
 case ha4x5=>
  intro w9 s9;have k9:=(aD s9.1).1;clear s9;go_simp;try (with_reducible rfl)
 simp only[SL];refine Hu 5 13 hS ?_;simp only[SL];refine Hu 6 14 hS ?_;simp only[SL];refine Hv 7 15 ?va7x8 hS ?ha7x8 ?_
 case ha7x8=>
  intro w9 s9;obtain⟨k0,k1,_,_,_⟩:=eJ s9.2.2;clear s9;go_simp;try (with_reducible rfl)
 simp only[SL];refine Hv 8 16 ?va8x9 hS ?ha8x9 ?_
 case ha8x9=>
  intro w9 s9;have k9:=(aD s9.2.1).1;clear s9;go_simp;try (with_reducible rfl)
 simp only[SL];refine Hs 9 (fun K HK=>?_);go_simp;go_wp2_with fail;refine PT.mono ?_;rintro e w6 ⟨q,rfl,hT,hK⟩;refine HK _ _ ?_ ?_
 ·exact hS.kept hm hK
 clear HK K;try simp only[Act.put,SL]
 have hS':=hS.kept hm hK;clear hS;have hS:=hS';clear hS';refine Hu 10 7 hS ?_;simp only[SL];refine Hu 11 18 hS ?_;simp only[SL];refine Hu 12 19 hS ?_;simp only[SL];refine Hu 13 20 hS ?_;simp only[SL];refine Hu 14 4 hS ?_;simp only[SL];refine Hu 15 5 hS ?_;simp only[SL];refine Hu 16 6 hS ?_;simp only[SL];refine wpAnyH_done (by kernel_rfl) ?_ _;have bx:=(aD hS.1).1;obtain⟨d0,d1,d2,d3,g⟩:=eJ hS.2.2;have g1:=g 1;have V0:=(hK bw HB.2.1).trans HB.1;obtain⟨u0,u1⟩:=aD V0
 have X0:(w6.setCell ⟨t,1,none⟩ (.int .i64 q)).heap[bw]?=some (.cells #[false] 4):=(Below.heap_setCell _ _ _ _ HB.2.2.2).trans V0;obtain⟨y0,y1⟩:=aD X0;obtain⟨w8,hw8⟩:∃ w8,(w6.setCell ⟨t,1,none⟩ (.int .i64 q)).setCell ⟨bw,0,none⟩ (.bool gb)=w8:=⟨_,rfl⟩
 have FIN:Hid (∃ q,TrR w0 R w8 d s n q (iP key E)/\w8.heap[t]?=some (txC s q 0 false)/\w8.heap[bw]?=some (.cells #[gb] 4)/\∀ k∈R,k≠t->k≠bw->w8.heap[k]?=w.heap[k]?):=Hd (by
  obtain⟨w7,hw7⟩:∃ w7,w6.setCell ⟨t,1,none⟩ (.int .i64 q)=w7:=⟨_,rfl⟩
  rw[hw7] at hw8 X0;have f7:Frm (fun k=>k=t) w6 w7:=by rw[<-hw7];exact eT _
  have f8:Frm (fun k=>k=bw) w7 w8:=by rw[<-hw8];exact eT _
  have h7:=hT.turn HM.2.2 HT0 f7;refine⟨q,h7.turn HB.2.1 HB.2.2.1 f8,?_,?_,fun k hk h1 h2=>(f8.block k (h7.lt k hk) h2).trans ((f7.block k (hT.lt k hk) h1).trans (hK k hk))⟩
  ·rw[f8.block t (h7.lt t HM.2.2) (Ne.symm HB.2.2.2)]
   have h1:=hS.2.2;unfold txC at h1 |-;rw[<-hw7,hss _ _ 1 _ _ _ h1]
   rfl
  ·rw[<-hw8,hss _ _ 0 _ _ _ X0]
   rfl)
 have HW:=Hd hw8;clear hS hT hK g hm V0 X0 hw8;go_upto_region 4 with fail
 rw[HW.o];clear bx d0 d1 d2 d3 g1 u0 u1 y0 y1;go_wp2_with fail;go_ret;exact⟨rfl,FIN.o⟩
theorem aEZ {w0 w:World}{R:List Nat}{t d s n:Nat}{root:Int}{E:List Ent}(h:TrR w0 (t::R) w d s n root E)(o1 o2 o3:Obj)(x3:World)(hx:((w.alloc o1).alloc o2).alloc o3=x3) :
  TrR w0 ((w.heap.size+2)::(w.heap.size+1)::w.heap.size::t::R) x3 d s n root E/\x3.heap[w.heap.size]?=some o1/\x3.heap[w.heap.size+1]?=some o2/\x3.heap[w.heap.size+2]?=some o3/\t<w.heap.size/\(∀ k∈t::R,k<w.heap.size)/\Below w.heap.size w x3:=by
 obtain⟨x1,hx1⟩:∃ x1,w.alloc o1=x1:=⟨_,rfl⟩
 obtain⟨x2,hx2⟩:∃ x2,x1.alloc o2=x2:=⟨_,rfl⟩
 rw[hx1,hx2] at hx;have z1:x1.heap.size=w.heap.size+1:=by rw[<-hx1];simp
 have z2:x2.heap.size=w.heap.size+2:=by rw[<-hx2];simp[z1]
 have z3:x3.heap.size=w.heap.size+3:=by rw[<-hx];simp[z2]
 have b1:Below w.heap.size w x1:=by rw[<-hx1];exact aB _ _
 have b2:Below x1.heap.size x1 x2:=by rw[<-hx2];exact aB _ _
 have b3:Below x2.heap.size x2 x3:=by rw[<-hx];exact aB _ _
 have m1:x1.heap[w.heap.size]?=some o1:=by rw[<-hx1];exact han w _
 have m2:x2.heap[w.heap.size+1]?=some o2:=by rw[<-hx2,<-z1];exact han x1 _
 have m3:x3.heap[w.heap.size+2]?=some o3:=by rw[<-hx,<-z2];exact han x2 _
 have hlt:=h.lt;have bw:Below w.heap.size w x3:=(b1.trans (b2.mono (by omega))).trans (b3.mono (by omega))
 exact⟨((h.more b1 w.heap.size (Nat.le_refl _) (by omega)).more b2 (w.heap.size+1) (by omega) (by omega)).more b3 (w.heap.size+2) (by omega) (by omega),
  (b3.block _ (by omega)).trans ((b2.block _ (by omega)).trans m1),(b3.block _ (by omega)).trans m2,m3,hlt t (by simp),hlt,bw⟩
theorem aFX {w0 w:World}{R:List Nat}{t d s n:Nat}{root key:Int}{E:List Ent}(h:TrR w0 (t::R) w d s n root E)(ht:w.heap[t]?=some (txC s root 0 false))(ht0:w0.heap.size<=t)
  (H0:Nat)(h9:H0<=8)(hE:E.length<2 ^ (H0+1))(hn:2*E.length+2*H0+5<=n)(hk:0<=key/\key<=18446744073709551615)(gb:Bool)(hgb:eE key E=gb) :
  () 84 #[t,.int .u64 key] w fun e w'=>e=.returned (.bool gb)/\∃ q,TrR w0 (t::R) w' d s n q (iP key E)/\w'.heap[t]?=some (txC s q 0 false)/\∀ k∈R,k≠t->w'.heap[k]?=w.heap[k]?:=by
 obtain⟨x3,hx3⟩:∃ x3,((w.alloc (.cells #[t] 24)).alloc (.cells #[.int .u64 key] 82)).alloc (.cells #[false] 4)=x3:=⟨_,rfl⟩
 obtain⟨hT,m1,m2,m3,htl,hlt,bw⟩:=aEZ h _ _ _ x3 hx3;have ht4:=(bw.block t htl).trans ht;have hs0:=h.size.size
 have DO:=Hd (aER x3 t s root #[.pointer (some ⟨w.heap.size,0,none⟩),.pointer (some ⟨w.heap.size+1,0,none⟩),.pointer (some ⟨w.heap.size+2,0,none⟩)] ht4
  (fun c w'=>c=0/\∃ q,TrR w0 ((w.heap.size+2)::(w.heap.size+1)::w.heap.size::t::R) w' d s n q (iP key E)/\w'.heap[t]?=some (txC s q 0 false)/\w'.heap[w.heap.size+2]?=some (.cells #[gb] 4)/\∀ k∈((w.heap.size+2)::(w.heap.size+1)::w.heap.size::t::R),k≠t->k≠w.heap.size+2->w'.heap[k]?=x3.heap[k]?)
  ((aCT hT ⟨m1,m2,ht4⟩ (by simp) ht0 ⟨m3,by simp,by omega,by omega⟩ H0 h9 hE hn hk gb hgb).mono fun e w' ⟨h1,q,h2,h3,h4,h5⟩=>⟨0,h1,⟨rfl,q,h2,h3,h4,h5⟩,q,h3⟩))
 have HF:=Hd (And.intro bw (And.intro htl (And.intro hlt ht0)));have bx:=(aD m1).1;have HX:=Hd hx3;clear h ht hT m1 m2 m3 htl hlt ht0 bw hx3 h9 hE hn hk hgb ht4 hs0;go_enter Tryz.func84,Tryz.ntmps84;go_upto_region 2 with fail
 try simp only[Nat.add_assoc,Nat.reduceAdd,World.heap_size_alloc]
 rw[HX.o];go_wp2_with fail;refine DO.mono ?_;rintro e w6 ⟨c,w5,rfl,⟨rfl,q,h1,h2,h3,h4⟩,hw6⟩;have htl:=HF.2.1;obtain⟨g1,g2⟩:=aA1 h2 hw6;have cb:=(aD ((g2.block _ (h1.lt (w.heap.size+2) (by simp)) (by omega)).trans h3)).1
 have FIN:Hid (∃ q,TrR w0 (t::R) w6 d s n q (iP key E)/\w6.heap[t]?=some (txC s q 0 false)/\∀ k∈R,k≠t->w6.heap[k]?=w.heap[k]?):=Hd (by
  refine⟨q,(h1.turn (by simp) HF.2.2.2 g2).sub (fun k hk=>by simp only[List.mem_cons] at hk |-;rcases hk with hk|hk <;> simp[hk]),g1,fun k hk hne=>?_⟩;have hm:k∈((w.heap.size+2)::(w.heap.size+1)::w.heap.size::t::R):=by simp[hk]
  have hkl:=HF.2.2.1 k (by simp[hk]);exact(g2.block k (h1.lt k hm) hne).trans ((h4 k hm hne (by omega)).trans (HF.1.block k hkl)))
 clear h1 h2 h3 h4 hw6 g1 g2 bx htl;go_wp2_with fail;go_ret;exact⟨rfl,FIN.o⟩
theorem aFY {w0 w:World}{R:List Nat}{t d s:Nat}{E:List Ent}{key:Int}(h:TxS w0 R w t d s 640 E)(hE:E.length<=300)(hk:0<=key/\key<=18446744073709551615)(gb:Bool)(hgb:eE key E=gb) :
  () 84 #[t,.int .u64 key] w fun e w'=>e=.returned (.bool gb)/\TxS w0 R w' t d s 640 (iP key E)/\KeptT R t w w':=by
 obtain⟨⟨q,h1,h2⟩,h3⟩:=h;refine(aFX h1 h2 h3 8 (by decide) (by omega) (by omega) hk gb hgb).mono ?_;rintro e w' ⟨rfl,q',g1,g2,g3⟩;exact⟨rfl,⟨⟨q',g1,g2⟩,h3⟩,g3⟩
open Go Go.RowKit
def tV (ex now:Int):Bool:=decide (ex=0) || (decide (0<ex)&&(decide (now<ex)&&decide (ex<=268435455)))
theorem LX (ex now:Int)(v:Bool)(w:World)(hv:tV ex now=v) :
  () 45 #[ex,now] w fun e w'=>e=.returned (.bool v)/\w=w':=by
 have H:=Hd hv;clear hv
 by_cases h0:ex=0 <;> by_cases h1:0<ex <;> by_cases h2:now<ex
 all_goals try (exfalso;omega)
 all_goals
  go_enter Tryz.func45,Tryz.ntmps45;go_wp2_with fail;go_ret;refine⟨?_,rfl⟩;rw[<-H.o];exact aS (by rw[Bool.eq_iff_iff];first|(simp[tV,h0,h1,h2];done)|(simp[tV,h0,h1,h2];omega))
def lS (E:List Ent)(id:Int)(c:bG):List Ent:=if c.ex=0 then E else iP (aE 5 c.ex id) E
theorem uE (E:List Ent)(id:Int)(c:bG):(lS E id c).length<=E.length:=by
 unfold lS
 split
 ·exact Nat.le_refl _
 ·exact ZK _ _
theorem tY {w0 w:World}{R:List Nat}{t d s:Nat}{E:List Ent}{id:Int}{c:bG}(h:TxS w0 R w t d s 640 E)(hE:E.length<=300) :
  () 47 #[t,.agg #[id,c.pa,c.ob,c.ow,c.ri,c.ba,c.de,c.ex,c.cu,c.rv]] w fun e w'=>e=.returned (.tuple #[])/\TxS w0 R w' t d s 640 (lS E id c)/\KeptT R t w w':=by
 obtain⟨a1,a2,a3,a4,a5,a6,a7⟩:=h.box (.cells #[id,c.pa,c.ob,c.ow,c.ri,c.ba,c.de,c.ex,c.cu,c.rv] 65);obtain⟨x1,hx1⟩:∃ x1,w.alloc (.cells #[id,c.pa,c.ob,c.ow,c.ri,c.ba,c.de,c.ex,c.cu,c.rv] 65)=x1:=⟨_,rfl⟩
 rw[hx1] at a1 a2 a3 a5;have KY:=Hd (fun w=>kS 5 c.ex id _ w rfl);have DE:=Hd (aFY (key:=aE 5 c.ex id) a1 hE (cG _ _ _) _ rfl);have FIN0:=Hd (And.intro (a1.sub (R':=R) fun k hk=>by simp[hk]) a2);obtain⟨⟨k0,k1,k2,k3,k4,k5,k6,k7,k8,k9⟩,_⟩:=dC a3;obtain⟨ex,hex⟩:∃ ex,c.ex=ex:=⟨_,rfl⟩
 have HF:Hid (lS E id c=if ex=0 then E else iP (aE 5 ex id) E):=Hd (by rw[<-hex];rfl);have HX:=Hd hx1;rw[hex] at KY DE k7;clear hex h hE a1 a2 a3 a4 a5 a6 a7 hx1
 by_cases h0:ex=0
 ·have h0a:(ex==0)=true:=by simpa using h0
  have h0b:(ex != 0)=false:=by simpa using h0
  have HF2:=Hd (show lS E id c=E by rw[HF.o,if_pos h0]);clear h0;go_enter Tryz.func47,Tryz.ntmps47;go_upto_region 1 with fail
  rw[HX.o];go_wp2_with fail
  go_end0
  exact⟨rfl,by rw[HF2.o];exact FIN0.1,FIN0.2⟩
 ·have h0a:(ex==0)=false:=by simpa using h0
  have h0b:(ex != 0)=true:=by simpa using h0
  have HF2:=Hd (show lS E id c=iP (aE 5 ex id) E by rw[HF.o,if_neg h0]);clear h0;go_enter Tryz.func47,Tryz.ntmps47;go_upto_region 1 with fail
  rw[HX.o];go_wp2_with fail;refine(KY _).mono ?_;rintro e w9 ⟨rfl,rfl⟩;go_wp2_with fail;refine DE.mono ?_;rintro e w3 ⟨rfl,h1,h2⟩;have FIN:Hid (TxS w0 R w3 t d s 640 (lS E id c)/\KeptT R t w w3):=Hd ⟨by rw[HF2.o];exact h1.sub fun k hk=>by simp[hk],FIN0.2.trans (h2.sub (R':=R) fun k hk=>by simp[hk])⟩;clear h1 h2 DE;go_wp2_with fail
  go_end0
  exact⟨rfl,FIN.o⟩
theorem JL {w0 w:World}{R:List Nat}{t d s:Nat}{E:List Ent}{bt bi:Nat}{id:Int}{c:bG}(h:TxS w0 R w t d s 640 E)(hb:w.heap[bt]?=some (.cells #[t] 24))(hi:w.heap[bi]?=some (.cells #[id] 3))(hm:(bt∈R/\bt≠t/\w0.heap.size<=bt)/\(bi∈R/\bi≠t/\w0.heap.size<=bi))(hE:E.length<=300)(hg:EQ E id c) :
  () 56 #[bt,bi] w fun e w'=>e=.returned (.int .i64 0)/\TxS w0 R w' t d s 640 (lS E id c)/\KeptT R t w w':=by
 have GE:=Hd (rF h (show E.length<=600 by omega) hg);have c0:=(aD hb).1;have c1:=(aD hi).1;have HB:=Hd (And.intro hb (And.intro hi hm));have HE:=Hd hE;clear h hb hi hm hE hg;go_enter Tryz.func56,Tryz.ntmps56;go_wp2_with fail;refine GE.mono ?_;rintro e w2 ⟨rfl,h1,h2⟩;obtain⟨a1,a2,a3,a4,a5,a6,a7⟩:=h1.box (.cells #[id,c.pa,c.ob,c.ow,c.ri,c.ba,c.de,c.ex,c.cu,c.rv] 65)
 obtain⟨x1,hx1⟩:∃ x,w2.alloc (.cells #[id,c.pa,c.ob,c.ow,c.ri,c.ba,c.de,c.ex,c.cu,c.rv] 65)=x:=⟨_,rfl⟩
 rw[hx1] at a1 a2 a3 a5;have FO:=Hd (tY (id:=id) (c:=c) a1 HE.o);have K1:=Hd (h2.trans a2);have X1:=Hd hx1;clear c0 c1;have c0:=(aD ((K1 bt HB.2.2.1.1 HB.2.2.1.2.1).trans HB.1)).1;obtain⟨⟨y0,y1,y2,y3,y4,y5,y6,y7,y8,y9⟩,_⟩:=dC a3;clear h1 h2 a1 a2 a3 a4 a5 a6 a7 hx1 GE;go_upto_region 2 with fail
 rw[X1.o];go_wp2_with fail;refine FO.mono ?_;rintro e w3 ⟨rfl,h1,h2⟩;have FIN:=Hd (And.intro (h1.sub (R':=R) fun k hk=>by simp[hk]) (K1.trans (h2.sub (R':=R) fun k hk=>by simp[hk])));clear h1 h2 FO c0 y0 y1 y2 y3 y4 y5 y6 y7 y8 y9;go_wp2_with fail;go_ret;exact⟨rfl,FIN.o⟩
theorem xW {w0 w:World}{R:List Nat}{t d s:Nat}{E:List Ent}{bt bi bn be:Nat}{id now ex x:Int}(h:TxS w0 R w t d s 640 E)(hb:w.heap[bt]?=some (.cells #[t] 24))(hi:w.heap[bi]?=some (.cells #[id] 3))(hn:w.heap[bn]?=some (.cells #[now] 3))(he:w.heap[be]?=some (.cells #[ex] 3))(hx:x≠0)
  (hst:∀ w,TxS w0 R w t d s 640 E->() 14 #[t,id,now] w fun e w'=>e=.returned x/\TxS w0 R w' t d s 640 E/\KeptT R t w w') :
  () 44 #[bt,bi,bn,be] w fun e w'=>e=.returned x/\TxS w0 R w' t d s 640 E/\KeptT R t w w':=by
 have ST:=Hd (hst w h);have c0:=(aD hb).1;have c1:=(aD hi).1;have c2:=(aD hn).1;have c3:=(aD he).1;have x1:(x==0)=false:=by simpa using hx
 have x2:(x != 0)=true:=by simpa using hx
 clear h hb hi hn he hx hst;go_enter Tryz.func44,Tryz.ntmps44;go_wp2_with fail;refine ST.mono ?_;rintro e w2 ⟨rfl,h1⟩;have FIN:=Hd h1;clear h1 ST c0 c1 c2 c3;go_wp2_with fail;go_ret;exact⟨rfl,FIN.o⟩
theorem GY {w0 w:World}{R:List Nat}{t d s:Nat}{E:List Ent}{bt bi bn be:Nat}{id now ex:Int}(h:TxS w0 R w t d s 640 E)(hb:w.heap[bt]?=some (.cells #[t] 24))(hi:w.heap[bi]?=some (.cells #[id] 3))(hn:w.heap[bn]?=some (.cells #[now] 3))(he:w.heap[be]?=some (.cells #[ex] 3))(hm:(bt∈R/\bt≠t/\w0.heap.size<=bt)/\(bi∈R/\bi≠t/\w0.heap.size<=bi)/\(bn∈R/\bn≠t/\w0.heap.size<=bn)/\(be∈R/\be≠t/\w0.heap.size<=be))(hmay:tV ex now=false)
  (hst:∀ w,TxS w0 R w t d s 640 E->() 14 #[t,id,now] w fun e w'=>e=.returned (.int .i64 0)/\TxS w0 R w' t d s 640 E/\KeptT R t w w') :
  () 44 #[bt,bi,bn,be] w fun e w'=>e=.returned (.int .i64 1)/\TxS w0 R w' t d s 640 E/\KeptT R t w w':=by
 have ST:=Hd (hst w h);have MY:=Hd (fun w=>LX ex now false w hmay);have c0:=(aD hb).1;have c1:=(aD hi).1;have c2:=(aD hn).1;have c3:=(aD he).1;have HB:=Hd (And.intro hn (And.intro he hm));clear h hb hi hn he hm hst hmay;go_enter Tryz.func44,Tryz.ntmps44;go_wp2_with fail;refine ST.mono ?_;rintro e w2 ⟨rfl,h1,h2⟩;clear c0 c1 c2 c3;have c2:=(aD ((h2 bn HB.2.2.2.2.1.1 HB.2.2.2.2.1.2.1).trans HB.1)).1;have c3:=(aD ((h2 be HB.2.2.2.2.2.1 HB.2.2.2.2.2.2.1).trans HB.2.1)).1;have FIN:=Hd (And.intro h1 h2);clear h1 h2 ST
 go_wp2_with fail;refine(MY _).mono ?_;rintro e w3 ⟨rfl,rfl⟩;clear c2 c3;go_wp2_with fail;go_ret;exact⟨rfl,FIN.o⟩
def iR (c:bG)(ex:Int):bG:=⟨c.pa,c.ob,c.ow,c.ri,c.ba,c.de,ex,c.cu,c.rv⟩
def uZ (E:List Ent)(id:Int)(c:bG)(ex:Int):List Ent:=(fun E2=>if ex=0 then E2 else aY (aE 5 ex id) ⟨#[]⟩ E2) (aY (aE 1 0 id) (dH (iR c ex)) (lS E id c))
theorem PZ {w0 w:World}{R:List Nat}{t d s:Nat}{E:List Ent}{bt bi bn be:Nat}{id now ex:Int}{c:bG}(h:TxS w0 R w t d s 640 E)(hb:w.heap[bt]?=some (.cells #[t] 24))(hi:w.heap[bi]?=some (.cells #[id] 3))(hn:w.heap[bn]?=some (.cells #[now] 3))(he:w.heap[be]?=some (.cells #[ex] 3))(hm:(bt∈R/\bt≠t/\w0.heap.size<=bt)/\(bi∈R/\bi≠t/\w0.heap.size<=bi)/\(bn∈R/\bn≠t/\w0.heap.size<=bn)/\(be∈R/\be≠t/\w0.heap.size<=be))(hE:E.length<=290)(hmay:tV ex now=true)(hg:EQ E id c)(hok:fV id (iR c ex))
  (hst:∀ w,TxS w0 R w t d s 640 E->() 14 #[t,id,now] w fun e w'=>e=.returned (.int .i64 0)/\TxS w0 R w' t d s 640 E/\KeptT R t w w') :
  () 44 #[bt,bi,bn,be] w fun e w'=>e=.returned (.int .i64 0)/\TxS w0 R w' t d s 640 (uZ E id c ex)/\KeptT R t w w':=by
 have ST:=Hd (hst w h);have MY:=Hd (fun w=>LX ex now true w hmay);have PC:=Hd (fun w=>BJ id (iR c ex) w hok);have hsz:=xG hok;have c0:=(aD hb).1;have c1:=(aD hi).1;have c2:=(aD hn).1;have c3:=(aD he).1;have HB:=Hd (And.intro (And.intro hb (And.intro hi (And.intro hn he))) (And.intro hE hm));have HG:=Hd hg;have HE:=Hd hE;have HSZ:=Hd hsz;clear h hb hi hn he hm hst hmay hE hg hok hsz;go_enter Tryz.func44,Tryz.ntmps44;go_wp2_with fail;refine ST.mono ?_;rintro e w2 ⟨rfl,h1,h2⟩;clear c0 c1 c2 c3
 have q0:=(h2 bt HB.2.2.1.1 HB.2.2.1.2.1).trans HB.1.1;have q1:=(h2 bi HB.2.2.2.1.1 HB.2.2.2.1.2.1).trans HB.1.2.1;have q2:=(h2 bn HB.2.2.2.2.1.1 HB.2.2.2.2.1.2.1).trans HB.1.2.2.1;have q3:=(h2 be HB.2.2.2.2.2.1 HB.2.2.2.2.2.2.1).trans HB.1.2.2.2;have c0:=(aD q0).1;have c1:=(aD q1).1;have c2:=(aD q2).1;have c3:=(aD q3).1;have GE:=Hd (rF h1 (show E.length<=600 by have:=HE.o;omega) HG.o);have K2:=Hd h2;have Q2:=Hd (And.intro q0 (And.intro q1 q3));clear h1 h2 ST q0 q1 q2 q3;go_wp2_with fail
 refine(MY _).mono ?_;rintro e w3 ⟨rfl,rfl⟩;go_wp2_with fail;refine GE.mono ?_;rintro e w4 ⟨rfl,h1,h2⟩;obtain⟨a1,a2,a3,a4,a5,a6,a7⟩:=h1.box (.cells #[id,c.pa,c.ob,c.ow,c.ri,c.ba,c.de,c.ex,c.cu,c.rv] 65);obtain⟨bx,hbx⟩:∃ b,w4.heap.size=b:=⟨_,rfl⟩
 obtain⟨x1,hx1⟩:∃ x,w4.alloc (.cells #[id,c.pa,c.ob,c.ow,c.ri,c.ba,c.de,c.ex,c.cu,c.rv] 65)=x:=⟨_,rfl⟩
 rw[hx1] at a1 a2 a3 a5;rw[hbx] at a1 a3 a4 a5 a6 a7;have kk:=h2.trans a2;have q0:=(kk bt HB.2.2.1.1 HB.2.2.1.2.1).trans Q2.1;have q1:=(kk bi HB.2.2.2.1.1 HB.2.2.2.1.2.1).trans Q2.2.1;have q3:=(kk be HB.2.2.2.2.2.1 HB.2.2.2.2.2.2.1).trans Q2.2.2;have FO:=Hd (tY (id:=id) (c:=c) a1 (show E.length<=300 by have:=HE.o;omega));have K4:=Hd (And.intro (K2.trans kk) (And.intro a3 (And.intro a4 (And.intro a6 a7))));have Q4:=Hd (And.intro q0 (And.intro q1 q3));have X1:=Hd (And.intro hx1 hbx);clear c0 c1 c2 c3
 have c0:=(aD q0).1;obtain⟨⟨y0,y1,y2,y3,y4,y5,y6,y7,y8,y9⟩,_⟩:=dC a3;clear h1 h2 kk a1 a2 a3 a4 a5 a6 a7 hx1 hbx GE q0 q1 q3 K2 Q2;go_upto_region 7 with fail
 rw[X1.1,X1.2];go_wp2_with fail;refine FO.mono ?_;rintro e w5 ⟨rfl,h1,h2⟩;have m5:=(h2 bx (by simp) K4.2.2.1).trans K4.2.1;obtain⟨wy,hwy⟩:∃ wy,w5.setCell ⟨bx,7,none⟩ (.int .i64 ex)=wy:=⟨_,rfl⟩
 have f5:Frm (fun k=>k=bx) w5 wy:=by rw[<-hwy];exact(Frm.refl (fun k=>k=bx) w5).setCell _ _ (.inl rfl)
 have m6:wy.heap[bx]?=some (.cells #[id,c.pa,c.ob,c.ow,c.ri,c.ba,c.de,ex,c.cu,c.rv] 65):=by rw[<-hwy,hss _ _ 7 _ _ _ m5];rfl
 have t6:=h1.turn (k:=bx) (by simp) K4.2.2.1 K4.2.2.2.1 f5;have k6:KeptT R t w wy:=fun k hk hn=>(f5.block k (h1.lt.1 k (by simp[hk])) (K4.2.2.2.2 k hk)).trans ((h2 k (by simp[hk]) hn).trans (K4.1 k hk hn))
 have q0:=(h2 bt (by simp[HB.2.2.1.1]) HB.2.2.1.2.1).trans Q4.1;have q1:=(h2 bi (by simp[HB.2.2.2.1.1]) HB.2.2.2.1.2.1).trans Q4.2.1;have q3:=(h2 be (by simp[HB.2.2.2.2.2.1]) HB.2.2.2.2.2.2.1).trans Q4.2.2;have r0:=(f5.block bt (h1.lt.1 bt (by simp[HB.2.2.1.1])) (K4.2.2.2.2 bt HB.2.2.1.1)).trans q0;have r1:=(f5.block bi (h1.lt.1 bi (by simp[HB.2.2.2.1.1])) (K4.2.2.2.2 bi HB.2.2.2.1.1)).trans q1;have r3:=(f5.block be (h1.lt.1 be (by simp[HB.2.2.2.2.2.1])) (K4.2.2.2.2 be HB.2.2.2.2.2.1)).trans q3
 have F6:=Hd (And.intro t6 (And.intro k6 (And.intro m6 (And.intro r0 (And.intro r1 r3)))));have HY:=Hd hwy;clear c0 y0 y1 y2 y3 y4 y5 y6 y7 y8 y9;have c3:=(aD q3).1;obtain⟨⟨y0,y1,y2,y3,y4,y5,y6,y7,y8,y9⟩,f0,f1,f2,f3,f4,f5,f6,f7,f8,f9⟩:=dC m5;clear h1 h2 m5 f5 m6 t6 k6 q0 q1 q3 r0 r1 r3 hwy FO K4 Q4;go_upto_region 11 with fail
 rw[HY.o];clear c3 y0 y1 y2 y3 y4 y5 y6 y7 y8 y9 f0 f1 f2 f3 f4 f5 f6 f7 f8 f9;obtain⟨⟨y0,y1,y2,y3,y4,y5,y6,y7,y8,y9⟩,_⟩:=dC F6.2.2.1;go_wp2_with fail;refine(PC _).mono ?_;rintro e w8 ⟨rfl,b8⟩;have hA:=Hd (show(fun w'=>w'.heap[bt]?=some (.cells #[t] 24)/\w'.heap[bi]?=some (.cells #[id] 3)/\w'.heap[be]?=some (.cells #[ex] 3)) w8.drew from⟨mB F6.2.2.2.1 b8.drew,mB F6.2.2.2.2.1 b8.drew,mB F6.2.2.2.2.2 b8.drew⟩);have t8:=(F6.1.below b8).sub (R':=R) fun k hk=>by simp[hk]
 have PU:=Hd (pR (key:=aE 1 0 id) (val:=dH (iR c ex)) (t8.below Br.drew) (by have:=uE E id c;have:=HE.o;omega) (cG _ _ _) (by have:=HSZ.o;omega));have F8:=Hd (And.intro (t8.below Br.drew) (show KeptT R t w w8.drew from F6.2.1.trans ((F6.1.sub (R':=R) fun k hk=>by simp[hk]).kept b8.drew)));clear b8 t8 F6 y0 y1 y2 y3 y4 y5 y6 y7 y8 y9;go_upto_region 12 with fail
 refine wp_region_held_drew (S:=fun w'=>w'.heap[bt]?=some (.cells #[t] 24)/\w'.heap[bi]?=some (.cells #[id] 3)/\w'.heap[be]?=some (.cells #[ex] 3)) (by kernel_rfl) hA (fun hS=>?_);refine Hv 0 40 ?va0x1 hS ?ha0x1 ?_
 case ha0x1=>
  intro w9 s9;have k9:=(aD s9.1).1;clear s9;go_simp;try (with_reducible rfl)
 simp only[SL];refine Hv 1 41 ?va1x2 hS ?ha1x2 ?_
 case ha1x2=>
  intro w9 s9;have k9:=(aD s9.2.1).1;clear s9;go_simp;try (with_reducible rfl)
 simp only[SL];refine Hu 3 43 hS ?_;simp only[SL];refine Hs 2 (fun K HK=>?_);go_simp;go_wp2_with fail;refine(kS 1 0 id _ _ rfl).mono ?_;rintro e w6 ⟨rfl,rfl⟩;refine HK _ _ ?_ ?_
 ·exact hS
 clear HK K;try simp only[Act.put,SL]
 refine Hs 4 (fun K HK=>?_);go_simp;go_wp2_with fail;refine PU.mono ?_;rintro e w7 ⟨rfl,h1,h2⟩;refine HK _ _ ?_ ?_
 ·exact⟨(h2 bt HB.2.2.1.1 HB.2.2.1.2.1).trans hS.1,(h2 bi HB.2.2.2.1.1 HB.2.2.2.1.2.1).trans hS.2.1,(h2 be HB.2.2.2.2.2.1 HB.2.2.2.2.2.2.1).trans hS.2.2⟩
 clear HK K;try simp only[Act.put,SL]
 have hS9:=(show(_/\_/\_) from⟨(h2 bt HB.2.2.1.1 HB.2.2.1.2.1).trans hS.1,(h2 bi HB.2.2.2.1.1 HB.2.2.2.1.2.1).trans hS.2.1,(h2 be HB.2.2.2.2.2.1 HB.2.2.2.2.2.2.1).trans hS.2.2⟩)
 clear hS;have hS:=hS9;clear hS9;have F12:=Hd (And.intro h1 (F8.2.trans (show KeptT R t _ w7 from h2)));clear h1 h2 PU F8;refine wpAnyH_done (by kernel_rfl) ?_ _;have cE:=(aD hS.2.2).1;have hA:=Hd (show(fun w'=>w'.heap[bt]?=some (.cells #[t] 24)/\w'.heap[bi]?=some (.cells #[id] 3)/\w'.heap[be]?=some (.cells #[ex] 3)) w7.drew from hS);clear hS
 by_cases hx0:ex=0
 ·have hx1:(ex==0)=true:=by simpa using hx0
  have hx2:(ex != 0)=false:=by simpa using hx0
  have FIN:Hid (TxS w0 R w7 t d s 640 (uZ E id c ex)/\KeptT R t w w7):=Hd ⟨by
   have:=F12.1;unfold uZ;simp only[if_pos hx0];exact this,F12.2⟩
  clear hx0;go_wp2_with fail;go_ret;exact⟨rfl,FIN.o⟩
 ·have hx1:(ex==0)=false:=by simpa using hx0
  have hx2:(ex != 0)=true:=by simpa using hx0
  have HX0:=Hd hx0;clear hx0;have PU2:=Hd (pR (key:=aE 5 ex id) (val:=⟨#[]⟩) (F12.1.below Br.drew) (by have l1:=bM (aE 1 0 id) (dH (iR c ex)) (lS E id c);have l2:=uE E id c;have:=HE.o;omega) (cG _ _ _) (by decide));have G12:=Hd (And.intro (F12.1.below Br.drew) (show KeptT R t w w7.drew from F12.2));clear F12;go_upto_region 14 with fail
  clear cE;refine wp_region_held_drew (S:=fun w'=>w'.heap[bt]?=some (.cells #[t] 24)/\w'.heap[bi]?=some (.cells #[id] 3)/\w'.heap[be]?=some (.cells #[ex] 3)) (by kernel_rfl) hA (fun hS=>?_);refine Hv 0 47 ?vb0x1 hS ?hb0x1 ?_
  case hb0x1=>
   intro w9 s9;have k9:=(aD s9.1).1;clear s9;go_simp;try (with_reducible rfl)
  simp only[SL];refine Hv 1 48 ?vb1x2 hS ?hb1x2 ?_
  case hb1x2=>
   intro w9 s9;have k9:=(aD s9.2.2).1;clear s9;go_simp;try (with_reducible rfl)
  simp only[SL];refine Hv 2 49 ?vb2x3 hS ?hb2x3 ?_
  case hb2x3=>
   intro w9 s9;have k9:=(aD s9.2.1).1;clear s9;go_simp;try (with_reducible rfl)
  simp only[SL];refine Hs 3 (fun K HK=>?_);go_simp;go_wp2_with fail;refine(kS 5 ex id _ _ rfl).mono ?_;rintro e w6 ⟨rfl,rfl⟩;refine HK _ _ ?_ ?_
  ·exact hS
  clear HK K;try simp only[Act.put,SL]
  refine Hs 4 (fun K HK=>?_);go_simp;go_wp2_with fail;refine PU2.mono ?_;rintro e w7 ⟨rfl,h1,h2⟩;refine HK _ _ ?_ ?_
  ·exact⟨(h2 bt HB.2.2.1.1 HB.2.2.1.2.1).trans hS.1,(h2 bi HB.2.2.2.1.1 HB.2.2.2.1.2.1).trans hS.2.1,(h2 be HB.2.2.2.2.2.1 HB.2.2.2.2.2.2.1).trans hS.2.2⟩
  clear HK K;try simp only[Act.put,SL]
  have hS9:=(show(_/\_/\_) from⟨(h2 bt HB.2.2.1.1 HB.2.2.1.2.1).trans hS.1,(h2 bi HB.2.2.2.1.1 HB.2.2.2.1.2.1).trans hS.2.1,(h2 be HB.2.2.2.2.2.1 HB.2.2.2.2.2.2.1).trans hS.2.2⟩)
  clear hS;have hS:=hS9;clear hS9;have F14:=Hd (And.intro h1 (G12.2.trans (show KeptT R t _ w7 from h2)));clear h1 h2 PU2 G12;refine wpAnyH_done (by kernel_rfl) ?_ _;clear hS
  have FIN:Hid (TxS w0 R w7 t d s 640 (uZ E id c ex)/\KeptT R t w w7):=Hd ⟨by
   have:=F14.1;unfold uZ;simp only[if_neg HX0.o];exact this,F14.2⟩
  go_wp2_with fail;go_ret;exact⟨rfl,FIN.o⟩
 
theorem IX {w0 w:World}{R:List Nat}{t d s:Nat}{E:List Ent}{id:Int}{c:bG}(h:TxS w0 R w t d s 640 E)(hE:E.length<=300)(hg:EQ E id c) :
  () 17 #[t,id] w fun e' w'=>e'=.returned (.int .i64 0)/\TxS w0 R w' t d s 640 (lS E id c)/\KeptT R t w w':=
 aB5 h fun R' wa b0 b1 hT g0 g1 gm=>JL hT g0 g1 gm hE hg
theorem RC {w0 w:World}{R:List Nat}{t d s:Nat}{E:List Ent}{id ex now:Int}{c:bG}{L:List (Int × bG)}(h:TxS w0 R w t d s 640 E)(hE:E.length<=290)(hc:ChainE E id L)(hl:L.length<=9)(hg:EQ E id c){x:Int}(hx:stV L now=x) :
  () 15 #[t,id,ex,now] w fun e' w'=>(x≠0/\e'=.returned x/\TxS w0 R w' t d s 640 E\/x=0/\tV ex now=false/\e'=.returned (.int .i64 1)/\TxS w0 R w' t d s 640 E\/x=0/\tV ex now=true/\e'=.returned (.int .i64 0)/\TxS w0 R w' t d s 640 (uZ E id c ex))/\KeptT R t w w':=by
 have hst:∀ (R':List Nat) (w:World),TxS w0 R' w t d s 640 E->() 14 #[t,id,now] w fun e w'=>e=.returned x/\TxS w0 R' w' t d s 640 E/\KeptT R' t w w':=fun R' w h=>by
  have:=TJ (now:=now) h (show E.length<=600 by omega) hc hl;rw[hx] at this;exact this
 by_cases h0:x=0
 ·subst h0
  cases hm:tV ex now with
  | false=>
   refine(yE h fun R' wa b0 b1 b2 b3 hT g0 g1 g2 g3 gm=>GY hT g0 g1 g3 g2 ⟨gm.1,gm.2.1,gm.2.2.2,gm.2.2.1⟩ hm (fun w=>hst R' w)).mono ?_;rintro e' w' ⟨rfl,h1,h2⟩;exact⟨.inr (.inl ⟨rfl,rfl,rfl,h1⟩),h2⟩
  | true=>
   have hok:fV id (iR c ex):=by
    have h1:=gO.1 hg.2;unfold tV at hm;simp only[Bool.or_eq_true,Bool.and_eq_true,decide_eq_true_eq] at hm;exact gO.2 ⟨h1.id0,h1.pa,h1.np,h1.ob,h1.ow,h1.ri,h1.ba,h1.de,h1.pd,by show 0<=ex/\ex<=268435455;omega,h1.cu⟩
   refine(yE h fun R' wa b0 b1 b2 b3 hT g0 g1 g2 g3 gm=>PZ hT g0 g1 g3 g2 ⟨gm.1,gm.2.1,gm.2.2.2,gm.2.2.1⟩ hE hm hg hok (fun w=>hst R' w)).mono ?_;rintro e' w' ⟨rfl,h1,h2⟩;exact⟨.inr (.inr ⟨rfl,rfl,rfl,h1⟩),h2⟩
 ·refine(yE h fun R' wa b0 b1 b2 b3 hT g0 g1 g2 g3 gm=>xW hT g0 g1 g3 g2 h0 (fun w=>hst R' w)).mono ?_
  rintro e' w' ⟨rfl,h1,h2⟩;exact⟨.inl ⟨h0,rfl,h1⟩,h2⟩
def atE (a:Int):Nat->List Int->List Int
 | _,[]=>[]
 | j,x::r=>if x=a then((j:Int)+1)::atE a (j+1) r else atE a (j+1) r
def fM (ls:List Int):Nat->List (Int × Int)
 | 0=>[]
 | n+1=>fM ls n++(atE ((n:Int)+1) 0 ls).map fun i=>((n:Int)+1,i)
theorem lE (a:Int)(j:Nat)(x:Int)(r:List Int):atE a j (x::r)=if x=a then((j:Int)+1)::atE a (j+1) r else atE a (j+1) r:=rfl
theorem gD (ls:List Int)(n:Nat):fM ls (n+1)=fM ls n++(atE ((n:Int)+1) 0 ls).map fun i=>((n:Int)+1,i):=rfl
theorem lV (a:Int):∀ (ls:List Int) (j:Nat) (i:Int),i∈atE a j ls ↔ ∃ k:Nat,ls[k]?=some a/\i=((j+k:Nat):Int)+1
 | [],j,i=>by simp[atE]
 | x::r,j,i=>by
  have ih:=lV a r (j+1) i
  have step:(∃ k:Nat,(x::r)[k]?=some a/\i=((j+k:Nat):Int)+1) ↔ (x=a/\i=(j:Int)+1)\/∃ k:Nat,r[k]?=some a/\i=((j+1+k:Nat):Int)+1:=by
   constructor
   ·rintro⟨k,h1,h2⟩
    cases k with
    | zero=>exact .inl ⟨by simpa using h1,by simpa using h2⟩
    | succ k=>exact .inr ⟨k,by simpa using h1,by rw[h2];omega⟩
   ·rintro(⟨h1,h2⟩|⟨k,h1,h2⟩)
    ·exact⟨0,by simpa using h1,by simpa using h2⟩
    ·exact⟨k+1,by simpa using h1,by rw[h2];omega⟩
  rw[step,<-ih];rw[lE]
  by_cases e:x=a
  ·rw[if_pos e,List.mem_cons]
   exact⟨fun h=>h.imp (fun h=>⟨e,h⟩) id,fun h=>h.imp (fun h=>h.2) id⟩
  ·rw[if_neg e]
   exact⟨.inr,fun h=>h.resolve_left fun h=>e h.1⟩
theorem uT (a:Int):∀ (ls:List Int) (j:Nat),(atE a j ls).Pairwise (·<·)
 | [],j=>List.Pairwise.nil
 | x::r,j=>by
  rw[lE]
  by_cases e:x=a
  ·rw[if_pos e]
   refine List.Pairwise.cons (fun i hi=>?_) (uT a r (j+1));obtain⟨k,_,h2⟩:=(lV a r (j+1) i).1 hi;omega
  ·rw[if_neg e];exact uT a r (j+1)
theorem qN (a:Int):∀ (ls:List Int) (j:Nat),(atE a j ls).length=ls.countP fun x=>decide (x=a)
 | [],j=>rfl
 | x::r,j=>by
  rw[lE]
  by_cases e:x=a
  ·rw[if_pos e,List.length_cons,qN a r (j+1),List.countP_cons_of_pos (by simpa using e)]
  ·rw[if_neg e,qN a r (j+1),List.countP_cons_of_neg (by simpa using e)]
theorem kY (ls:List Int):∀ (n:Nat) (a i:Int),(a,i)∈fM ls n ↔ 1<=a/\a<=n/\∃ k:Nat,ls[k]?=some a/\i=(k:Int)+1
 | 0,a,i=>⟨fun h=>(List.not_mem_nil h).elim,fun h=>by have h1:=h.1;have h2:=h.2.1;simp at h2;omega⟩
 | n+1,a,i=>by
  rw[gD,List.mem_append,kY ls n a i,List.mem_map];constructor
  ·rintro(⟨h1,h2,h3⟩|⟨y,hy,e⟩)
   ·exact⟨h1,by omega,h3⟩
   ·simp only[Prod.mk.injEq] at e
    obtain⟨e1,e2⟩:=e;obtain⟨k,g1,g2⟩:=(lV _ ls 0 y).1 hy;exact⟨by omega,by omega,k,by rw[g1,e1],by rw[<-e2,g2,Nat.zero_add]⟩
  ·rintro⟨h1,h2,k,h3,h4⟩
   by_cases e:a=(n:Int)+1
   ·exact .inr ⟨i,(lV _ ls 0 i).2 ⟨k,by rw[h3,e],by rw[h4,Nat.zero_add]⟩,by rw[e]⟩
   ·exact .inl ⟨h1,by omega,k,h3,h4⟩
theorem xC (ls:List Int):∀ n:Nat,(fM ls n).length=ls.countP fun x=>decide (1<=x)&&decide (x<=(n:Int))
 | 0=>by
  unfold fM;refine(List.countP_eq_zero.2 fun x _=>?_).symm;simp only[Bool.and_eq_true,decide_eq_true_eq];omega
 | n+1=>by
  rw[gD,List.length_append,List.length_map,xC ls n,qN]
  induction ls with
  | nil=>rfl
  | cons x r ih=>
   simp only[List.countP_cons,Bool.and_eq_true,decide_eq_true_eq];rw[show((n+1:Nat):Int)=(n:Int)+1 by omega] at ih |-
   split <;> split <;> split <;> omega
theorem qE {a b:Int}(ha:0<=a/\a<=268435455)(hb:0<=b/\b<=4294967295):bS 5 a b=true:=fG.2 ⟨by omega,ha,hb⟩
theorem kV {a b:Int}(h:bS 5 a b=true):aE 5 a b=5*1152921504606846976+a*4294967296+b:=by unfold aE;rw[if_pos h]
def JU (ls:List Int)(n:Nat):List Ent:=(fM ls n).map fun p=>(aE 5 p.1 p.2,(⟨#[]⟩:ByteArray))
theorem xE {ls:List Int}(hl:ls.length<=90):∀ n:Nat,n<=1000->kB (JU ls n)
 | 0,_=>List.Pairwise.nil
 | n+1,hn=>by
  have ih:=xE hl n (by omega);unfold JU;rw[gD,List.map_append];refine List.pairwise_append.2 ⟨ih,?_,fun x hx y hy=>?_⟩
  ·rw[List.map_map]
   refine List.pairwise_map.2 ((List.Pairwise.and_mem.1 (uT _ ls 0)).imp ?_);rintro i j ⟨hi,hj,hij⟩;obtain⟨k,g1,g2⟩:=(lV _ ls 0 i).1 hi;obtain⟨k',g3,g4⟩:=(lV _ ls 0 j).1 hj;have b1:=(List.getElem?_eq_some_iff.1 g1).1;have b2:=(List.getElem?_eq_some_iff.1 g3).1;have a1:=kV (qE (a:=(n:Int)+1) (b:=i) (by omega) (by omega));have a2:=kV (qE (a:=(n:Int)+1) (b:=j) (by omega) (by omega))
   dsimp only[Function.comp_apply]
   omega
  ·obtain⟨⟨a,i⟩,hp,rfl⟩:=List.mem_map.1 hx
   obtain⟨⟨b,j⟩,hq,rfl⟩:=List.mem_map.1 hy;obtain⟨h1,h2,k,g1,g2⟩:=(kY ls n a i).1 hp;obtain⟨y,hy,e⟩:=List.mem_map.1 hq;simp only[Prod.mk.injEq] at e;obtain⟨e1,e2⟩:=e;obtain⟨k',g3,g4⟩:=(lV _ ls 0 y).1 hy;have b1:=(List.getElem?_eq_some_iff.1 g1).1;have b2:=(List.getElem?_eq_some_iff.1 g3).1;have a1:=kV (qE (a:=a) (b:=i) (by omega) (by omega));have a2:=kV (qE (a:=b) (b:=j) (by omega) (by omega))
   dsimp only
   omega
theorem CpE.due {E:List Ent}{cs:List (Option bG)}{os:List dU}{ls:List Int}{m:Nat}(h:CpE E cs os ls m){n:Nat}(hn:n<=1000):((bB (aE 5 0 0) E).takeWhile fun(e:Ent)=>(spK e.1==5)&&decide (spA e.1<=(n:Int)))=JU ls n:=by
 have hl:ls.length<=90:=by have:=h.ll;have:=h.cl;omega
 have k0:=kV (qE (a:=0) (b:=0) (by decide) (by decide));rw[aA5 h.keys]
 ·have hs:=xE hl n hn
  refine OS (List.Pairwise.filter _ h.keys.1) hs fun x=>?_
  have hf:=CZ (fun x=>decide (aE 5 0 0<=x)&&((spK x==5)&&decide (spA x<=(n:Int)))) E x;rw[hf]
  cases hg:cP x (JU ls n) with
  | some v=>
   obtain⟨⟨a,i⟩,hp,he⟩:=List.mem_map.1 ((mV hs).2 hg);simp only[Prod.mk.injEq] at he;obtain⟨hx1,hv1⟩:=he;obtain⟨h1,h2,k,g1,g2⟩:=(kY ls n a i).1 hp;have b1:=(List.getElem?_eq_some_iff.1 g1).1;have kk:bS 5 a i=true:=qE (by omega) (by omega);obtain⟨e1,e2,e3⟩:=sI kk;have e4:=kV kk;rw[<-hx1,<-hv1]
   have hin:(decide (aE 5 0 0<=aE 5 a i)&&((spK (aE 5 a i)==5)&&decide (spA (aE 5 a i)<=(n:Int))))=true:=by
    rw[e1,e2];simp only[beq_self_eq_true,Bool.true_and,Bool.and_eq_true,decide_eq_true_eq];omega
   rw[if_pos hin,h.lease _ _ kk,if_pos];unfold gA;rw[show(i-1).toNat=k by omega,decide_eq_true_eq];exact⟨by omega,g1,by omega⟩
  | none=>
   by_cases hp:(decide (aE 5 0 0<=x)&&((spK x==5)&&decide (spA x<=(n:Int))))=true
   ·rw[if_pos hp]
    cases hx:cP x E with
    | none=>rfl
    | some v=>
     have hr:0<=x/\x<=18446744073709551615:=h.keys.2 _ ((mV h.keys.1).2 hx);simp only[Bool.and_eq_true,beq_iff_eq,decide_eq_true_eq] at hp;obtain⟨q1,q2⟩:=aCC hr.1 hr.2 hp.2.1 rfl rfl;have hb:=fG.1 q2;rw[<-q1,h.lease _ _ q2] at hx
     by_cases hL:gA ls (spA x) (spB x)=true
     ·unfold gA at hL
      rw[decide_eq_true_eq] at hL;have hm:(x,(⟨#[]⟩:ByteArray))∈JU ls n:=List.mem_map.2 ⟨(spA x,spB x),(kY ls n _ _).2 ⟨by omega,hp.2.2,_,hL.2.1,by omega⟩,by rw[q1]⟩;rw[(mV hs).1 hm] at hg
      cases hg
     ·rw[if_neg hL] at hx;cases hx
   ·rw[if_neg hp]
 ·intro a b h1 h2 h3 h4
  unfold spK spA;simp only[Bool.and_eq_true,beq_iff_eq,decide_eq_true_eq];rw[k0] at h1;omega
theorem ZG {ls:List Int}(hl:ls.length<=90){n:Nat}(hn:n<=1000):((JU ls n).map fun(e:Ent)=>spB e.1)=(fM ls n).map (·.2):=by
 unfold JU;rw[List.map_map];refine List.map_congr_left fun p hp=>?_
 obtain⟨a,i⟩:=p;obtain⟨h1,h2,k,g1,g2⟩:=(kY ls n a i).1 hp;have b1:=(List.getElem?_eq_some_iff.1 g1).1;exact(sI (qE (a:=a) (b:=i) (by omega) (by omega))).2.2
theorem CpE.forget {E:List Ent}{cs:List (Option bG)}{os:List dU}{ls:List Int}{m:Nat}(h:CpE E cs os ls m){i:Nat}{c:bG}(hc:cs[i]?=some (some c)):CpE (lS E ((i:Int)+1) c) cs os (ls.set i 0) m:=by
 have hi:=(List.getElem?_eq_some_iff.1 hc).1;have hcl:=h.cl;have hR:=gO.1 (h.capOk i c hc);have hli:i<ls.length:=by have:=h.ll;omega
 have hlx:=h.lsx i c hc
 have hls:∀ (j:Nat) (c':bG),cs[j]?=some (some c')->(ls.set i 0)[j]?=some c'.ex\/(ls.set i 0)[j]?=some 0:=fun j c' hj=>by
  by_cases e:i=j
  ·subst e;right;simp[hli]
  ·rw[List.getElem?_set_ne e];exact h.lsx j c' hj
 by_cases e0:c.ex=0
 ·have:lS E ((i:Int)+1) c=E:=by unfold lS;rw[if_pos e0]
  rw[this]
  have e1:ls.set i 0=ls:=by
   rw[e0] at hlx;have e2:ls[i]?=some 0:=hlx.elim id id;obtain⟨_,e3⟩:=List.getElem?_eq_some_iff.1 e2;rw[<-e3];exact List.set_getElem_self _
  rw[e1];exact h
 ·have hf:lS E ((i:Int)+1) c=iP (aE 5 c.ex ((i:Int)+1)) E:=by unfold lS;rw[if_neg e0]
  have q5:bS 5 c.ex ((i:Int)+1)=true:=qE (by have:=hR.ex;omega) (by omega);rw[hf];have q9:∀ b:Int,0<=b->b<=4294967295->bS 9 0 b=true:=fun b h1 h2=>k9 b h1 h2
  refine⟨RM h.keys _,?_,h.cl,h.ol,by rw[List.length_set];exact h.ll,?_,?_,fun id h0 h1=>?_,fun b h0 h1=>?_,fun a b hk=>?_,fun a b hk=>?_,h.capOk,h.ownOk,hls⟩
  ·exact Nat.le_trans (by rw[<-hf];exact uE _ _ _) h.len
  ·rw[kX (q9 1 (by decide) (by decide)) q5,if_neg (by omega)];exact h.n1
  ·rw[kX (q9 2 (by decide) (by decide)) q5,if_neg (by omega)];exact h.n2
  ·rw[kX (k1 (by omega) (by omega)) q5,if_neg (by omega)];exact h.cap id h0 h1
  ·rw[kX (k3 h0 h1) q5,if_neg (by omega)];exact h.own b h0 h1
  ·rw[kX hk q5,if_neg (by omega)];exact h.kid a b hk
  ·rw[kX hk q5,oT ls 0 hli,h.lease a b hk]
   by_cases e1:b=(i:Int)+1
   ·rw[if_pos e1,show decide ((0:Int)=a/\a≠0)=false by rw[decide_eq_false_iff_not];omega]
    by_cases e2:c.ex=a
    ·rw[if_pos ⟨rfl,e2.symm,e1⟩];rfl
    ·rw[if_neg (by omega),if_neg]
     ·simp
     ·unfold gA
      rw[e1,show((i:Int)+1-1).toNat=i by omega,decide_eq_true_eq];rintro⟨_,g1,g2⟩
      rcases hlx with g3|g3
      ·rw[g3] at g1;injection g1 with g1;exact e2 g1
      ·rw[g3] at g1;injection g1 with g1;exact g2 g1.symm
   ·rw[if_neg (by omega),if_neg e1]
theorem CpE.renew {E:List Ent}{cs:List (Option bG)}{os:List dU}{ls:List Int}{m:Nat}(h:CpE E cs os ls m){i:Nat}{c:bG}(hc:cs[i]?=some (some c)){ex:Int}(hx:fV ((i:Int)+1) (iR c ex)):CpE (uZ E ((i:Int)+1) c ex) (cs.set i (some (iR c ex))) os (ls.set i ex) (m+2):=by
 have hF:=h.forget hc;have hi:=(List.getElem?_eq_some_iff.1 hc).1;have hcl:=h.cl;have hR:=gO.1 hx;have hli:i<ls.length:=by have:=h.ll;omega
 have q1:bS 1 0 ((i:Int)+1)=true:=k1 (by omega) (by omega);have q5:bS 5 ex ((i:Int)+1)=true:=qE (by have:=hR.ex;simp only[iR] at this;omega) (by omega);have hset:(ls.set i 0).set i ex=ls.set i ex:=by rw[List.set_set]
 have hl1:(ls.set i 0).length=ls.length:=List.length_set;have e1:=bM (aE 1 0 ((i:Int)+1)) (dH (iR c ex)) (lS E ((i:Int)+1) c);have e2:=mU (ex=0) (aE 5 ex ((i:Int)+1)) ⟨#[]⟩ (aY (aE 1 0 ((i:Int)+1)) (dH (iR c ex)) (lS E ((i:Int)+1) c));have q9:∀ b:Int,0<=b->b<=4294967295->bS 9 0 b=true:=fun b h1 h2=>k9 b h1 h2
 have hget:∀ {k a b:Int},bS k a b=true->cP (aE k a b) (uZ E ((i:Int)+1) c ex)=if ¬ ex=0/\k=5/\a=ex/\b=(i:Int)+1 then some ⟨#[]⟩ else if k=1/\a=0/\b=(i:Int)+1 then some (dH (iR c ex)) else cP (aE k a b) (lS E ((i:Int)+1) c):=fun{k a b} hk=>by
  unfold uZ
  show cP (aE k a b) (if ex=0 then _ else _)=_
  rw[yH hk (fun _=>q5),cV hk q1]
 have hlen:=hF.len;refine⟨uB (iE hF.keys _ (cG _ _ _)) (cG _ _ _),?_,by rw[List.length_set];exact h.cl,h.ol,by rw[List.length_set,List.length_set];exact h.ll,?_,?_,fun id h0 h1=>?_,fun b h0 h1=>?_,fun a b hk=>?_,fun a b hk=>?_,fun j c' hj=>?_,h.ownOk,fun j c' hj=>?_⟩
 ·unfold uZ
  show(if ex=0 then _ else _:List Ent).length<=_
  omega
 ·rw[hget (q9 1 (by decide) (by decide)),if_neg (by omega),if_neg (by omega),List.length_set];exact hF.n1
 ·rw[hget (q9 2 (by decide) (by decide)),if_neg (by omega),if_neg (by omega)];exact hF.n2
 ·rw[hget (k1 (by omega) (by omega)),if_neg (by omega),xI cs _ hi h0]
  by_cases e:id=(i:Int)+1
  ·rw[if_pos ⟨rfl,rfl,e⟩,if_pos e];rfl
  ·rw[if_neg (fun x=>e x.2.2),if_neg e];exact hF.cap id h0 h1
 ·rw[hget (k3 h0 h1),if_neg (by omega),if_neg (by omega)];exact hF.own b h0 h1
 ·rw[hget hk,if_neg (by omega),if_neg (by omega),hF.kid a b hk]
  have:sB (cs.set i (some (iR c ex))) a b=sB cs a b:=by
   by_cases hb:b<1
   ·rw[qC _ hb,qC _ hb]
   ·unfold sB
    rw[xI cs _ hi (by omega)]
    by_cases e:b=(i:Int)+1
    ·rw[if_pos e]
     have:kA cs b=some c:=by unfold kA;rw[show(b-1).toNat=i by omega,hc];rfl
     rw[this];rfl
    ·rw[if_neg e]
  rw[this]
 ·rw[hget hk,hF.lease a b hk,<-hset,oT (ls.set i 0) ex (by omega)]
  by_cases e:b=(i:Int)+1
  ·rw[if_pos e]
   have hz:gA (ls.set i 0) a b=false:=by
    rw[oT ls 0 hli,if_pos e,decide_eq_false_iff_not];omega
   rw[hz]
   by_cases e3:¬ ex=0/\a=ex
   ·rw[if_pos ⟨e3.1,rfl,e3.2,e⟩,if_pos (by rw[decide_eq_true_eq];omega)]
   ·rw[if_neg (by omega),if_neg (by omega),if_neg (by simp),if_neg (by rw[decide_eq_true_eq];omega)]
  ·rw[if_neg (by omega),if_neg (by omega),if_neg e]
 ·by_cases e:i=j
  ·subst e
   rw[List.getElem?_set_self hi] at hj;have e9:=Option.some.inj (Option.some.inj hj);rw[<-e9];exact hx
  ·rw[List.getElem?_set_ne e] at hj;exact h.capOk j c' hj
 ·by_cases e:i=j
  ·subst e
   rw[List.getElem?_set_self hi] at hj;have e9:=Option.some.inj (Option.some.inj hj);rw[<-e9];left;simp[hli,iR]
  ·rw[List.getElem?_set_ne e] at hj |-;exact h.lsx j c' hj
theorem tsoX {w0 w W4 Wz:World}{F G:Nat->Prop}{R Xb Cb Rb:List Nat}{t d s n D:Nat}{E:List Ent}
  (hl:(∀ k∈R,k<w.heap.size)/\t<w.heap.size)(f0:Below w0.heap.size w0 w)(hnF:∀ k∈R,¬ F k)(hFl:∀ k,F k->k<w.heap.size)
  (q:Below w.heap.size w W4)(hCb:∀ k∈Cb,w.heap.size<=k/\k<W4.heap.size)(hX:∀ k∈Xb,w.heap.size<=k/\k<Wz.heap.size)(hRb:∀ k∈Rb,Wz.heap[k]?=w.heap[k]?)
  (hV:TxF w0 F Wz t d s n E)(hfr:Frm (fun k=>(k∈Cb\/k∈Rb)\/G k) W4 Wz)(hG:∀ k,G k->F k\/k=t\/k<w0.heap.size\/w.heap.size<=k)
  (hD:W4.heap.size<=D)(hdef:D<Wz.heap.size):TxS w0 (D::(Xb++(Cb++R))) Wz t d s n E/\KeptT R t w Wz:=by
 obtain⟨h1,h2⟩:=tso hl f0 hnF hFl q hCb hRb hV hfr hG hD hdef;refine⟨hV.hide fun k hk=>?_,h2⟩;obtain⟨F',hF',hn',_⟩:=h1.said;have hz:=hfr.size;have qs:=q.size;simp only[List.mem_cons,List.mem_append] at hk
 rcases hk with rfl|hk|hk|hk
 ·exact⟨hdef,fun e=>by have:=hFl _ e;omega⟩
 ·exact⟨(hX k hk).2,fun e=>by have:=hFl _ e;have:=(hX k hk).1;omega⟩
 ·have:=hCb k hk
  exact⟨by omega,fun e=>by have:=hFl _ e;omega⟩
 ·exact⟨by have:=hl.1 k hk;omega,hnF k hk⟩
theorem xY {w:World}{B:Nat}{e:TypeId}{z:Nat}{v:Value}{n:Nat}{xs:List Value}(h:w.ownsRow B e z v n xs){a:Addr}(ha:v.ownBlock≠some a.block)(u:Value):(w.setCell a u).ownsRow B e z v n xs:=
 jF h fun k hk=>Below.heap_setCell _ _ _ _ fun e=>ha (by rw[hk,e])
def ZrI (lb:Nat)(Y:List (Nat × Obj))(L:List Int)(D:Nat->Prop)(W:World):Prop:=
 ∃ v,W.heap[lb]?=some (.cells #[v] 22)/\(∀ p∈Y,W.heap[p.1]?=some p.2)/\W.ownsRow (lb+1) 3 1 v L.length (L.map fun(x:Int)=>Value.int .i64 x)/\∀ k,D k ↔ k=lb\/k∈Y.map (·.1)\/v.ownBlock=some k
theorem ZrI.on {lb:Nat}{Y:List (Nat × Obj)}{L:List Int}{D:Nat->Prop}{A B:World}(h:ZrI lb Y L D A)(ho:OnC D A B):ZrI lb Y L D B:=by
 obtain⟨v,h1,h2,h3,h4⟩:=h;have lt:∀ {k:Nat} {o:Obj},A.heap[k]?=some o->k<A.heap.size:=fun h=>(zl h)
 exact⟨v,(ho.block _ (lt h1) ((h4 _).2 (.inl rfl))).trans h1,fun p hp=>(ho.block _ (lt (h2 p hp)) ((h4 _).2 (.inr (.inl (List.mem_map.2 ⟨p,hp,rfl⟩))))).trans (h2 p hp),jF h3 fun k hk=>ho.block k (h3.lt k hk).2 ((h4 k).2 (.inr (.inr hk))),h4⟩
theorem ZrI.lt {lb:Nat}{Y:List (Nat × Obj)}{L:List Int}{D:Nat->Prop}{A:World}(h:ZrI lb Y L D A){k:Nat}(hk:D k):k<A.heap.size:=by
 obtain⟨v,h1,h2,h3,h4⟩:=h
 rcases(h4 k).1 hk with rfl|h5|h5
 ·exact(zl h1)
 ·obtain⟨p,hp,rfl⟩:=List.mem_map.1 h5
  exact(zl (h2 p hp))
 ·exact(h3.lt k h5).2
theorem CQ:∃ i z,Tryz.prog.info? 3=some i/\i.zero=some z/\i.size=1/\i.bytes=8/\z.cells.size=1:=by
 have h:(Tryz.prog.info? 3).bind (fun i=>i.zero.map fun z=>(i.size,i.bytes,z.cells.size))=some (1,8,1):=by kernel_rfl
 cases hq:Tryz.prog.info? 3 with
 | none=>rw[hq] at h;cases h
 | some i=>
  rw[hq] at h
  cases hz:i.zero with
  | none=>simp[hz] at h
  | some z=>simp[hz] at h;exact⟨i,z,rfl,hz,h.1,h.2.1,h.2.2⟩
theorem ZrI.more {lb:Nat}{Y:List (Nat × Obj)}{L:List Int}{D:Nat->Prop}{Wb w9 wf:World}{v v':Value}{y:Int}{o:Obj}(hI:ZrI lb Y L D Wb)(hv:Wb.heap[lb]?=some (.cells #[v] 22))(hY:∀ p∈Y,p.1<lb)
  (hown:w9.ownsRow (lb+1) 3 1 v' (L.length+1) ((L.map fun(x:Int)=>Value.int .i64 x)++[.int .i64 y]))(hgrow:(Wb.alloc o).grownBy w9 v.ownBlock)(hat:v'.ownBlock=v.ownBlock\/v'.ownBlock=some (Wb.heap.size+1))(hf:w9.setCell ⟨lb,0,none⟩ v'=wf) :
  w9.heap[lb]?=some (.cells #[v] 22)/\(∀ p∈Y,w9.heap[p.1]?=some p.2)/\(∀ p∈Y,wf.heap[p.1]?=some p.2)/\wf.heap[lb]?=some (.cells #[v'] 22)/\Own1 D Wb (fun k=>k=lb\/k∈Y.map (·.1)\/v'.ownBlock=some k) wf/\ZrI lb Y (L++[y]) (fun k=>k=lb\/k∈Y.map (·.1)\/v'.ownBlock=some k) wf:=by
 have hlt:=fun k hk=>ZrI.lt hI (k:=k) hk
 obtain⟨v0,h1,h2,h3,h4⟩:=hI
 have e0:v0=v:=by
  rw[hv] at h1
  simpa using h1.symm
 subst e0;have olt:∀ k,v0.ownBlock=some k->lb+1<=k/\k<Wb.heap.size:=fun k hk=>h3.lt k hk
 have ks:∀ k,k<lb+1->k<Wb.heap.size->w9.heap[k]?=Wb.heap[k]?:=fun k g1 g2=>(hgrow.block k (by simp;omega) (fun e=>by have:=olt k e.symm;omega)).trans (hao _ _ g2)
 have a1:=(ks lb (by omega) (hlt lb ((h4 lb).2 (.inl rfl)))).trans h1;have a2:∀ p∈Y,w9.heap[p.1]?=some p.2:=fun p hp=>(ks p.1 (by have:=hY p hp;omega) (hlt p.1 ((h4 _).2 (.inr (.inl (List.mem_map.2 ⟨p,hp,rfl⟩)))))).trans (h2 p hp)
 have og:=fun k hk=>World.ownsRow.lt hown k hk
 have a3:∀ p∈Y,wf.heap[p.1]?=some p.2:=fun p hp=>by
  rw[<-hf,Below.heap_setCell _ _ _ _ (by show p.1≠lb;have:=hY p hp;omega)];exact a2 p hp
 have a4:wf.heap[lb]?=some (.cells #[v'] 22):=by rw[<-hf,hss _ _ 0 _ _ _ a1];rfl
 refine⟨a1,a2,a3,a4,⟨?_,fun k hk=>?_⟩,v',a4,a3,?_,fun k=>Iff.rfl⟩
 ·rw[<-hf]
  exact(((Frm.refl _ Wb).alloc _).grown hgrow fun k hk=>.inl ((h4 k).2 (.inr (.inr hk)))).setCell ⟨lb,0,none⟩ _ (.inl ((h4 _).2 (.inl rfl)))
 ·rcases hk with rfl|hk|hk
  ·exact .inl ((h4 _).2 (.inl rfl))
  ·exact .inl ((h4 _).2 (.inr (.inl hk)))
  ·rcases hat with g1|g1
   ·exact .inl ((h4 k).2 (.inr (.inr (g1 ▸ hk))))
   ·rw[g1] at hk;injection hk with hk;exact .inr (by omega)
 ·rw[<-hf,List.length_append,List.map_append]
  exact xY hown (fun e=>by have h9:lb+1<=lb:=(og _ e).1;omega) _
theorem ZrI.done {lb:Nat}{Y:List (Nat × Obj)}{L:List Int}{C':Nat->Prop}{w0 w W4 Wz W':World}{F G:Nat->Prop}{R Rb:List Nat}{t d s n D:Nat}{E:List Ent}(hI:ZrI lb Y L C' Wz)(hnD:¬ C' D)
  (hl:(∀ k∈R,k<w.heap.size)/\t<w.heap.size)(f0:Below w0.heap.size w0 w)(hnF:∀ k∈R,¬ F k)(hFl:∀ k,F k->k<w.heap.size)
  (q:Below w.heap.size w W4)(hlb:w.heap.size<=lb/\lb<W4.heap.size)(hRb:∀ k∈Rb,Wz.heap[k]?=w.heap[k]?)
  (hV:TxF w0 F Wz t d s n E)(hfr:Frm (fun k=>(k∈[lb]\/k∈Rb)\/G k) W4 Wz)(hG:∀ k,G k->F k\/k=t\/k<w0.heap.size\/w.heap.size<=k)
  (hD:W4.heap.size<=D)(hdef:D<Wz.heap.size)(hm:Frm (fun k=>k∈[D]) Wz W'){v:Value}(hv:Wz.heap[lb]?=some (.cells #[v] 22)) :
  RowZ W' v L/\FreshB w0 R t v/\TxS w0 (v.ownBlock.toList++R) W' t d s n E/\KeptT R t w W':=by
 obtain⟨v0,h1,h2,h3,h4⟩:=hI
 have e0:v0=v:=by
  rw[hv] at h1
  simpa using h1.symm
 subst e0;have olt:∀ k,v0.ownBlock=some k->lb+1<=k/\k<Wz.heap.size:=fun k hk=>h3.lt k hk
 obtain⟨T0,K0⟩:=tsoX (Xb:=v0.ownBlock.toList) (Cb:=[lb]) (Rb:=Rb) hl f0 hnF hFl q (fun k hk=>by rw[List.mem_singleton] at hk;subst hk;exact hlb) (fun k hk=>by have:=olt k (by simpa using hk);omega) hRb hV hfr hG hD hdef;have f0s:=f0.size;have lt6:=T0.lt.1;have hDt:D≠t:=by have:=q.size;omega
 refine⟨?_,fun k hk=>?_,?_,fun k hk hn=>?_⟩
 ·have h5:W'.ownsRow (lb+1) 3 1 v0 L.length (L.map fun(x:Int)=>Value.int .i64 x):=jF h3 fun k hk=>hm.block k (olt k hk).2 fun e=>hnD (by rw[List.mem_singleton] at e;rw[<-e];exact(h4 k).2 (.inr (.inr hk)))
  exact⟨h5.1,h5.2.imp id fun⟨g,cap,cur,hv,_,r⟩=>⟨g,cap,cur,hv,Nat.zero_le _,r⟩⟩
 ·have:=olt k hk
  exact⟨fun hx=>by have:=hl.1 k hx;omega,by omega,by omega⟩
 ·exact(T0.turn (k:=D) (by simp) hDt (by have:=q.size;omega) (hm.mono fun k hk=>by simpa using hk)).sub fun k hk=>by
   rcases List.mem_append.1 hk with hk|hk
   ·exact List.mem_cons_of_mem _ (List.mem_append_left _ hk)
   ·exact List.mem_cons_of_mem _ (List.mem_append_right _ (List.mem_append_right _ hk))
 ·refine(hm.block k (lt6 k (by simp[hk])) (fun e=>?_)).trans (K0 k hk hn)
  rw[List.mem_singleton] at e;have:=hl.1 k hk;have:=q.size;omega
section
attribute [local go_sem] Oper.semAt_some
theorem aCR {w0 w:World}{R:List Nat}{t d s n:Nat}{E:List Ent}{bm bt bn:Nat}{mo now:Int}  (h:TxS w0 R w t d s n E)(hbm:w.heap[bm]?=some (.cells #[mo] 3))(hbt:w.heap[bt]?=some (.cells #[t] 24))(hbn:w.heap[bn]?=some (.cells #[now] 3))(hm:(bm∈R/\bm≠t/\w0.heap.size<=bm)/\(bt∈R/\bt≠t/\w0.heap.size<=bt)/\(bn∈R/\bn≠t/\w0.heap.size<=bn))(hE:E.length<=600)(hK:lI E)(hmo:1<=mo)  :
  () 52 #[bm,bt,bn] w fun e' w'=>∃ v,e'=.returned (.tuple #[v,(0:Int)])/\RowZ w' v ((((bB (aE 5 0 0) E).takeWhile fun(e:Ent)=>(spK e.1==5)&&decide (spA e.1<=now)).map fun(e:Ent)=>spB e.1).take mo.toNat)/\FreshB w0 R t v/\TxS w0 (v.ownBlock.toList++R) w' t d s n E/\KeptT R t w w':=by
 obtain⟨lb,hlb⟩:∃ n0,w.heap.size=n0:=⟨_,rfl⟩
 obtain⟨x1,hx1⟩:∃ x,w.alloc (.cells #[.slice none 0 0] 22)=x:=⟨_,rfl⟩
 obtain⟨s1,m1,b1⟩:=jL hx1 hlb;have hl:=h.lt;obtain⟨F,hF,hnF,hFl⟩:=h.said;have lF3:=hF.lt;have HF:=Hd (And.intro hF (And.intro hnF (And.intro lF3 (And.intro hl h.from))));have HB:=Hd (And.intro s1 (And.intro m1 b1));have HX:=Hd hx1;have HN:=Hd hlb;have HM:=Hd hm;have HEK:=Hd (And.intro hE (And.intro hK hmo));obtain⟨Ys,hYs⟩:∃ Ys,(bB (aE 5 0 0) E)=Ys:=⟨_,rfl⟩
 rw[hYs];obtain⟨RS,hRS⟩:∃ RS,((Ys.takeWhile fun(e:Ent)=>(spK e.1==5)&&decide (spA e.1<=now)).map fun(e:Ent)=>spB e.1).take mo.toNat=RS:=⟨_,rfl⟩
 rw[hRS];have HRS:=Hd hRS;have HYS:=Hd hYs;clear hRS hYs;have HBX:=Hd (And.intro hbm (And.intro hbn ((b1.block bt (hl.1 bt hm.2.1.1)).trans hbt)));have d0:=(aD hbm).1;have e0:¬ mo<1:=by omega
 clear h hbm hbt hbn hm hE hK hmo hx1 s1 m1 b1 hl hF hnF hFl lF3;refine(callsIn_wide (n:=0)).1 (callsIn_of_wp_marks (F:=Fence.wide) (n:=0) Tryz.func52 rfl trivial (wpIn_wide.2 ?_) rfl);simp only[Tryz.ntmps52,List.size_toArray,List.length_cons,List.length_nil,Nat.reduceAdd,Nat.reduceSub,Array.replicate_succ,Array.replicate_zero,List.push_toArray,List.append_toArray,List.nil_append,List.cons_append];go_wp2_with fail;go_upto_region 4 with fail
 try rw[HX.o]
 try rw[hlb]
 clear hlb d0;have d0:=(aD HBX.2.2).1
 go_cut [14] from 12 to 15 (fun v wx=>v=(.func (.func 91) #[] #[.pointer (some ⟨x1.heap.size,0,none⟩),.pointer (some ⟨x1.heap.size+1,0,none⟩)])/\∃ w5,w5=wx/\w5.heap[x1.heap.size]?=some (.cells #[t] 24)/\w5.heap[x1.heap.size+1]?=some (.cells #[.int .u64 (aE 5 0 0)] 82)/\Below x1.heap.size x1 w5/\w5.heap.size=x1.heap.size+2)
 case first=>
  go_region_with (first|(refine(SO 5 _).mono ?_;rintro e w6 ⟨rfl,rfl⟩)|(refine(wS _ t (aE 5 0 0)).mono ?_;rintro e w5 ⟨rfl,m5,m6,q5,s5⟩))
  all_goals
   go_wp2_with fail
   go_meet
   exact⟨rfl,_,rfl,m5,m6,Br.drew.trans q5,s5⟩
 obtain⟨rfl,w5,hw5,m5,m6,q5,s5⟩:=hcut;subst hw5;clear d0;go_wp2_with fail;obtain⟨nb,hnb⟩:∃ n,x1.heap.size=n:=⟨_,rfl⟩
 have hnb':lb+1=nb:=by rw[<-hnb];exact HB.1.symm
 rw[hnb] at m5 m6 q5 s5 |-;have hF:=HF.o;have hn:=HN.o;have q5w:Below w.heap.size w w5:=HB.2.2.trans (q5.mono (by omega));have hT5:=hF.1.below q5w;have f0:=hF.2.2.2.2.size;have lF:=hT5.lt;have hnF':∀ k,F k->k<lb:=fun k hk=>by have:=hF.2.2.1.1 k hk;omega
 have htn:=hF.2.2.2.1.2;have hRl:=hF.2.2.2.1.1;have hit:=wR hT5 HEK.1 HEK.2.1.1 HEK.2.1.2 (cG 5 0 0) m5 m6 ⟨fun e=>by have:=hnF' _ e;omega,fun e=>by have:=hnF' _ e;omega,by omega,by omega,by omega⟩ ⟨by omega,by omega⟩;have hYl:((bB (aE 5 0 0) E)).length<=600:=Nat.le_trans (vZ _ _) HEK.1
 have HYE:Hid (∀ e∈Ys,0<=e.1/\e.1<=18446744073709551615):=Hd fun e he=>by
  rw[<-HYS.o] at he;exact HEK.2.1.2 e (List.mem_filter.1 (he)).1
 rw[HYS.o] at hit hYl;have HYL:=Hd hYl;clear hYl
 have hYb:∀ p∈([(bm,.cells #[mo] 3),(bn,.cells #[now] 3)]:List (Nat × Obj)),p.1<lb:=fun p hp=>by
  simp only[List.mem_cons,List.not_mem_nil,or_false] at hp
  rcases hp with rfl|rfl
  all_goals (first|(show bm<lb;have:=hRl bm HM.1.1;omega)|(show bn<lb;have:=hRl bn HM.2.2.1;omega))
 have i5:ZrI lb [(bm,.cells #[mo] 3),(bn,.cells #[now] 3)] (([]:List Ent).map fun(e:Ent)=>spB e.1) (fun k=>k∈[lb]\/k∈[bm,bn]) w5:=by
  refine⟨.slice none 0 0,(q5.block _ (by omega)).trans HB.2.1,fun p hp=>?_,World.ownsRow_nil _ _ _ _,fun k=>?_⟩
  ·have h8:=hYb p hp
   simp only[List.mem_cons,List.not_mem_nil,or_false] at hp
   rcases hp with rfl|rfl
   all_goals (first|exact(q5w.block bm (hRl bm HM.1.1)).trans HBX.1|exact(q5w.block bn (hRl bn HM.2.2.1)).trans HBX.2.1)
  ·simp only[List.mem_singleton,List.map_cons,List.map_nil,List.mem_cons,List.not_mem_nil,or_false,Value.ownBlock,reduceCtorEq]
 have DONE:∀ (D:Nat) (C':Nat->Prop) (Wz W':World) (L:List Int) (v:Value),w5.heap.size<=D->ZrI lb [(bm,.cells #[mo] 3),(bn,.cells #[now] 3)] L C' Wz->TxF w0 F Wz t d s n E->Frm (fun k=>(k∈[lb]\/k∈[bm,bn])\/GK w0 F t nb (nb+1) k) w5 Wz->¬ C' D->Wz.heap[D]?=some (.deferred (some []))->Frm (fun k=>k∈[D]) Wz W'->Wz.heap[lb]?=some (.cells #[v] 22)->RowZ W' v L/\FreshB w0 R t v/\TxS w0 (v.ownBlock.toList++R) W' t d s n E/\KeptT R t w W':=fun D C' Wz W' L v hDz hI hV hfr hnD hdef hm hv=>by
  refine ZrI.done hI hnD hF.2.2.2.1 hF.2.2.2.2 hF.2.1 (fun k hk=>by rw[hn];exact hnF' k hk) q5w ⟨by omega,by rw[s5];omega⟩ (fun k hk=>?_) hV hfr (fun k hk=>?_) hDz (zl hdef) hm hv
  ·obtain⟨_,_,g2,_,_⟩:=hI
   simp only[List.mem_cons,List.not_mem_nil,or_false] at hk
   rcases hk with e9|e9
   all_goals rw[e9]
   all_goals (first|exact(g2 (bm,.cells #[mo] 3) (by simp)).trans HBX.1.symm|exact(g2 (bn,.cells #[now] 3) (by simp)).trans HBX.2.1.symm)
  ·unfold GK at hk
   rcases hk with hk|hk|hk|hk|hk
   ·exact .inl hk
   ·exact .inr (.inl hk)
   all_goals first|exact .inr (.inr (.inl hk))|exact .inr (.inr (.inr (by omega)))
 refine(wpIn_wide (n:=0)).1 (tK rfl (enters_of Tryz.func91 (by kernel_rfl) rfl) hit (fun Wz lz o hz hv=>?_) (fun k hk=>?_) (by intro _;rfl) (fun k=>k∈[lb]\/k∈[bm,bn]) (fun k hk hg=>?_) (fun pre C W=>pre <+: Ys.takeWhile (fun(e:Ent)=>(spK e.1==5)&&decide (spA e.1<=now))/\ZrI lb [(bm,.cells #[mo] 3),(bn,.cells #[now] 3)] (pre.map fun(e:Ent)=>spB e.1) C W/\(pre.length:Int)<mo) (fun c pre C W=>c=.exit 0/\∃ L,L=RS/\ZrI lb [(bm,.cells #[mo] 3),(bn,.cells #[now] 3)] L C W) (fun s D A B hh ho=>⟨hh.1,hh.2.1.on ho,hh.2.2⟩) (fun c s D A B hh ho=>⟨hh.1,let ⟨L,e1,e2⟩:=hh.2;⟨L,e1,e2.on ho⟩⟩) (fun s D A hh k hk=>hh.2.1.lt hk) (fun c s D A hh k hk=>let ⟨L,_,e2⟩:=hh.2;e2.lt hk) ⟨List.nil_prefix,i5,by have:=HEK.2.2;simp;omega⟩ ?_ ?_ ?_)
 ·exact hv.frm (cQ Wz lz o) fun k hk=>by subst hk;exact⟨fun e=>by have:=lF.1 _ e;omega,by have:=lF.2.1;omega,by have:=hT5.from.size;omega⟩
 ·unfold GK at hk
  rcases hk with hk|hk|hk|hk|hk
  ·exact lF.1 _ hk
  ·have:=lF.2.1;omega
  all_goals (have:=hT5.from.size;omega)
 ·have h5:=hnF' k
  have h6:=hF.2.1 k;have hbm:=HM.1;have hbn:=HM.2.2;have hrm:=hRl bm hbm.1;have hrn:=hRl bn hbn.1;simp only[List.mem_cons,List.not_mem_nil,or_false] at hk;unfold GK at hg
  rcases hk with rfl|rfl|rfl
  all_goals (rcases hg with hg|hg|hg|hg|hg)
  all_goals first|exact absurd hg (h6 hbm.1)|exact absurd hg (h6 hbn.1)|(have:=h5 hg;omega)|exact absurd hg hbm.2.1|exact absurd hg hbn.2.1|omega
 ·intro l' pre x D Wz hpre hI hD hz hnl hll
  have HNB:=Hd hnb';clear hnb';have hxm:x∈Ys:=hpre.subset (by simp);have hxk:=HYE x hxm;obtain⟨xk,xv⟩:=x
  have hlen:pre.length<=600:=by
   have h1:=hpre.length_le;have:=HYL.o;rw[List.length_append] at h1;omega
  have HLN:=Hd hlen;have HPR:=Hd hpre;obtain⟨y,hy⟩:∃ y:Int,spB xk=y:=⟨_,rfl⟩
  have HY:=Hd hy;obtain⟨kd,hkd⟩:∃ y:Int,spK xk=y:=⟨_,rfl⟩
  obtain⟨en,hen⟩:∃ y:Int,spA xk=y:=⟨_,rfl⟩
  have SP:=Hd (fun w=>by have:=qS xk w hxk.1 hxk.2;rw[hkd,hen,hy] at this;exact this);have HKE:=Hd (And.intro hkd hen);unfold aCP;clear hxm hxk hlen hpre hy hkd hen
  gi_wp2_with fail
  refine⟨Br,fun Wb hfb hIb=>?_⟩;obtain⟨hpp,hIb,hlm⟩:=hIb;have HPP:=Hd hpp;have HI0:=Hd hIb;have HLT:=Hd hlm;obtain⟨v,e1,e2,hown,hDi⟩:=hIb;have HLB:=Hd ((hDi lb).2 (.inl rfl));have TN:=Hd (LG (p:=fun(e:Ent)=>(spK e.1==5)&&decide (spA e.1<=now)) HPR hpp);rw[List.length_map] at hown;have n2:=(aD (e2 _ (by simp:(bn,Obj.cells #[now] 3)∈([(bm,.cells #[mo] 3),(bn,.cells #[now] 3)]:List (Nat × Obj))))).1;clear hpp hfb
  have BRK:Hid (∀ w',(kd≠5\/now<en)->w'=Wb->∃ C',Own1 D Wb C' w'/\∃ L,L=RS/\ZrI lb [(bm,.cells #[mo] 3),(bn,.cells #[now] 3)] L C' w'):=Hd fun w' hb hw=>by
   subst hw
   have hf:(fun(e:Ent)=>(spK e.1==5)&&decide (spA e.1<=now)) (xk,xv)=false:=by
    show((spK xk==5)&&decide (spA xk<=now))=false
    rw[HKE.1,HKE.2]
    rcases hb with hb|hb
    ·simp[hb]
    ·simp;omega
   have e9:=TN.2 hf;refine⟨D,Own1.refl _ _,_,?_,HI0.o⟩;rw[<-HRS.o,e9,List.take_of_length_le];rw[List.length_map];have:=HLT.o;omega
  gi_wp2_with fail
  refine⟨trivial,rfl,?_⟩;refine(CallsIn.inRound l' (callsIn_wide.2 (SP _))).mono ?_;rintro e w8 ⟨rfl,hw8⟩;subst hw8
  by_cases hk5:kd=5
  ·have hk5a:(kd==5)=true:=by simpa using hk5
   have hk5b:(kd != 5)=false:=by simpa using hk5
   by_cases hen:now<en
   ·clear hk5 hown e1 e2 hDi
    gi_wp2_with fail
    obtain⟨C',g1,g2⟩:=BRK _ (.inr hen) rfl;exact⟨C',g1,rfl,g2⟩
   ·have TK:Hid ((pre++[(xk,xv)]) <+: Ys.takeWhile (fun(e:Ent)=>(spK e.1==5)&&decide (spA e.1<=now))):=Hd (TN.1 (by
     show((spK xk==5)&&decide (spA xk<=now))=true
     rw[HKE.1,HKE.2,hk5]
     simpa using hen))
    clear hk5;obtain⟨va,vc,rfl,hv1,hv2⟩:=bK hown;obtain⟨ii,zz,hi,hz0,hz1,hz2,hz3⟩:=CQ;obtain⟨cy,cyf⟩:=aD e1;have OWN:=Hd hown;have HB1:=Hd e1;clear hown e1 e2 hDi
    gi_wp2_with (gi_at_builtin;refine wpListIn_append_own_at _ rfl (.tmp 30) (.tmp 32) 22 rfl (lb+1) 3 ii zz 1 8 Tryz.underlying22 hi hz0 hz1 hz2 hz3 (by decide) _ _ _ rfl (OWN.alloc _) ⟨Wb.heap.size,0,none⟩ 1 1 [.int .i64 y] rfl rfl ?c1 ?c2 ?c3 ?c4 ?c5 ?_)
    case c1=>exact cell_one_new _ _ _
    case c2=>
     intro u hu;simp only[List.mem_cons,List.not_mem_nil,or_false] at hu;subst hu
     rfl
    case c3=>have:=HLN.o;unfold maxLen;omega
    case c4=>have:=HLN.o;omega
    case c5=>
     have h9:=ZrI.lt HI0 (HLB.o);simp;omega
    intro v' w9 hown' hgrow hnil hat;obtain⟨va',vc',rfl,_,_⟩:=bK hown';have FR:=Hd (ZrI.more (o:=_) HI0 HB1 hYb (by rw[List.length_map,List.map_map];exact hown') hgrow (by simpa using hat) rfl);obtain⟨a1,a2,a3,a4,_,_⟩:=FR.o;obtain⟨d1,d1f⟩:=aD a1;have d2:=(aD (a2 _ (by simp:(bm,Obj.cells #[mo] 3)∈([(bm,.cells #[mo] 3),(bn,.cells #[now] 3)]:List (Nat × Obj))))).1
    have d3:=(aD (a3 _ (by simp:(bm,Obj.cells #[mo] 3)∈([(bm,.cells #[mo] 3),(bn,.cells #[now] 3)]:List (Nat × Obj))))).1;have d4:=(aD a4).1;clear hown' hgrow hnil hat a1 a2 a3 a4 OWN HB1 hi hz0 hz1 hz2 hz3 hv1 hv2 hlm n2
    by_cases hbr:((pre.length+1:Nat):Int)=mo
    ·have hbr2:(pre.length:Int)+1=mo:=by omega
     have hbr3:((pre.length:Int)+1==mo)=true:=beq_iff_eq.2 hbr2;have HBR:=Hd hbr;clear hbr
     gi_wp2_with fail
     obtain⟨_,_,_,_,f1,f2⟩:=FR.o
     have e9:(pre.map fun(e:Ent)=>spB e.1)++[y]=RS:=by
      rw[<-HRS.o];have hq:=List.prefix_iff_eq_take.1 (TK.o);rw[<-List.map_take,show mo.toNat=pre.length+1 by have:=HBR.o;omega];rw[List.length_append,List.length_singleton] at hq;rw[<-hq,List.map_append,<-HY.o]
      rfl
     rw[e9] at f2
     first|exact⟨_,f1,rfl,_,rfl,f2⟩|exact⟨_,f1,rfl,f2⟩
    ·have hbr2:¬ (pre.length:Int)+1=mo:=by omega
     have hbr3:((pre.length:Int)+1==mo)=false:=beq_eq_false_iff_ne.2 hbr2;have HBR:=Hd hbr;clear hbr
     gi_wp2_with fail
     obtain⟨_,_,_,_,f1,f2⟩:=FR.o;refine⟨_,f1,TK.o,?_,?_⟩
     ·rw[List.map_append]
      rw[<-HY.o] at f2;exact f2
     ·have:=HLT.o
      have:=HBR.o;rw[List.length_append,List.length_singleton];omega
  ·have hk5a:(kd==5)=false:=by simpa using hk5
   have hk5b:(kd != 5)=true:=by simpa using hk5
   have HK5:=Hd hk5;clear hk5 hown e1 e2 hDi n2
   gi_wp2_with fail
   obtain⟨C',g1,g2⟩:=BRK _ (.inl HK5.o) rfl;exact⟨C',g1,rfl,g2⟩
 ·intro D C' Wz hDz hI hV hfr hC' hnD hdef
  obtain⟨hpp,hZ,hlm⟩:=hI
  have HLE:Hid ((Ys.map fun(e:Ent)=>spB e.1)=RS):=Hd (by
   rw[<-HRS.o,show Ys.takeWhile (fun(e:Ent)=>(spK e.1==5)&&decide (spA e.1<=now))=Ys from(List.takeWhile_prefix _).eq_of_length (Nat.le_antisymm (List.takeWhile_prefix _).length_le hpp.length_le),List.take_of_length_le];rw[List.length_map];omega)
  obtain⟨v,g1,g2,g3,g4⟩:=hZ;have HFN:=Hd (fun W' hm=>DONE D C' Wz W' _ v hDz ⟨v,g1,g2,g3,g4⟩ hV hfr hnD hdef hm g1);have c1:=(aD g1).1;have HMK:Hid (Marks Wz [D]):=Hd ((Marks.nil Wz).cons (by simp) hdef);obtain⟨va,vc,hva,_,_⟩:=bK g3;try rw[List.length_map] at hva
  subst hva;clear hit hfr hnD hdef hV i5 DONE hF hnF' q5w lF htn f0 hnb' hn hnb hT5 m5 q5 s5 hC' hDz hRl hYb m6 g1 g2 g3 g4;go_wp2_with fail;refine jW [D] _ HMK.o fun W' hm=>⟨_,results_tmp2 (fn:=Tryz.f52) rfl _ _ _,?_⟩
  rw[<-HLE.o];exact⟨_,rfl,HFN W' hm⟩
 ·rintro D c pre C' Wz hDz hpre ⟨rfl,L,rfl,hZ⟩ hV hfr hC' hnD hdef
  obtain⟨v,g1,g2,g3,g4⟩:=hZ;have HFN:=Hd (fun W' hm=>DONE D C' Wz W' _ v hDz ⟨v,g1,g2,g3,g4⟩ hV hfr hnD hdef hm g1);have c1:=(aD g1).1;have HMK:Hid (Marks Wz [D]):=Hd ((Marks.nil Wz).cons (by simp) hdef);obtain⟨va,vc,hva,_,_⟩:=bK g3;try rw[List.length_map] at hva
  subst hva;clear hit hfr hnD hdef hV i5 DONE hF hnF' q5w lF htn f0 hnb' hn hnb hT5 m5 q5 s5 hC' hDz hRl hYb m6 g1 g2 g3 g4;refine wpIn_wide.2 ?_;go_wp2_with fail;refine jW [D] _ HMK.o fun W' hm=>⟨_,results_tmp2 (fn:=Tryz.f52) rfl _ _ _,?_⟩
  exact⟨_,rfl,HFN W' hm⟩
end
theorem wP (w:World) :
  () 8 #[] w fun e w'=>∃ t d s,e=.returned (.pointer (some ⟨t,0,none⟩))/\TxS w [] w' t d s 640 []:=by
 have NY:=Hd fun w=>aBY w 640 (by decide) (by decide)
 have hln:(DkS.fresh 640).S.length=640:=by show(List.replicate 640 zs).length=640;rw[List.length_replicate]
 have FG:=Hd (YY (DkS.fresh 640) rfl rfl (by rw[hln];decide) (by rw[hln];decide));rw[hln] at FG;clear hln;go_enter Tryz.func8,Tryz.ntmps8;go_wp2_with fail;refine(NY _).mono ?_;intro e w1 hm;obtain⟨d,rfl,hd⟩:=aD9 Br hm;clear hm NY;have HD:=Hd hd;clear hd;have pn:=WW ⟨d,0,none⟩;go_wp2_with fail;refine(YV HD FG.1).mono ?_;rintro e w3 ⟨s,rfl,hs⟩;have BG:=Hd (aDB hs FG.2.1 FG.2.2.1 FG.2.2.2);clear hs HD;have sn:=WV ⟨s,0,none⟩;go_wp2_with fail;refine BG.mono ?_;rintro e w4 ⟨t,rfl,h1,h2,h3⟩
 have FIN:=Hd (show TxS w [] w4 t d s 640 [] from⟨⟨0,h1,h2⟩,h3⟩);clear h1 h2 h3 BG;go_wp2_with fail;go_ret;exact⟨t,d,s,rfl,FIN.o⟩
theorem uM (w:World) :
  () 7 #[] w fun e w'=>e=.returned (.bool true)/\Below w.heap.size w w':=by
 have MD:=Hd (wP w);have c0:ClkE [] 0:=.inl ⟨by decide,rfl⟩;have c5:ClkE (aY 10376293541461622788 (Str (aK 5 4)) []) 5:=ClkE.ins [] (by decide) (by decide);have C0:=Hd c0;have C5:=Hd c5;clear c0 c5;go_enter Tryz.func7,Tryz.ntmps7;try simp only[List.append_eq,List.cons_append,List.nil_append]
 go_wp2_with fail;refine MD.mono ?_;rintro e w1 ⟨t,d,s,rfl,h1⟩;have pn:=BL ⟨t,0,none⟩;have CL:=Hd (uQ h1 (by simp) C0.o);clear h1 MD;go_wp2_with fail;refine CL.mono ?_;rintro e w2 ⟨rfl,h1,_⟩;have TK:=Hd (UW (a:=5) (m:=5) h1 (by simp) C0 (by decide) (by decide) (by decide));clear h1 CL;go_wp2_with fail;refine TK.mono ?_;rintro e w3 ⟨rfl,h1,_⟩;have TF:=Hd (UX (a:=268435455) (m:=0) h1 (by have:=bM 10376293541461622788 (Str (aK 5 4)) [];simp at this |-;omega) C5 (by decide) (by decide));clear h1 TK;go_wp2_with fail
 refine TF.mono ?_;rintro e w4 ⟨rfl,h1,_⟩;have FIN:=Hd h1.from;clear h1 TF;go_wp2_with fail;go_ret;exact⟨rfl,FIN.o⟩
theorem CS {w:World}{a:Option Addr}{len cap:Nat}{zs:List Int}(hk:IsInts .i64 w a len cap zs)(j:Nat)(hj:j<len):∃ (x:Addr) (z:Int),a=some x/\zs.getD j 0=z/\(-9223372036854775808<=z/\z<=9223372036854775807)/\Hid (∀ wr,Below w.heap.size w wr->wr.cell? (x.add j)=some (.int .i64 z)):=by
 rcases hk with⟨rfl,rfl,rfl,rfl⟩|⟨x,rfl,h1,h2,h3,h4,h5⟩
 ·omega
 ·have hjl:j<zs.length:=by omega
  refine⟨x,_,rfl,rfl,?_,Hd fun wr hb=>?_⟩
  ·have hm:zs.getD j 0∈zs:=by
    rw[List.getD_eq_getElem?_getD,List.getElem?_eq_getElem hjl];exact List.getElem_mem hjl
   have hw:=h5 _ hm;generalize zs.getD j 0=z at hw |-;simp[Lit.wf] at hw;have e1:IntKind.i64.min=-9223372036854775808:=by rfl
   have e2:IntKind.i64.max=9223372036854775807:=by rfl
   omega
  ·have hc:=h4 j hjl
   have hlt:(x.add j).block<w.heap.size:=by
    unfold World.cell? at hc
    cases hq:w.heap[(x.add j).block]? with
    | none=>rw[hq] at hc;simp at hc
    | some b=>exact(zl hq)
   exact(hb.cell hlt).trans hc
