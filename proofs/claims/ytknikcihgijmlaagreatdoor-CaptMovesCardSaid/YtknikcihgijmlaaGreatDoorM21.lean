import Derived.Test.YtknikcihgijmlaaGreatDoorM20
namespace Go.Proofs.YtknikcihgijmlaaGreatDoor
open Go Go.RowKit
set_option maxRecDepth 20000
set_option maxHeartbeats 12800000
set_option linter.unusedVariables false
set_option linter.unusedSimpArgs false
def RowZ (w:World)(v:Value)(L:List Int):Prop:=w.ownsRow 0 3 1 v L.length (L.map fun(x:Int)=>Value.int .i64 x)
theorem RowZ.shape {w:World}{v:Value}{L:List Int}(h:RowZ w v L):∃ a c,v=.slice a L.length c/\L.length<=c/\c<=maxLen:=bP h
theorem RowZ.kept {w w':World}{v:Value}{L:List Int}(h:RowZ w v L)(hk:∀ k,v.ownBlock=some k->w'.heap[k]?=w.heap[k]?):RowZ w' v L:=by
 refine⟨h.1,?_⟩
 rcases h.2 with hx|⟨g,cap,cur,hv,hbg,hh,r⟩
 ·exact .inl hx
 ·exact .inr ⟨g,cap,cur,hv,hbg,(hk g (by rw[hv];rfl)).trans hh,r⟩
def FreshB (w0:World)(R:List Nat)(t:Nat)(v:Value):Prop:=∀ q,v.ownBlock=some q->q ∉ R/\q≠t/\w0.heap.size<=q
theorem FreshB.sub {w0:World}{R R':List Nat}{t:Nat}{v:Value}(h:FreshB w0 R t v)(hs:∀ k∈R',k∈R):FreshB w0 R' t v:=fun q hq=>⟨fun hx=>(h q hq).1 (hs q hx),(h q hq).2⟩
def cE (w:World):List Obj->World
 | []=>w
 | x::xs=>cE (w.alloc x) xs
def xS (n:Nat):List Obj->List Nat
 | []=>[]
 | _::xs=>xS (n+1) xs++[n]
theorem LI:∀ (L:List Obj) (n i:Nat),i<L.length->n+i∈xS n L
 | [],n,i,h=>by simp at h
 | x::xs,n,0,h=>by simp[xS]
 | x::xs,n,i+1,h=>List.mem_append_left _ (by have:=LI xs (n+1) i (by simpa using h);rwa [show n+1+i=n+(i+1) by omega] at this)
theorem TxS.boxes:∀ (L:List Obj) {w0 w:World} {R:List Nat} {t d s n:Nat} {E:List Ent},TxS w0 R w t d s n E ->
  TxS w0 (xS w.heap.size L++R) (cE w L) t d s n E/\KeptT R t w (cE w L)/\(cE w L).heap.size=w.heap.size+L.length/\∀ (i:Nat) (x:Obj),L[i]?=some x->(cE w L).heap[w.heap.size+i]?=some x
 | [],w0,w,R,t,d,s,n,E,h=>⟨h,KeptT.refl _ _ _,rfl,fun i x hx=>by simp at hx⟩
 | y::ys,w0,w,R,t,d,s,n,E,h=>by
  obtain⟨a1,a2,a3,a4,a5,a6,a7⟩:=h.box y;obtain⟨b1,b2,b3,b4⟩:=TxS.boxes ys a1;rw[a5] at b1 b3 b4;refine⟨b1.sub fun k hk=>?_,a2.trans (b2.sub fun k hk=>by simp[hk]),by rw[show cE w (y::ys)=cE (w.alloc y) ys from rfl,b3,List.length_cons];omega,fun i x hx=>?_⟩
  ·simp only[xS,List.append_assoc,List.singleton_append] at hk
   exact hk
  ·cases i with
   | zero=>
    have e:y=x:=by simpa using hx
    subst e;exact(b2 w.heap.size (by simp) a4).trans a3
   | succ i=>
    have:=b4 i x (by simpa using hx);rwa [show w.heap.size+1+i=w.heap.size+(i+1) by omega] at this
def oC (w0:World)(R':List Nat)(t m:Nat)(wa:World)(L:List Obj):Prop:=∀ (i:Nat) (x:Obj),L[i]?=some x->wa.heap[m+i]?=some x/\m+i∈R'/\m+i≠t/\w0.heap.size<=m+i
theorem TxS.boxesAt {w0 w:World}{R:List Nat}{t d s n:Nat}{E:List Ent}(h:TxS w0 R w t d s n E)(L:List Obj){R':List Nat}{wa:World}(hs:∀ k∈xS w.heap.size L++R,k∈R')(hK:KeptT (xS w.heap.size L++R) t (cE w L) wa):oC w0 R' t w.heap.size wa L:=fun i x hx=>by
 obtain⟨b1,b2,b3,b4⟩:=h.boxes L;have hi:=(List.getElem?_eq_some_iff.1 hx).1;have hm:=List.mem_append_left R (LI L w.heap.size i hi);have ht:=h.lt.2;have h0:=h.from.size;exact⟨(hK _ hm (by omega)).trans (b4 i x hx),hs _ hm,by omega,by omega⟩
theorem MK {w0 w:World}{R:List Nat}{t d s n k:Nat}{E E':List Ent}{caps:Array Value}{e:Int}(h:TxS w0 R w t d s n E)(L:List Obj)(hk:∀ w,(callFunc k caps).run Tryz.prog w=.ok (.enter k caps) w)
  (HC:∀ R' wa,TxS w0 R' wa t d s n E->oC w0 R' t w.heap.size wa L->Calls Tryz.prog k caps wa fun e' w'=>e'=.returned e/\TxS w0 R' w' t d s n E'/\KeptT R' t wa w') :
  () 41 #[t,.func (.func k) #[] caps] (cE w L) fun e' w'=>e'=.returned e/\TxS w0 R w' t d s n E'/\KeptT R t w w':=by
 obtain⟨b1,b2,b3,b4⟩:=h.boxes L;refine(mU b1 hk (HC _ _ b1 (h.boxesAt L (fun k hk=>hk) (KeptT.refl _ _ _)))).mono ?_;rintro e' w' ⟨rfl,h1,h2⟩;exact⟨rfl,h1.sub fun k hk=>List.mem_append_right _ hk,b2.trans (h2.sub fun k hk=>List.mem_append_right _ hk)⟩
theorem xW {w0 w:World}{R:List Nat}{t d s n k:Nat}{E E':List Ent}{caps:Array Value}{x e y:Int}(h:TxS w0 R w t d s n E)(L:List Obj)(he:(e=0/\y=x)\/(e≠0/\y=0))(hk:∀ w,(callFunc k caps).run Tryz.prog w=.ok (.enter k caps) w)
  (HC:∀ R' wa,TxS w0 R' wa t d s n E->oC w0 R' t w.heap.size wa L->Calls Tryz.prog k caps wa fun e' w'=>e'=.returned (.tuple #[x,e])/\TxS w0 R' w' t d s n E'/\KeptT R' t wa w') :
  () 27 #[t,.func (.func k) #[] caps] (cE w L) fun e' w'=>e'=.returned (.tuple #[y,e])/\TxS w0 R w' t d s n E'/\KeptT R t w w':=by
 obtain⟨b1,b2,b3,b4⟩:=h.boxes L;refine(wR b1 he hk fun R' wa hs hT hK=>HC R' wa hT (h.boxesAt L hs hK)).mono ?_;rintro e' w' ⟨rfl,h1,h2⟩;exact⟨rfl,h1.sub fun k hk=>List.mem_append_right _ hk,b2.trans (h2.sub fun k hk=>List.mem_append_right _ hk)⟩
theorem bZ {w:World}{g:Nat}{v0 v1 v2 v3 v4 v5 v6 v7 v8 v9:Value}{t:TypeId}(h:w.heap[g]?=some (.cells #[v0,v1,v2,v3,v4,v5,v6,v7,v8,v9] t)):(w.cell? ⟨g,0,none⟩=some v0/\w.cell? ⟨g,1,none⟩=some v1/\w.cell? ⟨g,2,none⟩=some v2/\w.cell? ⟨g,3,none⟩=some v3/\w.cell? ⟨g,4,none⟩=some v4/\w.cell? ⟨g,5,none⟩=some v5/\w.cell? ⟨g,6,none⟩=some v6/\w.cell? ⟨g,7,none⟩=some v7/\w.cell? ⟨g,8,none⟩=some v8/\w.cell? ⟨g,9,none⟩=some v9)/\w.frozen? ⟨g,0,none⟩=false/\w.frozen? ⟨g,1,none⟩=false/\w.frozen? ⟨g,2,none⟩=false/\w.frozen? ⟨g,3,none⟩=false/\w.frozen? ⟨g,4,none⟩=false/\w.frozen? ⟨g,5,none⟩=false/\w.frozen? ⟨g,6,none⟩=false/\w.frozen? ⟨g,7,none⟩=false/\w.frozen? ⟨g,8,none⟩=false/\w.frozen? ⟨g,9,none⟩=false:=by
 refine⟨⟨?_,?_,?_,?_,?_,?_,?_,?_,?_,?_⟩,ufb h 0,ufb h 1,ufb h 2,ufb h 3,ufb h 4,ufb h 5,ufb h 6,ufb h 7,ufb h 8,ufb h 9⟩ <;> (rw[cob h];rfl)
def stC (w:World)(g:Nat)(u0 u1 u2 u3 u4 u5 u6 u7 u8 u9:Value):World:=((((((((((w.setCell ⟨g,0,none⟩ u0).setCell ⟨g,1,none⟩ u1).setCell ⟨g,2,none⟩ u2).setCell ⟨g,3,none⟩ u3).setCell ⟨g,4,none⟩ u4).setCell ⟨g,5,none⟩ u5).setCell ⟨g,6,none⟩ u6).setCell ⟨g,7,none⟩ u7).setCell ⟨g,8,none⟩ u8).setCell ⟨g,9,none⟩ u9)
theorem UZ {w:World}{g:Nat}{v0 v1 v2 v3 v4 v5 v6 v7 v8 v9:Value}{t:TypeId}(h:w.heap[g]?=some (.cells #[v0,v1,v2,v3,v4,v5,v6,v7,v8,v9] t))(u0 u1 u2 u3 u4 u5 u6 u7 u8 u9:Value):(stC w g u0 u1 u2 u3 u4 u5 u6 u7 u8 u9).heap[g]?=some (.cells #[u0,u1,u2,u3,u4,u5,u6,u7,u8,u9] t)/\Frm (fun k=>k=g) w (stC w g u0 u1 u2 u3 u4 u5 u6 u7 u8 u9):=by
 refine⟨?_,(((((((((((Frm.refl (fun k=>k=g) w).setCell ⟨g,0,none⟩ _ (.inl rfl)).setCell ⟨g,1,none⟩ _ (.inl rfl)).setCell ⟨g,2,none⟩ _ (.inl rfl)).setCell ⟨g,3,none⟩ _ (.inl rfl)).setCell ⟨g,4,none⟩ _ (.inl rfl)).setCell ⟨g,5,none⟩ _ (.inl rfl)).setCell ⟨g,6,none⟩ _ (.inl rfl)).setCell ⟨g,7,none⟩ _ (.inl rfl)).setCell ⟨g,8,none⟩ _ (.inl rfl)).setCell ⟨g,9,none⟩ _ (.inl rfl))⟩;unfold stC
 rw[(hss _ _ 9 _ _ _ (hss _ _ 8 _ _ _ (hss _ _ 7 _ _ _ (hss _ _ 6 _ _ _ (hss _ _ 5 _ _ _ (hss _ _ 4 _ _ _ (hss _ _ 3 _ _ _ (hss _ _ 2 _ _ _ (hss _ _ 1 _ _ _ (hss _ _ 0 _ _ _ h))))))))))]
 kernel_rfl
theorem eO {w:World}{g:Nat}{v0 v1 v2 v3:Value}{t:TypeId}(h:w.heap[g]?=some (.cells #[v0,v1,v2,v3] t)):(w.cell? ⟨g,0,none⟩=some v0/\w.cell? ⟨g,1,none⟩=some v1/\w.cell? ⟨g,2,none⟩=some v2/\w.cell? ⟨g,3,none⟩=some v3)/\w.frozen? ⟨g,0,none⟩=false/\w.frozen? ⟨g,1,none⟩=false/\w.frozen? ⟨g,2,none⟩=false/\w.frozen? ⟨g,3,none⟩=false:=by
 refine⟨⟨?_,?_,?_,?_⟩,ufb h 0,ufb h 1,ufb h 2,ufb h 3⟩ <;> (rw[cob h];rfl)
def stW (w:World)(g:Nat)(u0 u1 u2 u3:Value):World:=((((w.setCell ⟨g,0,none⟩ u0).setCell ⟨g,1,none⟩ u1).setCell ⟨g,2,none⟩ u2).setCell ⟨g,3,none⟩ u3)
theorem OU {w:World}{g:Nat}{v0 v1 v2 v3:Value}{t:TypeId}(h:w.heap[g]?=some (.cells #[v0,v1,v2,v3] t))(u0 u1 u2 u3:Value):(stW w g u0 u1 u2 u3).heap[g]?=some (.cells #[u0,u1,u2,u3] t)/\Frm (fun k=>k=g) w (stW w g u0 u1 u2 u3):=by
 refine⟨?_,(((((Frm.refl (fun k=>k=g) w).setCell ⟨g,0,none⟩ _ (.inl rfl)).setCell ⟨g,1,none⟩ _ (.inl rfl)).setCell ⟨g,2,none⟩ _ (.inl rfl)).setCell ⟨g,3,none⟩ _ (.inl rfl))⟩;unfold stW;rw[(hss _ _ 3 _ _ _ (hss _ _ 2 _ _ _ (hss _ _ 1 _ _ _ (hss _ _ 0 _ _ _ h))))]
 rfl
theorem ZB {w0 w:World}{R:List Nat}{t d s n b c:Nat}{E E':List Ent}{k:Nat}{caps:Array Value}{e:Int}{c0:Int}{c1:Int}{c2:Int}{c3:Int}{c4:Int}{c5:Int}{c6:Int}{c7:Int}{c8:Int}{c9:Bool}(h:TxS w0 R w t d s n E)(hb:w.heap[b]?=some (.cells #[.func (.func k) #[] caps] 87))(hc:w.heap[c]?=some (.cells #[(0:Int),(0:Int),(0:Int),(0:Int),(0:Int),(0:Int),(0:Int),(0:Int),(0:Int),false] 33))(hcR:c∈R)(hct:c≠t)(hc0:w0.heap.size<=c)
  (hk:∀ w,(callFunc k caps).run Tryz.prog w=.ok (.enter k caps) w)(HC:Calls Tryz.prog k caps w fun e' w'=>e'=.returned (.tuple #[.agg #[c0,c1,c2,c3,c4,c5,c6,c7,c8,c9],e])/\TxS w0 R w' t d s n E'/\KeptT R t w w') :
  () 85 #[b,c] w fun e' w'=>e'=.returned e/\TxS w0 R w' t d s n E'/\w'.heap[c]?=some (.cells #[c0,c1,c2,c3,c4,c5,c6,c7,c8,c9] 33)/\∀ k∈R,k≠t->k≠c->w'.heap[k]?=w.heap[k]?:=by
 have cb:=(aE hb).1;have H:=Hd HC;have HX:=Hd (And.intro hc (And.intro hcR (And.intro hct hc0)));clear h hb hc hcR hct hc0 HC;go_enter Tryz.func85,Tryz.ntmps85;go_wp2_with fail;refine H.mono ?_;rintro e' w1 ⟨rfl,h1,h2⟩;have hc1:=(h2 c HX.2.1 HX.2.2.1).trans HX.1;obtain⟨⟨d0,d1,d2,d3,d4,d5,d6,d7,d8,d9⟩,g0,g1,g2,g3,g4,g5,g6,g7,g8,g9⟩:=bZ hc1;obtain⟨n1,n2⟩:=UZ hc1 (.int .i64 c0) (.int .i64 c1) (.int .i64 c2) (.int .i64 c3) (.int .i64 c4) (.int .i64 c5) (.int .i64 c6) (.int .i64 c7) (.int .i64 c8) (.bool c9)
 have FIN:Hid (TxS w0 R (stC w1 c (.int .i64 c0) (.int .i64 c1) (.int .i64 c2) (.int .i64 c3) (.int .i64 c4) (.int .i64 c5) (.int .i64 c6) (.int .i64 c7) (.int .i64 c8) (.bool c9)) t d s n E'/\(stC w1 c (.int .i64 c0) (.int .i64 c1) (.int .i64 c2) (.int .i64 c3) (.int .i64 c4) (.int .i64 c5) (.int .i64 c6) (.int .i64 c7) (.int .i64 c8) (.bool c9)).heap[c]?=some (.cells #[c0,c1,c2,c3,c4,c5,c6,c7,c8,c9] 33)/\∀ k∈R,k≠t->k≠c->(stC w1 c (.int .i64 c0) (.int .i64 c1) (.int .i64 c2) (.int .i64 c3) (.int .i64 c4) (.int .i64 c5) (.int .i64 c6) (.int .i64 c7) (.int .i64 c8) (.bool c9)).heap[k]?=w.heap[k]?):=Hd
  ⟨h1.turn HX.2.1 HX.2.2.1 HX.2.2.2 n2,n1,fun k hk hn hnc=>(n2.block k (h1.lt.1 k hk) hnc).trans (h2 k hk hn)⟩
 unfold stC at FIN;clear h1 h2 hc1 cb n1 n2;go_wp2_with fail;go_ret;exact⟨rfl,FIN.o⟩
theorem SX {w0 w:World}{R:List Nat}{t d s n:Nat}{E E':List Ent}{k:Nat}{caps:Array Value}{e:Int}{c0:Int}{c1:Int}{c2:Int}{c3:Int}{c4:Int}{c5:Int}{c6:Int}{c7:Int}{c8:Int}{c9:Bool}{y0:Int}{y1:Int}{y2:Int}{y3:Int}{y4:Int}{y5:Int}{y6:Int}{y7:Int}{y8:Int}{y9:Bool}(h:TxS w0 R w t d s n E)(he:(e=0/\y0=c0/\y1=c1/\y2=c2/\y3=c3/\y4=c4/\y5=c5/\y6=c6/\y7=c7/\y8=c8/\y9=c9)\/(e≠0/\y0=0/\y1=0/\y2=0/\y3=0/\y4=0/\y5=0/\y6=0/\y7=0/\y8=0/\y9=false))
  (hk:∀ w,(callFunc k caps).run Tryz.prog w=.ok (.enter k caps) w)(HC:∀ R' wa,(∀ k∈R,k∈R')->TxS w0 R' wa t d s n E->KeptT R t w wa->Calls Tryz.prog k caps wa fun e' w'=>e'=.returned (.tuple #[.agg #[c0,.int .i64 c1,.int .i64 c2,.int .i64 c3,.int .i64 c4,.int .i64 c5,.int .i64 c6,.int .i64 c7,c8,c9],.int .i64 e])/\TxS w0 R' w' t d s n E'/\KeptT R' t wa w') :
  () 48 #[t,.func (.func k) #[] caps] w fun e' w'=>e'=.returned (.tuple #[.agg #[y0,y1,y2,y3,y4,y5,y6,y7,y8,y9],.int .i64 e])/\TxS w0 R w' t d s n E'/\KeptT R t w w':=by
 obtain⟨a1,a2,a3,a4,a5,a6,a7⟩:=h.box (.cells #[.func (.func k) #[] caps] 87);obtain⟨x1,hx1⟩:∃ x1,w.alloc (.cells #[.func (.func k) #[] caps] 87)=x1:=⟨_,rfl⟩
 rw[hx1] at a1 a2 a3 a5;obtain⟨b1,b2,b3,b4,b5,b6,b7⟩:=a1.box (.cells #[(0:Int),(0:Int),(0:Int),(0:Int),(0:Int),(0:Int),(0:Int),(0:Int),(0:Int),false] 33);obtain⟨x2,hx2⟩:∃ x2,x1.alloc (.cells #[(0:Int),(0:Int),(0:Int),(0:Int),(0:Int),(0:Int),(0:Int),(0:Int),(0:Int),false] 33)=x2:=⟨_,rfl⟩
 rw[hx2] at b1 b2 b3 b5;rw[a5] at b1 b3 b4 b5 b6 b7;obtain⟨c1,c2,c3,c4,c5,c6,c7⟩:=b1.box (.cells #[(0:Int),(0:Int),(0:Int),(0:Int),(0:Int),(0:Int),(0:Int),(0:Int),(0:Int),false] 33);obtain⟨x3,hx3⟩:∃ x3,x2.alloc (.cells #[(0:Int),(0:Int),(0:Int),(0:Int),(0:Int),(0:Int),(0:Int),(0:Int),(0:Int),false] 33)=x3:=⟨_,rfl⟩
 rw[hx3] at c1 c2 c3 c5;rw[b5] at c1 c3 c4 c5 c6 c7;obtain⟨d1,d2,d3,d4,d5,d6,d7⟩:=c1.box (.cells #[(0:Int),(0:Int),(0:Int),(0:Int),(0:Int),(0:Int),(0:Int),(0:Int),(0:Int),false] 33);obtain⟨x4,hx4⟩:∃ x4,x3.alloc (.cells #[(0:Int),(0:Int),(0:Int),(0:Int),(0:Int),(0:Int),(0:Int),(0:Int),(0:Int),false] 33)=x4:=⟨_,rfl⟩
 rw[hx4] at d1 d2 d3 d5;rw[c5] at d1 d3 d4 d5 d6 d7;have hf:=(d2 w.heap.size (by simp) a4).trans ((c2 w.heap.size (by simp) a4).trans ((b2 w.heap.size (by simp) a4).trans a3));have hr:=(d2 (w.heap.size+1) (by simp) b4).trans ((c2 (w.heap.size+1) (by simp) b4).trans b3);have hz:=(d2 (w.heap.size+1+1) (by simp) c4).trans c3;have hkw:KeptT R t w x4:=a2.trans ((b2.sub (fun k hk=>by simp[hk])).trans ((c2.sub (fun k hk=>by simp[hk])).trans (d2.sub (fun k hk=>by simp[hk]))))
 have HK:=HC ((w.heap.size+1+1+1)::(w.heap.size+1+1)::(w.heap.size+1)::w.heap.size::R) x4 (fun k hk=>by simp[hk]) d1 hkw;have V1:=Hd (mU d1 (fun w=>by kernel_rfl) (ZB d1 hf d3 (by simp) d4 d6 hk HK));have KP:=Hd (And.intro hkw (And.intro hr (And.intro hz (And.intro b4 (And.intro c4 d7)))));have KQ:=Hd (And.intro a5 (And.intro b5 (And.intro c5 (And.intro a6 (And.intro a7 (And.intro b6 (And.intro b7 (And.intro c7 d4))))))));have HE:=Hd he;have X1:=Hd (And.intro hx1 (And.intro hx2 (And.intro hx3 hx4)))
 clear h he HC a1 a2 a3 a4 a5 a6 a7 b1 b2 b3 b4 b5 b6 b7 c1 c2 c3 c4 c5 c6 c7 d1 d2 d3 d4 d5 d6 d7 hf hr hz hkw HK hx1 hx2 hx3 hx4;go_enter Tryz.func48,Tryz.ntmps48;go_upto_region 2 with fail
 try simp only[World.heap_size_alloc]
 rw[X1.1,X1.2.1,X1.2.2.1,X1.2.2.2];go_wp2_with fail;refine V1.mono ?_;rintro e' w4 ⟨rfl,h1,h2,h3⟩;have r4:=(h3 (w.heap.size+1) (by simp) KP.2.2.2.1 (by omega)).trans KP.2.1;have zb4:=(h3 (w.heap.size+1+1) (by simp) KP.2.2.2.2.1 (by omega)).trans KP.2.2.1;obtain⟨⟨d0,d1,d2,d3,d4,d5,d6,d7,d8,d9⟩,g0,g1,g2,g3,g4,g5,g6,g7,g8,g9⟩:=bZ r4;obtain⟨⟨z0,z1,z2,z3,z4,z5,z6,z7,z8,z9⟩,_⟩:=bZ zb4;obtain⟨⟨v0,v1,v2,v3,v4,v5,v6,v7,v8,v9⟩,_⟩:=bZ h2
 obtain⟨n1,n2⟩:=UZ r4 (.int .i64 y0) (.int .i64 y1) (.int .i64 y2) (.int .i64 y3) (.int .i64 y4) (.int .i64 y5) (.int .i64 y6) (.int .i64 y7) (.int .i64 y8) (.bool y9)
 have FIN:Hid ((stC w4 (w.heap.size+1) (.int .i64 y0) (.int .i64 y1) (.int .i64 y2) (.int .i64 y3) (.int .i64 y4) (.int .i64 y5) (.int .i64 y6) (.int .i64 y7) (.int .i64 y8) (.bool y9)).heap[w.heap.size+1]?=some (.cells #[y0,y1,y2,y3,y4,y5,y6,y7,y8,y9] 33)/\TxS w0 R (stC w4 (w.heap.size+1) (.int .i64 y0) (.int .i64 y1) (.int .i64 y2) (.int .i64 y3) (.int .i64 y4) (.int .i64 y5) (.int .i64 y6) (.int .i64 y7) (.int .i64 y8) (.bool y9)) t d s n E'/\KeptT R t w (stC w4 (w.heap.size+1) (.int .i64 y0) (.int .i64 y1) (.int .i64 y2) (.int .i64 y3) (.int .i64 y4) (.int .i64 y5) (.int .i64 y6) (.int .i64 y7) (.int .i64 y8) (.bool y9))):=Hd (by
  have g1:=h1.turn (k:=w.heap.size+1) (by simp) KP.2.2.2.1 (by have:=KQ.2.2.2.1;omega) n2;refine⟨n1,g1.sub (fun k hk=>by simp[hk]),fun k hk hn=>?_⟩
  have hk1:k≠w.heap.size+1:=fun e=>by
   have:=KQ.2.2.2.2.2.2.1 k (by simp[hk]);exact this e
  refine(n2.block k (h1.lt.1 k (by simp[hk])) hk1).trans ((h3 k (by simp[hk]) hn (KP.2.2.2.2.2 k (by simp[hk]))).trans (KP.1 k hk hn)))
 clear h1 h2 h3 V1 r4 zb4 n1 n2 KP KQ;unfold stC at FIN
 rcases HE.o with⟨rfl,rfl,rfl,rfl,rfl,rfl,rfl,rfl,rfl,rfl,rfl⟩|⟨hne,rfl,rfl,rfl,rfl,rfl,rfl,rfl,rfl,rfl,rfl⟩
 ·go_wp2_with fail
  exact bodyPost_ret (v:=.tuple #[.agg #[y0,y1,y2,y3,y4,y5,y6,y7,y8,y9],(0:Int)]) (bO (fn:=Tryz.f48) rfl _ _ (w.heap.size+1) 33 _ (0,0) _ _ rfl rfl FIN.1 Tryz.underlying33 rfl kL) rfl ⟨rfl,FIN.2⟩
 ·have hn1:(e==0)=false:=by simpa using hne
  have hn2:(e != 0)=true:=by simp[hne]
  clear hne;go_wp2_with fail;exact bodyPost_ret (v:=.tuple #[.agg #[(0:Int),(0:Int),(0:Int),(0:Int),(0:Int),(0:Int),(0:Int),(0:Int),(0:Int),false],.int .i64 e]) (bO (fn:=Tryz.f48) rfl _ _ (w.heap.size+1) 33 _ (0,0) _ _ rfl rfl FIN.1 Tryz.underlying33 rfl kL) rfl ⟨rfl,FIN.2⟩
theorem WP {w0 w:World}{R:List Nat}{t d s n b c:Nat}{E E':List Ent}{k:Nat}{caps:Array Value}{e:Int}{c0:Int}{c1:ByteArray}{c2:Int}{c3:Int}(h:TxS w0 R w t d s n E)(hb:w.heap[b]?=some (.cells #[.func (.func k) #[] caps] 105))(hc:w.heap[c]?=some (.cells #[(0:Int),.string ⟨#[]⟩,(0:Int),(0:Int)] 49))(hcR:c∈R)(hct:c≠t)(hc0:w0.heap.size<=c)
  (hk:∀ w,(callFunc k caps).run Tryz.prog w=.ok (.enter k caps) w)(HC:Calls Tryz.prog k caps w fun e' w'=>e'=.returned (.tuple #[.agg #[c0,c1,c2,c3],e])/\TxS w0 R w' t d s n E'/\KeptT R t w w') :
  () 96 #[b,c] w fun e' w'=>e'=.returned e/\TxS w0 R w' t d s n E'/\w'.heap[c]?=some (.cells #[c0,c1,c2,c3] 49)/\∀ k∈R,k≠t->k≠c->w'.heap[k]?=w.heap[k]?:=by
 have cb:=(aE hb).1;have H:=Hd HC;have HX:=Hd (And.intro hc (And.intro hcR (And.intro hct hc0)));clear h hb hc hcR hct hc0 HC;go_enter Tryz.func96,Tryz.ntmps96;go_wp2_with fail;refine H.mono ?_;rintro e' w1 ⟨rfl,h1,h2⟩;have hc1:=(h2 c HX.2.1 HX.2.2.1).trans HX.1;obtain⟨⟨d0,d1,d2,d3⟩,g0,g1,g2,g3⟩:=eO hc1;obtain⟨n1,n2⟩:=OU hc1 (.int .i64 c0) (.string c1) (.int .i64 c2) (.int .i64 c3)
 have FIN:Hid (TxS w0 R (stW w1 c (.int .i64 c0) (.string c1) (.int .i64 c2) (.int .i64 c3)) t d s n E'/\(stW w1 c (.int .i64 c0) (.string c1) (.int .i64 c2) (.int .i64 c3)).heap[c]?=some (.cells #[c0,c1,c2,c3] 49)/\∀ k∈R,k≠t->k≠c->(stW w1 c (.int .i64 c0) (.string c1) (.int .i64 c2) (.int .i64 c3)).heap[k]?=w.heap[k]?):=Hd
  ⟨h1.turn HX.2.1 HX.2.2.1 HX.2.2.2 n2,n1,fun k hk hn hnc=>(n2.block k (h1.lt.1 k hk) hnc).trans (h2 k hk hn)⟩
 unfold stW at FIN;clear h1 h2 hc1 cb n1 n2;go_wp2_with fail;go_ret;exact⟨rfl,FIN.o⟩
theorem QO {w0 w:World}{R:List Nat}{t d s n:Nat}{E E':List Ent}{k:Nat}{caps:Array Value}{e:Int}{c0:Int}{c1:ByteArray}{c2:Int}{c3:Int}{y0:Int}{y1:ByteArray}{y2:Int}{y3:Int}(h:TxS w0 R w t d s n E)(he:(e=0/\y0=c0/\y1=c1/\y2=c2/\y3=c3)\/(e≠0/\y0=0/\y1=⟨#[]⟩/\y2=0/\y3=0))
  (hk:∀ w,(callFunc k caps).run Tryz.prog w=.ok (.enter k caps) w)(HC:∀ R' wa,(∀ k∈R,k∈R')->TxS w0 R' wa t d s n E->KeptT R t w wa->Calls Tryz.prog k caps wa fun e' w'=>e'=.returned (.tuple #[.agg #[c0,c1,.int .i64 c2,.int .i64 c3],.int .i64 e])/\TxS w0 R' w' t d s n E'/\KeptT R' t wa w') :
  () 60 #[t,.func (.func k) #[] caps] w fun e' w'=>e'=.returned (.tuple #[.agg #[y0,y1,y2,y3],.int .i64 e])/\TxS w0 R w' t d s n E'/\KeptT R t w w':=by
 obtain⟨a1,a2,a3,a4,a5,a6,a7⟩:=h.box (.cells #[.func (.func k) #[] caps] 105);obtain⟨x1,hx1⟩:∃ x1,w.alloc (.cells #[.func (.func k) #[] caps] 105)=x1:=⟨_,rfl⟩
 rw[hx1] at a1 a2 a3 a5;obtain⟨b1,b2,b3,b4,b5,b6,b7⟩:=a1.box (.cells #[(0:Int),.string ⟨#[]⟩,(0:Int),(0:Int)] 49);obtain⟨x2,hx2⟩:∃ x2,x1.alloc (.cells #[(0:Int),.string ⟨#[]⟩,(0:Int),(0:Int)] 49)=x2:=⟨_,rfl⟩
 rw[hx2] at b1 b2 b3 b5;rw[a5] at b1 b3 b4 b5 b6 b7;obtain⟨c1,c2,c3,c4,c5,c6,c7⟩:=b1.box (.cells #[(0:Int),.string ⟨#[]⟩,(0:Int),(0:Int)] 49);obtain⟨x3,hx3⟩:∃ x3,x2.alloc (.cells #[(0:Int),.string ⟨#[]⟩,(0:Int),(0:Int)] 49)=x3:=⟨_,rfl⟩
 rw[hx3] at c1 c2 c3 c5;rw[b5] at c1 c3 c4 c5 c6 c7;obtain⟨d1,d2,d3,d4,d5,d6,d7⟩:=c1.box (.cells #[(0:Int),.string ⟨#[]⟩,(0:Int),(0:Int)] 49);obtain⟨x4,hx4⟩:∃ x4,x3.alloc (.cells #[(0:Int),.string ⟨#[]⟩,(0:Int),(0:Int)] 49)=x4:=⟨_,rfl⟩
 rw[hx4] at d1 d2 d3 d5;rw[c5] at d1 d3 d4 d5 d6 d7;have hf:=(d2 w.heap.size (by simp) a4).trans ((c2 w.heap.size (by simp) a4).trans ((b2 w.heap.size (by simp) a4).trans a3));have hr:=(d2 (w.heap.size+1) (by simp) b4).trans ((c2 (w.heap.size+1) (by simp) b4).trans b3);have hz:=(d2 (w.heap.size+1+1) (by simp) c4).trans c3;have hkw:KeptT R t w x4:=a2.trans ((b2.sub (fun k hk=>by simp[hk])).trans ((c2.sub (fun k hk=>by simp[hk])).trans (d2.sub (fun k hk=>by simp[hk]))))
 have HK:=HC ((w.heap.size+1+1+1)::(w.heap.size+1+1)::(w.heap.size+1)::w.heap.size::R) x4 (fun k hk=>by simp[hk]) d1 hkw;have V1:=Hd (mU d1 (fun w=>by kernel_rfl) (WP d1 hf d3 (by simp) d4 d6 hk HK));have KP:=Hd (And.intro hkw (And.intro hr (And.intro hz (And.intro b4 (And.intro c4 d7)))));have KQ:=Hd (And.intro a5 (And.intro b5 (And.intro c5 (And.intro a6 (And.intro a7 (And.intro b6 (And.intro b7 (And.intro c7 d4))))))));have HE:=Hd he;have X1:=Hd (And.intro hx1 (And.intro hx2 (And.intro hx3 hx4)))
 clear h he HC a1 a2 a3 a4 a5 a6 a7 b1 b2 b3 b4 b5 b6 b7 c1 c2 c3 c4 c5 c6 c7 d1 d2 d3 d4 d5 d6 d7 hf hr hz hkw HK hx1 hx2 hx3 hx4;go_enter Tryz.func60,Tryz.ntmps60;go_upto_region 2 with fail
 try simp only[World.heap_size_alloc]
 rw[X1.1,X1.2.1,X1.2.2.1,X1.2.2.2];go_wp2_with fail;refine V1.mono ?_;rintro e' w4 ⟨rfl,h1,h2,h3⟩;have r4:=(h3 (w.heap.size+1) (by simp) KP.2.2.2.1 (by omega)).trans KP.2.1;have zb4:=(h3 (w.heap.size+1+1) (by simp) KP.2.2.2.2.1 (by omega)).trans KP.2.2.1;obtain⟨⟨d0,d1,d2,d3⟩,g0,g1,g2,g3⟩:=eO r4;obtain⟨⟨z0,z1,z2,z3⟩,_⟩:=eO zb4;obtain⟨⟨v0,v1,v2,v3⟩,_⟩:=eO h2;obtain⟨n1,n2⟩:=OU r4 (.int .i64 y0) (.string y1) (.int .i64 y2) (.int .i64 y3)
 have FIN:Hid ((stW w4 (w.heap.size+1) (.int .i64 y0) (.string y1) (.int .i64 y2) (.int .i64 y3)).heap[w.heap.size+1]?=some (.cells #[y0,y1,y2,y3] 49)/\TxS w0 R (stW w4 (w.heap.size+1) (.int .i64 y0) (.string y1) (.int .i64 y2) (.int .i64 y3)) t d s n E'/\KeptT R t w (stW w4 (w.heap.size+1) (.int .i64 y0) (.string y1) (.int .i64 y2) (.int .i64 y3))):=Hd (by
  have g1:=h1.turn (k:=w.heap.size+1) (by simp) KP.2.2.2.1 (by have:=KQ.2.2.2.1;omega) n2;refine⟨n1,g1.sub (fun k hk=>by simp[hk]),fun k hk hn=>?_⟩
  have hk1:k≠w.heap.size+1:=fun e=>by
   have:=KQ.2.2.2.2.2.2.1 k (by simp[hk]);exact this e
  refine(n2.block k (h1.lt.1 k (by simp[hk])) hk1).trans ((h3 k (by simp[hk]) hn (KP.2.2.2.2.2 k (by simp[hk]))).trans (KP.1 k hk hn)))
 clear h1 h2 h3 V1 r4 zb4 n1 n2 KP KQ;unfold stW at FIN
 rcases HE.o with⟨rfl,rfl,rfl,rfl,rfl⟩|⟨hne,rfl,rfl,rfl,rfl⟩
 ·go_wp2_with fail
  exact bodyPost_ret (v:=.tuple #[.agg #[y0,y1,y2,y3],(0:Int)]) (bO (fn:=Tryz.f60) rfl _ _ (w.heap.size+1) 49 _ (0,0) _ _ rfl rfl FIN.1 Tryz.underlying49 rfl fI) rfl ⟨rfl,FIN.2⟩
 ·have hn1:(e==0)=false:=by simpa using hne
  have hn2:(e != 0)=true:=by simp[hne]
  clear hne;go_wp2_with fail;exact bodyPost_ret (v:=.tuple #[.agg #[(0:Int),.string ⟨#[]⟩,(0:Int),(0:Int)],.int .i64 e]) (bO (fn:=Tryz.f60) rfl _ _ (w.heap.size+1) 49 _ (0,0) _ _ rfl rfl FIN.1 Tryz.underlying49 rfl fI) rfl ⟨rfl,FIN.2⟩
theorem VJ {w0 w:World}{R:List Nat}{t d s n b c k:Nat}{E E':List Ent}{caps:Array Value}{L:List Int}(h:TxS w0 R w t d s n E)(hb:w.heap[b]?=some (.cells #[.func (.func k) #[] caps] 92))(hc:w.heap[c]?=some (.cells #[.slice none 0 0] 36))(hcR:c∈R)(hct:c≠t)(hc0:w0.heap.size<=c)
  (hk:∀ w,(callFunc k caps).run Tryz.prog w=.ok (.enter k caps) w)(HC:Calls Tryz.prog k caps w fun e' w'=>∃ v,e'=.returned (.tuple #[v,(0:Int)])/\RowZ w' v L/\FreshB w0 R t v/\TxS w0 (v.ownBlock.toList++R) w' t d s n E'/\KeptT R t w w') :
  () 90 #[b,c] w fun e' w'=>e'=.returned (.int .i64 0)/\∃ v,RowZ w' v L/\FreshB w0 R t v/\TxS w0 (v.ownBlock.toList++R) w' t d s n E'/\w'.heap[c]?=some (.cells #[v] 36)/\∀ k∈R,k≠t->k≠c->w'.heap[k]?=w.heap[k]?:=by
 have cb:=(aE hb).1;have H:=Hd HC;have HX:=Hd (And.intro hc (And.intro hcR (And.intro hct hc0)));clear h hb hc hcR hct hc0 HC;go_enter Tryz.func90,Tryz.ntmps90;go_wp2_with fail;refine H.mono ?_;rintro e' w1 ⟨v,rfl,hr,hq,h1,h2⟩;have hc1:=(h2 c HX.2.1 HX.2.2.1).trans HX.1;obtain⟨c1,g1⟩:=aE hc1
 have FIN:Hid (∃ u,RowZ (w1.setCell ⟨c,0,none⟩ v) u L/\FreshB w0 R t u/\TxS w0 (u.ownBlock.toList++R) (w1.setCell ⟨c,0,none⟩ v) t d s n E'/\(w1.setCell ⟨c,0,none⟩ v).heap[c]?=some (.cells #[u] 36)/\∀ k∈R,k≠t->k≠c->(w1.setCell ⟨c,0,none⟩ v).heap[k]?=w.heap[k]?):=Hd (by
  have f:=fZ (w:=w1) (b:=c) (i:=0) v;refine⟨v,hr.kept fun q hv=>f.block q (World.ownsRow.lt hr q hv).2 (fun e=>(hq q hv).1 (e ▸ HX.2.1)),hq,h1.turn (k:=c) (by simp[HX.2.1]) HX.2.2.1 HX.2.2.2 f,?_,fun k hk hn hnc=>(f.block k (h1.lt.1 k (by simp[hk])) hnc).trans (h2 k hk hn)⟩;rw[hss _ _ 0 _ _ _ hc1];rfl)
 obtain⟨vs,hvs⟩:∃ vs,v=vs:=⟨_,rfl⟩
 obtain⟨a,cp,e1,_,_⟩:=hr.shape;clear h1 h2 hc1 cb hq hvs;subst e1;clear hr;go_wp2_with fail;go_ret;exact⟨rfl,FIN.o⟩
theorem PJ {w0 w:World}{R:List Nat}{t d s n k:Nat}{E E':List Ent}{caps:Array Value}{L:List Int}(h:TxS w0 R w t d s n E)
  (hk:∀ w,(callFunc k caps).run Tryz.prog w=.ok (.enter k caps) w)(HC:∀ R' wa,(∀ k∈R,k∈R')->TxS w0 R' wa t d s n E->KeptT R t w wa->Calls Tryz.prog k caps wa fun e' w'=>∃ v,e'=.returned (.tuple #[v,(0:Int)])/\RowZ w' v L/\FreshB w0 R' t v/\TxS w0 (v.ownBlock.toList++R') w' t d s n E'/\KeptT R' t wa w') :
  () 52 #[t,.func (.func k) #[] caps] w fun e' w'=>∃ v,e'=.returned (.tuple #[v,(0:Int)])/\RowZ w' v L/\FreshB w0 R t v/\TxS w0 (v.ownBlock.toList++R) w' t d s n E'/\KeptT R t w w':=by
 obtain⟨a1,a2,a3,a4,a5,a6,a7⟩:=h.box (.cells #[.func (.func k) #[] caps] 92);obtain⟨x1,hx1⟩:∃ x1,w.alloc (.cells #[.func (.func k) #[] caps] 92)=x1:=⟨_,rfl⟩
 rw[hx1] at a1 a2 a3 a5;obtain⟨b1,b2,b3,b4,b5,b6,b7⟩:=a1.box (.cells #[.slice none 0 0] 36);obtain⟨x2,hx2⟩:∃ x2,x1.alloc (.cells #[.slice none 0 0] 36)=x2:=⟨_,rfl⟩
 rw[hx2] at b1 b2 b3 b5;rw[a5] at b1 b3 b4 b5 b6 b7;have hbk:=(b2 w.heap.size (by simp) a4).trans a3;have HK:=HC ((w.heap.size+1)::w.heap.size::R) x2 (fun k hk=>by simp[hk]) b1 (a2.trans (b2.sub (fun k hk=>by simp[hk])))
 have V1:=Hd (mU (Q:=fun w'=>∃ v,RowZ w' v L/\FreshB w0 ((w.heap.size+1)::w.heap.size::R) t v/\TxS w0 (v.ownBlock.toList++((w.heap.size+1)::w.heap.size::R)) w' t d s n E'/\w'.heap[w.heap.size+1]?=some (.cells #[v] 36)/\∀ k∈((w.heap.size+1)::w.heap.size::R),k≠t->k≠w.heap.size+1->w'.heap[k]?=x2.heap[k]?) b1 (fun w=>by kernel_rfl) ((VJ b1 hbk b3 (by simp) b4 b6 hk HK).mono fun e' w' g=>by
  obtain⟨g0,v,g1,g2,g3,g4,g5⟩:=g;exact⟨g0,g3.sub fun k hk=>List.mem_append_right _ hk,v,g1,g2,g3,g4,g5⟩))
 have KP:=Hd (And.intro a2 (And.intro b2 (And.intro a7 b7)));have X1:=Hd hx1;have X2:=Hd hx2;clear h HC a1 a2 a3 a4 a6 a7 b1 b2 b3 b4 b5 b6 b7 hbk HK hx1 hx2;have A5:=Hd a5;clear a5;go_enter Tryz.func52,Tryz.ntmps52;go_upto_region 2 with fail
 try simp only[Nat.add_assoc,Nat.reduceAdd,World.heap_size_alloc]
 rw[X1.o,X2.o];go_wp2_with fail;refine V1.mono ?_;rintro e' w4 ⟨rfl,h1,v,hr,hq,h2,h3,h4⟩;have c2:=(aE h3).1
 have FIN:Hid (∃ u,.returned (.tuple #[v,(0:Int)])=Ending.returned (.tuple #[u,(0:Int)])/\RowZ w4 u L/\FreshB w0 R t u/\TxS w0 (u.ownBlock.toList++R) w4 t d s n E'/\KeptT R t w w4):=Hd ⟨v,rfl,hr,hq.sub fun k hk=>by simp[hk],h2.sub (fun k hk=>by
  rcases List.mem_append.1 hk with hk|hk
  ·exact List.mem_append_left _ hk
  ·exact List.mem_append_right _ (by simp[hk])),fun k hk hn=>(h4 k (by simp[hk]) hn (KP.2.2.2 k (by simp[hk]))).trans ((KP.2.1 k (by simp[hk]) hn).trans (KP.1 k hk hn))⟩
 obtain⟨a,cp,e1,_,_⟩:=hr.shape;clear h1 h2 h3 h4 V1 hq;subst e1;clear hr;go_wp2_with fail;go_ret2;exact FIN.o
theorem aDJ {w0 w:World}{R:List Nat}{t d s n k:Nat}{E E':List Ent}{caps:Array Value}{L:List Int}(h:TxS w0 R w t d s n E)(B:List Obj)(hk:∀ w,(callFunc k caps).run Tryz.prog w=.ok (.enter k caps) w)
  (HC:∀ R' wa,TxS w0 R' wa t d s n E->oC w0 R' t w.heap.size wa B->Calls Tryz.prog k caps wa fun e' w'=>∃ v,e'=.returned (.tuple #[v,(0:Int)])/\RowZ w' v L/\FreshB w0 R' t v/\TxS w0 (v.ownBlock.toList++R') w' t d s n E'/\KeptT R' t wa w') :
  () 52 #[t,.func (.func k) #[] caps] (cE w B) fun e' w'=>∃ v,e'=.returned (.tuple #[v,(0:Int)])/\RowZ w' v L/\FreshB w0 R t v/\TxS w0 (v.ownBlock.toList++R) w' t d s n E'/\KeptT R t w w':=by
 obtain⟨b1,b2,b3,b4⟩:=h.boxes B;refine(PJ b1 hk fun R' wa hs hT hK=>HC R' wa hT (h.boxesAt B hs hK)).mono ?_;rintro e' w' ⟨v,rfl,hr,hq,h1,h2⟩;refine⟨v,rfl,hr,hq.sub fun k hk=>List.mem_append_right _ hk,h1.sub fun k hk=>?_,b2.trans (h2.sub fun k hk=>List.mem_append_right _ hk)⟩
 rcases List.mem_append.1 hk with hk|hk
 ·exact List.mem_append_left _ hk
 ·exact List.mem_append_right _ (List.mem_append_right _ hk)
theorem aED {w0 w:World}{R:List Nat}{t d s n k:Nat}{E E':List Ent}{caps:Array Value}{e:Int}{c0:Int}{c1:Int}{c2:Int}{c3:Int}{c4:Int}{c5:Int}{c6:Int}{c7:Int}{c8:Int}{c9:Bool}{y0:Int}{y1:Int}{y2:Int}{y3:Int}{y4:Int}{y5:Int}{y6:Int}{y7:Int}{y8:Int}{y9:Bool}(h:TxS w0 R w t d s n E)(L:List Obj)(r:Nat)(hr:w.heap.size+L.length=r)(he:(e=0/\y0=c0/\y1=c1/\y2=c2/\y3=c3/\y4=c4/\y5=c5/\y6=c6/\y7=c7/\y8=c8/\y9=c9)\/(e≠0/\y0=0/\y1=0/\y2=0/\y3=0/\y4=0/\y5=0/\y6=0/\y7=0/\y8=0/\y9=false))(hk:∀ w,(callFunc k caps).run Tryz.prog w=.ok (.enter k caps) w)
  (HC:∀ R' wa,TxS w0 R' wa t d s n E->oC w0 R' t w.heap.size wa L->Calls Tryz.prog k caps wa fun e' w'=>e'=.returned (.tuple #[.agg #[c0,c1,c2,c3,c4,c5,c6,c7,c8,c9],e])/\TxS w0 R' w' t d s n E'/\KeptT R' t wa w') :
  () 48 #[t,.func (.func k) #[] caps] ((cE w L).alloc (.cells #[(0:Int),(0:Int),(0:Int),(0:Int),(0:Int),(0:Int),(0:Int),(0:Int),(0:Int),false] 33)) fun e' w'=>e'=.returned (.tuple #[.agg #[y0,y1,y2,y3,y4,y5,y6,y7,y8,y9],e])/\w'.heap[r]?=some (.cells #[(0:Int),(0:Int),(0:Int),(0:Int),(0:Int),(0:Int),(0:Int),(0:Int),(0:Int),false] 33)/\((stC w' r (.int .i64 y0) (.int .i64 y1) (.int .i64 y2) (.int .i64 y3) (.int .i64 y4) (.int .i64 y5) (.int .i64 y6) (.int .i64 y7) (.int .i64 y8) (.bool y9)).heap[r]?=some (.cells #[y0,y1,y2,y3,y4,y5,y6,y7,y8,y9] 33)/\TxS w0 R (stC w' r (.int .i64 y0) (.int .i64 y1) (.int .i64 y2) (.int .i64 y3) (.int .i64 y4) (.int .i64 y5) (.int .i64 y6) (.int .i64 y7) (.int .i64 y8) (.bool y9)) t d s n E'/\KeptT R t w (stC w' r (.int .i64 y0) (.int .i64 y1) (.int .i64 y2) (.int .i64 y3) (.int .i64 y4) (.int .i64 y5) (.int .i64 y6) (.int .i64 y7) (.int .i64 y8) (.bool y9))):=by
 obtain⟨b1,b2,b3,b4⟩:=h.boxes L;obtain⟨a1,a2,a3,a4,a5,a6,a7⟩:=b1.box (.cells #[(0:Int),(0:Int),(0:Int),(0:Int),(0:Int),(0:Int),(0:Int),(0:Int),(0:Int),false] 33);have e1:(cE w L).heap.size=r:=b3.trans hr;rw[e1] at a1 a3 a4 a5 a6 a7;refine(SX a1 he hk fun R' wa hs hT hK=>HC R' wa hT (h.boxesAt L (fun k hk=>hs k (List.mem_cons_of_mem _ hk)) (a2.trans (hK.sub fun k hk=>List.mem_cons_of_mem _ hk)))).mono ?_;rintro e' w' ⟨rfl,h1,h2⟩;have r4:=(h2 r (by simp) a4).trans a3
 obtain⟨n1,n2⟩:=UZ r4 (.int .i64 y0) (.int .i64 y1) (.int .i64 y2) (.int .i64 y3) (.int .i64 y4) (.int .i64 y5) (.int .i64 y6) (.int .i64 y7) (.int .i64 y8) (.bool y9);refine⟨rfl,r4,n1,(h1.turn (k:=r) (by simp) a4 a6 n2).sub (fun k hk=>by simp[hk]),fun k hk hn=>?_⟩;have hkk:k∈xS w.heap.size L++R:=List.mem_append_right _ hk;exact(n2.block k (h1.lt.1 k (by simp[hk])) (a7 k hkk)).trans ((h2 k (by simp[hk]) hn).trans ((a2 k hkk hn).trans (b2 k hk hn)))
theorem WU {w0 w:World}{R:List Nat}{t d s n k:Nat}{E E':List Ent}{caps:Array Value}{e:Int}{c0:Int}{c1:ByteArray}{c2:Int}{c3:Int}{y0:Int}{y1:ByteArray}{y2:Int}{y3:Int}(h:TxS w0 R w t d s n E)(L:List Obj)(r:Nat)(hr:w.heap.size+L.length=r)(he:(e=0/\y0=c0/\y1=c1/\y2=c2/\y3=c3)\/(e≠0/\y0=0/\y1=⟨#[]⟩/\y2=0/\y3=0))(hk:∀ w,(callFunc k caps).run Tryz.prog w=.ok (.enter k caps) w)
  (HC:∀ R' wa,TxS w0 R' wa t d s n E->oC w0 R' t w.heap.size wa L->Calls Tryz.prog k caps wa fun e' w'=>e'=.returned (.tuple #[.agg #[c0,c1,c2,c3],e])/\TxS w0 R' w' t d s n E'/\KeptT R' t wa w') :
  () 60 #[t,.func (.func k) #[] caps] ((cE w L).alloc (.cells #[(0:Int),.string ⟨#[]⟩,(0:Int),(0:Int)] 49)) fun e' w'=>e'=.returned (.tuple #[.agg #[y0,y1,y2,y3],e])/\w'.heap[r]?=some (.cells #[(0:Int),.string ⟨#[]⟩,(0:Int),(0:Int)] 49)/\((stW w' r (.int .i64 y0) (.string y1) (.int .i64 y2) (.int .i64 y3)).heap[r]?=some (.cells #[y0,y1,y2,y3] 49)/\TxS w0 R (stW w' r (.int .i64 y0) (.string y1) (.int .i64 y2) (.int .i64 y3)) t d s n E'/\KeptT R t w (stW w' r (.int .i64 y0) (.string y1) (.int .i64 y2) (.int .i64 y3))):=by
 obtain⟨b1,b2,b3,b4⟩:=h.boxes L;obtain⟨a1,a2,a3,a4,a5,a6,a7⟩:=b1.box (.cells #[(0:Int),.string ⟨#[]⟩,(0:Int),(0:Int)] 49);have e1:(cE w L).heap.size=r:=b3.trans hr;rw[e1] at a1 a3 a4 a5 a6 a7;refine(QO a1 he hk fun R' wa hs hT hK=>HC R' wa hT (h.boxesAt L (fun k hk=>hs k (List.mem_cons_of_mem _ hk)) (a2.trans (hK.sub fun k hk=>List.mem_cons_of_mem _ hk)))).mono ?_;rintro e' w' ⟨rfl,h1,h2⟩;have r4:=(h2 r (by simp) a4).trans a3;obtain⟨n1,n2⟩:=OU r4 (.int .i64 y0) (.string y1) (.int .i64 y2) (.int .i64 y3)
 refine⟨rfl,r4,n1,(h1.turn (k:=r) (by simp) a4 a6 n2).sub (fun k hk=>by simp[hk]),fun k hk hn=>?_⟩;have hkk:k∈xS w.heap.size L++R:=List.mem_append_right _ hk;exact(n2.block k (h1.lt.1 k (by simp[hk])) (a7 k hkk)).trans ((h2 k (by simp[hk]) hn).trans ((a2 k hkk hn).trans (b2 k hk hn)))
theorem aCK {w0 w:World}{R:List Nat}{t d s n:Nat}{E E':List Ent}{id:Int}{e:Int}{c0:Int}{c1:Int}{c2:Int}{c3:Int}{c4:Int}{c5:Int}{c6:Int}{c7:Int}{c8:Int}{c9:Bool}{y0:Int}{y1:Int}{y2:Int}{y3:Int}{y4:Int}{y5:Int}{y6:Int}{y7:Int}{y8:Int}{y9:Bool}(h:TxS w0 R w t d s n E)(he:(e=0/\y0=c0/\y1=c1/\y2=c2/\y3=c3/\y4=c4/\y5=c5/\y6=c6/\y7=c7/\y8=c8/\y9=c9)\/(e≠0/\y0=0/\y1=0/\y2=0/\y3=0/\y4=0/\y5=0/\y6=0/\y7=0/\y8=0/\y9=false))
  (HC:∀ (R':List Nat) (wa:World) (b0 b1:Nat),TxS w0 R' wa t d s n E->(wa.heap[b0]?=some (.cells #[t] 24))->(wa.heap[b1]?=some (.cells #[id] 3))->((b0∈R'/\b0≠t/\w0.heap.size<=b0)/\(b1∈R'/\b1≠t/\w0.heap.size<=b1))->() 49 #[b1,b0] wa fun e' w'=>e'=.returned (.tuple #[.agg #[c0,c1,c2,c3,c4,c5,c6,c7,c8,c9],e])/\TxS w0 R' w' t d s n E'/\KeptT R' t wa w') :
  () 14 #[t,id] w fun e' w'=>e'=.returned (.tuple #[.agg #[y0,y1,y2,y3,y4,y5,y6,y7,y8,y9],e])/\TxS w0 R w' t d s n E'/\KeptT R t w w':=by
 have VC:=Hd (aED h (caps:=#[.pointer (some ⟨w.heap.size+1,0,none⟩),.pointer (some ⟨w.heap.size,0,none⟩)]) (E':=E') [.cells #[t] 24,.cells #[id] 3] (w.heap.size+1+1) rfl he (fun w=>by kernel_rfl) (fun R' wa hT hB=>HC R' wa _ _ hT (hB 0 _ rfl).1 (hB 1 _ rfl).1 ⟨(hB 0 _ rfl).2,(hB 1 _ rfl).2⟩));obtain⟨x,hx⟩:∃ x,cE w [.cells #[t] 24,.cells #[id] 3]=x:=⟨_,rfl⟩
 have bx:((cE w [.cells #[t] 24,.cells #[id] 3]).alloc (.cells #[(0:Int),(0:Int),(0:Int),(0:Int),(0:Int),(0:Int),(0:Int),(0:Int),(0:Int),false] 33)).cell? ⟨w.heap.size,0,none⟩=some (.pointer (some ⟨t,0,none⟩)):=(aE ((hao _ _ (zl ((h.boxes [.cells #[t] 24,.cells #[id] 3]).2.2.2 0 _ rfl))).trans ((h.boxes [.cells #[t] 24,.cells #[id] 3]).2.2.2 0 _ rfl))).1;rw[hx] at VC bx
 have X1:Hid (((w.alloc (.cells #[t] 24)).alloc (.cells #[id] 3))=x):=Hd hx;clear h he HC hx;go_enter Tryz.func14,Tryz.ntmps14;go_upto_region 1 with fail
 try simp only[World.heap_size_alloc]
 rw[X1.o];go_wp2_with fail;refine VC.mono ?_;rintro e' w2 ⟨rfl,r4,h1⟩;obtain⟨⟨q0,q1,q2,q3,q4,q5,q6,q7,q8,q9⟩,u0,u1,u2,u3,u4,u5,u6,u7,u8,u9⟩:=bZ r4;have FIN:=Hd h1;unfold stC at FIN;clear h1 VC bx r4;go_wp2_with fail;exact bodyPost_ret (v:=.tuple #[.agg #[y0,y1,y2,y3,y4,y5,y6,y7,y8,y9],e]) (bO (fn:=Tryz.f14) rfl _ _ (w.heap.size+1+1) 33 _ (0,0) _ _ rfl rfl FIN.1 Tryz.underlying33 rfl kL) rfl ⟨rfl,FIN.2⟩
theorem aCE {w0 w:World}{R:List Nat}{t d s n:Nat}{E E':List Ent}{id:Int}{e:Int}{c0:Int}{c1:ByteArray}{c2:Int}{c3:Int}{y0:Int}{y1:ByteArray}{y2:Int}{y3:Int}(h:TxS w0 R w t d s n E)(he:(e=0/\y0=c0/\y1=c1/\y2=c2/\y3=c3)\/(e≠0/\y0=0/\y1=⟨#[]⟩/\y2=0/\y3=0))
  (HC:∀ (R':List Nat) (wa:World) (b0 b1:Nat),TxS w0 R' wa t d s n E->(wa.heap[b0]?=some (.cells #[t] 24))->(wa.heap[b1]?=some (.cells #[id] 3))->((b0∈R'/\b0≠t/\w0.heap.size<=b0)/\(b1∈R'/\b1≠t/\w0.heap.size<=b1))->() 61 #[b1,b0] wa fun e' w'=>e'=.returned (.tuple #[.agg #[c0,c1,c2,c3],e])/\TxS w0 R' w' t d s n E'/\KeptT R' t wa w') :
  () 20 #[t,id] w fun e' w'=>e'=.returned (.tuple #[.agg #[y0,y1,y2,y3],e])/\TxS w0 R w' t d s n E'/\KeptT R t w w':=by
 have VC:=Hd (WU h (caps:=#[.pointer (some ⟨w.heap.size+1,0,none⟩),.pointer (some ⟨w.heap.size,0,none⟩)]) (E':=E') [.cells #[t] 24,.cells #[id] 3] (w.heap.size+1+1) rfl he (fun w=>by kernel_rfl) (fun R' wa hT hB=>HC R' wa _ _ hT (hB 0 _ rfl).1 (hB 1 _ rfl).1 ⟨(hB 0 _ rfl).2,(hB 1 _ rfl).2⟩));obtain⟨x,hx⟩:∃ x,cE w [.cells #[t] 24,.cells #[id] 3]=x:=⟨_,rfl⟩
 have bx:((cE w [.cells #[t] 24,.cells #[id] 3]).alloc (.cells #[(0:Int),.string ⟨#[]⟩,(0:Int),(0:Int)] 49)).cell? ⟨w.heap.size,0,none⟩=some (.pointer (some ⟨t,0,none⟩)):=(aE ((hao _ _ (zl ((h.boxes [.cells #[t] 24,.cells #[id] 3]).2.2.2 0 _ rfl))).trans ((h.boxes [.cells #[t] 24,.cells #[id] 3]).2.2.2 0 _ rfl))).1;rw[hx] at VC bx
 have X1:Hid (((w.alloc (.cells #[t] 24)).alloc (.cells #[id] 3))=x):=Hd hx;clear h he HC hx;go_enter Tryz.func20,Tryz.ntmps20;go_upto_region 1 with fail
 try simp only[World.heap_size_alloc]
 rw[X1.o];go_wp2_with fail;refine VC.mono ?_;rintro e' w2 ⟨rfl,r4,h1⟩;obtain⟨⟨q0,q1,q2,q3⟩,u0,u1,u2,u3⟩:=eO r4;have FIN:=Hd h1;unfold stW at FIN;clear h1 VC bx r4;go_wp2_with fail;exact bodyPost_ret (v:=.tuple #[.agg #[y0,y1,y2,y3],e]) (bO (fn:=Tryz.f20) rfl _ _ (w.heap.size+1+1) 49 _ (0,0) _ _ rfl rfl FIN.1 Tryz.underlying49 rfl fI) rfl ⟨rfl,FIN.2⟩
theorem MP {w0 w:World}{R:List Nat}{t d s n:Nat}{E E':List Ent}{nm:ByteArray}{e:Int}{c0:Int}{c1:ByteArray}{c2:Int}{c3:Int}{y0:Int}{y1:ByteArray}{y2:Int}{y3:Int}(h:TxS w0 R w t d s n E)(he:(e=0/\y0=c0/\y1=c1/\y2=c2/\y3=c3)\/(e≠0/\y0=0/\y1=⟨#[]⟩/\y2=0/\y3=0))
  (HC:∀ (R':List Nat) (wa:World) (b0 b1:Nat),TxS w0 R' wa t d s n E->(wa.heap[b0]?=some (.cells #[t] 24))->(wa.heap[b1]?=some (.cells #[nm] 9))->((b0∈R'/\b0≠t/\w0.heap.size<=b0)/\(b1∈R'/\b1≠t/\w0.heap.size<=b1))->() 75 #[b1,b0] wa fun e' w'=>e'=.returned (.tuple #[.agg #[c0,c1,c2,c3],e])/\TxS w0 R' w' t d s n E'/\KeptT R' t wa w') :
  () 30 #[t,nm] w fun e' w'=>e'=.returned (.tuple #[.agg #[y0,y1,y2,y3],e])/\TxS w0 R w' t d s n E'/\KeptT R t w w':=by
 have VC:=Hd (WU h (caps:=#[.pointer (some ⟨w.heap.size+1,0,none⟩),.pointer (some ⟨w.heap.size,0,none⟩)]) (E':=E') [.cells #[t] 24,.cells #[nm] 9] (w.heap.size+1+1) rfl he (fun w=>by kernel_rfl) (fun R' wa hT hB=>HC R' wa _ _ hT (hB 0 _ rfl).1 (hB 1 _ rfl).1 ⟨(hB 0 _ rfl).2,(hB 1 _ rfl).2⟩));obtain⟨x,hx⟩:∃ x,cE w [.cells #[t] 24,.cells #[nm] 9]=x:=⟨_,rfl⟩
 have bx:((cE w [.cells #[t] 24,.cells #[nm] 9]).alloc (.cells #[(0:Int),.string ⟨#[]⟩,(0:Int),(0:Int)] 49)).cell? ⟨w.heap.size,0,none⟩=some (.pointer (some ⟨t,0,none⟩)):=(aE ((hao _ _ (zl ((h.boxes [.cells #[t] 24,.cells #[nm] 9]).2.2.2 0 _ rfl))).trans ((h.boxes [.cells #[t] 24,.cells #[nm] 9]).2.2.2 0 _ rfl))).1;rw[hx] at VC bx
 have X1:Hid (((w.alloc (.cells #[t] 24)).alloc (.cells #[nm] 9))=x):=Hd hx;clear h he HC hx;go_enter Tryz.func30,Tryz.ntmps30;go_upto_region 1 with fail
 try simp only[World.heap_size_alloc]
 rw[X1.o];go_wp2_with fail;refine VC.mono ?_;rintro e' w2 ⟨rfl,r4,h1⟩;obtain⟨⟨q0,q1,q2,q3⟩,u0,u1,u2,u3⟩:=eO r4;have FIN:=Hd h1;unfold stW at FIN;clear h1 VC bx r4;go_wp2_with fail;exact bodyPost_ret (v:=.tuple #[.agg #[y0,y1,y2,y3],e]) (bO (fn:=Tryz.f30) rfl _ _ (w.heap.size+1+1) 49 _ (0,0) _ _ rfl rfl FIN.1 Tryz.underlying49 rfl fI) rfl ⟨rfl,FIN.2⟩
theorem aCD {w0 w:World}{R:List Nat}{t d s n:Nat}{E E':List Ent}{nm:ByteArray}{li:Int}{x e y:Int}(h:TxS w0 R w t d s n E)(he:(e=0/\y=x)\/(e≠0/\y=0))
  (HC:∀ (R':List Nat) (wa:World) (b0 b1 b2:Nat),TxS w0 R' wa t d s n E->(wa.heap[b0]?=some (.cells #[t] 24))->(wa.heap[b1]?=some (.cells #[nm] 9))->(wa.heap[b2]?=some (.cells #[li] 3))->((b0∈R'/\b0≠t/\w0.heap.size<=b0)/\(b1∈R'/\b1≠t/\w0.heap.size<=b1)/\(b2∈R'/\b2≠t/\w0.heap.size<=b2))->() 28 #[b1,b2,b0] wa fun e' w'=>e'=.returned (.tuple #[.int .i64 x,e])/\TxS w0 R' w' t d s n E'/\KeptT R' t wa w') :
  () 10 #[t,nm,li] w fun e' w'=>e'=.returned (.tuple #[y,e])/\TxS w0 R w' t d s n E'/\KeptT R t w w':=by
 have VC:=Hd (xW h (caps:=#[.pointer (some ⟨w.heap.size+1,0,none⟩),.pointer (some ⟨w.heap.size+1+1,0,none⟩),.pointer (some ⟨w.heap.size,0,none⟩)]) (E':=E') [.cells #[t] 24,.cells #[nm] 9,.cells #[li] 3] he (fun w=>by kernel_rfl) (fun R' wa hT hB=>HC R' wa _ _ _ hT (hB 0 _ rfl).1 (hB 1 _ rfl).1 (hB 2 _ rfl).1 ⟨(hB 0 _ rfl).2,(hB 1 _ rfl).2,(hB 2 _ rfl).2⟩));obtain⟨x,hx⟩:∃ x,cE w [.cells #[t] 24,.cells #[nm] 9,.cells #[li] 3]=x:=⟨_,rfl⟩
 have bx:(cE w [.cells #[t] 24,.cells #[nm] 9,.cells #[li] 3]).cell? ⟨w.heap.size,0,none⟩=some (.pointer (some ⟨t,0,none⟩)):=(aE ((h.boxes [.cells #[t] 24,.cells #[nm] 9,.cells #[li] 3]).2.2.2 0 _ rfl)).1;rw[hx] at VC bx;have X1:Hid ((((w.alloc (.cells #[t] 24)).alloc (.cells #[nm] 9)).alloc (.cells #[li] 3))=x):=Hd hx;clear h he HC hx;go_enter Tryz.func10,Tryz.ntmps10;go_upto_region 1 with fail
 try simp only[World.heap_size_alloc]
 rw[X1.o];go_wp2_with fail;refine VC.mono ?_;rintro e' w2 ⟨rfl,h1⟩;have FIN:=Hd h1;clear h1 VC bx;go_wp2_with fail;go_ret2;exact⟨rfl,FIN.o⟩
theorem aCI {w0 w:World}{R:List Nat}{t d s n:Nat}{E E':List Ent}{ow ob ri ba ex:Int}{x e y:Int}(h:TxS w0 R w t d s n E)(he:(e=0/\y=x)\/(e≠0/\y=0))
  (HC:∀ (R':List Nat) (wa:World) (b0 b1 b2 b3 b4 b5:Nat),TxS w0 R' wa t d s n E->(wa.heap[b0]?=some (.cells #[t] 24))->(wa.heap[b1]?=some (.cells #[ow] 3))->(wa.heap[b2]?=some (.cells #[ob] 3))->(wa.heap[b3]?=some (.cells #[ri] 3))->(wa.heap[b4]?=some (.cells #[ba] 3))->(wa.heap[b5]?=some (.cells #[ex] 3))->((b0∈R'/\b0≠t/\w0.heap.size<=b0)/\(b1∈R'/\b1≠t/\w0.heap.size<=b1)/\(b2∈R'/\b2≠t/\w0.heap.size<=b2)/\(b3∈R'/\b3≠t/\w0.heap.size<=b3)/\(b4∈R'/\b4≠t/\w0.heap.size<=b4)/\(b5∈R'/\b5≠t/\w0.heap.size<=b5))->() 34 #[b2,b3,b4,b5,b0,b1] wa fun e' w'=>e'=.returned (.tuple #[.int .i64 x,e])/\TxS w0 R' w' t d s n E'/\KeptT R' t wa w') :
  () 11 #[t,ow,ob,ri,ba,ex] w fun e' w'=>e'=.returned (.tuple #[y,e])/\TxS w0 R w' t d s n E'/\KeptT R t w w':=by
 have VC:=Hd (xW h (caps:=#[.pointer (some ⟨w.heap.size+1+1,0,none⟩),.pointer (some ⟨w.heap.size+1+1+1,0,none⟩),.pointer (some ⟨w.heap.size+1+1+1+1,0,none⟩),.pointer (some ⟨w.heap.size+1+1+1+1+1,0,none⟩),.pointer (some ⟨w.heap.size,0,none⟩),.pointer (some ⟨w.heap.size+1,0,none⟩)]) (E':=E') [.cells #[t] 24,.cells #[ow] 3,.cells #[ob] 3,.cells #[ri] 3,.cells #[ba] 3,.cells #[ex] 3] he (fun w=>by kernel_rfl) (fun R' wa hT hB=>HC R' wa _ _ _ _ _ _ hT (hB 0 _ rfl).1 (hB 1 _ rfl).1 (hB 2 _ rfl).1 (hB 3 _ rfl).1 (hB 4 _ rfl).1 (hB 5 _ rfl).1 ⟨(hB 0 _ rfl).2,(hB 1 _ rfl).2,(hB 2 _ rfl).2,(hB 3 _ rfl).2,(hB 4 _ rfl).2,(hB 5 _ rfl).2⟩))
 obtain⟨x,hx⟩:∃ x,cE w [.cells #[t] 24,.cells #[ow] 3,.cells #[ob] 3,.cells #[ri] 3,.cells #[ba] 3,.cells #[ex] 3]=x:=⟨_,rfl⟩
 have bx:(cE w [.cells #[t] 24,.cells #[ow] 3,.cells #[ob] 3,.cells #[ri] 3,.cells #[ba] 3,.cells #[ex] 3]).cell? ⟨w.heap.size,0,none⟩=some (.pointer (some ⟨t,0,none⟩)):=(aE ((h.boxes [.cells #[t] 24,.cells #[ow] 3,.cells #[ob] 3,.cells #[ri] 3,.cells #[ba] 3,.cells #[ex] 3]).2.2.2 0 _ rfl)).1;rw[hx] at VC bx
 have X1:Hid (((((((w.alloc (.cells #[t] 24)).alloc (.cells #[ow] 3)).alloc (.cells #[ob] 3)).alloc (.cells #[ri] 3)).alloc (.cells #[ba] 3)).alloc (.cells #[ex] 3))=x):=Hd hx;clear h he HC hx;go_enter Tryz.func11,Tryz.ntmps11;go_upto_region 1 with fail
 try simp only[World.heap_size_alloc]
 rw[X1.o];go_wp2_with fail;refine VC.mono ?_;rintro e' w2 ⟨rfl,h1⟩;have FIN:=Hd h1;clear h1 VC bx;go_wp2_with fail;go_ret2;exact⟨rfl,FIN.o⟩
theorem MS {w0 w:World}{R:List Nat}{t d s n:Nat}{E E':List Ent}{pa ow ri ba ex now:Int}{x e y:Int}(h:TxS w0 R w t d s n E)(he:(e=0/\y=x)\/(e≠0/\y=0))
  (HC:∀ (R':List Nat) (wa:World) (b0 b1 b2 b3 b4 b5 b6:Nat),TxS w0 R' wa t d s n E->(wa.heap[b0]?=some (.cells #[t] 24))->(wa.heap[b1]?=some (.cells #[pa] 3))->(wa.heap[b2]?=some (.cells #[ow] 3))->(wa.heap[b3]?=some (.cells #[ri] 3))->(wa.heap[b4]?=some (.cells #[ba] 3))->(wa.heap[b5]?=some (.cells #[ex] 3))->(wa.heap[b6]?=some (.cells #[now] 3))->((b0∈R'/\b0≠t/\w0.heap.size<=b0)/\(b1∈R'/\b1≠t/\w0.heap.size<=b1)/\(b2∈R'/\b2≠t/\w0.heap.size<=b2)/\(b3∈R'/\b3≠t/\w0.heap.size<=b3)/\(b4∈R'/\b4≠t/\w0.heap.size<=b4)/\(b5∈R'/\b5≠t/\w0.heap.size<=b5)/\(b6∈R'/\b6≠t/\w0.heap.size<=b6))->() 38 #[b3,b4,b5,b0,b1,b6,b2] wa fun e' w'=>e'=.returned (.tuple #[.int .i64 x,e])/\TxS w0 R' w' t d s n E'/\KeptT R' t wa w') :
  () 12 #[t,pa,ow,ri,ba,ex,now] w fun e' w'=>e'=.returned (.tuple #[y,e])/\TxS w0 R w' t d s n E'/\KeptT R t w w':=by
 have VC:=Hd (xW h (caps:=#[.pointer (some ⟨w.heap.size+1+1+1,0,none⟩),.pointer (some ⟨w.heap.size+1+1+1+1,0,none⟩),.pointer (some ⟨w.heap.size+1+1+1+1+1,0,none⟩),.pointer (some ⟨w.heap.size,0,none⟩),.pointer (some ⟨w.heap.size+1,0,none⟩),.pointer (some ⟨w.heap.size+1+1+1+1+1+1,0,none⟩),.pointer (some ⟨w.heap.size+1+1,0,none⟩)]) (E':=E') [.cells #[t] 24,.cells #[pa] 3,.cells #[ow] 3,.cells #[ri] 3,.cells #[ba] 3,.cells #[ex] 3,.cells #[now] 3] he (fun w=>by kernel_rfl) (fun R' wa hT hB=>HC R' wa _ _ _ _ _ _ _ hT (hB 0 _ rfl).1 (hB 1 _ rfl).1 (hB 2 _ rfl).1 (hB 3 _ rfl).1 (hB 4 _ rfl).1 (hB 5 _ rfl).1 (hB 6 _ rfl).1 ⟨(hB 0 _ rfl).2,(hB 1 _ rfl).2,(hB 2 _ rfl).2,(hB 3 _ rfl).2,(hB 4 _ rfl).2,(hB 5 _ rfl).2,(hB 6 _ rfl).2⟩))
 obtain⟨x,hx⟩:∃ x,cE w [.cells #[t] 24,.cells #[pa] 3,.cells #[ow] 3,.cells #[ri] 3,.cells #[ba] 3,.cells #[ex] 3,.cells #[now] 3]=x:=⟨_,rfl⟩
 have bx:(cE w [.cells #[t] 24,.cells #[pa] 3,.cells #[ow] 3,.cells #[ri] 3,.cells #[ba] 3,.cells #[ex] 3,.cells #[now] 3]).cell? ⟨w.heap.size,0,none⟩=some (.pointer (some ⟨t,0,none⟩)):=(aE ((h.boxes [.cells #[t] 24,.cells #[pa] 3,.cells #[ow] 3,.cells #[ri] 3,.cells #[ba] 3,.cells #[ex] 3,.cells #[now] 3]).2.2.2 0 _ rfl)).1;rw[hx] at VC bx
 have X1:Hid ((((((((w.alloc (.cells #[t] 24)).alloc (.cells #[pa] 3)).alloc (.cells #[ow] 3)).alloc (.cells #[ri] 3)).alloc (.cells #[ba] 3)).alloc (.cells #[ex] 3)).alloc (.cells #[now] 3))=x):=Hd hx;clear h he HC hx;go_enter Tryz.func12,Tryz.ntmps12;go_upto_region 1 with fail
 try simp only[World.heap_size_alloc]
 rw[X1.o];go_wp2_with fail;refine VC.mono ?_;rintro e' w2 ⟨rfl,h1⟩;have FIN:=Hd h1;clear h1 VC bx;go_wp2_with fail;go_ret2;exact⟨rfl,FIN.o⟩
theorem aCC {w0 w:World}{R:List Nat}{t d s n:Nat}{E E':List Ent}{id now:Int}{e:Int}(h:TxS w0 R w t d s n E)
  (HC:∀ (R':List Nat) (wa:World) (b0 b1 b2:Nat),TxS w0 R' wa t d s n E->(wa.heap[b0]?=some (.cells #[t] 24))->(wa.heap[b1]?=some (.cells #[id] 3))->(wa.heap[b2]?=some (.cells #[now] 3))->((b0∈R'/\b0≠t/\w0.heap.size<=b0)/\(b1∈R'/\b1≠t/\w0.heap.size<=b1)/\(b2∈R'/\b2≠t/\w0.heap.size<=b2))->() 63 #[b0,b1,b2] wa fun e' w'=>e'=.returned e/\TxS w0 R' w' t d s n E'/\KeptT R' t wa w') :
  () 22 #[t,id,now] w fun e' w'=>e'=.returned e/\TxS w0 R w' t d s n E'/\KeptT R t w w':=by
 have VC:=Hd (MK h (caps:=#[.pointer (some ⟨w.heap.size,0,none⟩),.pointer (some ⟨w.heap.size+1,0,none⟩),.pointer (some ⟨w.heap.size+1+1,0,none⟩)]) (E':=E') [.cells #[t] 24,.cells #[id] 3,.cells #[now] 3] (fun w=>by kernel_rfl) (fun R' wa hT hB=>HC R' wa _ _ _ hT (hB 0 _ rfl).1 (hB 1 _ rfl).1 (hB 2 _ rfl).1 ⟨(hB 0 _ rfl).2,(hB 1 _ rfl).2,(hB 2 _ rfl).2⟩));obtain⟨x,hx⟩:∃ x,cE w [.cells #[t] 24,.cells #[id] 3,.cells #[now] 3]=x:=⟨_,rfl⟩
 have bx:(cE w [.cells #[t] 24,.cells #[id] 3,.cells #[now] 3]).cell? ⟨w.heap.size,0,none⟩=some (.pointer (some ⟨t,0,none⟩)):=(aE ((h.boxes [.cells #[t] 24,.cells #[id] 3,.cells #[now] 3]).2.2.2 0 _ rfl)).1;rw[hx] at VC bx;have X1:Hid ((((w.alloc (.cells #[t] 24)).alloc (.cells #[id] 3)).alloc (.cells #[now] 3))=x):=Hd hx;clear h HC hx;go_enter Tryz.func22,Tryz.ntmps22;go_upto_region 1 with fail
 try simp only[World.heap_size_alloc]
 rw[X1.o];go_wp2_with fail;refine VC.mono ?_;rintro e' w2 ⟨rfl,h1⟩;have FIN:=Hd h1;clear h1 VC bx;go_wp2_with fail;go_ret;exact⟨rfl,FIN.o⟩
theorem aCH {w0 w:World}{R:List Nat}{t d s n:Nat}{E E':List Ent}{id pa now:Int}{e:Int}(h:TxS w0 R w t d s n E)
  (HC:∀ (R':List Nat) (wa:World) (b0 b1 b2 b3:Nat),TxS w0 R' wa t d s n E->(wa.heap[b0]?=some (.cells #[t] 24))->(wa.heap[b1]?=some (.cells #[id] 3))->(wa.heap[b2]?=some (.cells #[pa] 3))->(wa.heap[b3]?=some (.cells #[now] 3))->((b0∈R'/\b0≠t/\w0.heap.size<=b0)/\(b1∈R'/\b1≠t/\w0.heap.size<=b1)/\(b2∈R'/\b2≠t/\w0.heap.size<=b2)/\(b3∈R'/\b3≠t/\w0.heap.size<=b3))->() 42 #[b0,b1,b3,b2] wa fun e' w'=>e'=.returned e/\TxS w0 R' w' t d s n E'/\KeptT R' t wa w') :
  () 13 #[t,id,pa,now] w fun e' w'=>e'=.returned e/\TxS w0 R w' t d s n E'/\KeptT R t w w':=by
 have VC:=Hd (MK h (caps:=#[.pointer (some ⟨w.heap.size,0,none⟩),.pointer (some ⟨w.heap.size+1,0,none⟩),.pointer (some ⟨w.heap.size+1+1+1,0,none⟩),.pointer (some ⟨w.heap.size+1+1,0,none⟩)]) (E':=E') [.cells #[t] 24,.cells #[id] 3,.cells #[pa] 3,.cells #[now] 3] (fun w=>by kernel_rfl) (fun R' wa hT hB=>HC R' wa _ _ _ _ hT (hB 0 _ rfl).1 (hB 1 _ rfl).1 (hB 2 _ rfl).1 (hB 3 _ rfl).1 ⟨(hB 0 _ rfl).2,(hB 1 _ rfl).2,(hB 2 _ rfl).2,(hB 3 _ rfl).2⟩))
 obtain⟨x,hx⟩:∃ x,cE w [.cells #[t] 24,.cells #[id] 3,.cells #[pa] 3,.cells #[now] 3]=x:=⟨_,rfl⟩
 have bx:(cE w [.cells #[t] 24,.cells #[id] 3,.cells #[pa] 3,.cells #[now] 3]).cell? ⟨w.heap.size,0,none⟩=some (.pointer (some ⟨t,0,none⟩)):=(aE ((h.boxes [.cells #[t] 24,.cells #[id] 3,.cells #[pa] 3,.cells #[now] 3]).2.2.2 0 _ rfl)).1;rw[hx] at VC bx;have X1:Hid (((((w.alloc (.cells #[t] 24)).alloc (.cells #[id] 3)).alloc (.cells #[pa] 3)).alloc (.cells #[now] 3))=x):=Hd hx;clear h HC hx
 go_enter Tryz.func13,Tryz.ntmps13;go_upto_region 1 with fail
 try simp only[World.heap_size_alloc]
 rw[X1.o];go_wp2_with fail;refine VC.mono ?_;rintro e' w2 ⟨rfl,h1⟩;have FIN:=Hd h1;clear h1 VC bx;go_wp2_with fail;go_ret;exact⟨rfl,FIN.o⟩
theorem aCJ {w0 w:World}{R:List Nat}{t d s n:Nat}{E E':List Ent}{id fr mo:Int}{L:List Int}(h:TxS w0 R w t d s n E)
  (HC:∀ (R':List Nat) (wa:World) (b0 b1 b2 b3:Nat),TxS w0 R' wa t d s n E->(wa.heap[b0]?=some (.cells #[t] 24))->(wa.heap[b1]?=some (.cells #[id] 3))->(wa.heap[b2]?=some (.cells #[fr] 3))->(wa.heap[b3]?=some (.cells #[mo] 3))->((b0∈R'/\b0≠t/\w0.heap.size<=b0)/\(b1∈R'/\b1≠t/\w0.heap.size<=b1)/\(b2∈R'/\b2≠t/\w0.heap.size<=b2)/\(b3∈R'/\b3≠t/\w0.heap.size<=b3))->() 53 #[b3,b1,b0,b2] wa fun e' w'=>∃ v,e'=.returned (.tuple #[v,(0:Int)])/\RowZ w' v L/\FreshB w0 R' t v/\TxS w0 (v.ownBlock.toList++R') w' t d s n E'/\KeptT R' t wa w') :
  () 15 #[t,id,fr,mo] w fun e' w'=>∃ v,e'=.returned (.tuple #[v,(0:Int)])/\RowZ w' v L/\FreshB w0 R t v/\TxS w0 (v.ownBlock.toList++R) w' t d s n E'/\KeptT R t w w':=by
 have VC:=Hd (aDJ (L:=L) h (caps:=#[.pointer (some ⟨w.heap.size+1+1+1,0,none⟩),.pointer (some ⟨w.heap.size+1,0,none⟩),.pointer (some ⟨w.heap.size,0,none⟩),.pointer (some ⟨w.heap.size+1+1,0,none⟩)]) (E':=E') [.cells #[t] 24,.cells #[id] 3,.cells #[fr] 3,.cells #[mo] 3] (fun w=>by kernel_rfl) (fun R' wa hT hB=>HC R' wa _ _ _ _ hT (hB 0 _ rfl).1 (hB 1 _ rfl).1 (hB 2 _ rfl).1 (hB 3 _ rfl).1 ⟨(hB 0 _ rfl).2,(hB 1 _ rfl).2,(hB 2 _ rfl).2,(hB 3 _ rfl).2⟩))
 obtain⟨x,hx⟩:∃ x,cE w [.cells #[t] 24,.cells #[id] 3,.cells #[fr] 3,.cells #[mo] 3]=x:=⟨_,rfl⟩
 have bx:(cE w [.cells #[t] 24,.cells #[id] 3,.cells #[fr] 3,.cells #[mo] 3]).cell? ⟨w.heap.size,0,none⟩=some (.pointer (some ⟨t,0,none⟩)):=(aE ((h.boxes [.cells #[t] 24,.cells #[id] 3,.cells #[fr] 3,.cells #[mo] 3]).2.2.2 0 _ rfl)).1;rw[hx] at VC bx;have X1:Hid (((((w.alloc (.cells #[t] 24)).alloc (.cells #[id] 3)).alloc (.cells #[fr] 3)).alloc (.cells #[mo] 3))=x):=Hd hx;clear h HC hx
 go_enter Tryz.func15,Tryz.ntmps15;go_upto_region 1 with fail
 try simp only[World.heap_size_alloc]
 rw[X1.o];go_wp2_with fail;refine VC.mono ?_;rintro e' w2 ⟨v,rfl,h1⟩;have FIN:Hid (∃ u,Ending.returned (.tuple #[v,(0:Int)])=.returned (.tuple #[u,(0:Int)])/\RowZ w2 u L/\FreshB w0 R t u/\TxS w0 (u.ownBlock.toList++R) w2 t d s n E'/\KeptT R t w w2):=Hd ⟨v,rfl,h1⟩;obtain⟨a,cp,e1,_,_⟩:=h1.1.shape;clear h1 VC bx;subst e1;go_wp2_with fail;go_ret2;exact FIN.o
theorem bT {k a b k' a' b':Int}(h:bM k a b=true)(h':bM k' a' b'=true)(v:ByteArray)(E:List Ent):cG (aC k a b) (bF (aC k' a' b') v E)=if k=k'/\a=a'/\b=b' then some v else cG (aC k a b) E:=by
 rw[YG]
 by_cases e:k=k'/\a=a'/\b=b'
 ·rw[if_pos ((qA h h').2 e),if_pos e]
 ·rw[if_neg (fun x=>e ((qA h h').1 x)),if_neg e]
theorem mQ {k a b k' a' b':Int}(h:bM k a b=true)(h':bM k' a' b'=true)(E:List Ent):cG (aC k a b) (iU (aC k' a' b') E)=if k=k'/\a=a'/\b=b' then none else cG (aC k a b) E:=by
 rw[YI]
 by_cases e:k=k'/\a=a'/\b=b'
 ·rw[if_pos ((qA h h').2 e),if_pos e]
 ·rw[if_neg (fun x=>e ((qA h h').1 x)),if_neg e]
def kE (cs:List (Option aF))(id:Int):Option aF:=(cs[(id-1).toNat]?).join
def lV (os:List bV)(b:Int):Option bV:=if 1<=b then os[(b-1).toNat]? else none
def oE (cs:List (Option aF))(a b:Int):Bool:=match kE cs b with
 | some c=>decide (1<=b/\c.pa=a/\a≠0)
 | none=>false
def iW (ls:List Int)(a b:Int):Bool:=decide (1<=b/\ls[(b-1).toNat]?=some a/\a≠0)
structure CpE (E:List Ent)(cs:List (Option aF))(os:List bV)(ls:List Int)(m:Nat):Prop where
 keys:jS E
 len:E.length<=m
 cl:cs.length<=90
 ol:os.length<=25
 ll:ls.length=cs.length
 n1:cG (aC 9 0 1) E=if cs.length=0 then none else some (Str (aS (cs.length:Int) 3))
 n2:cG (aC 9 0 2) E=if os.length=0 then none else some (Str (aS (os.length:Int) 3))
 cap:∀ id:Int,1<=id->id<=16777215->cG (aC 1 0 id) E=(kE cs id).map dN
 own:∀ b:Int,0<=b->b<=4294967295->cG (aC 3 0 b) E=(lV os b).map fB
 kid:∀ a b:Int,bM 2 a b=true->cG (aC 2 a b) E=if oE cs a b=true then some ⟨#[]⟩ else none
 lease:∀ a b:Int,bM 5 a b=true->cG (aC 5 a b) E=if iW ls a b=true then some ⟨#[]⟩ else none
 capOk:∀ (i:Nat) (c:aF),cs[i]?=some (some c)->fM ((i:Int)+1) c
 ownOk:∀ (i:Nat) (o:bV),os[i]?=some o->fF ((i:Int)+1) o
 lsx:∀ (i:Nat) (c:aF),cs[i]?=some (some c)->ls[i]?=some c.ex\/ls[i]?=some 0
theorem uL (cs:List (Option aF))(c:Option aF){id:Int}(h:1<=id):kE (cs++[c]) id=if id=(cs.length:Int)+1 then c else kE cs id:=by
 unfold kE
 by_cases e:id=(cs.length:Int)+1
 ·rw[if_pos e,show(id-1).toNat=cs.length by omega]
  simp
 ·rw[if_neg e]
  rcases Nat.lt_or_ge (id-1).toNat cs.length with hl|hl
  ·rw[List.getElem?_append_left hl]
  ·rw[List.getElem?_eq_none hl,List.getElem?_eq_none (by rw[List.length_append,List.length_singleton];omega)]
theorem wY (cs:List (Option aF))(c:Option aF){i:Nat}(hi:i<cs.length){id:Int}(h:1<=id):kE (cs.set i c) id=if id=(i:Int)+1 then c else kE cs id:=by
 unfold kE
 by_cases e:id=(i:Int)+1
 ·rw[if_pos e,show(id-1).toNat=i by omega]
  simp[hi]
 ·rw[if_neg e,List.getElem?_set_ne (by omega)]
theorem GX (os:List bV)(o:bV)(b:Int):lV (os++[o]) b=if b=(os.length:Int)+1 then some o else lV os b:=by
 unfold lV
 by_cases e:b=(os.length:Int)+1
 ·rw[if_pos e,if_pos (by omega),show(b-1).toNat=os.length by omega]
  simp
 ·rw[if_neg e]
  by_cases hb:1<=b
  ·rw[if_pos hb,if_pos hb]
   rcases Nat.lt_or_ge (b-1).toNat os.length with hl|hl
   ·rw[List.getElem?_append_left hl]
   ·rw[List.getElem?_eq_none hl,List.getElem?_eq_none (by rw[List.length_append,List.length_singleton];omega)]
  ·rw[if_neg hb,if_neg hb]
theorem QR (os:List bV)(o:bV){i:Nat}(hi:i<os.length)(b:Int):lV (os.set i o) b=if b=(i:Int)+1 then some o else lV os b:=by
 unfold lV
 by_cases e:b=(i:Int)+1
 ·rw[if_pos e,if_pos (by omega),show(b-1).toNat=i by omega]
  simp[hi]
 ·rw[if_neg e]
  by_cases hb:1<=b
  ·rw[if_pos hb,if_pos hb,List.getElem?_set_ne (by omega)]
  ·rw[if_neg hb,if_neg hb]
theorem RH (cs:List (Option aF))(c:aF){a b:Int}(hb:1<=b):oE (cs++[some c]) a b=if b=(cs.length:Int)+1 then decide (c.pa=a/\a≠0) else oE cs a b:=by
 unfold oE;rw[uL cs _ hb]
 by_cases e:b=(cs.length:Int)+1
 ·rw[if_pos e,if_pos e]
  simp[hb]
 ·rw[if_neg e,if_neg e]
theorem pZ (cs:List (Option aF)){a b:Int}(hb:b<1):oE cs a b=false:=by
 unfold oE
 split
 ·simp;omega
 ·rfl
theorem BS (ls:List Int)(x a b:Int):iW (ls++[x]) a b=if b=(ls.length:Int)+1 then decide (x=a/\a≠0) else iW ls a b:=by
 unfold iW
 by_cases e:b=(ls.length:Int)+1
 ·rw[if_pos e,show(b-1).toNat=ls.length by omega]
  simp;omega
 ·rw[if_neg e]
  by_cases hb:1<=b
  ·rcases Nat.lt_or_ge (b-1).toNat ls.length with hl|hl
   ·rw[List.getElem?_append_left hl]
   ·rw[List.getElem?_eq_none hl,List.getElem?_eq_none (by rw[List.length_append,List.length_singleton];omega)]
  ·simp[hb]
theorem II (ls:List Int)(x:Int){i:Nat}(hi:i<ls.length)(a b:Int):iW (ls.set i x) a b=if b=(i:Int)+1 then decide (x=a/\a≠0) else iW ls a b:=by
 unfold iW
 by_cases e:b=(i:Int)+1
 ·rw[if_pos e,show(b-1).toNat=i by omega]
  simp[hi];omega
 ·rw[if_neg e]
  by_cases hb:1<=b
  ·rw[List.getElem?_set_ne (by omega)]
  ·simp[hb]
theorem CpE.nil:CpE [] [] [] [] 0:=⟨IN,by simp,by simp,by simp,rfl,rfl,rfl,fun id h _=>by simp[kE,cG],fun b _ _=>by unfold lV;split <;> simp[cG],fun a b _=>by simp[oE,kE,cG],fun a b _=>by simp[iW,cG],fun i c h=>by simp at h,fun i o h=>by simp at h,fun i c h=>by simp at h⟩
theorem k9 (m:Int)(h0:0<=m)(h1:m<=4294967295):bM 9 0 m=true:=cW.2 ⟨by omega,by omega,by omega⟩
theorem k1 {m:Int}(h0:0<=m)(h1:m<=4294967295):bM 1 0 m=true:=cW.2 ⟨by omega,by omega,by omega⟩
theorem k3 {m:Int}(h0:0<=m)(h1:m<=4294967295):bM 3 0 m=true:=cW.2 ⟨by omega,by omega,by omega⟩
def PZ (E:List Ent)(id:Int)(o:bV):List Ent:=bF (aC 3 0 id) (fB o) (bF (aC 9 0 2) (Str (aS id 3)) E)
theorem CpE.reg {E:List Ent}{cs:List (Option aF)}{os:List bV}{ls:List Int}{m:Nat}(h:CpE E cs os ls m){o:bV}(hl:os.length<25)(ho:fF ((os.length:Int)+1) o):CpE (PZ E ((os.length:Int)+1) o) cs (os++[o]) ls (m+2):=by
 have hlen:=bQ (aC 3 0 ((os.length:Int)+1)) (fB o) (bF (aC 9 0 2) (Str (aS ((os.length:Int)+1) 3)) E);have q3:bM 3 0 ((os.length:Int)+1)=true:=k3 (by omega) (by omega);have q9:bM 9 0 2=true:=k9 2 (by decide) (by decide);have q91:bM 9 0 1=true:=k9 1 (by decide) (by decide);have hle:=bQ (aC 9 0 2) (Str (aS ((os.length:Int)+1) 3)) E;have hm:=h.len;unfold PZ
 refine⟨gO (gO h.keys _ (cT _ _ _)) _ (cT _ _ _),?_,h.cl,?_,h.ll,?_,?_,fun id h0 h1=>?_,fun b h0 h1=>?_,fun a b hk=>?_,fun a b hk=>?_,h.capOk,fun i x hx=>?_,h.lsx⟩
 ·omega
 ·rw[List.length_append,List.length_singleton];omega
 ·rw[bT q91 q3,if_neg (by omega),bT q91 q9,if_neg (by omega)];exact h.n1
 ·rw[bT q9 q3,if_neg (by omega),bT q9 q9,if_pos ⟨rfl,rfl,rfl⟩,if_neg (by simp),List.length_append,List.length_singleton];rfl
 ·rw[bT (k1 (by omega) (by omega)) q3,if_neg (by omega),bT (k1 (by omega) (by omega)) q9,if_neg (by omega)];exact h.cap id h0 h1
 ·rw[bT (k3 h0 h1) q3,bT (k3 h0 h1) q9,GX,if_neg (by omega:¬ ((3:Int)=9/\_))]
  by_cases e:b=(os.length:Int)+1
  ·rw[if_pos ⟨rfl,rfl,e⟩,if_pos e];rfl
  ·rw[if_neg (fun x=>e x.2.2),if_neg e];exact h.own b h0 h1
 ·rw[bT hk q3,if_neg (by omega),bT hk q9,if_neg (by omega)];exact h.kid a b hk
 ·rw[bT hk q3,if_neg (by omega),bT hk q9,if_neg (by omega)];exact h.lease a b hk
 ·rcases Nat.lt_or_ge i os.length with hi|hi
  ·rw[List.getElem?_append_left hi] at hx;exact h.ownOk i x hx
  ·have hi2:=(List.getElem?_eq_some_iff.1 hx).1
   rw[List.length_append,List.length_singleton] at hi2;have e:i=os.length:=by omega
   subst e;simp at hx;subst hx;exact ho
def oX (E:List Ent)(id:Int)(c:aF)(oi:Int)(o:bV):List Ent:=
 (fun E4=>if c.pa=0 then E4 else bF (aC 2 c.pa id) ⟨#[]⟩ E4) ((fun E3=>if c.ex=0 then E3 else bF (aC 5 c.ex id) ⟨#[]⟩ E3)
  (bF (aC 3 0 oi) (fB o) (bF (aC 1 0 id) (dN c) (bF (aC 9 0 1) (Str (aS id 3)) E))))
theorem rM (p:Prop)[Decidable p](k:Int)(v:ByteArray)(E:List Ent):(if p then E else bF k v E).length<=E.length+1:=by
 split
 ·omega
 ·exact bQ k v E
theorem CJ {p:Prop}[Decidable p]{k:Int}{v:ByteArray}{E:List Ent}(h:jS E)(hk:0<=k/\k<=18446744073709551615):jS (if p then E else bF k v E):=by
 split
 ·exact h
 ·exact gO h v hk
theorem LZ {p:Prop}[Decidable p]{k a b k' a' b':Int}(h:bM k a b=true)(h':¬ p->bM k' a' b'=true)(v:ByteArray)(E:List Ent):cG (aC k a b) (if p then E else bF (aC k' a' b') v E)=if ¬ p/\k=k'/\a=a'/\b=b' then some v else cG (aC k a b) E:=by
 by_cases hp:p
 ·rw[if_pos hp,if_neg (fun x=>x.1 hp)]
 ·rw[if_neg hp,bT h (h' hp)]
  by_cases e:k=k'/\a=a'/\b=b'
  ·rw[if_pos e,if_pos ⟨hp,e⟩]
  ·rw[if_neg e,if_neg (fun x=>e x.2)]
theorem lE {E:List Ent}{id oi:Int}{c:aF}{o:bV}(hc:fM id c)(ho:fF oi o){k a b:Int}(hk:bM k a b=true) :
  cG (aC k a b) (oX E id c oi o)=if ¬ c.pa=0/\k=2/\a=c.pa/\b=id then some ⟨#[]⟩ else if ¬ c.ex=0/\k=5/\a=c.ex/\b=id then some ⟨#[]⟩ else if k=3/\a=0/\b=oi then some (fB o) else if k=1/\a=0/\b=id then some (dN c) else if k=9/\a=0/\b=1 then some (Str (aS id 3)) else cG (aC k a b) E:=by
 have h1:=eZ.1 hc;have h2:=pS ho;have i1:=h1.id0;have i2:=h1.pa;have i3:=h1.ex;unfold oX;rw[LZ hk (fun _=>cW.2 ⟨by omega,by omega,by omega⟩),LZ hk (fun _=>cW.2 ⟨by omega,by omega,by omega⟩),bT hk (k3 (by omega) (by omega)),bT hk (k1 (by omega) (by omega)),bT hk (k9 1 (by omega) (by omega))]
theorem ZL (E:List Ent)(id oi:Int)(c:aF)(o:bV):(oX E id c oi o).length<=E.length+5:=by
 have h1:=bQ (aC 9 0 1) (Str (aS id 3)) E;have h2:=bQ (aC 1 0 id) (dN c) (bF (aC 9 0 1) (Str (aS id 3)) E);have h3:=bQ (aC 3 0 oi) (fB o) (bF (aC 1 0 id) (dN c) (bF (aC 9 0 1) (Str (aS id 3)) E));have h4:=rM (c.ex=0) (aC 5 c.ex id) ⟨#[]⟩ (bF (aC 3 0 oi) (fB o) (bF (aC 1 0 id) (dN c) (bF (aC 9 0 1) (Str (aS id 3)) E)))
 have h5:=rM (c.pa=0) (aC 2 c.pa id) ⟨#[]⟩ (if c.ex=0 then(bF (aC 3 0 oi) (fB o) (bF (aC 1 0 id) (dN c) (bF (aC 9 0 1) (Str (aS id 3)) E))) else bF (aC 5 c.ex id) ⟨#[]⟩ (bF (aC 3 0 oi) (fB o) (bF (aC 1 0 id) (dN c) (bF (aC 9 0 1) (Str (aS id 3)) E))));exact Nat.le_trans h5 (by omega)
theorem CpE.mint {E:List Ent}{cs:List (Option aF)}{os:List bV}{ls:List Int}{m:Nat}(h:CpE E cs os ls m){c:aF}{o:bV}{oi:Nat}(hl:cs.length<90)(hc:fM ((cs.length:Int)+1) c)(hi:oi<os.length)(ho:fF ((oi:Int)+1) o) :
  CpE (oX E ((cs.length:Int)+1) c ((oi:Int)+1) o) (cs++[some c]) (os.set oi o) (ls++[c.ex]) (m+5):=by
 have hlen:=ZL E ((cs.length:Int)+1) ((oi:Int)+1) c o;have hm:=h.len;have hol:=h.ol;have hll:=h.ll;refine⟨CJ (CJ (gO (gO (gO h.keys _ (cT _ _ _)) _ (cT _ _ _)) _ (cT _ _ _)) (cT _ _ _)) (cT _ _ _),by omega,?_,?_,?_,?_,?_,fun id h0 h1=>?_,fun b h0 h1=>?_,fun a b hk=>?_,fun a b hk=>?_,fun i x hx=>?_,fun i x hx=>?_,fun i x hx=>?_⟩
 ·rw[List.length_append,List.length_singleton];omega
 ·rw[List.length_set];omega
 ·rw[List.length_append,List.length_append,List.length_singleton,List.length_singleton,hll]
 ·rw[lE hc ho (k9 1 (by decide) (by decide)),if_neg (by omega),if_neg (by omega),if_neg (by omega),if_neg (by omega),if_pos ⟨rfl,rfl,rfl⟩,if_neg (by simp),List.length_append,List.length_singleton]
  rfl
 ·rw[lE hc ho (k9 2 (by decide) (by decide)),if_neg (by omega),if_neg (by omega),if_neg (by omega),if_neg (by omega),if_neg (by omega),List.length_set]
  exact h.n2
 ·rw[lE hc ho (k1 (by omega) (by omega)),if_neg (by omega),if_neg (by omega),if_neg (by omega),uL _ _ h0]
  by_cases e:id=(cs.length:Int)+1
  ·rw[if_pos ⟨rfl,rfl,e⟩,if_pos e];rfl
  ·rw[if_neg (fun x=>e x.2.2),if_neg (by omega),if_neg e];exact h.cap id h0 h1
 ·rw[lE hc ho (k3 h0 h1),if_neg (by omega),if_neg (by omega),QR _ _ hi]
  by_cases e:b=(oi:Int)+1
  ·rw[if_pos ⟨rfl,rfl,e⟩,if_pos e];rfl
  ·rw[if_neg (fun x=>e x.2.2),if_neg (by omega),if_neg (by omega),if_neg e];exact h.own b h0 h1
 ·rw[lE hc ho hk,if_neg (by omega:¬ (¬ c.ex=0/\(2:Int)=5/\_)),if_neg (by omega:¬ ((2:Int)=3/\_)),if_neg (by omega:¬ ((2:Int)=1/\_)),if_neg (by omega:¬ ((2:Int)=9/\_)),h.kid a b hk]
  rcases Int.lt_or_le b 1 with hb|hb
  ·rw[pZ _ hb,pZ _ hb,if_neg (by omega)]
  ·rw[RH cs c hb]
   by_cases e:b=(cs.length:Int)+1
   ·rw[if_pos e]
    have hn:oE cs a b=false:=by
     unfold oE kE;rw[List.getElem?_eq_none (by omega)]
     rfl
    rw[hn]
    by_cases e2:c.pa=a/\a≠0
    ·rw[if_pos ⟨by omega,rfl,by omega,e⟩,if_pos (decide_eq_true e2)]
    ·rw[if_neg (by omega),if_neg (by simp),if_neg (by simpa using e2)]
   ·rw[if_neg (fun x=>e x.2.2.2),if_neg e]
 ·rw[lE hc ho hk,if_neg (by omega:¬ (¬ c.pa=0/\(5:Int)=2/\_)),if_neg (by omega:¬ ((5:Int)=3/\_)),if_neg (by omega:¬ ((5:Int)=1/\_)),if_neg (by omega:¬ ((5:Int)=9/\_)),h.lease a b hk,BS,hll]
  by_cases e:b=(cs.length:Int)+1
  ·rw[if_pos e]
   have hn:iW ls a b=false:=by
    unfold iW;rw[List.getElem?_eq_none (by omega)];simp
   rw[hn]
   by_cases e2:c.ex=a/\a≠0
   ·rw[if_pos ⟨by omega,rfl,by omega,e⟩,if_pos (decide_eq_true e2)]
   ·rw[if_neg (by omega),if_neg (by simp),if_neg (by simpa using e2)]
  ·rw[if_neg (fun x=>e x.2.2.2),if_neg e]
 ·rcases Nat.lt_or_ge i cs.length with hi|hi
  ·rw[List.getElem?_append_left hi] at hx;exact h.capOk i x hx
  ·have hi2:=(List.getElem?_eq_some_iff.1 hx).1
   rw[List.length_append,List.length_singleton] at hi2;have e:i=cs.length:=by omega
   subst e;simp at hx;subst hx;exact hc
 ·by_cases e:oi=i
  ·subst e
   rw[List.getElem?_set_self hi] at hx;injection hx with hx;subst hx;exact ho
  ·rw[List.getElem?_set_ne e] at hx;exact h.ownOk i x hx
 ·rcases Nat.lt_or_ge i cs.length with hi|hi
  ·rw[List.getElem?_append_left hi] at hx
   rw[List.getElem?_append_left (by omega)];exact h.lsx i x hx
  ·have hi2:=(List.getElem?_eq_some_iff.1 hx).1
   rw[List.length_append,List.length_singleton] at hi2;have e:i=cs.length:=by omega
   subst e;simp at hx;subst hx;exact .inl (by rw[<-hll];simp)
theorem qB {w w':World}{g:Nat}{o:Obj}(h:w.heap[g]?=some o)(b:Below w.heap.size w w'):w'.heap[g]?=some o:=(b.block g (zl h)).trans h
theorem uK (n:Int)(v:Bool)(w:World)(hv:inB 1 16777215 n=v) :
  () 35 #[n] w fun e w'=>e=.returned (.bool v)/\w=w':=by
 have H:=Hd hv;clear hv
 by_cases h:1<=n
 all_goals
  go_enter Tryz.func35,Tryz.ntmps35
  go_wp2
  go_ret;refine⟨?_,rfl⟩;rw[<-H.o];exact aU (by rw[Bool.eq_iff_iff];simp[inB];omega)
theorem iQ (k a b q:Int)(w:World)(hq:aC k a b=q) :
  () 45 #[k,a,b] w fun e w'=>e=.returned (.int .u64 q)/\w=w':=by
 have HQ:=Hd hq;clear hq;go_enter Tryz.func45,Tryz.ntmps45;go_wp2_with fail;refine(sD _ _ _ _).mono ?_;rw[HQ.o];rintro e w1 ⟨rfl,rfl⟩;go_wp2_with fail;go_ret;exact⟨rfl,rfl⟩
theorem MO {w0 w:World}{R:List Nat}{t d s n:Nat}{E:List Ent}{m q v y:Int}(h:TxS w0 R w t d s n E)(hE:E.length<=600)(hq:aC 9 0 m=q/\bM 9 0 m=true)(hn:NumE E q v)(hv:v<16777215)(hy:v+1=y) :
  () 31 #[t,m] w fun e w'=>e=.returned (.tuple #[y,(0:Int)])/\TxS w0 R w' t d s n E/\KeptT R t w w':=by
 have NU:=Hd (aCG h hE hq hn);have e1:¬ v=16777215:=by omega
 have hr:=hn.range;have e2:IntKind.i64.wrap (v+1)=y:=by rw[hy];exact IntWalk.i64_in _ (by omega)
 clear h hE hq hn hv hy hr;go_enter Tryz.func31,Tryz.ntmps31;go_wp2_with fail;refine NU.mono ?_;rintro e w2 ⟨rfl,h1⟩;have FIN:=Hd h1;clear h1 NU;go_wp2_with fail;go_ret2;exact⟨rfl,FIN.o⟩
theorem DM {w0 w:World}{R:List Nat}{t d s:Nat}{E:List Ent}{m q v:Int}{X:ByteArray}(h:TxS w0 R w t d s 640 E)(hE:E.length<=300)(hq:aC 9 0 m=q)(hv:0<=v/\v<=16777215)(hX:Str (aS v 3)=X) :
  () 32 #[t,m,v] w fun e w'=>e=.returned (.tuple #[])/\TxS w0 R w' t d s 640 (bF q X E)/\KeptT R t w w':=by
 have hXs:=(BJ hv.1 hv.2).2.2.2;rw[hX] at hXs;have PT:=Hd (fun w=>by have:=nP v 3 w hv.1;rw[hX] at this;exact this);have KY:=Hd (fun w=>iQ 9 0 m q w hq);have e4:IntKind.u64.wrap v=v:=IntWalk.u64_in _ (by omega);have hqr:=cT 9 0 m;rw[hq] at hqr;have HX:=Hd (And.intro h (And.intro hE (And.intro hqr (show X.size<=40 by omega))));clear h hE hq hv hX hXs hqr;go_enter Tryz.func32,Tryz.ntmps32;go_wp2_with fail;refine(PT _).mono ?_;rintro e w2 ⟨rfl,b2⟩
 have PU:=Hd (tG (key:=q) (val:=X) (HX.1.below b2) HX.2.1 HX.2.2.1 HX.2.2.2);have K2:=Hd (HX.1.kept b2);clear b2;go_wp2_with fail;refine(KY _).mono ?_;rintro e w3 ⟨rfl,rfl⟩;go_wp2_with fail;refine PU.mono ?_;rintro e w3 ⟨rfl,h1,h2⟩;have FIN:=Hd (And.intro h1 (K2.trans h2));clear h1 h2 PU;go_wp2_with fail
 go_end0
 exact⟨rfl,FIN.o⟩
theorem DI {w0 w:World}{R:List Nat}{t d s:Nat}{E:List Ent}{id q:Int}{c:aF}{X:ByteArray}(h:TxS w0 R w t d s 640 E)(hE:E.length<=300)(hok:fM id c)(hX:dN c=X)(hq:aC 1 0 id=q) :
  () 46 #[t,.agg #[id,c.pa,c.ob,c.ow,c.ri,c.ba,c.de,c.ex,c.cu,c.rv]] w fun e w'=>e=.returned (.tuple #[])/\TxS w0 R w' t d s 640 (bF q X E)/\KeptT R t w w':=by
 obtain⟨a1,a2,a3,a4,a5,a6,a7⟩:=h.box (.cells #[id,c.pa,c.ob,c.ow,c.ri,c.ba,c.de,c.ex,c.cu,c.rv] 33);obtain⟨x1,hx1⟩:∃ x1,w.alloc (.cells #[id,c.pa,c.ob,c.ow,c.ri,c.ba,c.de,c.ex,c.cu,c.rv] 33)=x1:=⟨_,rfl⟩
 rw[hx1] at a1 a2 a3 a5;have PT:=Hd (fun w=>by have:=WG id c w hok;rw[hX] at this;exact this);have KY:=Hd (fun w=>iQ 1 0 id q w hq);have hqr:=cT 1 0 id;rw[hq] at hqr;have hXs:X.size<=40:=by rw[<-hX];have:=TJ hok;omega
 have HX:=Hd (And.intro hE (And.intro hXs hqr));have HA:=Hd (And.intro a1 (And.intro a2 (And.intro a3 a4)));obtain⟨⟨k0,k1,k2,k3,k4,k5,k6,k7,k8,k9⟩,_⟩:=bZ a3;clear h hE hok hX hXs hq hqr a1 a2 a3 a4 a5 a6 a7;go_enter Tryz.func46,Tryz.ntmps46;go_upto_region 1 with fail
 try rw[hx1]
 clear hx1;go_wp2_with fail;refine(PT _).mono ?_;rintro e w2 ⟨rfl,b2⟩;have m2:=qB HA.2.2.1 b2;have T2:=Hd (And.intro (HA.1.below b2) (HA.1.kept b2));obtain⟨⟨c0,c1,c2,c3,c4,c5,c6,c7,c8,c9⟩,_⟩:=bZ m2;clear k0 k1 k2 k3 k4 k5 k6 k7 k8 k9 m2 b2;go_wp2_with fail;refine(KY _).mono ?_;rintro e w3 ⟨rfl,rfl⟩;have PU:=Hd (tG T2.1 HX.1 HX.2.2 HX.2.1);clear c0 c1 c2 c3 c4 c5 c6 c7 c8 c9;go_wp2_with fail;refine PU.mono ?_;rintro e w3 ⟨rfl,h1,h2⟩
 have FIN:Hid (TxS w0 R w3 t d s 640 (bF q X E)/\KeptT R t w w3):=Hd ⟨h1.sub (fun k hk=>by simp[hk]),HA.2.1.trans ((T2.2.sub (fun k hk=>by simp[hk])).trans (h2.sub (fun k hk=>by simp[hk])))⟩;clear h1 h2 PU;go_wp2_with fail
 go_end0
 exact⟨rfl,FIN.o⟩
theorem DH {w0 w:World}{R:List Nat}{t d s:Nat}{E:List Ent}{id q:Int}{p:bV}{X:ByteArray}(h:TxS w0 R w t d s 640 E)(hE:E.length<=300)(hok:fF id p)(hX:fB p=X)(hq:aC 3 0 id=q) :
  () 33 #[t,.agg #[id,p.nm,p.li,p.ha]] w fun e w'=>e=.returned (.tuple #[])/\TxS w0 R w' t d s 640 (bF q X E)/\KeptT R t w w':=by
 obtain⟨a1,a2,a3,a4,a5,a6,a7⟩:=h.box (.cells #[id,p.nm,p.li,p.ha] 49);obtain⟨x1,hx1⟩:∃ x1,w.alloc (.cells #[id,p.nm,p.li,p.ha] 49)=x1:=⟨_,rfl⟩
 rw[hx1] at a1 a2 a3 a5;have PT:=Hd (fun w=>by have:=WC id p w hok;rw[hX] at this;exact this);have KY:=Hd (fun w=>iQ 3 0 id q w hq);have hqr:=cT 3 0 id;rw[hq] at hqr;have hXs:X.size<=40:=by rw[<-hX];have:=(qQ hok).1;omega
 have HX:=Hd (And.intro hE (And.intro hXs hqr));have HA:=Hd (And.intro a1 (And.intro a2 (And.intro a3 a4)));obtain⟨⟨k0,k1,k2,k3⟩,_⟩:=eO a3;clear h hE hok hX hXs hq hqr a1 a2 a3 a4 a5 a6 a7;go_enter Tryz.func33,Tryz.ntmps33;go_upto_region 1 with fail
 try rw[hx1]
 clear hx1;go_wp2_with fail;refine(PT _).mono ?_;rintro e w2 ⟨rfl,b2⟩;have m2:=qB HA.2.2.1 b2;have T2:=Hd (And.intro (HA.1.below b2) (HA.1.kept b2));obtain⟨⟨c0,c1,c2,c3⟩,_⟩:=eO m2;clear k0 k1 k2 k3 m2 b2;go_wp2_with fail;refine(KY _).mono ?_;rintro e w3 ⟨rfl,rfl⟩;have PU:=Hd (tG T2.1 HX.1 HX.2.2 HX.2.1);clear c0 c1 c2 c3;go_wp2_with fail;refine PU.mono ?_;rintro e w3 ⟨rfl,h1,h2⟩
 have FIN:Hid (TxS w0 R w3 t d s 640 (bF q X E)/\KeptT R t w w3):=Hd ⟨h1.sub (fun k hk=>by simp[hk]),HA.2.1.trans ((T2.2.sub (fun k hk=>by simp[hk])).trans (h2.sub (fun k hk=>by simp[hk])))⟩;clear h1 h2 PU;go_wp2_with fail
 go_end0
 exact⟨rfl,FIN.o⟩
theorem yP (ri ba ex:Int)(v:Bool)(w:World)(hv:(fH ri ri&&(inB 0 4294967295 ba&&inB 0 268435455 ex))=v) :
  () 36 #[ri,ba,ex] w fun e w'=>e=.returned (.bool v)/\w=w':=by
 obtain⟨b,hb⟩:∃ b,fH ri ri=b:=⟨_,rfl⟩
 have SU:=Hd (fun w=>xK ri ri b w hb);rw[hb] at hv;have H:=Hd hv;clear hv hb
 cases b <;> by_cases h0:0<=ba <;> by_cases h1:ba<=4294967295 <;> by_cases h2:0<=ex
 all_goals try (exfalso;omega)
 all_goals
  go_enter Tryz.func36,Tryz.ntmps36;go_wp2_with fail;refine(SU _).mono ?_;rintro e w1 ⟨rfl,rfl⟩;go_wp2_with fail;go_ret;refine⟨?_,rfl⟩;rw[<-H.o];exact aU (by rw[Bool.eq_iff_iff];first|(simp[inB];done)|(simp[inB];omega))
theorem yO {w0 w:World}{R:List Nat}{t d s n:Nat}{E:List Ent}{id ri v:Int}{c:aF}(h:TxS w0 R w t d s n E)(hv:(if fH ri c.ri=true then(if 8<=c.de then 9 else 0) else 7)=v) :
  () 40 #[.agg #[id,c.pa,c.ob,c.ow,c.ri,c.ba,c.de,c.ex,c.cu,c.rv],ri] w fun e w'=>e=.returned v/\TxS w0 R w' t d s n E/\KeptT R t w w':=by
 obtain⟨a1,a2,a3,a4,a5,a6,a7⟩:=h.box (.cells #[id,c.pa,c.ob,c.ow,c.ri,c.ba,c.de,c.ex,c.cu,c.rv] 33);obtain⟨x1,hx1⟩:∃ x1,w.alloc (.cells #[id,c.pa,c.ob,c.ow,c.ri,c.ba,c.de,c.ex,c.cu,c.rv] 33)=x1:=⟨_,rfl⟩
 rw[hx1] at a1 a2 a3 a5;obtain⟨b,hb⟩:∃ b,fH ri c.ri=b:=⟨_,rfl⟩
 have SU:=Hd (fun w=>xK ri c.ri b w hb);rw[hb] at hv;have FIN:=Hd (And.intro (a1.sub (R':=R) fun k hk=>by simp[hk]) a2);obtain⟨⟨k0,k1,k2,k3,k4,k5,k6,k7,k8,k9⟩,_⟩:=bZ a3;clear h hb a1 a2 a3 a4 a5 a6 a7;have HV:=Hd hv;clear hv
 cases b
 ·have HX2:=Hd (show(7:Int)=v by have:=HV.o;rw[if_neg (by decide)] at this;exact this)
  go_enter Tryz.func40,Tryz.ntmps40;go_upto_region 1 with fail
  try rw[hx1]
  clear hx1;go_wp2_with fail;refine(SU _).mono ?_;rintro e w1 ⟨rfl,rfl⟩;go_wp2_with fail;go_ret;exact⟨congrArg (fun z=>Ending.returned (.int .i64 z)) HX2.o,FIN.o⟩
 ·by_cases h8:8<=c.de
  ·have HX2:=Hd (show(9:Int)=v by have:=HV.o;rw[if_pos rfl,if_pos h8] at this;exact this)
   go_enter Tryz.func40,Tryz.ntmps40;go_upto_region 1 with fail
   try rw[hx1]
   clear hx1;go_wp2_with fail;refine(SU _).mono ?_;rintro e w1 ⟨rfl,rfl⟩;go_wp2_with fail;go_ret;exact⟨congrArg (fun z=>Ending.returned (.int .i64 z)) HX2.o,FIN.o⟩
  ·have HX2:=Hd (show(0:Int)=v by have:=HV.o;rw[if_pos rfl,if_neg h8] at this;exact this)
   go_enter Tryz.func40,Tryz.ntmps40;go_upto_region 1 with fail
   try rw[hx1]
   clear hx1;go_wp2_with fail;refine(SU _).mono ?_;rintro e w1 ⟨rfl,rfl⟩;go_wp2_with fail;go_ret;exact⟨congrArg (fun z=>Ending.returned (.int .i64 z)) HX2.o,FIN.o⟩
theorem JS {w0 w:World}{R:List Nat}{t d s bi bt n:Nat}{E:List Ent}{ii:Int}{q:Int}(h:TxS w0 R w t d s n E)(hc:w.heap[bi]?=some (.cells #[ii] 3))(hb:w.heap[bt]?=some (.cells #[t] 24))(hm:(bi∈R/\bi≠t/\w0.heap.size<=bi)/\(bt∈R/\bt≠t/\w0.heap.size<=bt))(hE:E.length<=600)(hi:1<=ii/\ii<=16777215)(hq:aC 1 0 ii=q){c:aF}(hg:cG q E=some (dN c))(hok:fM ii c) :
  () 49 #[bi,bt] w fun e w'=>e=.returned (.tuple #[.agg #[ii,c.pa,c.ob,c.ow,c.ri,c.ba,c.de,c.ex,c.cu,c.rv],(0:Int)])/\TxS w0 R w' t d s n E/\KeptT R t w w':=by
 obtain⟨a1,a2,a3,a4,a5,a6,a7⟩:=h.box (.cells #[(0:Int),(0:Int),(0:Int),(0:Int),(0:Int),(0:Int),(0:Int),(0:Int),(0:Int),false] 33);obtain⟨r3,hr3⟩:∃ r3,w.heap.size=r3:=⟨_,rfl⟩
 obtain⟨x1,hx1⟩:∃ x1,w.alloc (.cells #[(0:Int),(0:Int),(0:Int),(0:Int),(0:Int),(0:Int),(0:Int),(0:Int),(0:Int),false] 33)=x1:=⟨_,rfl⟩
 rw[hx1] at a1 a2 a3 a5;rw[hr3] at a1 a3 a4 a5 a6 a7;have X1:=Hd hx1;have HR4:=Hd (And.intro a6 a7);have A3:=Hd (And.intro a3 a4);have A2:=Hd (And.intro a2 a1);have d0:=(aE ((a2 bi hm.1.1 hm.1.2.1).trans hc)).1;have HX:=Hd hm;have HS0:=Hd (show(fun w':World=>w'.heap[bi]?=some (.cells #[ii] 3)/\w'.heap[bt]?=some (.cells #[t] 24)) x1.drew from⟨(a2 bi hm.1.1 hm.1.2.1).trans hc,(a2 bt hm.2.1 hm.2.2.1).trans hb⟩);have hqr:=cT 1 0 ii;rw[hq] at hqr;have HQ:=Hd hq
 have ID:=Hd (fun w=>uK ii true w (by unfold inB;simp;omega));obtain⟨X,hX⟩:∃ X,dN c=X:=⟨_,rfl⟩
 have TA:=Hd (fun w=>by have:=ON ii c w hok;rw[hX] at this;exact this);rw[hX] at hg;have GE:=Hd (MG (key:=q) (a1.below Br.drew) hE hqr X true (gQ hg).1 (gQ hg).2);clear hg hok hX;clear h hc hb hm hE hi hq hqr a1 a2 a3 a4 a5 a6 a7 hx1;go_enter Tryz.func49,Tryz.ntmps49;go_upto_region 1 with fail
 rw[X1.o];clear hr3;go_wp2_with fail;refine(ID _).mono ?_;rintro e w1 ⟨rfl,rfl⟩;go_upto_region 3 with fail
 clear d0;refine wp_region_held_drew (S:=fun w'=>w'.heap[bi]?=some (.cells #[ii] 3)/\w'.heap[bt]?=some (.cells #[t] 24)) (by kernel_rfl) HS0 (fun hS=>?_);refine Hv 0 11 ?vb0x1 hS ?hb0x1 ?_
 case hb0x1=>
  intro w9 s9;have k9:=(aE s9.2).1;clear s9;go_simp;try (with_reducible rfl)
 simp only[SL];refine Hv 1 12 ?vb1x2 hS ?hb1x2 ?_
 case hb1x2=>
  intro w9 s9;have k9:=(aE s9.1).1;clear s9;go_simp;try (with_reducible rfl)
 simp only[SL];refine Hs 2 (fun K HK=>?_);go_simp;go_wp2_with fail;refine(iQ 1 0 ii q _ HQ.o).mono ?_;rintro e w6 ⟨rfl,rfl⟩;refine HK _ _ ?_ ?_
 ·exact hS
 clear HK K;try simp only[Act.put,SL]
 refine Hs 3 (fun K HK=>?_);go_simp;go_wp2_with fail;refine GE.mono ?_;rintro e w7 ⟨rfl,h1,h2⟩;refine HK _ _ ?_ ?_
 ·exact⟨(h2 bi (by simp[HX.1.1]) HX.1.2.1).trans hS.1,(h2 bt (by simp[HX.2.1]) HX.2.2.1).trans hS.2⟩
 clear HK K;try simp only[Act.put,SL]
 have hS9:=(show(_/\_) from⟨(h2 bi (by simp[HX.1.1]) HX.1.2.1).trans hS.1,(h2 bt (by simp[HX.2.1]) HX.2.2.1).trans hS.2⟩)
 clear hS;have hS:=hS9;clear hS9;have F7:=Hd (And.intro h1 (show KeptT (r3::R) t x1 w7 from h2));clear h1 h2 GE;refine Hu 4 10 hS ?_;simp only[SL];refine Hu 5 15 hS ?_;simp only[SL];refine Hu 6 16 hS ?_;simp only[SL];refine Hu 7 4 hS ?_;simp only[SL];refine Hu 8 5 hS ?_;simp only[SL];refine wpAnyH_done (by kernel_rfl) ?_ _;have c7:=(aE hS.1).1;clear hS;have r7:=(F7.2 r3 (by simp) A3.2).trans A3.1;go_wp2_with fail;refine(TA _).mono ?_;rintro e w8 ⟨rfl,b8⟩;have r8:=qB r7 b8;have F8:=Hd (And.intro (F7.1.below b8) (F7.2.trans (F7.1.kept b8)))
 clear r7 b8 c7;obtain⟨⟨y0,y1,y2,y3,y4,y5,y6,y7,y8,y9⟩,u0,u1,u2,u3,u4,u5,u6,u7,u8,u9⟩:=bZ r8;obtain⟨n1,n2⟩:=UZ r8 (.int .i64 ii) (.int .i64 c.pa) (.int .i64 c.ob) (.int .i64 c.ow) (.int .i64 c.ri) (.int .i64 c.ba) (.int .i64 c.de) (.int .i64 c.ex) (.int .i64 c.cu) (.bool c.rv)
 have FIN:Hid ((stC w8 r3 (.int .i64 ii) (.int .i64 c.pa) (.int .i64 c.ob) (.int .i64 c.ow) (.int .i64 c.ri) (.int .i64 c.ba) (.int .i64 c.de) (.int .i64 c.ex) (.int .i64 c.cu) (.bool c.rv)).heap[r3]?=some (.cells #[ii,c.pa,c.ob,c.ow,c.ri,c.ba,c.de,c.ex,c.cu,c.rv] 33)/\TxS w0 R (stC w8 r3 (.int .i64 ii) (.int .i64 c.pa) (.int .i64 c.ob) (.int .i64 c.ow) (.int .i64 c.ri) (.int .i64 c.ba) (.int .i64 c.de) (.int .i64 c.ex) (.int .i64 c.cu) (.bool c.rv)) t d s n E/\KeptT R t w (stC w8 r3 (.int .i64 ii) (.int .i64 c.pa) (.int .i64 c.ob) (.int .i64 c.ow) (.int .i64 c.ri) (.int .i64 c.ba) (.int .i64 c.de) (.int .i64 c.ex) (.int .i64 c.cu) (.bool c.rv))):=Hd (by
  refine⟨n1,((F8.1).turn (k:=r3) (by simp) A3.2 HR4.1 n2).sub (fun k hk=>by simp[hk]),fun k hk hn=>?_⟩;exact(n2.block k ((F8.1).lt.1 k (by simp[hk])) (HR4.2 k hk)).trans ((fun k hk hn=>(F8.2 k (by simp[hk]) hn).trans (A2.1 k hk hn)) k hk hn))
 unfold stC at FIN;clear n1 n2;go_wp2_with fail;exact bodyPost_ret (v:=.tuple #[.agg #[ii,c.pa,c.ob,c.ow,c.ri,c.ba,c.de,c.ex,c.cu,c.rv],(0:Int)]) (bO (fn:=Tryz.f49) rfl _ _ r3 33 _ (0,0) _ _ rfl rfl FIN.1 Tryz.underlying33 rfl kL) rfl ⟨rfl,FIN.2⟩
theorem nY {w0 w:World}{R:List Nat}{t d s n:Nat}{E:List Ent}{id:Int}{c:aF}(h:TxS w0 R w t d s n E)(hE:E.length<=600)(hg:KI E id c) :
  () 14 #[t,id] w fun e w'=>e=.returned (.tuple #[.agg #[id,c.pa,c.ob,c.ow,c.ri,c.ba,c.de,c.ex,c.cu,c.rv],(0:Int)])/\TxS w0 R w' t d s n E/\KeptT R t w w':=
 aCK h (.inl ⟨rfl,rfl,rfl,rfl,rfl,rfl,rfl,rfl,rfl,rfl,rfl⟩) fun R' wa b0 b1 hT g0 g1 gm=>JS hT g1 g0 ⟨gm.2,gm.1⟩ hE (DT hg.2) rfl hg.1 hg.2
theorem JP {w0 w:World}{R:List Nat}{t d s bi bt n:Nat}{E:List Ent}{ii:Int}{q:Int}(h:TxS w0 R w t d s n E)(hc:w.heap[bi]?=some (.cells #[ii] 3))(hb:w.heap[bt]?=some (.cells #[t] 24))(hm:(bi∈R/\bi≠t/\w0.heap.size<=bi)/\(bt∈R/\bt≠t/\w0.heap.size<=bt))(hE:E.length<=600)(hi:1<=ii/\ii<=16777215)(hq:aC 3 0 ii=q){p:bV}(hg:cG q E=some (fB p))(hok:fF ii p) :
  () 61 #[bi,bt] w fun e w'=>e=.returned (.tuple #[.agg #[ii,p.nm,p.li,p.ha],(0:Int)])/\TxS w0 R w' t d s n E/\KeptT R t w w':=by
 obtain⟨a1,a2,a3,a4,a5,a6,a7⟩:=h.box (.cells #[(0:Int),.string ⟨#[]⟩,(0:Int),(0:Int)] 49);obtain⟨r3,hr3⟩:∃ r3,w.heap.size=r3:=⟨_,rfl⟩
 obtain⟨x1,hx1⟩:∃ x1,w.alloc (.cells #[(0:Int),.string ⟨#[]⟩,(0:Int),(0:Int)] 49)=x1:=⟨_,rfl⟩
 rw[hx1] at a1 a2 a3 a5;rw[hr3] at a1 a3 a4 a5 a6 a7;have X1:=Hd hx1;have HR4:=Hd (And.intro a6 a7);have A3:=Hd (And.intro a3 a4);have A2:=Hd (And.intro a2 a1);have d0:=(aE ((a2 bi hm.1.1 hm.1.2.1).trans hc)).1;have HX:=Hd hm;have HS0:=Hd (show(fun w':World=>w'.heap[bi]?=some (.cells #[ii] 3)/\w'.heap[bt]?=some (.cells #[t] 24)) x1.drew from⟨(a2 bi hm.1.1 hm.1.2.1).trans hc,(a2 bt hm.2.1 hm.2.2.1).trans hb⟩);have hqr:=cT 3 0 ii;rw[hq] at hqr;have HQ:=Hd hq
 have ID:=Hd (fun w=>uK ii true w (by unfold inB;simp;omega));obtain⟨X,hX⟩:∃ X,fB p=X:=⟨_,rfl⟩
 have TA:=Hd (fun w=>by have:=vQ ii p w hok;rw[hX] at this;exact this);rw[hX] at hg;have GE:=Hd (MG (key:=q) (a1.below Br.drew) hE hqr X true (gQ hg).1 (gQ hg).2);clear hg hok hX;clear h hc hb hm hE hi hq hqr a1 a2 a3 a4 a5 a6 a7 hx1;go_enter Tryz.func61,Tryz.ntmps61;go_upto_region 1 with fail
 rw[X1.o];clear hr3;go_wp2_with fail;refine(ID _).mono ?_;rintro e w1 ⟨rfl,rfl⟩;go_upto_region 3 with fail
 clear d0;refine wp_region_held_drew (S:=fun w'=>w'.heap[bi]?=some (.cells #[ii] 3)/\w'.heap[bt]?=some (.cells #[t] 24)) (by kernel_rfl) HS0 (fun hS=>?_);refine Hv 0 11 ?vb0x1 hS ?hb0x1 ?_
 case hb0x1=>
  intro w9 s9;have k9:=(aE s9.2).1;clear s9;go_simp;try (with_reducible rfl)
 simp only[SL];refine Hv 1 12 ?vb1x2 hS ?hb1x2 ?_
 case hb1x2=>
  intro w9 s9;have k9:=(aE s9.1).1;clear s9;go_simp;try (with_reducible rfl)
 simp only[SL];refine Hs 2 (fun K HK=>?_);go_simp;go_wp2_with fail;refine(iQ 3 0 ii q _ HQ.o).mono ?_;rintro e w6 ⟨rfl,rfl⟩;refine HK _ _ ?_ ?_
 ·exact hS
 clear HK K;try simp only[Act.put,SL]
 refine Hs 3 (fun K HK=>?_);go_simp;go_wp2_with fail;refine GE.mono ?_;rintro e w7 ⟨rfl,h1,h2⟩;refine HK _ _ ?_ ?_
 ·exact⟨(h2 bi (by simp[HX.1.1]) HX.1.2.1).trans hS.1,(h2 bt (by simp[HX.2.1]) HX.2.2.1).trans hS.2⟩
 clear HK K;try simp only[Act.put,SL]
 have hS9:=(show(_/\_) from⟨(h2 bi (by simp[HX.1.1]) HX.1.2.1).trans hS.1,(h2 bt (by simp[HX.2.1]) HX.2.2.1).trans hS.2⟩)
 clear hS;have hS:=hS9;clear hS9;have F7:=Hd (And.intro h1 (show KeptT (r3::R) t x1 w7 from h2));clear h1 h2 GE;refine Hu 4 10 hS ?_;simp only[SL];refine Hu 5 15 hS ?_;simp only[SL];refine Hu 6 16 hS ?_;simp only[SL];refine Hu 7 4 hS ?_;simp only[SL];refine Hu 8 5 hS ?_;simp only[SL];refine wpAnyH_done (by kernel_rfl) ?_ _;have c7:=(aE hS.1).1;clear hS;have r7:=(F7.2 r3 (by simp) A3.2).trans A3.1;go_wp2_with fail;refine(TA _).mono ?_;rintro e w8 ⟨rfl,b8⟩;have r8:=qB r7 b8;have F8:=Hd (And.intro (F7.1.below b8) (F7.2.trans (F7.1.kept b8)))
 clear r7 b8 c7;obtain⟨⟨y0,y1,y2,y3⟩,u0,u1,u2,u3⟩:=eO r8;obtain⟨n1,n2⟩:=OU r8 (.int .i64 ii) (.string p.nm) (.int .i64 p.li) (.int .i64 p.ha)
 have FIN:Hid ((stW w8 r3 (.int .i64 ii) (.string p.nm) (.int .i64 p.li) (.int .i64 p.ha)).heap[r3]?=some (.cells #[ii,p.nm,p.li,p.ha] 49)/\TxS w0 R (stW w8 r3 (.int .i64 ii) (.string p.nm) (.int .i64 p.li) (.int .i64 p.ha)) t d s n E/\KeptT R t w (stW w8 r3 (.int .i64 ii) (.string p.nm) (.int .i64 p.li) (.int .i64 p.ha))):=Hd (by
  refine⟨n1,((F8.1).turn (k:=r3) (by simp) A3.2 HR4.1 n2).sub (fun k hk=>by simp[hk]),fun k hk hn=>?_⟩;exact(n2.block k ((F8.1).lt.1 k (by simp[hk])) (HR4.2 k hk)).trans ((fun k hk hn=>(F8.2 k (by simp[hk]) hn).trans (A2.1 k hk hn)) k hk hn))
 unfold stW at FIN;clear n1 n2;go_wp2_with fail;exact bodyPost_ret (v:=.tuple #[.agg #[ii,p.nm,p.li,p.ha],(0:Int)]) (bO (fn:=Tryz.f61) rfl _ _ r3 49 _ (0,0) _ _ rfl rfl FIN.1 Tryz.underlying49 rfl fI) rfl ⟨rfl,FIN.2⟩
theorem qW {w0 w:World}{R:List Nat}{t d s n:Nat}{E:List Ent}{id:Int}{p:bV}(h:TxS w0 R w t d s n E)(hE:E.length<=600)(hg:ZS E id p) :
  () 20 #[t,id] w fun e w'=>e=.returned (.tuple #[.agg #[id,p.nm,p.li,p.ha],(0:Int)])/\TxS w0 R w' t d s n E/\KeptT R t w w':=
 aCE h (.inl ⟨rfl,rfl,rfl,rfl,rfl⟩) fun R' wa b0 b1 hT g0 g1 gm=>JP hT g1 g0 ⟨gm.2,gm.1⟩ hE (pS hg.2) rfl hg.1 hg.2
