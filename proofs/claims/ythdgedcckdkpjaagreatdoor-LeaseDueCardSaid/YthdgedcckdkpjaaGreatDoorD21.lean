import Derived.Test.YthdgedcckdkpjaaGreatDoorD20
namespace Go.Proofs.YthdgedcckdkpjaaGreatDoor
open Go Go.RowKit
set_option maxRecDepth 20000
set_option maxHeartbeats 12800000
set_option linter.unusedVariables false
set_option linter.unusedSimpArgs false
def RowZ (w:World)(v:Value)(L:List Int):Prop:=w.ownsRow 0 3 1 v L.length (L.map fun(x:Int)=>Value.int .i64 x)
theorem RowZ.shape {w:World}{v:Value}{L:List Int}(h:RowZ w v L):∃ a c,v=.slice a L.length c/\L.length<=c/\c<=maxLen:=bK h
theorem RowZ.kept {w w':World}{v:Value}{L:List Int}(h:RowZ w v L)(hk:∀ k,v.ownBlock=some k->w'.heap[k]?=w.heap[k]?):RowZ w' v L:=by
 refine⟨h.1,?_⟩
 rcases h.2 with hx|⟨g,cap,cur,hv,hbg,hh,r⟩
 ·exact .inl hx
 ·exact .inr ⟨g,cap,cur,hv,hbg,(hk g (by rw[hv];rfl)).trans hh,r⟩
def FreshB (w0:World)(R:List Nat)(t:Nat)(v:Value):Prop:=∀ q,v.ownBlock=some q->q ∉ R/\q≠t/\w0.heap.size<=q
theorem FreshB.sub {w0:World}{R R':List Nat}{t:Nat}{v:Value}(h:FreshB w0 R t v)(hs:∀ k∈R',k∈R):FreshB w0 R' t v:=fun q hq=>⟨fun hx=>(h q hq).1 (hs q hx),(h q hq).2⟩
def bV (w:World):List Obj->World
 | []=>w
 | x::xs=>bV (w.alloc x) xs
def yB (n:Nat):List Obj->List Nat
 | []=>[]
 | _::xs=>yB (n+1) xs++[n]
theorem LW:∀ (L:List Obj) (n i:Nat),i<L.length->n+i∈yB n L
 | [],n,i,h=>by simp at h
 | x::xs,n,0,h=>by simp[yB]
 | x::xs,n,i+1,h=>List.mem_append_left _ (by have:=LW xs (n+1) i (by simpa using h);rwa [show n+1+i=n+(i+1) by omega] at this)
theorem TxS.boxes:∀ (L:List Obj) {w0 w:World} {R:List Nat} {t d s n:Nat} {E:List Ent},TxS w0 R w t d s n E ->
  TxS w0 (yB w.heap.size L++R) (bV w L) t d s n E/\KeptT R t w (bV w L)/\(bV w L).heap.size=w.heap.size+L.length/\∀ (i:Nat) (x:Obj),L[i]?=some x->(bV w L).heap[w.heap.size+i]?=some x
 | [],w0,w,R,t,d,s,n,E,h=>⟨h,KeptT.refl _ _ _,rfl,fun i x hx=>by simp at hx⟩
 | y::ys,w0,w,R,t,d,s,n,E,h=>by
  obtain⟨a1,a2,a3,a4,a5,a6,a7⟩:=h.box y;obtain⟨b1,b2,b3,b4⟩:=TxS.boxes ys a1;rw[a5] at b1 b3 b4;refine⟨b1.sub fun k hk=>?_,a2.trans (b2.sub fun k hk=>by simp[hk]),by rw[show bV w (y::ys)=bV (w.alloc y) ys from rfl,b3,List.length_cons];omega,fun i x hx=>?_⟩
  ·simp only[yB,List.append_assoc,List.singleton_append] at hk
   exact hk
  ·cases i with
   | zero=>
    have e:y=x:=by simpa using hx
    subst e;exact(b2 w.heap.size (by simp) a4).trans a3
   | succ i=>
    have:=b4 i x (by simpa using hx);rwa [show w.heap.size+1+i=w.heap.size+(i+1) by omega] at this
def oF (w0:World)(R':List Nat)(t m:Nat)(wa:World)(L:List Obj):Prop:=∀ (i:Nat) (x:Obj),L[i]?=some x->wa.heap[m+i]?=some x/\m+i∈R'/\m+i≠t/\w0.heap.size<=m+i
theorem TxS.boxesAt {w0 w:World}{R:List Nat}{t d s n:Nat}{E:List Ent}(h:TxS w0 R w t d s n E)(L:List Obj){R':List Nat}{wa:World}(hs:∀ k∈yB w.heap.size L++R,k∈R')(hK:KeptT (yB w.heap.size L++R) t (bV w L) wa):oF w0 R' t w.heap.size wa L:=fun i x hx=>by
 obtain⟨b1,b2,b3,b4⟩:=h.boxes L;have hi:=(List.getElem?_eq_some_iff.1 hx).1;have hm:=List.mem_append_left R (LW L w.heap.size i hi);have ht:=h.lt.2;have h0:=h.from.size;exact⟨(hK _ hm (by omega)).trans (b4 i x hx),hs _ hm,by omega,by omega⟩
theorem yP {w0 w:World}{R:List Nat}{t d s n k:Nat}{E E':List Ent}{caps:Array Value}{e:Int}(h:TxS w0 R w t d s n E)(L:List Obj)(hk:∀ w,(callFunc k caps).run Tryz.prog w=.ok (.enter k caps) w)
  (HC:∀ R' wa,TxS w0 R' wa t d s n E->oF w0 R' t w.heap.size wa L->Calls Tryz.prog k caps wa fun e' w'=>e'=.returned e/\TxS w0 R' w' t d s n E'/\KeptT R' t wa w') :
  () 41 #[t,.func (.func k) #[] caps] (bV w L) fun e' w'=>e'=.returned e/\TxS w0 R w' t d s n E'/\KeptT R t w w':=by
 obtain⟨b1,b2,b3,b4⟩:=h.boxes L;refine(mZ b1 hk (HC _ _ b1 (h.boxesAt L (fun k hk=>hk) (KeptT.refl _ _ _)))).mono ?_;rintro e' w' ⟨rfl,h1,h2⟩;exact⟨rfl,h1.sub fun k hk=>List.mem_append_right _ hk,b2.trans (h2.sub fun k hk=>List.mem_append_right _ hk)⟩
theorem MF {w0 w:World}{R:List Nat}{t d s n k:Nat}{E E':List Ent}{caps:Array Value}{x e y:Int}(h:TxS w0 R w t d s n E)(L:List Obj)(he:(e=0/\y=x)\/(e≠0/\y=0))(hk:∀ w,(callFunc k caps).run Tryz.prog w=.ok (.enter k caps) w)
  (HC:∀ R' wa,TxS w0 R' wa t d s n E->oF w0 R' t w.heap.size wa L->Calls Tryz.prog k caps wa fun e' w'=>e'=.returned (.tuple #[x,e])/\TxS w0 R' w' t d s n E'/\KeptT R' t wa w') :
  () 23 #[t,.func (.func k) #[] caps] (bV w L) fun e' w'=>e'=.returned (.tuple #[y,e])/\TxS w0 R w' t d s n E'/\KeptT R t w w':=by
 obtain⟨b1,b2,b3,b4⟩:=h.boxes L;refine(wV b1 he hk fun R' wa hs hT hK=>HC R' wa hT (h.boxesAt L hs hK)).mono ?_;rintro e' w' ⟨rfl,h1,h2⟩;exact⟨rfl,h1.sub fun k hk=>List.mem_append_right _ hk,b2.trans (h2.sub fun k hk=>List.mem_append_right _ hk)⟩
theorem dC {w:World}{g:Nat}{v0 v1 v2 v3 v4 v5 v6 v7 v8 v9:Value}{t:TypeId}(h:w.heap[g]?=some (.cells #[v0,v1,v2,v3,v4,v5,v6,v7,v8,v9] t)):(w.cell? ⟨g,0,none⟩=some v0/\w.cell? ⟨g,1,none⟩=some v1/\w.cell? ⟨g,2,none⟩=some v2/\w.cell? ⟨g,3,none⟩=some v3/\w.cell? ⟨g,4,none⟩=some v4/\w.cell? ⟨g,5,none⟩=some v5/\w.cell? ⟨g,6,none⟩=some v6/\w.cell? ⟨g,7,none⟩=some v7/\w.cell? ⟨g,8,none⟩=some v8/\w.cell? ⟨g,9,none⟩=some v9)/\w.frozen? ⟨g,0,none⟩=false/\w.frozen? ⟨g,1,none⟩=false/\w.frozen? ⟨g,2,none⟩=false/\w.frozen? ⟨g,3,none⟩=false/\w.frozen? ⟨g,4,none⟩=false/\w.frozen? ⟨g,5,none⟩=false/\w.frozen? ⟨g,6,none⟩=false/\w.frozen? ⟨g,7,none⟩=false/\w.frozen? ⟨g,8,none⟩=false/\w.frozen? ⟨g,9,none⟩=false:=by
 refine⟨⟨?_,?_,?_,?_,?_,?_,?_,?_,?_,?_⟩,ufb h 0,ufb h 1,ufb h 2,ufb h 3,ufb h 4,ufb h 5,ufb h 6,ufb h 7,ufb h 8,ufb h 9⟩ <;> (rw[cob h];rfl)
def stC (w:World)(g:Nat)(u0 u1 u2 u3 u4 u5 u6 u7 u8 u9:Value):World:=((((((((((w.setCell ⟨g,0,none⟩ u0).setCell ⟨g,1,none⟩ u1).setCell ⟨g,2,none⟩ u2).setCell ⟨g,3,none⟩ u3).setCell ⟨g,4,none⟩ u4).setCell ⟨g,5,none⟩ u5).setCell ⟨g,6,none⟩ u6).setCell ⟨g,7,none⟩ u7).setCell ⟨g,8,none⟩ u8).setCell ⟨g,9,none⟩ u9)
theorem aA3 {w:World}{g:Nat}{v0 v1 v2 v3 v4 v5 v6 v7 v8 v9:Value}{t:TypeId}(h:w.heap[g]?=some (.cells #[v0,v1,v2,v3,v4,v5,v6,v7,v8,v9] t))(u0 u1 u2 u3 u4 u5 u6 u7 u8 u9:Value):(stC w g u0 u1 u2 u3 u4 u5 u6 u7 u8 u9).heap[g]?=some (.cells #[u0,u1,u2,u3,u4,u5,u6,u7,u8,u9] t)/\Frm (fun k=>k=g) w (stC w g u0 u1 u2 u3 u4 u5 u6 u7 u8 u9):=by
 refine⟨?_,(((((((((((Frm.refl (fun k=>k=g) w).setCell ⟨g,0,none⟩ _ (.inl rfl)).setCell ⟨g,1,none⟩ _ (.inl rfl)).setCell ⟨g,2,none⟩ _ (.inl rfl)).setCell ⟨g,3,none⟩ _ (.inl rfl)).setCell ⟨g,4,none⟩ _ (.inl rfl)).setCell ⟨g,5,none⟩ _ (.inl rfl)).setCell ⟨g,6,none⟩ _ (.inl rfl)).setCell ⟨g,7,none⟩ _ (.inl rfl)).setCell ⟨g,8,none⟩ _ (.inl rfl)).setCell ⟨g,9,none⟩ _ (.inl rfl))⟩;unfold stC
 rw[(hss _ _ 9 _ _ _ (hss _ _ 8 _ _ _ (hss _ _ 7 _ _ _ (hss _ _ 6 _ _ _ (hss _ _ 5 _ _ _ (hss _ _ 4 _ _ _ (hss _ _ 3 _ _ _ (hss _ _ 2 _ _ _ (hss _ _ 1 _ _ _ (hss _ _ 0 _ _ _ h))))))))))]
 kernel_rfl
theorem fQ {w:World}{g:Nat}{v0 v1 v2 v3:Value}{t:TypeId}(h:w.heap[g]?=some (.cells #[v0,v1,v2,v3] t)):(w.cell? ⟨g,0,none⟩=some v0/\w.cell? ⟨g,1,none⟩=some v1/\w.cell? ⟨g,2,none⟩=some v2/\w.cell? ⟨g,3,none⟩=some v3)/\w.frozen? ⟨g,0,none⟩=false/\w.frozen? ⟨g,1,none⟩=false/\w.frozen? ⟨g,2,none⟩=false/\w.frozen? ⟨g,3,none⟩=false:=by
 refine⟨⟨?_,?_,?_,?_⟩,ufb h 0,ufb h 1,ufb h 2,ufb h 3⟩ <;> (rw[cob h];rfl)
def stW (w:World)(g:Nat)(u0 u1 u2 u3:Value):World:=((((w.setCell ⟨g,0,none⟩ u0).setCell ⟨g,1,none⟩ u1).setCell ⟨g,2,none⟩ u2).setCell ⟨g,3,none⟩ u3)
theorem VO {w:World}{g:Nat}{v0 v1 v2 v3:Value}{t:TypeId}(h:w.heap[g]?=some (.cells #[v0,v1,v2,v3] t))(u0 u1 u2 u3:Value):(stW w g u0 u1 u2 u3).heap[g]?=some (.cells #[u0,u1,u2,u3] t)/\Frm (fun k=>k=g) w (stW w g u0 u1 u2 u3):=by
 refine⟨?_,(((((Frm.refl (fun k=>k=g) w).setCell ⟨g,0,none⟩ _ (.inl rfl)).setCell ⟨g,1,none⟩ _ (.inl rfl)).setCell ⟨g,2,none⟩ _ (.inl rfl)).setCell ⟨g,3,none⟩ _ (.inl rfl))⟩;unfold stW;rw[(hss _ _ 3 _ _ _ (hss _ _ 2 _ _ _ (hss _ _ 1 _ _ _ (hss _ _ 0 _ _ _ h))))]
 rfl
theorem ZO {w0 w:World}{R:List Nat}{t d s n b c:Nat}{E E':List Ent}{k:Nat}{caps:Array Value}{e:Int}{c0:Int}{c1:Int}{c2:Int}{c3:Int}{c4:Int}{c5:Int}{c6:Int}{c7:Int}{c8:Int}{c9:Bool}(h:TxS w0 R w t d s n E)(hb:w.heap[b]?=some (.cells #[.func (.func k) #[] caps] 120))(hc:w.heap[c]?=some (.cells #[(0:Int),(0:Int),(0:Int),(0:Int),(0:Int),(0:Int),(0:Int),(0:Int),(0:Int),false] 65))(hcR:c∈R)(hct:c≠t)(hc0:w0.heap.size<=c)
  (hk:∀ w,(callFunc k caps).run Tryz.prog w=.ok (.enter k caps) w)(HC:Calls Tryz.prog k caps w fun e' w'=>e'=.returned (.tuple #[.agg #[c0,c1,c2,c3,c4,c5,c6,c7,c8,c9],e])/\TxS w0 R w' t d s n E'/\KeptT R t w w') :
  () 112 #[b,c] w fun e' w'=>e'=.returned e/\TxS w0 R w' t d s n E'/\w'.heap[c]?=some (.cells #[c0,c1,c2,c3,c4,c5,c6,c7,c8,c9] 65)/\∀ k∈R,k≠t->k≠c->w'.heap[k]?=w.heap[k]?:=by
 have cb:=(aD hb).1;have H:=Hd HC;have HX:=Hd (And.intro hc (And.intro hcR (And.intro hct hc0)));clear h hb hc hcR hct hc0 HC;go_enter Tryz.func112,Tryz.ntmps112;go_wp2_with fail;refine H.mono ?_;rintro e' w1 ⟨rfl,h1,h2⟩;have hc1:=(h2 c HX.2.1 HX.2.2.1).trans HX.1;obtain⟨⟨d0,d1,d2,d3,d4,d5,d6,d7,d8,d9⟩,g0,g1,g2,g3,g4,g5,g6,g7,g8,g9⟩:=dC hc1;obtain⟨n1,n2⟩:=aA3 hc1 (.int .i64 c0) (.int .i64 c1) (.int .i64 c2) (.int .i64 c3) (.int .i64 c4) (.int .i64 c5) (.int .i64 c6) (.int .i64 c7) (.int .i64 c8) (.bool c9)
 have FIN:Hid (TxS w0 R (stC w1 c (.int .i64 c0) (.int .i64 c1) (.int .i64 c2) (.int .i64 c3) (.int .i64 c4) (.int .i64 c5) (.int .i64 c6) (.int .i64 c7) (.int .i64 c8) (.bool c9)) t d s n E'/\(stC w1 c (.int .i64 c0) (.int .i64 c1) (.int .i64 c2) (.int .i64 c3) (.int .i64 c4) (.int .i64 c5) (.int .i64 c6) (.int .i64 c7) (.int .i64 c8) (.bool c9)).heap[c]?=some (.cells #[c0,c1,c2,c3,c4,c5,c6,c7,c8,c9] 65)/\∀ k∈R,k≠t->k≠c->(stC w1 c (.int .i64 c0) (.int .i64 c1) (.int .i64 c2) (.int .i64 c3) (.int .i64 c4) (.int .i64 c5) (.int .i64 c6) (.int .i64 c7) (.int .i64 c8) (.bool c9)).heap[k]?=w.heap[k]?):=Hd
  ⟨h1.turn HX.2.1 HX.2.2.1 HX.2.2.2 n2,n1,fun k hk hn hnc=>(n2.block k (h1.lt.1 k hk) hnc).trans (h2 k hk hn)⟩
 unfold stC at FIN;clear h1 h2 hc1 cb n1 n2;go_wp2_with fail;go_ret;exact⟨rfl,FIN.o⟩
theorem TL {w0 w:World}{R:List Nat}{t d s n:Nat}{E E':List Ent}{k:Nat}{caps:Array Value}{e:Int}{c0:Int}{c1:Int}{c2:Int}{c3:Int}{c4:Int}{c5:Int}{c6:Int}{c7:Int}{c8:Int}{c9:Bool}{y0:Int}{y1:Int}{y2:Int}{y3:Int}{y4:Int}{y5:Int}{y6:Int}{y7:Int}{y8:Int}{y9:Bool}(h:TxS w0 R w t d s n E)(he:(e=0/\y0=c0/\y1=c1/\y2=c2/\y3=c3/\y4=c4/\y5=c5/\y6=c6/\y7=c7/\y8=c8/\y9=c9)\/(e≠0/\y0=0/\y1=0/\y2=0/\y3=0/\y4=0/\y5=0/\y6=0/\y7=0/\y8=0/\y9=false))
  (hk:∀ w,(callFunc k caps).run Tryz.prog w=.ok (.enter k caps) w)(HC:∀ R' wa,(∀ k∈R,k∈R')->TxS w0 R' wa t d s n E->KeptT R t w wa->Calls Tryz.prog k caps wa fun e' w'=>e'=.returned (.tuple #[.agg #[c0,.int .i64 c1,.int .i64 c2,.int .i64 c3,.int .i64 c4,.int .i64 c5,.int .i64 c6,.int .i64 c7,c8,c9],.int .i64 e])/\TxS w0 R' w' t d s n E'/\KeptT R' t wa w') :
  () 81 #[t,.func (.func k) #[] caps] w fun e' w'=>e'=.returned (.tuple #[.agg #[y0,y1,y2,y3,y4,y5,y6,y7,y8,y9],.int .i64 e])/\TxS w0 R w' t d s n E'/\KeptT R t w w':=by
 obtain⟨a1,a2,a3,a4,a5,a6,a7⟩:=h.box (.cells #[.func (.func k) #[] caps] 120);obtain⟨x1,hx1⟩:∃ x1,w.alloc (.cells #[.func (.func k) #[] caps] 120)=x1:=⟨_,rfl⟩
 rw[hx1] at a1 a2 a3 a5;obtain⟨b1,b2,b3,b4,b5,b6,b7⟩:=a1.box (.cells #[(0:Int),(0:Int),(0:Int),(0:Int),(0:Int),(0:Int),(0:Int),(0:Int),(0:Int),false] 65);obtain⟨x2,hx2⟩:∃ x2,x1.alloc (.cells #[(0:Int),(0:Int),(0:Int),(0:Int),(0:Int),(0:Int),(0:Int),(0:Int),(0:Int),false] 65)=x2:=⟨_,rfl⟩
 rw[hx2] at b1 b2 b3 b5;rw[a5] at b1 b3 b4 b5 b6 b7;obtain⟨c1,c2,c3,c4,c5,c6,c7⟩:=b1.box (.cells #[(0:Int),(0:Int),(0:Int),(0:Int),(0:Int),(0:Int),(0:Int),(0:Int),(0:Int),false] 65);obtain⟨x3,hx3⟩:∃ x3,x2.alloc (.cells #[(0:Int),(0:Int),(0:Int),(0:Int),(0:Int),(0:Int),(0:Int),(0:Int),(0:Int),false] 65)=x3:=⟨_,rfl⟩
 rw[hx3] at c1 c2 c3 c5;rw[b5] at c1 c3 c4 c5 c6 c7;obtain⟨d1,d2,d3,d4,d5,d6,d7⟩:=c1.box (.cells #[(0:Int),(0:Int),(0:Int),(0:Int),(0:Int),(0:Int),(0:Int),(0:Int),(0:Int),false] 65);obtain⟨x4,hx4⟩:∃ x4,x3.alloc (.cells #[(0:Int),(0:Int),(0:Int),(0:Int),(0:Int),(0:Int),(0:Int),(0:Int),(0:Int),false] 65)=x4:=⟨_,rfl⟩
 rw[hx4] at d1 d2 d3 d5;rw[c5] at d1 d3 d4 d5 d6 d7;have hf:=(d2 w.heap.size (by simp) a4).trans ((c2 w.heap.size (by simp) a4).trans ((b2 w.heap.size (by simp) a4).trans a3));have hr:=(d2 (w.heap.size+1) (by simp) b4).trans ((c2 (w.heap.size+1) (by simp) b4).trans b3);have hz:=(d2 (w.heap.size+1+1) (by simp) c4).trans c3;have hkw:KeptT R t w x4:=a2.trans ((b2.sub (fun k hk=>by simp[hk])).trans ((c2.sub (fun k hk=>by simp[hk])).trans (d2.sub (fun k hk=>by simp[hk]))))
 have HK:=HC ((w.heap.size+1+1+1)::(w.heap.size+1+1)::(w.heap.size+1)::w.heap.size::R) x4 (fun k hk=>by simp[hk]) d1 hkw;have V1:=Hd (mZ d1 (fun w=>by kernel_rfl) (ZO d1 hf d3 (by simp) d4 d6 hk HK));have KP:=Hd (And.intro hkw (And.intro hr (And.intro hz (And.intro b4 (And.intro c4 d7)))));have KQ:=Hd (And.intro a5 (And.intro b5 (And.intro c5 (And.intro a6 (And.intro a7 (And.intro b6 (And.intro b7 (And.intro c7 d4))))))));have HE:=Hd he;have X1:=Hd (And.intro hx1 (And.intro hx2 (And.intro hx3 hx4)))
 clear h he HC a1 a2 a3 a4 a5 a6 a7 b1 b2 b3 b4 b5 b6 b7 c1 c2 c3 c4 c5 c6 c7 d1 d2 d3 d4 d5 d6 d7 hf hr hz hkw HK hx1 hx2 hx3 hx4;go_enter Tryz.func81,Tryz.ntmps81;go_upto_region 2 with fail
 try simp only[World.heap_size_alloc]
 rw[X1.1,X1.2.1,X1.2.2.1,X1.2.2.2];go_wp2_with fail;refine V1.mono ?_;rintro e' w4 ⟨rfl,h1,h2,h3⟩;have r4:=(h3 (w.heap.size+1) (by simp) KP.2.2.2.1 (by omega)).trans KP.2.1;have zb4:=(h3 (w.heap.size+1+1) (by simp) KP.2.2.2.2.1 (by omega)).trans KP.2.2.1;obtain⟨⟨d0,d1,d2,d3,d4,d5,d6,d7,d8,d9⟩,g0,g1,g2,g3,g4,g5,g6,g7,g8,g9⟩:=dC r4;obtain⟨⟨z0,z1,z2,z3,z4,z5,z6,z7,z8,z9⟩,_⟩:=dC zb4;obtain⟨⟨v0,v1,v2,v3,v4,v5,v6,v7,v8,v9⟩,_⟩:=dC h2
 obtain⟨n1,n2⟩:=aA3 r4 (.int .i64 y0) (.int .i64 y1) (.int .i64 y2) (.int .i64 y3) (.int .i64 y4) (.int .i64 y5) (.int .i64 y6) (.int .i64 y7) (.int .i64 y8) (.bool y9)
 have FIN:Hid ((stC w4 (w.heap.size+1) (.int .i64 y0) (.int .i64 y1) (.int .i64 y2) (.int .i64 y3) (.int .i64 y4) (.int .i64 y5) (.int .i64 y6) (.int .i64 y7) (.int .i64 y8) (.bool y9)).heap[w.heap.size+1]?=some (.cells #[y0,y1,y2,y3,y4,y5,y6,y7,y8,y9] 65)/\TxS w0 R (stC w4 (w.heap.size+1) (.int .i64 y0) (.int .i64 y1) (.int .i64 y2) (.int .i64 y3) (.int .i64 y4) (.int .i64 y5) (.int .i64 y6) (.int .i64 y7) (.int .i64 y8) (.bool y9)) t d s n E'/\KeptT R t w (stC w4 (w.heap.size+1) (.int .i64 y0) (.int .i64 y1) (.int .i64 y2) (.int .i64 y3) (.int .i64 y4) (.int .i64 y5) (.int .i64 y6) (.int .i64 y7) (.int .i64 y8) (.bool y9))):=Hd (by
  have g1:=h1.turn (k:=w.heap.size+1) (by simp) KP.2.2.2.1 (by have:=KQ.2.2.2.1;omega) n2;refine⟨n1,g1.sub (fun k hk=>by simp[hk]),fun k hk hn=>?_⟩
  have hk1:k≠w.heap.size+1:=fun e=>by
   have:=KQ.2.2.2.2.2.2.1 k (by simp[hk]);exact this e
  refine(n2.block k (h1.lt.1 k (by simp[hk])) hk1).trans ((h3 k (by simp[hk]) hn (KP.2.2.2.2.2 k (by simp[hk]))).trans (KP.1 k hk hn)))
 clear h1 h2 h3 V1 r4 zb4 n1 n2 KP KQ;unfold stC at FIN
 rcases HE.o with⟨rfl,rfl,rfl,rfl,rfl,rfl,rfl,rfl,rfl,rfl,rfl⟩|⟨hne,rfl,rfl,rfl,rfl,rfl,rfl,rfl,rfl,rfl,rfl⟩
 ·go_wp2_with fail
  exact bodyPost_ret (v:=.tuple #[.agg #[y0,y1,y2,y3,y4,y5,y6,y7,y8,y9],(0:Int)]) (bQ (fn:=Tryz.f81) rfl _ _ (w.heap.size+1) 65 _ (0,0) _ _ rfl rfl FIN.1 Tryz.underlying65 rfl mK) rfl ⟨rfl,FIN.2⟩
 ·have hn1:(e==0)=false:=by simpa using hne
  have hn2:(e != 0)=true:=by simp[hne]
  clear hne;go_wp2_with fail;exact bodyPost_ret (v:=.tuple #[.agg #[(0:Int),(0:Int),(0:Int),(0:Int),(0:Int),(0:Int),(0:Int),(0:Int),(0:Int),false],.int .i64 e]) (bQ (fn:=Tryz.f81) rfl _ _ (w.heap.size+1) 65 _ (0,0) _ _ rfl rfl FIN.1 Tryz.underlying65 rfl mK) rfl ⟨rfl,FIN.2⟩
theorem XJ {w0 w:World}{R:List Nat}{t d s n b c:Nat}{E E':List Ent}{k:Nat}{caps:Array Value}{e:Int}{c0:Int}{c1:ByteArray}{c2:Int}{c3:Int}(h:TxS w0 R w t d s n E)(hb:w.heap[b]?=some (.cells #[.func (.func k) #[] caps] 116))(hc:w.heap[c]?=some (.cells #[(0:Int),.string ⟨#[]⟩,(0:Int),(0:Int)] 54))(hcR:c∈R)(hct:c≠t)(hc0:w0.heap.size<=c)
  (hk:∀ w,(callFunc k caps).run Tryz.prog w=.ok (.enter k caps) w)(HC:Calls Tryz.prog k caps w fun e' w'=>e'=.returned (.tuple #[.agg #[c0,c1,c2,c3],e])/\TxS w0 R w' t d s n E'/\KeptT R t w w') :
  () 104 #[b,c] w fun e' w'=>e'=.returned e/\TxS w0 R w' t d s n E'/\w'.heap[c]?=some (.cells #[c0,c1,c2,c3] 54)/\∀ k∈R,k≠t->k≠c->w'.heap[k]?=w.heap[k]?:=by
 have cb:=(aD hb).1;have H:=Hd HC;have HX:=Hd (And.intro hc (And.intro hcR (And.intro hct hc0)));clear h hb hc hcR hct hc0 HC;go_enter Tryz.func104,Tryz.ntmps104;go_wp2_with fail;refine H.mono ?_;rintro e' w1 ⟨rfl,h1,h2⟩;have hc1:=(h2 c HX.2.1 HX.2.2.1).trans HX.1;obtain⟨⟨d0,d1,d2,d3⟩,g0,g1,g2,g3⟩:=fQ hc1;obtain⟨n1,n2⟩:=VO hc1 (.int .i64 c0) (.string c1) (.int .i64 c2) (.int .i64 c3)
 have FIN:Hid (TxS w0 R (stW w1 c (.int .i64 c0) (.string c1) (.int .i64 c2) (.int .i64 c3)) t d s n E'/\(stW w1 c (.int .i64 c0) (.string c1) (.int .i64 c2) (.int .i64 c3)).heap[c]?=some (.cells #[c0,c1,c2,c3] 54)/\∀ k∈R,k≠t->k≠c->(stW w1 c (.int .i64 c0) (.string c1) (.int .i64 c2) (.int .i64 c3)).heap[k]?=w.heap[k]?):=Hd
  ⟨h1.turn HX.2.1 HX.2.2.1 HX.2.2.2 n2,n1,fun k hk hn hnc=>(n2.block k (h1.lt.1 k hk) hnc).trans (h2 k hk hn)⟩
 unfold stW at FIN;clear h1 h2 hc1 cb n1 n2;go_wp2_with fail;go_ret;exact⟨rfl,FIN.o⟩
theorem QP {w0 w:World}{R:List Nat}{t d s n:Nat}{E E':List Ent}{k:Nat}{caps:Array Value}{e:Int}{c0:Int}{c1:ByteArray}{c2:Int}{c3:Int}{y0:Int}{y1:ByteArray}{y2:Int}{y3:Int}(h:TxS w0 R w t d s n E)(he:(e=0/\y0=c0/\y1=c1/\y2=c2/\y3=c3)\/(e≠0/\y0=0/\y1=⟨#[]⟩/\y2=0/\y3=0))
  (hk:∀ w,(callFunc k caps).run Tryz.prog w=.ok (.enter k caps) w)(HC:∀ R' wa,(∀ k∈R,k∈R')->TxS w0 R' wa t d s n E->KeptT R t w wa->Calls Tryz.prog k caps wa fun e' w'=>e'=.returned (.tuple #[.agg #[c0,c1,.int .i64 c2,.int .i64 c3],.int .i64 e])/\TxS w0 R' w' t d s n E'/\KeptT R' t wa w') :
  () 70 #[t,.func (.func k) #[] caps] w fun e' w'=>e'=.returned (.tuple #[.agg #[y0,y1,y2,y3],.int .i64 e])/\TxS w0 R w' t d s n E'/\KeptT R t w w':=by
 obtain⟨a1,a2,a3,a4,a5,a6,a7⟩:=h.box (.cells #[.func (.func k) #[] caps] 116);obtain⟨x1,hx1⟩:∃ x1,w.alloc (.cells #[.func (.func k) #[] caps] 116)=x1:=⟨_,rfl⟩
 rw[hx1] at a1 a2 a3 a5;obtain⟨b1,b2,b3,b4,b5,b6,b7⟩:=a1.box (.cells #[(0:Int),.string ⟨#[]⟩,(0:Int),(0:Int)] 54);obtain⟨x2,hx2⟩:∃ x2,x1.alloc (.cells #[(0:Int),.string ⟨#[]⟩,(0:Int),(0:Int)] 54)=x2:=⟨_,rfl⟩
 rw[hx2] at b1 b2 b3 b5;rw[a5] at b1 b3 b4 b5 b6 b7;obtain⟨c1,c2,c3,c4,c5,c6,c7⟩:=b1.box (.cells #[(0:Int),.string ⟨#[]⟩,(0:Int),(0:Int)] 54);obtain⟨x3,hx3⟩:∃ x3,x2.alloc (.cells #[(0:Int),.string ⟨#[]⟩,(0:Int),(0:Int)] 54)=x3:=⟨_,rfl⟩
 rw[hx3] at c1 c2 c3 c5;rw[b5] at c1 c3 c4 c5 c6 c7;obtain⟨d1,d2,d3,d4,d5,d6,d7⟩:=c1.box (.cells #[(0:Int),.string ⟨#[]⟩,(0:Int),(0:Int)] 54);obtain⟨x4,hx4⟩:∃ x4,x3.alloc (.cells #[(0:Int),.string ⟨#[]⟩,(0:Int),(0:Int)] 54)=x4:=⟨_,rfl⟩
 rw[hx4] at d1 d2 d3 d5;rw[c5] at d1 d3 d4 d5 d6 d7;have hf:=(d2 w.heap.size (by simp) a4).trans ((c2 w.heap.size (by simp) a4).trans ((b2 w.heap.size (by simp) a4).trans a3));have hr:=(d2 (w.heap.size+1) (by simp) b4).trans ((c2 (w.heap.size+1) (by simp) b4).trans b3);have hz:=(d2 (w.heap.size+1+1) (by simp) c4).trans c3;have hkw:KeptT R t w x4:=a2.trans ((b2.sub (fun k hk=>by simp[hk])).trans ((c2.sub (fun k hk=>by simp[hk])).trans (d2.sub (fun k hk=>by simp[hk]))))
 have HK:=HC ((w.heap.size+1+1+1)::(w.heap.size+1+1)::(w.heap.size+1)::w.heap.size::R) x4 (fun k hk=>by simp[hk]) d1 hkw;have V1:=Hd (mZ d1 (fun w=>by kernel_rfl) (XJ d1 hf d3 (by simp) d4 d6 hk HK));have KP:=Hd (And.intro hkw (And.intro hr (And.intro hz (And.intro b4 (And.intro c4 d7)))));have KQ:=Hd (And.intro a5 (And.intro b5 (And.intro c5 (And.intro a6 (And.intro a7 (And.intro b6 (And.intro b7 (And.intro c7 d4))))))));have HE:=Hd he;have X1:=Hd (And.intro hx1 (And.intro hx2 (And.intro hx3 hx4)))
 clear h he HC a1 a2 a3 a4 a5 a6 a7 b1 b2 b3 b4 b5 b6 b7 c1 c2 c3 c4 c5 c6 c7 d1 d2 d3 d4 d5 d6 d7 hf hr hz hkw HK hx1 hx2 hx3 hx4;go_enter Tryz.func70,Tryz.ntmps70;go_upto_region 2 with fail
 try simp only[World.heap_size_alloc]
 rw[X1.1,X1.2.1,X1.2.2.1,X1.2.2.2];go_wp2_with fail;refine V1.mono ?_;rintro e' w4 ⟨rfl,h1,h2,h3⟩;have r4:=(h3 (w.heap.size+1) (by simp) KP.2.2.2.1 (by omega)).trans KP.2.1;have zb4:=(h3 (w.heap.size+1+1) (by simp) KP.2.2.2.2.1 (by omega)).trans KP.2.2.1;obtain⟨⟨d0,d1,d2,d3⟩,g0,g1,g2,g3⟩:=fQ r4;obtain⟨⟨z0,z1,z2,z3⟩,_⟩:=fQ zb4;obtain⟨⟨v0,v1,v2,v3⟩,_⟩:=fQ h2;obtain⟨n1,n2⟩:=VO r4 (.int .i64 y0) (.string y1) (.int .i64 y2) (.int .i64 y3)
 have FIN:Hid ((stW w4 (w.heap.size+1) (.int .i64 y0) (.string y1) (.int .i64 y2) (.int .i64 y3)).heap[w.heap.size+1]?=some (.cells #[y0,y1,y2,y3] 54)/\TxS w0 R (stW w4 (w.heap.size+1) (.int .i64 y0) (.string y1) (.int .i64 y2) (.int .i64 y3)) t d s n E'/\KeptT R t w (stW w4 (w.heap.size+1) (.int .i64 y0) (.string y1) (.int .i64 y2) (.int .i64 y3))):=Hd (by
  have g1:=h1.turn (k:=w.heap.size+1) (by simp) KP.2.2.2.1 (by have:=KQ.2.2.2.1;omega) n2;refine⟨n1,g1.sub (fun k hk=>by simp[hk]),fun k hk hn=>?_⟩
  have hk1:k≠w.heap.size+1:=fun e=>by
   have:=KQ.2.2.2.2.2.2.1 k (by simp[hk]);exact this e
  refine(n2.block k (h1.lt.1 k (by simp[hk])) hk1).trans ((h3 k (by simp[hk]) hn (KP.2.2.2.2.2 k (by simp[hk]))).trans (KP.1 k hk hn)))
 clear h1 h2 h3 V1 r4 zb4 n1 n2 KP KQ;unfold stW at FIN
 rcases HE.o with⟨rfl,rfl,rfl,rfl,rfl⟩|⟨hne,rfl,rfl,rfl,rfl⟩
 ·go_wp2_with fail
  exact bodyPost_ret (v:=.tuple #[.agg #[y0,y1,y2,y3],(0:Int)]) (bQ (fn:=Tryz.f70) rfl _ _ (w.heap.size+1) 54 _ (0,0) _ _ rfl rfl FIN.1 Tryz.underlying54 rfl fW) rfl ⟨rfl,FIN.2⟩
 ·have hn1:(e==0)=false:=by simpa using hne
  have hn2:(e != 0)=true:=by simp[hne]
  clear hne;go_wp2_with fail;exact bodyPost_ret (v:=.tuple #[.agg #[(0:Int),.string ⟨#[]⟩,(0:Int),(0:Int)],.int .i64 e]) (bQ (fn:=Tryz.f70) rfl _ _ (w.heap.size+1) 54 _ (0,0) _ _ rfl rfl FIN.1 Tryz.underlying54 rfl fW) rfl ⟨rfl,FIN.2⟩
theorem VX {w0 w:World}{R:List Nat}{t d s n b c k:Nat}{E E':List Ent}{caps:Array Value}{L:List Int}(h:TxS w0 R w t d s n E)(hb:w.heap[b]?=some (.cells #[.func (.func k) #[] caps] 91))(hc:w.heap[c]?=some (.cells #[.slice none 0 0] 22))(hcR:c∈R)(hct:c≠t)(hc0:w0.heap.size<=c)
  (hk:∀ w,(callFunc k caps).run Tryz.prog w=.ok (.enter k caps) w)(HC:Calls Tryz.prog k caps w fun e' w'=>∃ v,e'=.returned (.tuple #[v,(0:Int)])/\RowZ w' v L/\FreshB w0 R t v/\TxS w0 (v.ownBlock.toList++R) w' t d s n E'/\KeptT R t w w') :
  () 90 #[b,c] w fun e' w'=>e'=.returned (.int .i64 0)/\∃ v,RowZ w' v L/\FreshB w0 R t v/\TxS w0 (v.ownBlock.toList++R) w' t d s n E'/\w'.heap[c]?=some (.cells #[v] 22)/\∀ k∈R,k≠t->k≠c->w'.heap[k]?=w.heap[k]?:=by
 have cb:=(aD hb).1;have H:=Hd HC;have HX:=Hd (And.intro hc (And.intro hcR (And.intro hct hc0)));clear h hb hc hcR hct hc0 HC;go_enter Tryz.func90,Tryz.ntmps90;go_wp2_with fail;refine H.mono ?_;rintro e' w1 ⟨v,rfl,hr,hq,h1,h2⟩;have hc1:=(h2 c HX.2.1 HX.2.2.1).trans HX.1;obtain⟨c1,g1⟩:=aD hc1
 have FIN:Hid (∃ u,RowZ (w1.setCell ⟨c,0,none⟩ v) u L/\FreshB w0 R t u/\TxS w0 (u.ownBlock.toList++R) (w1.setCell ⟨c,0,none⟩ v) t d s n E'/\(w1.setCell ⟨c,0,none⟩ v).heap[c]?=some (.cells #[u] 22)/\∀ k∈R,k≠t->k≠c->(w1.setCell ⟨c,0,none⟩ v).heap[k]?=w.heap[k]?):=Hd (by
  have f:=eT (w:=w1) (b:=c) (i:=0) v;refine⟨v,hr.kept fun q hv=>f.block q (World.ownsRow.lt hr q hv).2 (fun e=>(hq q hv).1 (e ▸ HX.2.1)),hq,h1.turn (k:=c) (by simp[HX.2.1]) HX.2.2.1 HX.2.2.2 f,?_,fun k hk hn hnc=>(f.block k (h1.lt.1 k (by simp[hk])) hnc).trans (h2 k hk hn)⟩;rw[hss _ _ 0 _ _ _ hc1];rfl)
 obtain⟨vs,hvs⟩:∃ vs,v=vs:=⟨_,rfl⟩
 obtain⟨a,cp,e1,_,_⟩:=hr.shape;clear h1 h2 hc1 cb hq hvs;subst e1;clear hr;go_wp2_with fail;go_ret;exact⟨rfl,FIN.o⟩
theorem PI {w0 w:World}{R:List Nat}{t d s n k:Nat}{E E':List Ent}{caps:Array Value}{L:List Int}(h:TxS w0 R w t d s n E)
  (hk:∀ w,(callFunc k caps).run Tryz.prog w=.ok (.enter k caps) w)(HC:∀ R' wa,(∀ k∈R,k∈R')->TxS w0 R' wa t d s n E->KeptT R t w wa->Calls Tryz.prog k caps wa fun e' w'=>∃ v,e'=.returned (.tuple #[v,(0:Int)])/\RowZ w' v L/\FreshB w0 R' t v/\TxS w0 (v.ownBlock.toList++R') w' t d s n E'/\KeptT R' t wa w') :
  () 51 #[t,.func (.func k) #[] caps] w fun e' w'=>∃ v,e'=.returned (.tuple #[v,(0:Int)])/\RowZ w' v L/\FreshB w0 R t v/\TxS w0 (v.ownBlock.toList++R) w' t d s n E'/\KeptT R t w w':=by
 obtain⟨a1,a2,a3,a4,a5,a6,a7⟩:=h.box (.cells #[.func (.func k) #[] caps] 91);obtain⟨x1,hx1⟩:∃ x1,w.alloc (.cells #[.func (.func k) #[] caps] 91)=x1:=⟨_,rfl⟩
 rw[hx1] at a1 a2 a3 a5;obtain⟨b1,b2,b3,b4,b5,b6,b7⟩:=a1.box (.cells #[.slice none 0 0] 22);obtain⟨x2,hx2⟩:∃ x2,x1.alloc (.cells #[.slice none 0 0] 22)=x2:=⟨_,rfl⟩
 rw[hx2] at b1 b2 b3 b5;rw[a5] at b1 b3 b4 b5 b6 b7;have hbk:=(b2 w.heap.size (by simp) a4).trans a3;have HK:=HC ((w.heap.size+1)::w.heap.size::R) x2 (fun k hk=>by simp[hk]) b1 (a2.trans (b2.sub (fun k hk=>by simp[hk])))
 have V1:=Hd (mZ (Q:=fun w'=>∃ v,RowZ w' v L/\FreshB w0 ((w.heap.size+1)::w.heap.size::R) t v/\TxS w0 (v.ownBlock.toList++((w.heap.size+1)::w.heap.size::R)) w' t d s n E'/\w'.heap[w.heap.size+1]?=some (.cells #[v] 22)/\∀ k∈((w.heap.size+1)::w.heap.size::R),k≠t->k≠w.heap.size+1->w'.heap[k]?=x2.heap[k]?) b1 (fun w=>by kernel_rfl) ((VX b1 hbk b3 (by simp) b4 b6 hk HK).mono fun e' w' g=>by
  obtain⟨g0,v,g1,g2,g3,g4,g5⟩:=g;exact⟨g0,g3.sub fun k hk=>List.mem_append_right _ hk,v,g1,g2,g3,g4,g5⟩))
 have KP:=Hd (And.intro a2 (And.intro b2 (And.intro a7 b7)));have X1:=Hd hx1;have X2:=Hd hx2;clear h HC a1 a2 a3 a4 a6 a7 b1 b2 b3 b4 b5 b6 b7 hbk HK hx1 hx2;have A5:=Hd a5;clear a5;go_enter Tryz.func51,Tryz.ntmps51;go_upto_region 2 with fail
 try simp only[Nat.add_assoc,Nat.reduceAdd,World.heap_size_alloc]
 rw[X1.o,X2.o];go_wp2_with fail;refine V1.mono ?_;rintro e' w4 ⟨rfl,h1,v,hr,hq,h2,h3,h4⟩;have c2:=(aD h3).1
 have FIN:Hid (∃ u,.returned (.tuple #[v,(0:Int)])=Ending.returned (.tuple #[u,(0:Int)])/\RowZ w4 u L/\FreshB w0 R t u/\TxS w0 (u.ownBlock.toList++R) w4 t d s n E'/\KeptT R t w w4):=Hd ⟨v,rfl,hr,hq.sub fun k hk=>by simp[hk],h2.sub (fun k hk=>by
  rcases List.mem_append.1 hk with hk|hk
  ·exact List.mem_append_left _ hk
  ·exact List.mem_append_right _ (by simp[hk])),fun k hk hn=>(h4 k (by simp[hk]) hn (KP.2.2.2 k (by simp[hk]))).trans ((KP.2.1 k (by simp[hk]) hn).trans (KP.1 k hk hn))⟩
 obtain⟨a,cp,e1,_,_⟩:=hr.shape;clear h1 h2 h3 h4 V1 hq;subst e1;clear hr;go_wp2_with fail;go_ret2;exact FIN.o
theorem aD0 {w0 w:World}{R:List Nat}{t d s n k:Nat}{E E':List Ent}{caps:Array Value}{L:List Int}(h:TxS w0 R w t d s n E)(B:List Obj)(hk:∀ w,(callFunc k caps).run Tryz.prog w=.ok (.enter k caps) w)
  (HC:∀ R' wa,TxS w0 R' wa t d s n E->oF w0 R' t w.heap.size wa B->Calls Tryz.prog k caps wa fun e' w'=>∃ v,e'=.returned (.tuple #[v,(0:Int)])/\RowZ w' v L/\FreshB w0 R' t v/\TxS w0 (v.ownBlock.toList++R') w' t d s n E'/\KeptT R' t wa w') :
  () 51 #[t,.func (.func k) #[] caps] (bV w B) fun e' w'=>∃ v,e'=.returned (.tuple #[v,(0:Int)])/\RowZ w' v L/\FreshB w0 R t v/\TxS w0 (v.ownBlock.toList++R) w' t d s n E'/\KeptT R t w w':=by
 obtain⟨b1,b2,b3,b4⟩:=h.boxes B;refine(PI b1 hk fun R' wa hs hT hK=>HC R' wa hT (h.boxesAt B hs hK)).mono ?_;rintro e' w' ⟨v,rfl,hr,hq,h1,h2⟩;refine⟨v,rfl,hr,hq.sub fun k hk=>List.mem_append_right _ hk,h1.sub fun k hk=>?_,b2.trans (h2.sub fun k hk=>List.mem_append_right _ hk)⟩
 rcases List.mem_append.1 hk with hk|hk
 ·exact List.mem_append_left _ hk
 ·exact List.mem_append_right _ (List.mem_append_right _ hk)
theorem aEU {w0 w:World}{R:List Nat}{t d s n k:Nat}{E E':List Ent}{caps:Array Value}{e:Int}{c0:Int}{c1:Int}{c2:Int}{c3:Int}{c4:Int}{c5:Int}{c6:Int}{c7:Int}{c8:Int}{c9:Bool}{y0:Int}{y1:Int}{y2:Int}{y3:Int}{y4:Int}{y5:Int}{y6:Int}{y7:Int}{y8:Int}{y9:Bool}(h:TxS w0 R w t d s n E)(L:List Obj)(r:Nat)(hr:w.heap.size+L.length=r)(he:(e=0/\y0=c0/\y1=c1/\y2=c2/\y3=c3/\y4=c4/\y5=c5/\y6=c6/\y7=c7/\y8=c8/\y9=c9)\/(e≠0/\y0=0/\y1=0/\y2=0/\y3=0/\y4=0/\y5=0/\y6=0/\y7=0/\y8=0/\y9=false))(hk:∀ w,(callFunc k caps).run Tryz.prog w=.ok (.enter k caps) w)
  (HC:∀ R' wa,TxS w0 R' wa t d s n E->oF w0 R' t w.heap.size wa L->Calls Tryz.prog k caps wa fun e' w'=>e'=.returned (.tuple #[.agg #[c0,c1,c2,c3,c4,c5,c6,c7,c8,c9],e])/\TxS w0 R' w' t d s n E'/\KeptT R' t wa w') :
  () 81 #[t,.func (.func k) #[] caps] ((bV w L).alloc (.cells #[(0:Int),(0:Int),(0:Int),(0:Int),(0:Int),(0:Int),(0:Int),(0:Int),(0:Int),false] 65)) fun e' w'=>e'=.returned (.tuple #[.agg #[y0,y1,y2,y3,y4,y5,y6,y7,y8,y9],e])/\w'.heap[r]?=some (.cells #[(0:Int),(0:Int),(0:Int),(0:Int),(0:Int),(0:Int),(0:Int),(0:Int),(0:Int),false] 65)/\((stC w' r (.int .i64 y0) (.int .i64 y1) (.int .i64 y2) (.int .i64 y3) (.int .i64 y4) (.int .i64 y5) (.int .i64 y6) (.int .i64 y7) (.int .i64 y8) (.bool y9)).heap[r]?=some (.cells #[y0,y1,y2,y3,y4,y5,y6,y7,y8,y9] 65)/\TxS w0 R (stC w' r (.int .i64 y0) (.int .i64 y1) (.int .i64 y2) (.int .i64 y3) (.int .i64 y4) (.int .i64 y5) (.int .i64 y6) (.int .i64 y7) (.int .i64 y8) (.bool y9)) t d s n E'/\KeptT R t w (stC w' r (.int .i64 y0) (.int .i64 y1) (.int .i64 y2) (.int .i64 y3) (.int .i64 y4) (.int .i64 y5) (.int .i64 y6) (.int .i64 y7) (.int .i64 y8) (.bool y9))):=by
 obtain⟨b1,b2,b3,b4⟩:=h.boxes L;obtain⟨a1,a2,a3,a4,a5,a6,a7⟩:=b1.box (.cells #[(0:Int),(0:Int),(0:Int),(0:Int),(0:Int),(0:Int),(0:Int),(0:Int),(0:Int),false] 65);have e1:(bV w L).heap.size=r:=b3.trans hr;rw[e1] at a1 a3 a4 a5 a6 a7;refine(TL a1 he hk fun R' wa hs hT hK=>HC R' wa hT (h.boxesAt L (fun k hk=>hs k (List.mem_cons_of_mem _ hk)) (a2.trans (hK.sub fun k hk=>List.mem_cons_of_mem _ hk)))).mono ?_;rintro e' w' ⟨rfl,h1,h2⟩;have r4:=(h2 r (by simp) a4).trans a3
 obtain⟨n1,n2⟩:=aA3 r4 (.int .i64 y0) (.int .i64 y1) (.int .i64 y2) (.int .i64 y3) (.int .i64 y4) (.int .i64 y5) (.int .i64 y6) (.int .i64 y7) (.int .i64 y8) (.bool y9);refine⟨rfl,r4,n1,(h1.turn (k:=r) (by simp) a4 a6 n2).sub (fun k hk=>by simp[hk]),fun k hk hn=>?_⟩;have hkk:k∈yB w.heap.size L++R:=List.mem_append_right _ hk;exact(n2.block k (h1.lt.1 k (by simp[hk])) (a7 k hkk)).trans ((h2 k (by simp[hk]) hn).trans ((a2 k hkk hn).trans (b2 k hk hn)))
theorem XN {w0 w:World}{R:List Nat}{t d s n k:Nat}{E E':List Ent}{caps:Array Value}{e:Int}{c0:Int}{c1:ByteArray}{c2:Int}{c3:Int}{y0:Int}{y1:ByteArray}{y2:Int}{y3:Int}(h:TxS w0 R w t d s n E)(L:List Obj)(r:Nat)(hr:w.heap.size+L.length=r)(he:(e=0/\y0=c0/\y1=c1/\y2=c2/\y3=c3)\/(e≠0/\y0=0/\y1=⟨#[]⟩/\y2=0/\y3=0))(hk:∀ w,(callFunc k caps).run Tryz.prog w=.ok (.enter k caps) w)
  (HC:∀ R' wa,TxS w0 R' wa t d s n E->oF w0 R' t w.heap.size wa L->Calls Tryz.prog k caps wa fun e' w'=>e'=.returned (.tuple #[.agg #[c0,c1,c2,c3],e])/\TxS w0 R' w' t d s n E'/\KeptT R' t wa w') :
  () 70 #[t,.func (.func k) #[] caps] ((bV w L).alloc (.cells #[(0:Int),.string ⟨#[]⟩,(0:Int),(0:Int)] 54)) fun e' w'=>e'=.returned (.tuple #[.agg #[y0,y1,y2,y3],e])/\w'.heap[r]?=some (.cells #[(0:Int),.string ⟨#[]⟩,(0:Int),(0:Int)] 54)/\((stW w' r (.int .i64 y0) (.string y1) (.int .i64 y2) (.int .i64 y3)).heap[r]?=some (.cells #[y0,y1,y2,y3] 54)/\TxS w0 R (stW w' r (.int .i64 y0) (.string y1) (.int .i64 y2) (.int .i64 y3)) t d s n E'/\KeptT R t w (stW w' r (.int .i64 y0) (.string y1) (.int .i64 y2) (.int .i64 y3))):=by
 obtain⟨b1,b2,b3,b4⟩:=h.boxes L;obtain⟨a1,a2,a3,a4,a5,a6,a7⟩:=b1.box (.cells #[(0:Int),.string ⟨#[]⟩,(0:Int),(0:Int)] 54);have e1:(bV w L).heap.size=r:=b3.trans hr;rw[e1] at a1 a3 a4 a5 a6 a7;refine(QP a1 he hk fun R' wa hs hT hK=>HC R' wa hT (h.boxesAt L (fun k hk=>hs k (List.mem_cons_of_mem _ hk)) (a2.trans (hK.sub fun k hk=>List.mem_cons_of_mem _ hk)))).mono ?_;rintro e' w' ⟨rfl,h1,h2⟩;have r4:=(h2 r (by simp) a4).trans a3;obtain⟨n1,n2⟩:=VO r4 (.int .i64 y0) (.string y1) (.int .i64 y2) (.int .i64 y3)
 refine⟨rfl,r4,n1,(h1.turn (k:=r) (by simp) a4 a6 n2).sub (fun k hk=>by simp[hk]),fun k hk hn=>?_⟩;have hkk:k∈yB w.heap.size L++R:=List.mem_append_right _ hk;exact(n2.block k (h1.lt.1 k (by simp[hk])) (a7 k hkk)).trans ((h2 k (by simp[hk]) hn).trans ((a2 k hkk hn).trans (b2 k hk hn)))
theorem aC3 {w0 w:World}{R:List Nat}{t d s n:Nat}{E E':List Ent}{id:Int}{e:Int}{c0:Int}{c1:Int}{c2:Int}{c3:Int}{c4:Int}{c5:Int}{c6:Int}{c7:Int}{c8:Int}{c9:Bool}{y0:Int}{y1:Int}{y2:Int}{y3:Int}{y4:Int}{y5:Int}{y6:Int}{y7:Int}{y8:Int}{y9:Bool}(h:TxS w0 R w t d s n E)(he:(e=0/\y0=c0/\y1=c1/\y2=c2/\y3=c3/\y4=c4/\y5=c5/\y6=c6/\y7=c7/\y8=c8/\y9=c9)\/(e≠0/\y0=0/\y1=0/\y2=0/\y3=0/\y4=0/\y5=0/\y6=0/\y7=0/\y8=0/\y9=false))
  (HC:∀ (R':List Nat) (wa:World) (b0 b1:Nat),TxS w0 R' wa t d s n E->(wa.heap[b0]?=some (.cells #[t] 24))->(wa.heap[b1]?=some (.cells #[id] 3))->((b0∈R'/\b0≠t/\w0.heap.size<=b0)/\(b1∈R'/\b1≠t/\w0.heap.size<=b1))->() 82 #[b1,b0] wa fun e' w'=>e'=.returned (.tuple #[.agg #[c0,c1,c2,c3,c4,c5,c6,c7,c8,c9],e])/\TxS w0 R' w' t d s n E'/\KeptT R' t wa w') :
  () 46 #[t,id] w fun e' w'=>e'=.returned (.tuple #[.agg #[y0,y1,y2,y3,y4,y5,y6,y7,y8,y9],e])/\TxS w0 R w' t d s n E'/\KeptT R t w w':=by
 have VC:=Hd (aEU h (caps:=#[.pointer (some ⟨w.heap.size+1,0,none⟩),.pointer (some ⟨w.heap.size,0,none⟩)]) (E':=E') [.cells #[t] 24,.cells #[id] 3] (w.heap.size+1+1) rfl he (fun w=>by kernel_rfl) (fun R' wa hT hB=>HC R' wa _ _ hT (hB 0 _ rfl).1 (hB 1 _ rfl).1 ⟨(hB 0 _ rfl).2,(hB 1 _ rfl).2⟩));obtain⟨x,hx⟩:∃ x,bV w [.cells #[t] 24,.cells #[id] 3]=x:=⟨_,rfl⟩
 have bx:((bV w [.cells #[t] 24,.cells #[id] 3]).alloc (.cells #[(0:Int),(0:Int),(0:Int),(0:Int),(0:Int),(0:Int),(0:Int),(0:Int),(0:Int),false] 65)).cell? ⟨w.heap.size,0,none⟩=some (.pointer (some ⟨t,0,none⟩)):=(aD ((hao _ _ (zl ((h.boxes [.cells #[t] 24,.cells #[id] 3]).2.2.2 0 _ rfl))).trans ((h.boxes [.cells #[t] 24,.cells #[id] 3]).2.2.2 0 _ rfl))).1;rw[hx] at VC bx
 have X1:Hid (((w.alloc (.cells #[t] 24)).alloc (.cells #[id] 3))=x):=Hd hx;clear h he HC hx;go_enter Tryz.func46,Tryz.ntmps46;go_upto_region 1 with fail
 try simp only[World.heap_size_alloc]
 rw[X1.o];go_wp2_with fail;refine VC.mono ?_;rintro e' w2 ⟨rfl,r4,h1⟩;obtain⟨⟨q0,q1,q2,q3,q4,q5,q6,q7,q8,q9⟩,u0,u1,u2,u3,u4,u5,u6,u7,u8,u9⟩:=dC r4;have FIN:=Hd h1;unfold stC at FIN;clear h1 VC bx r4;go_wp2_with fail;exact bodyPost_ret (v:=.tuple #[.agg #[y0,y1,y2,y3,y4,y5,y6,y7,y8,y9],e]) (bQ (fn:=Tryz.f46) rfl _ _ (w.heap.size+1+1) 65 _ (0,0) _ _ rfl rfl FIN.1 Tryz.underlying65 rfl mK) rfl ⟨rfl,FIN.2⟩
theorem aCX {w0 w:World}{R:List Nat}{t d s n:Nat}{E E':List Ent}{id:Int}{e:Int}{c0:Int}{c1:ByteArray}{c2:Int}{c3:Int}{y0:Int}{y1:ByteArray}{y2:Int}{y3:Int}(h:TxS w0 R w t d s n E)(he:(e=0/\y0=c0/\y1=c1/\y2=c2/\y3=c3)\/(e≠0/\y0=0/\y1=⟨#[]⟩/\y2=0/\y3=0))
  (HC:∀ (R':List Nat) (wa:World) (b0 b1:Nat),TxS w0 R' wa t d s n E->(wa.heap[b0]?=some (.cells #[t] 24))->(wa.heap[b1]?=some (.cells #[id] 3))->((b0∈R'/\b0≠t/\w0.heap.size<=b0)/\(b1∈R'/\b1≠t/\w0.heap.size<=b1))->() 78 #[b1,b0] wa fun e' w'=>e'=.returned (.tuple #[.agg #[c0,c1,c2,c3],e])/\TxS w0 R' w' t d s n E'/\KeptT R' t wa w') :
  () 33 #[t,id] w fun e' w'=>e'=.returned (.tuple #[.agg #[y0,y1,y2,y3],e])/\TxS w0 R w' t d s n E'/\KeptT R t w w':=by
 have VC:=Hd (XN h (caps:=#[.pointer (some ⟨w.heap.size+1,0,none⟩),.pointer (some ⟨w.heap.size,0,none⟩)]) (E':=E') [.cells #[t] 24,.cells #[id] 3] (w.heap.size+1+1) rfl he (fun w=>by kernel_rfl) (fun R' wa hT hB=>HC R' wa _ _ hT (hB 0 _ rfl).1 (hB 1 _ rfl).1 ⟨(hB 0 _ rfl).2,(hB 1 _ rfl).2⟩));obtain⟨x,hx⟩:∃ x,bV w [.cells #[t] 24,.cells #[id] 3]=x:=⟨_,rfl⟩
 have bx:((bV w [.cells #[t] 24,.cells #[id] 3]).alloc (.cells #[(0:Int),.string ⟨#[]⟩,(0:Int),(0:Int)] 54)).cell? ⟨w.heap.size,0,none⟩=some (.pointer (some ⟨t,0,none⟩)):=(aD ((hao _ _ (zl ((h.boxes [.cells #[t] 24,.cells #[id] 3]).2.2.2 0 _ rfl))).trans ((h.boxes [.cells #[t] 24,.cells #[id] 3]).2.2.2 0 _ rfl))).1;rw[hx] at VC bx
 have X1:Hid (((w.alloc (.cells #[t] 24)).alloc (.cells #[id] 3))=x):=Hd hx;clear h he HC hx;go_enter Tryz.func33,Tryz.ntmps33;go_upto_region 1 with fail
 try simp only[World.heap_size_alloc]
 rw[X1.o];go_wp2_with fail;refine VC.mono ?_;rintro e' w2 ⟨rfl,r4,h1⟩;obtain⟨⟨q0,q1,q2,q3⟩,u0,u1,u2,u3⟩:=fQ r4;have FIN:=Hd h1;unfold stW at FIN;clear h1 VC bx r4;go_wp2_with fail;exact bodyPost_ret (v:=.tuple #[.agg #[y0,y1,y2,y3],e]) (bQ (fn:=Tryz.f33) rfl _ _ (w.heap.size+1+1) 54 _ (0,0) _ _ rfl rfl FIN.1 Tryz.underlying54 rfl fW) rfl ⟨rfl,FIN.2⟩
theorem aC0 {w0 w:World}{R:List Nat}{t d s n:Nat}{E E':List Ent}{nm:ByteArray}{e:Int}{c0:Int}{c1:ByteArray}{c2:Int}{c3:Int}{y0:Int}{y1:ByteArray}{y2:Int}{y3:Int}(h:TxS w0 R w t d s n E)(he:(e=0/\y0=c0/\y1=c1/\y2=c2/\y3=c3)\/(e≠0/\y0=0/\y1=⟨#[]⟩/\y2=0/\y3=0))
  (HC:∀ (R':List Nat) (wa:World) (b0 b1:Nat),TxS w0 R' wa t d s n E->(wa.heap[b0]?=some (.cells #[t] 24))->(wa.heap[b1]?=some (.cells #[nm] 9))->((b0∈R'/\b0≠t/\w0.heap.size<=b0)/\(b1∈R'/\b1≠t/\w0.heap.size<=b1))->() 71 #[b1,b0] wa fun e' w'=>e'=.returned (.tuple #[.agg #[c0,c1,c2,c3],e])/\TxS w0 R' w' t d s n E'/\KeptT R' t wa w') :
  () 26 #[t,nm] w fun e' w'=>e'=.returned (.tuple #[.agg #[y0,y1,y2,y3],e])/\TxS w0 R w' t d s n E'/\KeptT R t w w':=by
 have VC:=Hd (XN h (caps:=#[.pointer (some ⟨w.heap.size+1,0,none⟩),.pointer (some ⟨w.heap.size,0,none⟩)]) (E':=E') [.cells #[t] 24,.cells #[nm] 9] (w.heap.size+1+1) rfl he (fun w=>by kernel_rfl) (fun R' wa hT hB=>HC R' wa _ _ hT (hB 0 _ rfl).1 (hB 1 _ rfl).1 ⟨(hB 0 _ rfl).2,(hB 1 _ rfl).2⟩));obtain⟨x,hx⟩:∃ x,bV w [.cells #[t] 24,.cells #[nm] 9]=x:=⟨_,rfl⟩
 have bx:((bV w [.cells #[t] 24,.cells #[nm] 9]).alloc (.cells #[(0:Int),.string ⟨#[]⟩,(0:Int),(0:Int)] 54)).cell? ⟨w.heap.size,0,none⟩=some (.pointer (some ⟨t,0,none⟩)):=(aD ((hao _ _ (zl ((h.boxes [.cells #[t] 24,.cells #[nm] 9]).2.2.2 0 _ rfl))).trans ((h.boxes [.cells #[t] 24,.cells #[nm] 9]).2.2.2 0 _ rfl))).1;rw[hx] at VC bx
 have X1:Hid (((w.alloc (.cells #[t] 24)).alloc (.cells #[nm] 9))=x):=Hd hx;clear h he HC hx;go_enter Tryz.func26,Tryz.ntmps26;go_upto_region 1 with fail
 try simp only[World.heap_size_alloc]
 rw[X1.o];go_wp2_with fail;refine VC.mono ?_;rintro e' w2 ⟨rfl,r4,h1⟩;obtain⟨⟨q0,q1,q2,q3⟩,u0,u1,u2,u3⟩:=fQ r4;have FIN:=Hd h1;unfold stW at FIN;clear h1 VC bx r4;go_wp2_with fail;exact bodyPost_ret (v:=.tuple #[.agg #[y0,y1,y2,y3],e]) (bQ (fn:=Tryz.f26) rfl _ _ (w.heap.size+1+1) 54 _ (0,0) _ _ rfl rfl FIN.1 Tryz.underlying54 rfl fW) rfl ⟨rfl,FIN.2⟩
theorem aCW {w0 w:World}{R:List Nat}{t d s n:Nat}{E E':List Ent}{nm:ByteArray}{li:Int}{x e y:Int}(h:TxS w0 R w t d s n E)(he:(e=0/\y=x)\/(e≠0/\y=0))
  (HC:∀ (R':List Nat) (wa:World) (b0 b1 b2:Nat),TxS w0 R' wa t d s n E->(wa.heap[b0]?=some (.cells #[t] 24))->(wa.heap[b1]?=some (.cells #[nm] 9))->(wa.heap[b2]?=some (.cells #[li] 3))->((b0∈R'/\b0≠t/\w0.heap.size<=b0)/\(b1∈R'/\b1≠t/\w0.heap.size<=b1)/\(b2∈R'/\b2≠t/\w0.heap.size<=b2))->() 24 #[b1,b2,b0] wa fun e' w'=>e'=.returned (.tuple #[.int .i64 x,e])/\TxS w0 R' w' t d s n E'/\KeptT R' t wa w') :
  () 9 #[t,nm,li] w fun e' w'=>e'=.returned (.tuple #[y,e])/\TxS w0 R w' t d s n E'/\KeptT R t w w':=by
 have VC:=Hd (MF h (caps:=#[.pointer (some ⟨w.heap.size+1,0,none⟩),.pointer (some ⟨w.heap.size+1+1,0,none⟩),.pointer (some ⟨w.heap.size,0,none⟩)]) (E':=E') [.cells #[t] 24,.cells #[nm] 9,.cells #[li] 3] he (fun w=>by kernel_rfl) (fun R' wa hT hB=>HC R' wa _ _ _ hT (hB 0 _ rfl).1 (hB 1 _ rfl).1 (hB 2 _ rfl).1 ⟨(hB 0 _ rfl).2,(hB 1 _ rfl).2,(hB 2 _ rfl).2⟩));obtain⟨x,hx⟩:∃ x,bV w [.cells #[t] 24,.cells #[nm] 9,.cells #[li] 3]=x:=⟨_,rfl⟩
 have bx:(bV w [.cells #[t] 24,.cells #[nm] 9,.cells #[li] 3]).cell? ⟨w.heap.size,0,none⟩=some (.pointer (some ⟨t,0,none⟩)):=(aD ((h.boxes [.cells #[t] 24,.cells #[nm] 9,.cells #[li] 3]).2.2.2 0 _ rfl)).1;rw[hx] at VC bx;have X1:Hid ((((w.alloc (.cells #[t] 24)).alloc (.cells #[nm] 9)).alloc (.cells #[li] 3))=x):=Hd hx;clear h he HC hx;go_enter Tryz.func9,Tryz.ntmps9;go_upto_region 1 with fail
 try simp only[World.heap_size_alloc]
 rw[X1.o];go_wp2_with fail;refine VC.mono ?_;rintro e' w2 ⟨rfl,h1⟩;have FIN:=Hd h1;clear h1 VC bx;go_wp2_with fail;go_ret2;exact⟨rfl,FIN.o⟩
theorem aC1 {w0 w:World}{R:List Nat}{t d s n:Nat}{E E':List Ent}{ow ob ri ba ex:Int}{x e y:Int}(h:TxS w0 R w t d s n E)(he:(e=0/\y=x)\/(e≠0/\y=0))
  (HC:∀ (R':List Nat) (wa:World) (b0 b1 b2 b3 b4 b5:Nat),TxS w0 R' wa t d s n E->(wa.heap[b0]?=some (.cells #[t] 24))->(wa.heap[b1]?=some (.cells #[ow] 3))->(wa.heap[b2]?=some (.cells #[ob] 3))->(wa.heap[b3]?=some (.cells #[ri] 3))->(wa.heap[b4]?=some (.cells #[ba] 3))->(wa.heap[b5]?=some (.cells #[ex] 3))->((b0∈R'/\b0≠t/\w0.heap.size<=b0)/\(b1∈R'/\b1≠t/\w0.heap.size<=b1)/\(b2∈R'/\b2≠t/\w0.heap.size<=b2)/\(b3∈R'/\b3≠t/\w0.heap.size<=b3)/\(b4∈R'/\b4≠t/\w0.heap.size<=b4)/\(b5∈R'/\b5≠t/\w0.heap.size<=b5))->() 30 #[b2,b3,b4,b5,b0,b1] wa fun e' w'=>e'=.returned (.tuple #[.int .i64 x,e])/\TxS w0 R' w' t d s n E'/\KeptT R' t wa w') :
  () 11 #[t,ow,ob,ri,ba,ex] w fun e' w'=>e'=.returned (.tuple #[y,e])/\TxS w0 R w' t d s n E'/\KeptT R t w w':=by
 have VC:=Hd (MF h (caps:=#[.pointer (some ⟨w.heap.size+1+1,0,none⟩),.pointer (some ⟨w.heap.size+1+1+1,0,none⟩),.pointer (some ⟨w.heap.size+1+1+1+1,0,none⟩),.pointer (some ⟨w.heap.size+1+1+1+1+1,0,none⟩),.pointer (some ⟨w.heap.size,0,none⟩),.pointer (some ⟨w.heap.size+1,0,none⟩)]) (E':=E') [.cells #[t] 24,.cells #[ow] 3,.cells #[ob] 3,.cells #[ri] 3,.cells #[ba] 3,.cells #[ex] 3] he (fun w=>by kernel_rfl) (fun R' wa hT hB=>HC R' wa _ _ _ _ _ _ hT (hB 0 _ rfl).1 (hB 1 _ rfl).1 (hB 2 _ rfl).1 (hB 3 _ rfl).1 (hB 4 _ rfl).1 (hB 5 _ rfl).1 ⟨(hB 0 _ rfl).2,(hB 1 _ rfl).2,(hB 2 _ rfl).2,(hB 3 _ rfl).2,(hB 4 _ rfl).2,(hB 5 _ rfl).2⟩))
 obtain⟨x,hx⟩:∃ x,bV w [.cells #[t] 24,.cells #[ow] 3,.cells #[ob] 3,.cells #[ri] 3,.cells #[ba] 3,.cells #[ex] 3]=x:=⟨_,rfl⟩
 have bx:(bV w [.cells #[t] 24,.cells #[ow] 3,.cells #[ob] 3,.cells #[ri] 3,.cells #[ba] 3,.cells #[ex] 3]).cell? ⟨w.heap.size,0,none⟩=some (.pointer (some ⟨t,0,none⟩)):=(aD ((h.boxes [.cells #[t] 24,.cells #[ow] 3,.cells #[ob] 3,.cells #[ri] 3,.cells #[ba] 3,.cells #[ex] 3]).2.2.2 0 _ rfl)).1;rw[hx] at VC bx
 have X1:Hid (((((((w.alloc (.cells #[t] 24)).alloc (.cells #[ow] 3)).alloc (.cells #[ob] 3)).alloc (.cells #[ri] 3)).alloc (.cells #[ba] 3)).alloc (.cells #[ex] 3))=x):=Hd hx;clear h he HC hx;go_enter Tryz.func11,Tryz.ntmps11;go_upto_region 1 with fail
 try simp only[World.heap_size_alloc]
 rw[X1.o];go_wp2_with fail;refine VC.mono ?_;rintro e' w2 ⟨rfl,h1⟩;have FIN:=Hd h1;clear h1 VC bx;go_wp2_with fail;go_ret2;exact⟨rfl,FIN.o⟩
theorem aCV {w0 w:World}{R:List Nat}{t d s n:Nat}{E E':List Ent}{id now:Int}{e:Int}(h:TxS w0 R w t d s n E)
  (HC:∀ (R':List Nat) (wa:World) (b0 b1 b2:Nat),TxS w0 R' wa t d s n E->(wa.heap[b0]?=some (.cells #[t] 24))->(wa.heap[b1]?=some (.cells #[id] 3))->(wa.heap[b2]?=some (.cells #[now] 3))->((b0∈R'/\b0≠t/\w0.heap.size<=b0)/\(b1∈R'/\b1≠t/\w0.heap.size<=b1)/\(b2∈R'/\b2≠t/\w0.heap.size<=b2))->() 42 #[b0,b1,b2] wa fun e' w'=>e'=.returned e/\TxS w0 R' w' t d s n E'/\KeptT R' t wa w') :
  () 14 #[t,id,now] w fun e' w'=>e'=.returned e/\TxS w0 R w' t d s n E'/\KeptT R t w w':=by
 have VC:=Hd (yP h (caps:=#[.pointer (some ⟨w.heap.size,0,none⟩),.pointer (some ⟨w.heap.size+1,0,none⟩),.pointer (some ⟨w.heap.size+1+1,0,none⟩)]) (E':=E') [.cells #[t] 24,.cells #[id] 3,.cells #[now] 3] (fun w=>by kernel_rfl) (fun R' wa hT hB=>HC R' wa _ _ _ hT (hB 0 _ rfl).1 (hB 1 _ rfl).1 (hB 2 _ rfl).1 ⟨(hB 0 _ rfl).2,(hB 1 _ rfl).2,(hB 2 _ rfl).2⟩));obtain⟨x,hx⟩:∃ x,bV w [.cells #[t] 24,.cells #[id] 3,.cells #[now] 3]=x:=⟨_,rfl⟩
 have bx:(bV w [.cells #[t] 24,.cells #[id] 3,.cells #[now] 3]).cell? ⟨w.heap.size,0,none⟩=some (.pointer (some ⟨t,0,none⟩)):=(aD ((h.boxes [.cells #[t] 24,.cells #[id] 3,.cells #[now] 3]).2.2.2 0 _ rfl)).1;rw[hx] at VC bx;have X1:Hid ((((w.alloc (.cells #[t] 24)).alloc (.cells #[id] 3)).alloc (.cells #[now] 3))=x):=Hd hx;clear h HC hx;go_enter Tryz.func14,Tryz.ntmps14;go_upto_region 1 with fail
 try simp only[World.heap_size_alloc]
 rw[X1.o];go_wp2_with fail;refine VC.mono ?_;rintro e' w2 ⟨rfl,h1⟩;have FIN:=Hd h1;clear h1 VC bx;go_wp2_with fail;go_ret;exact⟨rfl,FIN.o⟩
theorem yE {w0 w:World}{R:List Nat}{t d s n:Nat}{E E':List Ent}{id ex now:Int}{e:Int}(h:TxS w0 R w t d s n E)
  (HC:∀ (R':List Nat) (wa:World) (b0 b1 b2 b3:Nat),TxS w0 R' wa t d s n E->(wa.heap[b0]?=some (.cells #[t] 24))->(wa.heap[b1]?=some (.cells #[id] 3))->(wa.heap[b2]?=some (.cells #[ex] 3))->(wa.heap[b3]?=some (.cells #[now] 3))->((b0∈R'/\b0≠t/\w0.heap.size<=b0)/\(b1∈R'/\b1≠t/\w0.heap.size<=b1)/\(b2∈R'/\b2≠t/\w0.heap.size<=b2)/\(b3∈R'/\b3≠t/\w0.heap.size<=b3))->() 44 #[b0,b1,b3,b2] wa fun e' w'=>e'=.returned e/\TxS w0 R' w' t d s n E'/\KeptT R' t wa w') :
  () 15 #[t,id,ex,now] w fun e' w'=>e'=.returned e/\TxS w0 R w' t d s n E'/\KeptT R t w w':=by
 have VC:=Hd (yP h (caps:=#[.pointer (some ⟨w.heap.size,0,none⟩),.pointer (some ⟨w.heap.size+1,0,none⟩),.pointer (some ⟨w.heap.size+1+1+1,0,none⟩),.pointer (some ⟨w.heap.size+1+1,0,none⟩)]) (E':=E') [.cells #[t] 24,.cells #[id] 3,.cells #[ex] 3,.cells #[now] 3] (fun w=>by kernel_rfl) (fun R' wa hT hB=>HC R' wa _ _ _ _ hT (hB 0 _ rfl).1 (hB 1 _ rfl).1 (hB 2 _ rfl).1 (hB 3 _ rfl).1 ⟨(hB 0 _ rfl).2,(hB 1 _ rfl).2,(hB 2 _ rfl).2,(hB 3 _ rfl).2⟩))
 obtain⟨x,hx⟩:∃ x,bV w [.cells #[t] 24,.cells #[id] 3,.cells #[ex] 3,.cells #[now] 3]=x:=⟨_,rfl⟩
 have bx:(bV w [.cells #[t] 24,.cells #[id] 3,.cells #[ex] 3,.cells #[now] 3]).cell? ⟨w.heap.size,0,none⟩=some (.pointer (some ⟨t,0,none⟩)):=(aD ((h.boxes [.cells #[t] 24,.cells #[id] 3,.cells #[ex] 3,.cells #[now] 3]).2.2.2 0 _ rfl)).1;rw[hx] at VC bx;have X1:Hid (((((w.alloc (.cells #[t] 24)).alloc (.cells #[id] 3)).alloc (.cells #[ex] 3)).alloc (.cells #[now] 3))=x):=Hd hx;clear h HC hx
 go_enter Tryz.func15,Tryz.ntmps15;go_upto_region 1 with fail
 try simp only[World.heap_size_alloc]
 rw[X1.o];go_wp2_with fail;refine VC.mono ?_;rintro e' w2 ⟨rfl,h1⟩;have FIN:=Hd h1;clear h1 VC bx;go_wp2_with fail;go_ret;exact⟨rfl,FIN.o⟩
theorem aB5 {w0 w:World}{R:List Nat}{t d s n:Nat}{E E':List Ent}{id:Int}{e:Int}(h:TxS w0 R w t d s n E)
  (HC:∀ (R':List Nat) (wa:World) (b0 b1:Nat),TxS w0 R' wa t d s n E->(wa.heap[b0]?=some (.cells #[t] 24))->(wa.heap[b1]?=some (.cells #[id] 3))->((b0∈R'/\b0≠t/\w0.heap.size<=b0)/\(b1∈R'/\b1≠t/\w0.heap.size<=b1))->() 56 #[b0,b1] wa fun e' w'=>e'=.returned e/\TxS w0 R' w' t d s n E'/\KeptT R' t wa w') :
  () 17 #[t,id] w fun e' w'=>e'=.returned e/\TxS w0 R w' t d s n E'/\KeptT R t w w':=by
 have VC:=Hd (yP h (caps:=#[.pointer (some ⟨w.heap.size,0,none⟩),.pointer (some ⟨w.heap.size+1,0,none⟩)]) (E':=E') [.cells #[t] 24,.cells #[id] 3] (fun w=>by kernel_rfl) (fun R' wa hT hB=>HC R' wa _ _ hT (hB 0 _ rfl).1 (hB 1 _ rfl).1 ⟨(hB 0 _ rfl).2,(hB 1 _ rfl).2⟩));obtain⟨x,hx⟩:∃ x,bV w [.cells #[t] 24,.cells #[id] 3]=x:=⟨_,rfl⟩
 have bx:(bV w [.cells #[t] 24,.cells #[id] 3]).cell? ⟨w.heap.size,0,none⟩=some (.pointer (some ⟨t,0,none⟩)):=(aD ((h.boxes [.cells #[t] 24,.cells #[id] 3]).2.2.2 0 _ rfl)).1;rw[hx] at VC bx;have X1:Hid (((w.alloc (.cells #[t] 24)).alloc (.cells #[id] 3))=x):=Hd hx;clear h HC hx;go_enter Tryz.func17,Tryz.ntmps17;go_upto_region 1 with fail
 try simp only[World.heap_size_alloc]
 rw[X1.o];go_wp2_with fail;refine VC.mono ?_;rintro e' w2 ⟨rfl,h1⟩;have FIN:=Hd h1;clear h1 VC bx;go_wp2_with fail;go_ret;exact⟨rfl,FIN.o⟩
theorem aB7 {w0 w:World}{R:List Nat}{t d s n:Nat}{E E':List Ent}{now mo:Int}{L:List Int}(h:TxS w0 R w t d s n E)
  (HC:∀ (R':List Nat) (wa:World) (b0 b1 b2:Nat),TxS w0 R' wa t d s n E->(wa.heap[b0]?=some (.cells #[t] 24))->(wa.heap[b1]?=some (.cells #[now] 3))->(wa.heap[b2]?=some (.cells #[mo] 3))->((b0∈R'/\b0≠t/\w0.heap.size<=b0)/\(b1∈R'/\b1≠t/\w0.heap.size<=b1)/\(b2∈R'/\b2≠t/\w0.heap.size<=b2))->() 52 #[b2,b0,b1] wa fun e' w'=>∃ v,e'=.returned (.tuple #[v,(0:Int)])/\RowZ w' v L/\FreshB w0 R' t v/\TxS w0 (v.ownBlock.toList++R') w' t d s n E'/\KeptT R' t wa w') :
  () 16 #[t,now,mo] w fun e' w'=>∃ v,e'=.returned (.tuple #[v,(0:Int)])/\RowZ w' v L/\FreshB w0 R t v/\TxS w0 (v.ownBlock.toList++R) w' t d s n E'/\KeptT R t w w':=by
 have VC:=Hd (aD0 (L:=L) h (caps:=#[.pointer (some ⟨w.heap.size+1+1,0,none⟩),.pointer (some ⟨w.heap.size,0,none⟩),.pointer (some ⟨w.heap.size+1,0,none⟩)]) (E':=E') [.cells #[t] 24,.cells #[now] 3,.cells #[mo] 3] (fun w=>by kernel_rfl) (fun R' wa hT hB=>HC R' wa _ _ _ hT (hB 0 _ rfl).1 (hB 1 _ rfl).1 (hB 2 _ rfl).1 ⟨(hB 0 _ rfl).2,(hB 1 _ rfl).2,(hB 2 _ rfl).2⟩));obtain⟨x,hx⟩:∃ x,bV w [.cells #[t] 24,.cells #[now] 3,.cells #[mo] 3]=x:=⟨_,rfl⟩
 have bx:(bV w [.cells #[t] 24,.cells #[now] 3,.cells #[mo] 3]).cell? ⟨w.heap.size,0,none⟩=some (.pointer (some ⟨t,0,none⟩)):=(aD ((h.boxes [.cells #[t] 24,.cells #[now] 3,.cells #[mo] 3]).2.2.2 0 _ rfl)).1;rw[hx] at VC bx;have X1:Hid ((((w.alloc (.cells #[t] 24)).alloc (.cells #[now] 3)).alloc (.cells #[mo] 3))=x):=Hd hx;clear h HC hx;go_enter Tryz.func16,Tryz.ntmps16;go_upto_region 1 with fail
 try simp only[World.heap_size_alloc]
 rw[X1.o];go_wp2_with fail;refine VC.mono ?_;rintro e' w2 ⟨v,rfl,h1⟩;have FIN:Hid (∃ u,Ending.returned (.tuple #[v,(0:Int)])=.returned (.tuple #[u,(0:Int)])/\RowZ w2 u L/\FreshB w0 R t u/\TxS w0 (u.ownBlock.toList++R) w2 t d s n E'/\KeptT R t w w2):=Hd ⟨v,rfl,h1⟩;obtain⟨a,cp,e1,_,_⟩:=h1.1.shape;clear h1 VC bx;subst e1;go_wp2_with fail;go_ret2;exact FIN.o
theorem mB {w w':World}{g:Nat}{o:Obj}(h:w.heap[g]?=some o)(b:Below w.heap.size w w'):w'.heap[g]?=some o:=(b.block g (zl h)).trans h
theorem KF (n:Int)(v:Bool)(w:World)(hv:inB 1 16777215 n=v) :
  () 31 #[n] w fun e w'=>e=.returned (.bool v)/\w=w':=by
 have H:=Hd hv;clear hv
 by_cases h:1<=n
 all_goals
  go_enter Tryz.func31,Tryz.ntmps31
  go_wp2
  go_ret;refine⟨?_,rfl⟩;rw[<-H.o];exact aS (by rw[Bool.eq_iff_iff];simp[inB];omega)
theorem jY (k a b q:Int)(w:World)(hq:aE k a b=q) :
  () 75 #[k,a,b] w fun e w'=>e=.returned (.int .u64 q)/\w=w':=by
 have HQ:=Hd hq;clear hq;go_enter Tryz.func75,Tryz.ntmps75;go_wp2_with fail;refine(nZ _ _ _ _).mono ?_;rw[HQ.o];rintro e w1 ⟨rfl,rfl⟩;go_wp2_with fail;go_ret;exact⟨rfl,rfl⟩
theorem MN {w0 w:World}{R:List Nat}{t d s n:Nat}{E:List Ent}{m q v y:Int}(h:TxS w0 R w t d s n E)(hE:E.length<=600)(hq:aE 9 0 m=q/\bS 9 0 m=true)(hn:NumE E q v)(hv:v<16777215)(hy:v+1=y) :
  () 27 #[t,m] w fun e w'=>e=.returned (.tuple #[y,(0:Int)])/\TxS w0 R w' t d s n E/\KeptT R t w w':=by
 have NU:=Hd (aCZ h hE hq hn);have e1:¬ v=16777215:=by omega
 have hr:=hn.range;have e2:IntKind.i64.wrap (v+1)=y:=by rw[hy];exact IntWalk.i64_in _ (by omega)
 clear h hE hq hn hv hy hr;go_enter Tryz.func27,Tryz.ntmps27;go_wp2_with fail;refine NU.mono ?_;rintro e w2 ⟨rfl,h1⟩;have FIN:=Hd h1;clear h1 NU;go_wp2_with fail;go_ret2;exact⟨rfl,FIN.o⟩
theorem DZ {w0 w:World}{R:List Nat}{t d s:Nat}{E:List Ent}{m q v:Int}{X:ByteArray}(h:TxS w0 R w t d s 640 E)(hE:E.length<=300)(hq:aE 9 0 m=q)(hv:0<=v/\v<=16777215)(hX:Str (aK v 3)=X) :
  () 28 #[t,m,v] w fun e w'=>e=.returned (.tuple #[])/\TxS w0 R w' t d s 640 (aY q X E)/\KeptT R t w w':=by
 have hXs:=(BV hv.1 hv.2).2.2.2;rw[hX] at hXs;have PT:=Hd (fun w=>by have:=lL v 3 w hv.1;rw[hX] at this;exact this);have KY:=Hd (fun w=>jY 9 0 m q w hq);have e4:IntKind.u64.wrap v=v:=IntWalk.u64_in _ (by omega);have hqr:=cG 9 0 m;rw[hq] at hqr;have HX:=Hd (And.intro h (And.intro hE (And.intro hqr (show X.size<=40 by omega))));clear h hE hq hv hX hXs hqr;go_enter Tryz.func28,Tryz.ntmps28;go_wp2_with fail;refine(PT _).mono ?_;rintro e w2 ⟨rfl,b2⟩
 have PU:=Hd (pR (key:=q) (val:=X) (HX.1.below b2) HX.2.1 HX.2.2.1 HX.2.2.2);have K2:=Hd (HX.1.kept b2);clear b2;go_wp2_with fail;refine(KY _).mono ?_;rintro e w3 ⟨rfl,rfl⟩;go_wp2_with fail;refine PU.mono ?_;rintro e w3 ⟨rfl,h1,h2⟩;have FIN:=Hd (And.intro h1 (K2.trans h2));clear h1 h2 PU;go_wp2_with fail
 go_end0
 exact⟨rfl,FIN.o⟩
theorem ZP {w0 w:World}{R:List Nat}{t d s:Nat}{E:List Ent}{id q:Int}{c:bG}{X:ByteArray}(h:TxS w0 R w t d s 640 E)(hE:E.length<=300)(hok:fV id c)(hX:dH c=X)(hq:aE 1 0 id=q) :
  () 79 #[t,.agg #[id,c.pa,c.ob,c.ow,c.ri,c.ba,c.de,c.ex,c.cu,c.rv]] w fun e w'=>e=.returned (.tuple #[])/\TxS w0 R w' t d s 640 (aY q X E)/\KeptT R t w w':=by
 obtain⟨a1,a2,a3,a4,a5,a6,a7⟩:=h.box (.cells #[id,c.pa,c.ob,c.ow,c.ri,c.ba,c.de,c.ex,c.cu,c.rv] 65);obtain⟨x1,hx1⟩:∃ x1,w.alloc (.cells #[id,c.pa,c.ob,c.ow,c.ri,c.ba,c.de,c.ex,c.cu,c.rv] 65)=x1:=⟨_,rfl⟩
 rw[hx1] at a1 a2 a3 a5;have PT:=Hd (fun w=>by have:=BJ id c w hok;rw[hX] at this;exact this);have KY:=Hd (fun w=>jY 1 0 id q w hq);have hqr:=cG 1 0 id;rw[hq] at hqr;have hXs:X.size<=40:=by rw[<-hX];have:=xG hok;omega
 have HX:=Hd (And.intro hE (And.intro hXs hqr));have HA:=Hd (And.intro a1 (And.intro a2 (And.intro a3 a4)));obtain⟨⟨k0,k1,k2,k3,k4,k5,k6,k7,k8,k9⟩,_⟩:=dC a3;clear h hE hok hX hXs hq hqr a1 a2 a3 a4 a5 a6 a7;go_enter Tryz.func79,Tryz.ntmps79;go_upto_region 1 with fail
 try rw[hx1]
 clear hx1;go_wp2_with fail;refine(PT _).mono ?_;rintro e w2 ⟨rfl,b2⟩;have m2:=mB HA.2.2.1 b2;have T2:=Hd (And.intro (HA.1.below b2) (HA.1.kept b2));obtain⟨⟨c0,c1,c2,c3,c4,c5,c6,c7,c8,c9⟩,_⟩:=dC m2;clear k0 k1 k2 k3 k4 k5 k6 k7 k8 k9 m2 b2;go_wp2_with fail;refine(KY _).mono ?_;rintro e w3 ⟨rfl,rfl⟩;have PU:=Hd (pR T2.1 HX.1 HX.2.2 HX.2.1);clear c0 c1 c2 c3 c4 c5 c6 c7 c8 c9;go_wp2_with fail;refine PU.mono ?_;rintro e w3 ⟨rfl,h1,h2⟩
 have FIN:Hid (TxS w0 R w3 t d s 640 (aY q X E)/\KeptT R t w w3):=Hd ⟨h1.sub (fun k hk=>by simp[hk]),HA.2.1.trans ((T2.2.sub (fun k hk=>by simp[hk])).trans (h2.sub (fun k hk=>by simp[hk])))⟩;clear h1 h2 PU;go_wp2_with fail
 go_end0
 exact⟨rfl,FIN.o⟩
theorem DR {w0 w:World}{R:List Nat}{t d s:Nat}{E:List Ent}{id q:Int}{p:dU}{X:ByteArray}(h:TxS w0 R w t d s 640 E)(hE:E.length<=300)(hok:gX id p)(hX:fZ p=X)(hq:aE 3 0 id=q) :
  () 29 #[t,.agg #[id,p.nm,p.li,p.ha]] w fun e w'=>e=.returned (.tuple #[])/\TxS w0 R w' t d s 640 (aY q X E)/\KeptT R t w w':=by
 obtain⟨a1,a2,a3,a4,a5,a6,a7⟩:=h.box (.cells #[id,p.nm,p.li,p.ha] 54);obtain⟨x1,hx1⟩:∃ x1,w.alloc (.cells #[id,p.nm,p.li,p.ha] 54)=x1:=⟨_,rfl⟩
 rw[hx1] at a1 a2 a3 a5;have PT:=Hd (fun w=>by have:=WS id p w hok;rw[hX] at this;exact this);have KY:=Hd (fun w=>jY 3 0 id q w hq);have hqr:=cG 3 0 id;rw[hq] at hqr;have hXs:X.size<=40:=by rw[<-hX];have:=(qX hok).1;omega
 have HX:=Hd (And.intro hE (And.intro hXs hqr));have HA:=Hd (And.intro a1 (And.intro a2 (And.intro a3 a4)));obtain⟨⟨k0,k1,k2,k3⟩,_⟩:=fQ a3;clear h hE hok hX hXs hq hqr a1 a2 a3 a4 a5 a6 a7;go_enter Tryz.func29,Tryz.ntmps29;go_upto_region 1 with fail
 try rw[hx1]
 clear hx1;go_wp2_with fail;refine(PT _).mono ?_;rintro e w2 ⟨rfl,b2⟩;have m2:=mB HA.2.2.1 b2;have T2:=Hd (And.intro (HA.1.below b2) (HA.1.kept b2));obtain⟨⟨c0,c1,c2,c3⟩,_⟩:=fQ m2;clear k0 k1 k2 k3 m2 b2;go_wp2_with fail;refine(KY _).mono ?_;rintro e w3 ⟨rfl,rfl⟩;have PU:=Hd (pR T2.1 HX.1 HX.2.2 HX.2.1);clear c0 c1 c2 c3;go_wp2_with fail;refine PU.mono ?_;rintro e w3 ⟨rfl,h1,h2⟩
 have FIN:Hid (TxS w0 R w3 t d s 640 (aY q X E)/\KeptT R t w w3):=Hd ⟨h1.sub (fun k hk=>by simp[hk]),HA.2.1.trans ((T2.2.sub (fun k hk=>by simp[hk])).trans (h2.sub (fun k hk=>by simp[hk])))⟩;clear h1 h2 PU;go_wp2_with fail
 go_end0
 exact⟨rfl,FIN.o⟩
theorem aC2 (ri ba ex:Int)(v:Bool)(w:World)(hv:(oG ri ri&&(inB 0 4294967295 ba&&inB 0 268435455 ex))=v) :
  () 32 #[ri,ba,ex] w fun e w'=>e=.returned (.bool v)/\w=w':=by
 obtain⟨b,hb⟩:∃ b,oG ri ri=b:=⟨_,rfl⟩
 have SU:=Hd (fun w=>VG ri ri b w hb);rw[hb] at hv;have H:=Hd hv;clear hv hb
 cases b <;> by_cases h0:0<=ba <;> by_cases h1:ba<=4294967295 <;> by_cases h2:0<=ex
 all_goals try (exfalso;omega)
 all_goals
  go_enter Tryz.func32,Tryz.ntmps32;go_wp2_with fail;refine(SU _).mono ?_;rintro e w1 ⟨rfl,rfl⟩;go_wp2_with fail;go_ret;refine⟨?_,rfl⟩;rw[<-H.o];exact aS (by rw[Bool.eq_iff_iff];first|(simp[inB];done)|(simp[inB];omega))
theorem KH {w0 w:World}{R:List Nat}{t d s bi bt n:Nat}{E:List Ent}{ii:Int}{q:Int}(h:TxS w0 R w t d s n E)(hc:w.heap[bi]?=some (.cells #[ii] 3))(hb:w.heap[bt]?=some (.cells #[t] 24))(hm:(bi∈R/\bi≠t/\w0.heap.size<=bi)/\(bt∈R/\bt≠t/\w0.heap.size<=bt))(hE:E.length<=600)(hi:1<=ii/\ii<=16777215)(hq:aE 1 0 ii=q){c:bG}(hg:cP q E=some (dH c))(hok:fV ii c) :
  () 82 #[bi,bt] w fun e w'=>e=.returned (.tuple #[.agg #[ii,c.pa,c.ob,c.ow,c.ri,c.ba,c.de,c.ex,c.cu,c.rv],(0:Int)])/\TxS w0 R w' t d s n E/\KeptT R t w w':=by
 obtain⟨a1,a2,a3,a4,a5,a6,a7⟩:=h.box (.cells #[(0:Int),(0:Int),(0:Int),(0:Int),(0:Int),(0:Int),(0:Int),(0:Int),(0:Int),false] 65);obtain⟨r3,hr3⟩:∃ r3,w.heap.size=r3:=⟨_,rfl⟩
 obtain⟨x1,hx1⟩:∃ x1,w.alloc (.cells #[(0:Int),(0:Int),(0:Int),(0:Int),(0:Int),(0:Int),(0:Int),(0:Int),(0:Int),false] 65)=x1:=⟨_,rfl⟩
 rw[hx1] at a1 a2 a3 a5;rw[hr3] at a1 a3 a4 a5 a6 a7;have X1:=Hd hx1;have HR4:=Hd (And.intro a6 a7);have A3:=Hd (And.intro a3 a4);have A2:=Hd (And.intro a2 a1);have d0:=(aD ((a2 bi hm.1.1 hm.1.2.1).trans hc)).1;have HX:=Hd hm;have HS0:=Hd (show(fun w':World=>w'.heap[bi]?=some (.cells #[ii] 3)/\w'.heap[bt]?=some (.cells #[t] 24)) x1.drew from⟨(a2 bi hm.1.1 hm.1.2.1).trans hc,(a2 bt hm.2.1 hm.2.2.1).trans hb⟩);have hqr:=cG 1 0 ii;rw[hq] at hqr;have HQ:=Hd hq
 have ID:=Hd (fun w=>KF ii true w (by unfold inB;simp;omega));obtain⟨X,hX⟩:∃ X,dH c=X:=⟨_,rfl⟩
 have TA:=Hd (fun w=>by have:=ON ii c w hok;rw[hX] at this;exact this);rw[hX] at hg;have GE:=Hd (wW (key:=q) (a1.below Br.drew) hE hqr X true (gL hg).1 (gL hg).2);clear hg hok hX;clear h hc hb hm hE hi hq hqr a1 a2 a3 a4 a5 a6 a7 hx1;go_enter Tryz.func82,Tryz.ntmps82;go_upto_region 1 with fail
 rw[X1.o];clear hr3;go_wp2_with fail;refine(ID _).mono ?_;rintro e w1 ⟨rfl,rfl⟩;go_upto_region 3 with fail
 clear d0;refine wp_region_held_drew (S:=fun w'=>w'.heap[bi]?=some (.cells #[ii] 3)/\w'.heap[bt]?=some (.cells #[t] 24)) (by kernel_rfl) HS0 (fun hS=>?_);refine Hv 0 11 ?vb0x1 hS ?hb0x1 ?_
 case hb0x1=>
  intro w9 s9;have k9:=(aD s9.2).1;clear s9;go_simp;try (with_reducible rfl)
 simp only[SL];refine Hv 1 12 ?vb1x2 hS ?hb1x2 ?_
 case hb1x2=>
  intro w9 s9;have k9:=(aD s9.1).1;clear s9;go_simp;try (with_reducible rfl)
 simp only[SL];refine Hs 2 (fun K HK=>?_);go_simp;go_wp2_with fail;refine(jY 1 0 ii q _ HQ.o).mono ?_;rintro e w6 ⟨rfl,rfl⟩;refine HK _ _ ?_ ?_
 ·exact hS
 clear HK K;try simp only[Act.put,SL]
 refine Hs 3 (fun K HK=>?_);go_simp;go_wp2_with fail;refine GE.mono ?_;rintro e w7 ⟨rfl,h1,h2⟩;refine HK _ _ ?_ ?_
 ·exact⟨(h2 bi (by simp[HX.1.1]) HX.1.2.1).trans hS.1,(h2 bt (by simp[HX.2.1]) HX.2.2.1).trans hS.2⟩
 clear HK K;try simp only[Act.put,SL]
 have hS9:=(show(_/\_) from⟨(h2 bi (by simp[HX.1.1]) HX.1.2.1).trans hS.1,(h2 bt (by simp[HX.2.1]) HX.2.2.1).trans hS.2⟩)
 clear hS;have hS:=hS9;clear hS9;have F7:=Hd (And.intro h1 (show KeptT (r3::R) t x1 w7 from h2));clear h1 h2 GE;refine Hu 4 10 hS ?_;simp only[SL];refine Hu 5 15 hS ?_;simp only[SL];refine Hu 6 16 hS ?_;simp only[SL];refine Hu 7 4 hS ?_;simp only[SL];refine Hu 8 5 hS ?_;simp only[SL];refine wpAnyH_done (by kernel_rfl) ?_ _;have c7:=(aD hS.1).1;clear hS;have r7:=(F7.2 r3 (by simp) A3.2).trans A3.1;go_wp2_with fail;refine(TA _).mono ?_;rintro e w8 ⟨rfl,b8⟩;have r8:=mB r7 b8;have F8:=Hd (And.intro (F7.1.below b8) (F7.2.trans (F7.1.kept b8)))
 clear r7 b8 c7;obtain⟨⟨y0,y1,y2,y3,y4,y5,y6,y7,y8,y9⟩,u0,u1,u2,u3,u4,u5,u6,u7,u8,u9⟩:=dC r8;obtain⟨n1,n2⟩:=aA3 r8 (.int .i64 ii) (.int .i64 c.pa) (.int .i64 c.ob) (.int .i64 c.ow) (.int .i64 c.ri) (.int .i64 c.ba) (.int .i64 c.de) (.int .i64 c.ex) (.int .i64 c.cu) (.bool c.rv)
 have FIN:Hid ((stC w8 r3 (.int .i64 ii) (.int .i64 c.pa) (.int .i64 c.ob) (.int .i64 c.ow) (.int .i64 c.ri) (.int .i64 c.ba) (.int .i64 c.de) (.int .i64 c.ex) (.int .i64 c.cu) (.bool c.rv)).heap[r3]?=some (.cells #[ii,c.pa,c.ob,c.ow,c.ri,c.ba,c.de,c.ex,c.cu,c.rv] 65)/\TxS w0 R (stC w8 r3 (.int .i64 ii) (.int .i64 c.pa) (.int .i64 c.ob) (.int .i64 c.ow) (.int .i64 c.ri) (.int .i64 c.ba) (.int .i64 c.de) (.int .i64 c.ex) (.int .i64 c.cu) (.bool c.rv)) t d s n E/\KeptT R t w (stC w8 r3 (.int .i64 ii) (.int .i64 c.pa) (.int .i64 c.ob) (.int .i64 c.ow) (.int .i64 c.ri) (.int .i64 c.ba) (.int .i64 c.de) (.int .i64 c.ex) (.int .i64 c.cu) (.bool c.rv))):=Hd (by
  refine⟨n1,((F8.1).turn (k:=r3) (by simp) A3.2 HR4.1 n2).sub (fun k hk=>by simp[hk]),fun k hk hn=>?_⟩;exact(n2.block k ((F8.1).lt.1 k (by simp[hk])) (HR4.2 k hk)).trans ((fun k hk hn=>(F8.2 k (by simp[hk]) hn).trans (A2.1 k hk hn)) k hk hn))
 unfold stC at FIN;clear n1 n2;go_wp2_with fail;exact bodyPost_ret (v:=.tuple #[.agg #[ii,c.pa,c.ob,c.ow,c.ri,c.ba,c.de,c.ex,c.cu,c.rv],(0:Int)]) (bQ (fn:=Tryz.f82) rfl _ _ r3 65 _ (0,0) _ _ rfl rfl FIN.1 Tryz.underlying65 rfl mK) rfl ⟨rfl,FIN.2⟩
theorem rF {w0 w:World}{R:List Nat}{t d s n:Nat}{E:List Ent}{id:Int}{c:bG}(h:TxS w0 R w t d s n E)(hE:E.length<=600)(hg:EQ E id c) :
  () 46 #[t,id] w fun e w'=>e=.returned (.tuple #[.agg #[id,c.pa,c.ob,c.ow,c.ri,c.ba,c.de,c.ex,c.cu,c.rv],(0:Int)])/\TxS w0 R w' t d s n E/\KeptT R t w w':=
 aC3 h (.inl ⟨rfl,rfl,rfl,rfl,rfl,rfl,rfl,rfl,rfl,rfl,rfl⟩) fun R' wa b0 b1 hT g0 g1 gm=>KH hT g1 g0 ⟨gm.2,gm.1⟩ hE (ED hg.2) rfl hg.1 hg.2
theorem JZ {w0 w:World}{R:List Nat}{t d s bi bt n:Nat}{E:List Ent}{ii:Int}{q:Int}(h:TxS w0 R w t d s n E)(hc:w.heap[bi]?=some (.cells #[ii] 3))(hb:w.heap[bt]?=some (.cells #[t] 24))(hm:(bi∈R/\bi≠t/\w0.heap.size<=bi)/\(bt∈R/\bt≠t/\w0.heap.size<=bt))(hE:E.length<=600)(hi:1<=ii/\ii<=16777215)(hq:aE 3 0 ii=q){p:dU}(hg:cP q E=some (fZ p))(hok:gX ii p) :
  () 78 #[bi,bt] w fun e w'=>e=.returned (.tuple #[.agg #[ii,p.nm,p.li,p.ha],(0:Int)])/\TxS w0 R w' t d s n E/\KeptT R t w w':=by
 obtain⟨a1,a2,a3,a4,a5,a6,a7⟩:=h.box (.cells #[(0:Int),.string ⟨#[]⟩,(0:Int),(0:Int)] 54);obtain⟨r3,hr3⟩:∃ r3,w.heap.size=r3:=⟨_,rfl⟩
 obtain⟨x1,hx1⟩:∃ x1,w.alloc (.cells #[(0:Int),.string ⟨#[]⟩,(0:Int),(0:Int)] 54)=x1:=⟨_,rfl⟩
 rw[hx1] at a1 a2 a3 a5;rw[hr3] at a1 a3 a4 a5 a6 a7;have X1:=Hd hx1;have HR4:=Hd (And.intro a6 a7);have A3:=Hd (And.intro a3 a4);have A2:=Hd (And.intro a2 a1);have d0:=(aD ((a2 bi hm.1.1 hm.1.2.1).trans hc)).1;have HX:=Hd hm;have HS0:=Hd (show(fun w':World=>w'.heap[bi]?=some (.cells #[ii] 3)/\w'.heap[bt]?=some (.cells #[t] 24)) x1.drew from⟨(a2 bi hm.1.1 hm.1.2.1).trans hc,(a2 bt hm.2.1 hm.2.2.1).trans hb⟩);have hqr:=cG 3 0 ii;rw[hq] at hqr;have HQ:=Hd hq
 have ID:=Hd (fun w=>KF ii true w (by unfold inB;simp;omega));obtain⟨X,hX⟩:∃ X,fZ p=X:=⟨_,rfl⟩
 have TA:=Hd (fun w=>by have:=OM ii p w hok;rw[hX] at this;exact this);rw[hX] at hg;have GE:=Hd (wW (key:=q) (a1.below Br.drew) hE hqr X true (gL hg).1 (gL hg).2);clear hg hok hX;clear h hc hb hm hE hi hq hqr a1 a2 a3 a4 a5 a6 a7 hx1;go_enter Tryz.func78,Tryz.ntmps78;go_upto_region 1 with fail
 rw[X1.o];clear hr3;go_wp2_with fail;refine(ID _).mono ?_;rintro e w1 ⟨rfl,rfl⟩;go_upto_region 3 with fail
 clear d0;refine wp_region_held_drew (S:=fun w'=>w'.heap[bi]?=some (.cells #[ii] 3)/\w'.heap[bt]?=some (.cells #[t] 24)) (by kernel_rfl) HS0 (fun hS=>?_);refine Hv 0 11 ?vb0x1 hS ?hb0x1 ?_
 case hb0x1=>
  intro w9 s9;have k9:=(aD s9.2).1;clear s9;go_simp;try (with_reducible rfl)
 simp only[SL];refine Hv 1 12 ?vb1x2 hS ?hb1x2 ?_
 case hb1x2=>
  intro w9 s9;have k9:=(aD s9.1).1;clear s9;go_simp;try (with_reducible rfl)
 simp only[SL];refine Hs 2 (fun K HK=>?_);go_simp;go_wp2_with fail;refine(jY 3 0 ii q _ HQ.o).mono ?_;rintro e w6 ⟨rfl,rfl⟩;refine HK _ _ ?_ ?_
 ·exact hS
 clear HK K;try simp only[Act.put,SL]
 refine Hs 3 (fun K HK=>?_);go_simp;go_wp2_with fail;refine GE.mono ?_;rintro e w7 ⟨rfl,h1,h2⟩;refine HK _ _ ?_ ?_
 ·exact⟨(h2 bi (by simp[HX.1.1]) HX.1.2.1).trans hS.1,(h2 bt (by simp[HX.2.1]) HX.2.2.1).trans hS.2⟩
 clear HK K;try simp only[Act.put,SL]
 have hS9:=(show(_/\_) from⟨(h2 bi (by simp[HX.1.1]) HX.1.2.1).trans hS.1,(h2 bt (by simp[HX.2.1]) HX.2.2.1).trans hS.2⟩)
 clear hS;have hS:=hS9;clear hS9;have F7:=Hd (And.intro h1 (show KeptT (r3::R) t x1 w7 from h2));clear h1 h2 GE;refine Hu 4 10 hS ?_;simp only[SL];refine Hu 5 15 hS ?_;simp only[SL];refine Hu 6 16 hS ?_;simp only[SL];refine Hu 7 4 hS ?_;simp only[SL];refine Hu 8 5 hS ?_;simp only[SL];refine wpAnyH_done (by kernel_rfl) ?_ _;have c7:=(aD hS.1).1;clear hS;have r7:=(F7.2 r3 (by simp) A3.2).trans A3.1;go_wp2_with fail;refine(TA _).mono ?_;rintro e w8 ⟨rfl,b8⟩;have r8:=mB r7 b8;have F8:=Hd (And.intro (F7.1.below b8) (F7.2.trans (F7.1.kept b8)))
 clear r7 b8 c7;obtain⟨⟨y0,y1,y2,y3⟩,u0,u1,u2,u3⟩:=fQ r8;obtain⟨n1,n2⟩:=VO r8 (.int .i64 ii) (.string p.nm) (.int .i64 p.li) (.int .i64 p.ha)
 have FIN:Hid ((stW w8 r3 (.int .i64 ii) (.string p.nm) (.int .i64 p.li) (.int .i64 p.ha)).heap[r3]?=some (.cells #[ii,p.nm,p.li,p.ha] 54)/\TxS w0 R (stW w8 r3 (.int .i64 ii) (.string p.nm) (.int .i64 p.li) (.int .i64 p.ha)) t d s n E/\KeptT R t w (stW w8 r3 (.int .i64 ii) (.string p.nm) (.int .i64 p.li) (.int .i64 p.ha))):=Hd (by
  refine⟨n1,((F8.1).turn (k:=r3) (by simp) A3.2 HR4.1 n2).sub (fun k hk=>by simp[hk]),fun k hk hn=>?_⟩;exact(n2.block k ((F8.1).lt.1 k (by simp[hk])) (HR4.2 k hk)).trans ((fun k hk hn=>(F8.2 k (by simp[hk]) hn).trans (A2.1 k hk hn)) k hk hn))
 unfold stW at FIN;clear n1 n2;go_wp2_with fail;exact bodyPost_ret (v:=.tuple #[.agg #[ii,p.nm,p.li,p.ha],(0:Int)]) (bQ (fn:=Tryz.f78) rfl _ _ r3 54 _ (0,0) _ _ rfl rfl FIN.1 Tryz.underlying54 rfl fW) rfl ⟨rfl,FIN.2⟩
theorem TM {w0 w:World}{R:List Nat}{t d s n:Nat}{E:List Ent}{id:Int}{p:dU}(h:TxS w0 R w t d s n E)(hE:E.length<=600)(hg:aFB E id p) :
  () 33 #[t,id] w fun e w'=>e=.returned (.tuple #[.agg #[id,p.nm,p.li,p.ha],(0:Int)])/\TxS w0 R w' t d s n E/\KeptT R t w w':=
 aCX h (.inl ⟨rfl,rfl,rfl,rfl,rfl⟩) fun R' wa b0 b1 hT g0 g1 gm=>JZ hT g1 g0 ⟨gm.2,gm.1⟩ hE (tQ hg.2) rfl hg.1 hg.2
open Go.RowKit
def TrRF (F:Nat->Prop)(w0:World)(R:List Nat)(w:World)(d s n:Nat)(root:Int)(E:List Ent):Prop:=
 Below w0.heap.size w0 w/\TrF w d s n root E F/\(∀ k,F k->w0.heap.size<=k)/\∀ k∈R,k<w.heap.size/\¬ F k
section
variable {F:Nat->Prop} {w0 w w':World} {R R':List Nat} {d s n:Nat} {root:Int} {E:List Ent}
theorem TrRF.size (h:TrRF F w0 R w d s n root E):Below w0.heap.size w0 w:=h.1
theorem TrRF.lt (h:TrRF F w0 R w d s n root E)(k:Nat)(hk:k∈R):k<w.heap.size:=(h.2.2.2 k hk).1
theorem TrRF.below (h:TrRF F w0 R w d s n root E)(hb:Below w.heap.size w w'):TrRF F w0 R w' d s n root E:=by
 obtain⟨h1,h2,h3,h4⟩:=h;exact⟨h1.trans (hb.mono h1.size),h2.frm (G:=fun _=>False) (Frm.of_below hb) (fun _ _ h=>h),h3,fun k hk=>⟨Nat.lt_of_lt_of_le (h4 k hk).1 hb.size,(h4 k hk).2⟩⟩
theorem TrRF.sub (h:TrRF F w0 R w d s n root E)(hs:∀ k∈R',k∈R):TrRF F w0 R' w d s n root E:=⟨h.1,h.2.1,h.2.2.1,fun k hk=>h.2.2.2 k (hs k hk)⟩
theorem TrRF.turn (h:TrRF F w0 R w d s n root E){k:Nat}(hk:k∈R)(h0:w0.heap.size<=k)(hf:Frm (fun x=>x=k) w w'):TrRF F w0 R w' d s n root E:=by
 obtain⟨h1,h2,h3,h4⟩:=h;exact⟨h1.trans (hf.below (fun i hi=>by subst hi;exact h0) h1.size),h2.frm hf (fun i hi e=>(h4 k hk).2 (e ▸ hi)),h3,fun i hi=>⟨Nat.lt_of_lt_of_le (h4 i hi).1 hf.size,(h4 i hi).2⟩⟩
theorem TrRF.more (h:TrRF F w0 R w d s n root E)(hb:Below w.heap.size w w')(k:Nat)(h1:w.heap.size<=k)(h2:k<w'.heap.size):TrRF F w0 (k::R) w' d s n root E:=by
 obtain⟨a1,a2,a3,a4⟩:=h.below hb;refine⟨a1,a2,a3,fun i hi=>?_⟩
 rcases List.mem_cons.1 hi with rfl|hi
 ·exact⟨h2,fun hx=>by have:=h.2.1.lt _ hx;omega⟩
 ·exact a4 i hi
end
theorem aA8 {F:Nat->Prop}{w0:World}{R:List Nat}{w:World}{d s n:Nat}{root:Int}{E:List Ent}(h:TrRF F w0 R w d s n root E)(hE:E.length<=600)(key most:Int) :
  () 119 #[s,root,.int .u64 key,most] w fun e w'=>∃ v,e=.returned (.tuple #[v,(0:Int)])/\RowE w' v ((bB key E).take most.toNat)/\TrRF F w0 (v.ownBlock.toList++R) w' d s n root E/\oK R w w'/\∀ k,v.ownBlock=some k->w.heap.size<=k:=by
 obtain⟨hb,⟨dk,st,h1,G,ht,hl,hh⟩,hF,hR⟩:=h;refine(aA6 w d s dk st F h1 G root E ht hE key most).mono ?_;rintro e w' ⟨v,rfl,ho,hp,hf⟩;have hlo:=ho.lt;have hlt:=h1.lt;refine⟨v,rfl,⟨ho.1,ho.2.imp id fun⟨g,cap,cur,hv,_,r⟩=>⟨g,cap,cur,hv,Nat.zero_le _,r⟩⟩,⟨hb.trans (hf.below hF hb.size),⟨dk,st,hp,G,ht,hl,hh⟩,hF,fun k hk=>?_⟩,fun k hk=>hf.block k (hR k hk).1 (hR k hk).2,fun k hk=>(hlo k hk).1⟩
 rcases List.mem_append.1 hk with hk|hk
 ·have hk':v.ownBlock=some k:=by simpa using hk
  exact⟨(hlo k hk').2,fun hx=>by have:=hlt k hx;have:=(hlo k hk').1;omega⟩
 ·exact⟨Nat.lt_of_lt_of_le (hR k hk).1 hf.size,(hR k hk).2⟩
theorem aCS (w:World)(t s:Nat)(root:Int)(caps:Array Value)(hc:w.heap[t]?=some (txC s root 0 false))(R:Int->World->Prop)
  (HC:Calls Tryz.prog 118 caps w fun e w'=>∃ c,e=.returned (.int .i64 c)/\R c w'/\∃ root',w'.heap[t]?=some (txC s root' 0 false)) :
  () 86 #[t,.func (.func 118) #[] caps] w fun e w'=>∃ c w1,e=.returned (.bool (c==0))/\R c w1/\w1.setCell ⟨t,2,none⟩ (.int .i64 c)=w':=by
 have H:=Hd HC;obtain⟨c0,c1,c2,c3,fz⟩:=eJ hc;clear hc HC fz;go_enter Tryz.func86,Tryz.ntmps86;go_wp2_with fail;refine H.mono ?_;rintro e w1 ⟨c,rfl,hR,root',hc1⟩;have FIN:=Hd hR;obtain⟨d0,d1,d2,d3,g⟩:=eJ hc1;have g2:=g 2;obtain⟨w2,hw2⟩:∃ w2,w1.setCell ⟨t,2,none⟩ (.int .i64 c)=w2:=⟨_,rfl⟩
 have e2:w2.cell? ⟨t,2,none⟩=some (.int .i64 c):=by
  unfold txC at hc1;have h9:=hss w1 t 2 _ _ (.int .i64 c) hc1;rw[hw2] at h9;rw[cob h9];rfl
 have HW:=Hd hw2;clear hR hc1 g c0 c1 c2 c3 H;go_upto_region 4 with fail
 try rw[hw2]
 clear hw2 d0 d1 d2 d3 g2;go_wp2_with fail;go_ret;exact⟨c,w1,rfl,FIN.o,HW.o⟩
def ScnS (bt bk bm t s:Nat)(root key most:Int)(w:World):Prop:=w.heap[bt]?=some (.cells #[t] 24)/\w.heap[bk]?=some (.cells #[.int .u64 key] 82)/\w.heap[t]?=some (txC s root 0 false)/\w.heap[bm]?=some (.cells #[most] 3)
theorem ScnS.kept {bt bk bm t s:Nat}{root key most:Int}{w w':World}{R:List Nat}(h:ScnS bt bk bm t s root key most w)(hm:bt∈R/\bk∈R/\t∈R/\bm∈R)(hK:oK R w w'):ScnS bt bk bm t s root key most w':=
 ⟨(hK _ hm.1).trans h.1,(hK _ hm.2.1).trans h.2.1,(hK _ hm.2.2.1).trans h.2.2.1,(hK _ hm.2.2.2).trans h.2.2.2⟩
theorem ScnS.set {bt bk bm t s b i:Nat}{root key most:Int}{v:Value}{w:World}(h:ScnS bt bk bm t s root key most w)(hn:bt≠b/\bk≠b/\t≠b/\bm≠b):ScnS bt bk bm t s root key most (w.setCell ⟨b,i,none⟩ v):=
 ⟨(Below.heap_setCell _ _ _ _ hn.1).trans h.1,(Below.heap_setCell _ _ _ _ hn.2.1).trans h.2.1,(Below.heap_setCell _ _ _ _ hn.2.2.1).trans h.2.2.1,(Below.heap_setCell _ _ _ _ hn.2.2.2).trans h.2.2.2⟩
theorem aC7 {F:Nat->Prop}{w0 w:World}{R:List Nat}{t d s n:Nat}{root:Int}{E:List Ent}(h:TrRF F w0 (t::R) w d s n root E)(o1 o2 o3 o4:Obj)(x4:World)(hx:(((w.alloc o1).alloc o2).alloc o3).alloc o4=x4) :
  TrRF F w0 ((w.heap.size+3)::(w.heap.size+2)::(w.heap.size+1)::w.heap.size::t::R) x4 d s n root E/\x4.heap[w.heap.size]?=some o1/\x4.heap[w.heap.size+1]?=some o2/\x4.heap[w.heap.size+2]?=some o3/\x4.heap[w.heap.size+3]?=some o4/\t<w.heap.size/\(∀ k∈t::R,k<w.heap.size)/\Below w.heap.size w x4:=by
 obtain⟨x1,hx1⟩:∃ x1,w.alloc o1=x1:=⟨_,rfl⟩
 obtain⟨x2,hx2⟩:∃ x2,x1.alloc o2=x2:=⟨_,rfl⟩
 obtain⟨x3,hx3⟩:∃ x3,x2.alloc o3=x3:=⟨_,rfl⟩
 rw[hx1,hx2,hx3] at hx;have z1:x1.heap.size=w.heap.size+1:=by rw[<-hx1];simp
 have z2:x2.heap.size=w.heap.size+2:=by rw[<-hx2];simp[z1]
 have z3:x3.heap.size=w.heap.size+3:=by rw[<-hx3];simp[z2]
 have z4:x4.heap.size=w.heap.size+4:=by rw[<-hx];simp[z3]
 have b1:Below w.heap.size w x1:=by rw[<-hx1];exact aB _ _
 have b2:Below x1.heap.size x1 x2:=by rw[<-hx2];exact aB _ _
 have b3:Below x2.heap.size x2 x3:=by rw[<-hx3];exact aB _ _
 have b4:Below x3.heap.size x3 x4:=by rw[<-hx];exact aB _ _
 have m1:x1.heap[w.heap.size]?=some o1:=by rw[<-hx1];exact han w _
 have m2:x2.heap[w.heap.size+1]?=some o2:=by rw[<-hx2,<-z1];exact han x1 _
 have m3:x3.heap[w.heap.size+2]?=some o3:=by rw[<-hx3,<-z2];exact han x2 _
 have m4:x4.heap[w.heap.size+3]?=some o4:=by rw[<-hx,<-z3];exact han x3 _
 have hlt:=h.lt;have bw:Below w.heap.size w x4:=((b1.trans (b2.mono (by omega))).trans (b3.mono (by omega))).trans (b4.mono (by omega))
 exact⟨(((h.more b1 w.heap.size (Nat.le_refl _) (by omega)).more b2 (w.heap.size+1) (by omega) (by omega)).more b3 (w.heap.size+2) (by omega) (by omega)).more b4 (w.heap.size+3) (by omega) (by omega),
  (b4.block _ (by omega)).trans ((b3.block _ (by omega)).trans ((b2.block _ (by omega)).trans m1)),(b4.block _ (by omega)).trans ((b3.block _ (by omega)).trans m2),(b4.block _ (by omega)).trans m3,m4,hlt t (by simp),hlt,bw⟩
theorem aA9 {F:Nat->Prop}{w0 w:World}{R:List Nat}{t d s n bt bk bm bw:Nat}{root key most:Int}{E:List Ent}(h:TrRF F w0 R w d s n root E)(LS:List Ent)(hLS:(bB key E).take most.toNat=LS)(ps:ScnS bt bk bm t s root key most w)(hm:bt∈R/\bk∈R/\t∈R/\bm∈R)(hw:w.heap[bw]?=some (.cells #[.slice none 0 0] 128)/\bw∈R/\w0.heap.size<=bw/\bw<w.heap.size)(hn:bt≠bw/\bk≠bw/\t≠bw/\bm≠bw)(hE:E.length<=600) :
  () 118 #[bt,bk,bm,bw] w fun e w'=>e=.returned (.int .i64 0)/\∃ v,TrRF F w0 (v.ownBlock.toList++R) w' d s n root E/\w'.heap[bw]?=some (.cells #[v] 128)/\RowE w' v LS/\(∀ k∈R,k≠bw->w'.heap[k]?=w.heap[k]?)/\∀ k,v.ownBlock=some k->w.heap.size<=k:=by
 have PS:=Hd (show ScnS bt bk bm t s root key most w.drew from ps);have PT0:=aA8 (h.below Br.drew) hE key most;rw[hLS] at PT0;have PT:=Hd PT0;have HB:=Hd hw;have HN:=Hd hn;clear h ps hE hn hw hLS PT0;go_enter Tryz.func118,Tryz.ntmps118;go_upto_region 1 with fail
 refine wp_region_held_drew (S:=fun w'=>ScnS bt bk bm t s root key most w') (by kernel_rfl) PS (fun hS=>?_);refine Hv 0 6 ?vb0x1 hS ?hb0x1 ?_
 case hb0x1=>
  intro w9 s9;have k9:=(aD s9.1).1;clear s9;go_simp;try (with_reducible rfl)
 simp only[SL];refine Hu 1 7 hS ?_;simp only[SL];refine Hu 2 8 hS ?_;simp only[SL];refine Hv 3 9 ?vb3x4 hS ?hb3x4 ?_
 case hb3x4=>
  intro w9 s9;obtain⟨k0,k1,_,_,_⟩:=eJ s9.2.2.1;clear s9;go_simp;try (with_reducible rfl)
 simp only[SL];refine Hv 4 10 ?vb4x5 hS ?hb4x5 ?_
 case hb4x5=>
  intro w9 s9;have k9:=(aD s9.1).1;clear s9;go_simp;try (with_reducible rfl)
 simp only[SL];refine Hu 5 11 hS ?_;simp only[SL];refine Hu 6 12 hS ?_;simp only[SL];refine Hv 7 13 ?vb7x8 hS ?hb7x8 ?_
 case hb7x8=>
  intro w9 s9;obtain⟨k0,k1,_,_,_⟩:=eJ s9.2.2.1;clear s9;go_simp;try (with_reducible rfl)
 simp only[SL];refine Hv 8 14 ?vb8x9 hS ?hb8x9 ?_
 case hb8x9=>
  intro w9 s9;have k9:=(aD s9.2.1).1;clear s9;go_simp;try (with_reducible rfl)
 simp only[SL];refine Hv 9 15 ?vb9x10 hS ?hb9x10 ?_
 case hb9x10=>
  intro w9 s9;have k9:=(aD s9.2.2.2).1;clear s9;go_simp;try (with_reducible rfl)
 simp only[SL];refine Hs 10 (fun K HK=>?_);go_simp;go_wp2_with fail;refine PT.mono ?_;rintro e w6 ⟨v0,rfl,hrv,hT,hK,hnv⟩;obtain⟨va,vc,rfl⟩:=hrv.shape;refine HK _ _ ?_ ?_
 ·exact hS.kept hm hK
 clear HK K;try simp only[Act.put,SL]
 have hS':=hS.kept hm hK;clear hS;have hS:=hS';clear hS';have V0:=(hK bw HB.2.1).trans HB.1;obtain⟨u0,u1⟩:=aD V0;refine Hu 11 5 hS ?_;simp only[SL];refine Hu 12 17 hS ?_;simp only[SL];refine Hu 13 18 hS ?_;simp only[SL];refine Hs 14 (fun K HK=>?_);go_simp;go_wp2_with fail;refine HK _ _ ?_ ?_
 ·exact hS.set HN.o
 clear HK K;try simp only[Act.put,SL]
 obtain⟨w7,hw7⟩:∃ w7,w6.setCell ⟨bw,0,none⟩ (.slice va LS.length vc)=w7:=⟨_,rfl⟩
 have FIN:Hid (∃ v,TrRF F w0 (v.ownBlock.toList++R) w7 d s n root E/\w7.heap[bw]?=some (.cells #[v] 128)/\RowE w7 v LS/\(∀ k∈R,k≠bw->w7.heap[k]?=w.heap[k]?)/\∀ k,v.ownBlock=some k->w.heap.size<=k):=Hd (by
  have f7:Frm (fun k=>k=bw) w6 w7:=by rw[<-hw7];exact eT _
  refine⟨_,hT.turn (List.mem_append.2 (.inr HB.2.1)) HB.2.2.1 f7,?_,hrv.kept (fun k hk=>f7.block k (hT.lt k (List.mem_append.2 (.inl (by simp[hk])))) (fun e=>by have h1:w.heap.size<=k:=hnv k hk;have:=HB.2.2.2;omega)),fun k hk h1=>(f7.block k (hT.lt k (List.mem_append.2 (.inr hk))) h1).trans (hK k hk),hnv⟩;rw[<-hw7,hss _ _ 0 _ _ _ V0]
  rfl)
 have hS2:ScnS bt bk bm t s root key most w7:=by rw[<-hw7];exact hS.set HN.o
 rw[hw7];clear hS hT hK hrv hnv V0 u0 u1 hw7;have hS:=hS2;clear hS2;refine Hu 15 4 hS ?_;simp only[SL];refine wpAnyH_done (by kernel_rfl) ?_ _;clear hS;go_wp2_with fail;go_ret;exact⟨rfl,FIN.o⟩
theorem aA7 {F:Nat->Prop}{w0 w:World}{R:List Nat}{t d s n:Nat}{root key most:Int}{E:List Ent}(h:TrRF F w0 (t::R) w d s n root E)(ht:w.heap[t]?=some (txC s root 0 false))(ht0:w0.heap.size<=t)(hE:E.length<=600)(LS:List Ent)(hLS:(bB key E).take most.toNat=LS) :
  () 92 #[t,.int .u64 key,most] w fun e w'=>∃ v,e=.returned v/\TrRF F w0 (t::(v.ownBlock.toList++R)) w' d s n root E/\w'.heap[t]?=some (txC s root 0 false)/\RowE w' v LS/\(∀ k∈R,k≠t->w'.heap[k]?=w.heap[k]?)/\∀ k,v.ownBlock=some k->w.heap.size<=k:=by
 obtain⟨x4,hx4⟩:∃ x4,(((w.alloc (.cells #[t] 24)).alloc (.cells #[.int .u64 key] 82)).alloc (.cells #[most] 3)).alloc (.cells #[.slice none 0 0] 128)=x4:=⟨_,rfl⟩
 obtain⟨hT,m1,m2,m3,m4,htl,hlt,bw⟩:=aC7 h _ _ _ _ x4 hx4;have ht4:=(bw.block t htl).trans ht;have hs0:=h.size.size
 have DO:=Hd (aCS x4 t s root #[.pointer (some ⟨w.heap.size,0,none⟩),.pointer (some ⟨w.heap.size+1,0,none⟩),.pointer (some ⟨w.heap.size+2,0,none⟩),.pointer (some ⟨w.heap.size+3,0,none⟩)] ht4
  (fun c w'=>c=0/\∃ v,TrRF F w0 (v.ownBlock.toList++((w.heap.size+3)::(w.heap.size+2)::(w.heap.size+1)::w.heap.size::t::R)) w' d s n root E/\w'.heap[w.heap.size+3]?=some (.cells #[v] 128)/\RowE w' v LS/\(∀ k∈((w.heap.size+3)::(w.heap.size+2)::(w.heap.size+1)::w.heap.size::t::R),k≠w.heap.size+3->w'.heap[k]?=x4.heap[k]?)/\∀ k,v.ownBlock=some k->x4.heap.size<=k)
  ((aA9 hT LS hLS ⟨m1,m2,ht4,m3⟩ (by simp) ⟨m4,by simp,by omega,hT.lt _ (by simp)⟩ ⟨by omega,by omega,by omega,by omega⟩ hE).mono fun e w' ⟨h1,v,h2,h3,h4,h5,h6⟩=>⟨0,h1,⟨rfl,v,h2,h3,h4,h5,h6⟩,root,(h5 t (by simp) (by omega)).trans ht4⟩))
 have HF:=Hd (And.intro ht4 (And.intro bw (And.intro htl (And.intro hlt ht0))));have bx:=(aD m1).1;have HX:=Hd hx4;clear h ht hT m1 m2 m3 m4 htl hlt ht0 bw hx4 hE ht4 hs0 hLS;go_enter Tryz.func92,Tryz.ntmps92;go_upto_region 2 with fail
 try simp only[Nat.add_assoc,Nat.reduceAdd,World.heap_size_alloc]
 rw[HX.o];go_wp2_with fail;refine DO.mono ?_;rintro e w6 ⟨c,w5,rfl,⟨rfl,v,h1,h2,h3,h4,h5⟩,hw6⟩;have htl:=HF.2.2.1;have hsz:=HF.2.1.size;obtain⟨g1,g2⟩:=aA1 ((h4 t (by simp) (by omega)).trans HF.1) hw6;have cv:=(aD ((g2.block _ (h1.lt (w.heap.size+3) (List.mem_append.2 (.inr (by simp)))) (by omega)).trans h2)).1;obtain⟨va,vc,rfl⟩:=h3.shape
 have FIN:Hid (∃ v,(Value.slice va LS.length vc)=v/\TrRF F w0 (t::(v.ownBlock.toList++R)) w6 d s n root E/\w6.heap[t]?=some (txC s root 0 false)/\RowE w6 v LS/\(∀ k∈R,k≠t->w6.heap[k]?=w.heap[k]?)/\∀ k,v.ownBlock=some k->w.heap.size<=k):=Hd (by
  refine⟨_,rfl,(h1.turn (List.mem_append.2 (.inr (by simp))) HF.2.2.2.2 g2).sub (fun k hk=>by simp only[List.mem_cons,List.mem_append] at hk |-;rcases hk with hk|hk|hk <;> simp[hk]),g1,h3.kept (fun k hk=>g2.block k (h1.lt k (List.mem_append.2 (.inl (by simp[hk])))) (fun e=>by have:=h5 k hk;omega)),fun k hk hne=>?_,fun k hk=>by have:=h5 k hk;omega⟩;have hm:k∈((w.heap.size+3)::(w.heap.size+2)::(w.heap.size+1)::w.heap.size::t::R):=by simp[hk]
  have hkl:=HF.2.2.2.1 k (by simp[hk]);exact(g2.block k (h1.lt k (List.mem_append.2 (.inr hm))) hne).trans ((h4 k hm (by omega)).trans (HF.2.1.block k hkl)))
 clear h1 h2 h3 h4 h5 hw6 g1 g2 bx htl hsz;go_wp2_with fail;go_ret;obtain⟨v,rfl,h⟩:=FIN.o;exact⟨_,rfl,h⟩
def TxF (w0:World)(F:Nat->Prop)(w:World)(t d s n:Nat)(E:List Ent):Prop:=(∃ root,TrRF F w0 [t] w d s n root E/\w.heap[t]?=some (txC s root 0 false))/\w0.heap.size<=t
section
variable {F:Nat->Prop} {w0 w w':World} {t d s n:Nat} {E:List Ent}
theorem TxF.lt (h:TxF w0 F w t d s n E):(∀ k,F k->k<w.heap.size)/\t<w.heap.size/\¬ F t:=by
 obtain⟨⟨q,h1,h2⟩,_⟩:=h;exact⟨fun k hk=>h1.2.1.lt k hk,h1.lt t (by simp),(h1.2.2.2 t (by simp)).2⟩
theorem TxF.from (h:TxF w0 F w t d s n E):Below w0.heap.size w0 w:=by
 obtain⟨⟨q,h1,h2⟩,_⟩:=h;exact h1.size
theorem TxF.frm (h:TxF w0 F w t d s n E){G:Nat->Prop}(hf:Frm G w w')(hG:∀ k,G k->¬ F k/\k≠t/\w0.heap.size<=k):TxF w0 F w' t d s n E:=by
 have hl:=h.lt;obtain⟨⟨q,h1,h2⟩,h3⟩:=h;exact⟨⟨q,⟨h1.1.trans (hf.below (fun i hi=>(hG i hi).2.2) h1.1.size),h1.2.1.frm hf (fun i hi e=>(hG i e).1 hi),h1.2.2.1,fun i hi=>⟨Nat.lt_of_lt_of_le (h1.2.2.2 i hi).1 hf.size,(h1.2.2.2 i hi).2⟩⟩,(hf.block t hl.2.1 (fun e=>(hG t e).2.1 rfl)).trans h2⟩,h3⟩
theorem TxF.below (h:TxF w0 F w t d s n E)(hb:Below w.heap.size w w'):TxF w0 F w' t d s n E:=h.frm (G:=fun _=>False) (Frm.of_below hb) fun _ h=>h.elim
theorem TxS.said {R:List Nat}(h:TxS w0 R w t d s n E):∃ F,TxF w0 F w t d s n E/\(∀ k∈R,¬ F k)/\∀ k,F k->w0.heap.size<=k:=by
 obtain⟨⟨q,⟨a1,F,a2,a3,a4⟩,h2⟩,h3⟩:=h;exact⟨F,⟨⟨q,⟨a1,a2,a3,fun k hk=>a4 k (by simp at hk;simp[hk])⟩,h2⟩,h3⟩,fun k hk=>(a4 k (List.mem_cons_of_mem _ hk)).2,a3⟩
theorem TxF.hide {R:List Nat}(h:TxF w0 F w t d s n E)(hR:∀ k∈R,k<w.heap.size/\¬ F k):TxS w0 R w t d s n E:=by
 obtain⟨⟨q,h1,h2⟩,h3⟩:=h;exact⟨⟨q,⟨h1.1,F,h1.2.1,h1.2.2.1,fun k hk=>(List.mem_cons.1 hk).elim (fun e=>e ▸ h1.2.2.2 t (by simp)) (hR k)⟩,h2⟩,h3⟩
open Classical in
theorem VU {key most:Int}(h:TxF w0 F w t d s n E)(hE:E.length<=600)(LS:List Ent)(hLS:(bB key E).take most.toNat=LS) :
  () 92 #[t,.int .u64 key,most] w fun e w'=>∃ v,e=.returned v/\TxF w0 F w' t d s n E/\RowE w' v LS/\(∀ k,v.ownBlock=some k->w.heap.size<=k/\k<w'.heap.size/\¬ F k)/\Frm (fun k=>F k\/k=t) w w':=by
 obtain⟨⟨q,h1,h2⟩,h3⟩:=h;obtain⟨R,hR⟩:∃ R:List Nat,R=(List.range w.heap.size).filter fun k=>decide (¬ F k):=⟨_,rfl⟩
 have hm:∀ k,k∈R ↔ k<w.heap.size/\¬ F k:=fun k=>by rw[hR];simp
 have hF0:=h1.2.1.lt;have hT:TrRF F w0 (t::R) w d s n q E:=⟨h1.1,h1.2.1,h1.2.2.1,fun k hk=>(List.mem_cons.1 hk).elim (fun e=>e ▸ h1.2.2.2 t (by simp)) (fun hx=>(hm k).1 hx)⟩
 refine(aA7 hT h2 h3 hE LS hLS).mono ?_;rintro e w' ⟨v,rfl,g1,g2,g3,g4,g5⟩;refine⟨v,rfl,⟨⟨q,g1.sub (fun k hk=>by simp at hk;simp[hk]),g2⟩,h3⟩,g3,fun k hk=>⟨g5 k hk,g1.2.2.2 k (by simp[hk])⟩,?_⟩;have b0:=h1.1;have b1:=g1.1;refine⟨b1.os.trans b0.os.symm,b1.tape.trans b0.tape.symm,b1.output.trans b0.output.symm,?_,fun k hk hn=>?_⟩
 ·refine Nat.le_of_not_lt fun hlt=>?_
  have hk:w'.heap.size<w.heap.size:=hlt
  by_cases hx:F w'.heap.size
  ·have:=g1.2.1.lt _ hx;omega
  ·have:=g1.lt w'.heap.size (by simp only[List.mem_cons,List.mem_append];exact .inr (.inr ((hm _).2 ⟨hk,hx⟩)));omega
 ·have hn':¬ F k/\k≠t:=⟨fun e=>hn (.inl e),fun e=>hn (.inr e)⟩
  exact g4 k ((hm k).2 ⟨hk,hn'.1⟩) hn'.2
end
