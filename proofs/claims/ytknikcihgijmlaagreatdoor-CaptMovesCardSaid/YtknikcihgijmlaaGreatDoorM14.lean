import Derived.Test.YtknikcihgijmlaaGreatDoorM13
namespace Go.Proofs.YtknikcihgijmlaaGreatDoor
open Go.RowKit
set_option maxRecDepth 20000
set_option maxHeartbeats 12800000
set_option linter.unusedVariables false
set_option linter.unusedSimpArgs false
theorem gX {w:World}{B:Nat}{e:TypeId}{v:Value}{n:Nat}{xs:List Value}(h:w.ownsRow B e 1 v n xs)(r i:Nat)(u:Value)(hr:v.ownBlock≠some r):(w.setCell ⟨r,i,none⟩ u).ownsRow B e 1 v n xs:=by
 refine⟨h.1,?_⟩
 rcases h.2 with hx|⟨g,cap,cur,hv,hbg,hh,q⟩
 ·exact .inl hx
 ·exact .inr ⟨g,cap,cur,hv,hbg,(Below.heap_setCell _ _ _ _ (by show ¬ g=r;intro e;apply hr;rw[hv,e];rfl)).trans hh,q⟩
structure ReadJ (w:World)(g r:Nat)(lf:Bool)(K:List Int)(V:List ByteArray)(C:List Int)(s:ByteArray)(b:Bool)(kv vv cv:Value)(wr:World):Prop where
 hr:w.heap.size<r
 box:wr.heap[r]?=some (.cells #[.bool lf,kv,vv,cv]  166)
 res:wr.heap[w.heap.size]?=some (.cells #[.bool false,.slice none 0 0,.slice none 0 0,.slice none 0 0]  166)
 ko:wr.ownsRow (w.heap.size+1) 80 1 kv K.length (K.map bI)
 vo:wr.ownsRow (w.heap.size+1) 9 1 vv V.length (V.map Value.string)
 co:wr.ownsRow (w.heap.size+1) 3 1 cv C.length (C.map dT)
 a12:∀ x,kv.ownBlock=some x->vv.ownBlock≠some x
 a13:∀ x,kv.ownBlock=some x->cv.ownBlock≠some x
 a23:∀ x,vv.ownBlock=some x->cv.ownBlock≠some x
 n1:kv.ownBlock≠some r
 n2:vv.ownBlock≠some r
 n3:cv.ownBlock≠some r
 rd:RDb wr g s b
 fr:Frm (fun k=>k=g) w wr
theorem nR {g:Nat}{w:World}{s:ByteArray}{b:Bool}(h:RDb w g s b):LN g w=s.size:=by unfold LN;rw[show w.cell? ⟨g,0,none⟩=some (.string s) from by rw[cob h];rfl]
def RF (w:World)(g r:Nat)(k:Nat):Prop:=k=g\/(w.heap.size+1<=k/\¬ k=r)
theorem aC6 {w wr w5:World}{g r:Nat}{lf b b':Bool}{K C:List Int}{V:List ByteArray}{s:ByteArray}{kv vv cv:Value}(hI:ReadJ w g r lf K V C s b kv vv cv wr)(hg:g<w.heap.size)(hK:K.length<=1000)(x:Int)(m:ByteArray)(hr5:RDb w5 g m b')(hf5:Frm (fun k=>k=g) wr w5) :
  ∃ v' v6,(Builtin.append_ #[163,163] 163 #[kv,.slice (some ⟨w5.heap.size,0,none⟩) 1 1]).run Tryz.prog (w5.alloc (.cells #[.int .u64 x] 80))=.ok v' v6/\Frm (RF w g r) wr v6 /\
   v6.heap[r]?=some (.cells #[lf,kv,vv,cv] 166)/\ReadJ w g r lf (K++[x]) V C m b' v' vv cv (v6.setCell ⟨r,1,none⟩ v'):=by
 obtain⟨i0,hi,hz0,hz1,hz2⟩:=info_parts IU;have hbx:=(zl hI.box);have hrs:=hI.hr;have hs5:=hf5.size;have nog:∀ k,w.heap.size<=k->¬ k=g:=fun k hk e=>by omega
 have o1:=(jD hI.ko hf5 (fun k hk=>nog k (by have:=(hI.ko.lt k hk).1;omega))).alloc (.cells #[.int .u64 x] 80);have o2:=(jD hI.vo hf5 (fun k hk=>nog k (by have:=(hI.vo.lt k hk).1;omega))).alloc (.cells #[.int .u64 x] 80);have o3:=(jD hI.co hf5 (fun k hk=>nog k (by have:=(hI.co.lt k hk).1;omega))).alloc (.cells #[.int .u64 x] 80);have h6s:(w5.alloc (.cells #[.int .u64 x] 80)).heap.size=w5.heap.size+1:=by simp
 obtain⟨v',v6,k,hr,ho,hgw,hk1,hk2⟩:=yV (P:=Tryz.prog) (w5.alloc (.cells #[.int .u64 x] 80)) (w.heap.size+1) 163 163 80 i0 (.int .u64 0) 8 (by decide) Tryz.underlying163 hi hz0 hz1 hz2 rfl kv K.length _ o1 w5.heap.size (.int .u64 x) (by rw[cob (han w5 _)];rfl) rfl (by omega) (by omega);have own0:∀ q,kv.ownBlock=some q->w.heap.size+1<=q/\q<wr.heap.size:=fun q hq=>hI.ko.lt q hq
 have keep:∀ q,q<wr.heap.size->¬ q=g->kv.ownBlock≠some q->v6.heap[q]?=wr.heap[q]?:=fun q hq hqg hne=>
  (hgw.block q (by omega) (fun e=>hne e.symm)).trans ((hao w5 _ (by omega)).trans (hf5.block q hq hqg))
 have bx:=(keep r hbx (nog _ (by omega)) hI.n1).trans hI.box;have rx:=(keep w.heap.size (by omega) (nog _ (Nat.le_refl _)) (fun e=>by have:=(own0 _ e).1;omega)).trans hI.res
 have dx:v6.heap[g]?=some (.cells #[m,b'] 244):=
  (hgw.block g (by omega) (fun e=>by have:=(own0 _ e.symm).1;omega)).trans ((hao w5 _ (by omega)).trans hr5)
 have nr:v'.ownBlock≠some r:=fun e=>by
  rw[hk1] at e;injection e with e;subst e
  rcases hk2 with hk2|hk2
  ·exact hI.n1 hk2
  ·omega
 have ne1:∀ q,¬ q=r->(v6.setCell ⟨r,1,none⟩ v').heap[q]?=v6.heap[q]?:=fun q hq=>Below.heap_setCell _ _ _ _ hq
 refine⟨v',v6,hr,((hf5.mono (fun i hi=>.inl hi)).alloc _).grown hgw (fun q hq=>.inl (.inr ⟨(own0 q hq).1,fun e=>by subst e;exact hI.n1 hq⟩)),bx,?_⟩
 exact⟨hrs,by rw[hss _ _ 1 _ _ _ bx];rfl,(ne1 _ (by omega)).trans rx,by rw[List.map_append,List.length_append];exact gX ho _ _ _ nr,gX (o2.kept hgw (lD (fun x h1 h2=>hI.a12 x h2 h1))) _ _ _ hI.n2,gX (o3.kept hgw (lD (fun x h1 h2=>hI.a13 x h2 h1))) _ _ _ hI.n3,fun x hx hy=>by rw[hk1] at hx;injection hx with hx;subst hx;rcases hk2 with hk2|hk2;exact hI.a12 _ hk2 hy;have:=(hI.vo.lt _ hy).2;omega,fun x hx hy=>by rw[hk1] at hx;injection hx with hx;subst hx;rcases hk2 with hk2|hk2;exact hI.a13 _ hk2 hy;have:=(hI.co.lt _ hy).2;omega,hI.a23,nr,hI.n2,hI.n3,(ne1 _ (by omega)).trans dx,
  (((hI.fr.trans hf5 (fun i hi=>.inl hi)).alloc _).grown hgw (fun q hq=>.inr (by have:=(own0 q hq).1;omega))).setCell _ _ (.inr (Nat.le_of_lt hrs))⟩
theorem aE0 {w wr w5:World}{g r:Nat}{lf b b':Bool}{K C:List Int}{V:List ByteArray}{s:ByteArray}{kv vv cv:Value}(hI:ReadJ w g r lf K V C s b kv vv cv wr)(hg:g<w.heap.size)(hK:V.length<=1000)(x:ByteArray)(m:ByteArray)(hr5:RDb w5 g m b')(hf5:Frm (fun k=>k=g) wr w5) :
  ∃ v' v6,(Builtin.append_ #[164,164] 164 #[vv,.slice (some ⟨w5.heap.size,0,none⟩) 1 1]).run Tryz.prog (w5.alloc (.cells #[.string x] 9))=.ok v' v6/\Frm (RF w g r) wr v6 /\
   v6.heap[r]?=some (.cells #[lf,kv,vv,cv] 166)/\ReadJ w g r lf K (V++[x]) C m b' kv v' cv (v6.setCell ⟨r,2,none⟩ v'):=by
 obtain⟨i0,hi,hz0,hz1,hz2⟩:=info_parts IV;have hbx:=(zl hI.box);have hrs:=hI.hr;have hs5:=hf5.size;have nog:∀ k,w.heap.size<=k->¬ k=g:=fun k hk e=>by omega
 have o1:=(jD hI.ko hf5 (fun k hk=>nog k (by have:=(hI.ko.lt k hk).1;omega))).alloc (.cells #[.string x] 9);have o2:=(jD hI.vo hf5 (fun k hk=>nog k (by have:=(hI.vo.lt k hk).1;omega))).alloc (.cells #[.string x] 9);have o3:=(jD hI.co hf5 (fun k hk=>nog k (by have:=(hI.co.lt k hk).1;omega))).alloc (.cells #[.string x] 9);have h6s:(w5.alloc (.cells #[.string x] 9)).heap.size=w5.heap.size+1:=by simp
 obtain⟨v',v6,k,hr,ho,hgw,hk1,hk2⟩:=yV (P:=Tryz.prog) (w5.alloc (.cells #[.string x] 9)) (w.heap.size+1) 164 164 9 i0 (.string ByteArray.empty) 16 (by decide) Tryz.underlying164 hi hz0 hz1 hz2 rfl vv V.length _ o2 w5.heap.size (.string x) (by rw[cob (han w5 _)];rfl) rfl (by omega) (by omega);have own0:∀ q,vv.ownBlock=some q->w.heap.size+1<=q/\q<wr.heap.size:=fun q hq=>hI.vo.lt q hq
 have keep:∀ q,q<wr.heap.size->¬ q=g->vv.ownBlock≠some q->v6.heap[q]?=wr.heap[q]?:=fun q hq hqg hne=>
  (hgw.block q (by omega) (fun e=>hne e.symm)).trans ((hao w5 _ (by omega)).trans (hf5.block q hq hqg))
 have bx:=(keep r hbx (nog _ (by omega)) hI.n2).trans hI.box;have rx:=(keep w.heap.size (by omega) (nog _ (Nat.le_refl _)) (fun e=>by have:=(own0 _ e).1;omega)).trans hI.res
 have dx:v6.heap[g]?=some (.cells #[m,b'] 244):=
  (hgw.block g (by omega) (fun e=>by have:=(own0 _ e.symm).1;omega)).trans ((hao w5 _ (by omega)).trans hr5)
 have nr:v'.ownBlock≠some r:=fun e=>by
  rw[hk1] at e;injection e with e;subst e
  rcases hk2 with hk2|hk2
  ·exact hI.n2 hk2
  ·omega
 have ne1:∀ q,¬ q=r->(v6.setCell ⟨r,2,none⟩ v').heap[q]?=v6.heap[q]?:=fun q hq=>Below.heap_setCell _ _ _ _ hq
 refine⟨v',v6,hr,((hf5.mono (fun i hi=>.inl hi)).alloc _).grown hgw (fun q hq=>.inl (.inr ⟨(own0 q hq).1,fun e=>by subst e;exact hI.n2 hq⟩)),bx,?_⟩
 exact⟨hrs,by rw[hss _ _ 2 _ _ _ bx];rfl,(ne1 _ (by omega)).trans rx,gX (o1.kept hgw (lD (fun x h1 h2=>hI.a12 x h1 h2))) _ _ _ hI.n1,by rw[List.map_append,List.length_append];exact gX ho _ _ _ nr,gX (o3.kept hgw (lD (fun x h1 h2=>hI.a23 x h2 h1))) _ _ _ hI.n3,fun x hx hy=>by rw[hk1] at hy;injection hy with hy;subst hy;rcases hk2 with hk2|hk2;exact hI.a12 _ hx hk2;have:=(hI.ko.lt _ hx).2;omega,hI.a13,fun x hx hy=>by rw[hk1] at hx;injection hx with hx;subst hx;rcases hk2 with hk2|hk2;exact hI.a23 _ hk2 hy;have:=(hI.co.lt _ hy).2;omega,hI.n1,nr,hI.n3,(ne1 _ (by omega)).trans dx,
  (((hI.fr.trans hf5 (fun i hi=>.inl hi)).alloc _).grown hgw (fun q hq=>.inr (by have:=(own0 q hq).1;omega))).setCell _ _ (.inr (Nat.le_of_lt hrs))⟩
theorem aEZ {w wr w5:World}{g r:Nat}{lf b b':Bool}{K C:List Int}{V:List ByteArray}{s:ByteArray}{kv vv cv:Value}(hI:ReadJ w g r lf K V C s b kv vv cv wr)(hg:g<w.heap.size)(hK:C.length<=1000)(x:Int)(m:ByteArray)(hr5:RDb w5 g m b')(hf5:Frm (fun k=>k=g) wr w5) :
  ∃ v' v6,(Builtin.append_ #[36,36] 36 #[cv,.slice (some ⟨w5.heap.size,0,none⟩) 1 1]).run Tryz.prog (w5.alloc (.cells #[.int .i64 x] 3))=.ok v' v6/\Frm (RF w g r) wr v6 /\
   v6.heap[r]?=some (.cells #[lf,kv,vv,cv] 166)/\ReadJ w g r lf K V (C++[x]) m b' kv vv v' (v6.setCell ⟨r,3,none⟩ v'):=by
 obtain⟨i0,hi,hz0,hz1,hz2⟩:=info_parts IW;have hbx:=(zl hI.box);have hrs:=hI.hr;have hs5:=hf5.size;have nog:∀ k,w.heap.size<=k->¬ k=g:=fun k hk e=>by omega
 have o1:=(jD hI.ko hf5 (fun k hk=>nog k (by have:=(hI.ko.lt k hk).1;omega))).alloc (.cells #[.int .i64 x] 3);have o2:=(jD hI.vo hf5 (fun k hk=>nog k (by have:=(hI.vo.lt k hk).1;omega))).alloc (.cells #[.int .i64 x] 3);have o3:=(jD hI.co hf5 (fun k hk=>nog k (by have:=(hI.co.lt k hk).1;omega))).alloc (.cells #[.int .i64 x] 3);have h6s:(w5.alloc (.cells #[.int .i64 x] 3)).heap.size=w5.heap.size+1:=by simp
 obtain⟨v',v6,k,hr,ho,hgw,hk1,hk2⟩:=yV (P:=Tryz.prog) (w5.alloc (.cells #[.int .i64 x] 3)) (w.heap.size+1) 36 36 3 i0 (.int .i64 0) 8 (by decide) Tryz.underlying36 hi hz0 hz1 hz2 rfl cv C.length _ o3 w5.heap.size (.int .i64 x) (by rw[cob (han w5 _)];rfl) rfl (by omega) (by omega);have own0:∀ q,cv.ownBlock=some q->w.heap.size+1<=q/\q<wr.heap.size:=fun q hq=>hI.co.lt q hq
 have keep:∀ q,q<wr.heap.size->¬ q=g->cv.ownBlock≠some q->v6.heap[q]?=wr.heap[q]?:=fun q hq hqg hne=>
  (hgw.block q (by omega) (fun e=>hne e.symm)).trans ((hao w5 _ (by omega)).trans (hf5.block q hq hqg))
 have bx:=(keep r hbx (nog _ (by omega)) hI.n3).trans hI.box;have rx:=(keep w.heap.size (by omega) (nog _ (Nat.le_refl _)) (fun e=>by have:=(own0 _ e).1;omega)).trans hI.res
 have dx:v6.heap[g]?=some (.cells #[m,b'] 244):=
  (hgw.block g (by omega) (fun e=>by have:=(own0 _ e.symm).1;omega)).trans ((hao w5 _ (by omega)).trans hr5)
 have nr:v'.ownBlock≠some r:=fun e=>by
  rw[hk1] at e;injection e with e;subst e
  rcases hk2 with hk2|hk2
  ·exact hI.n3 hk2
  ·omega
 have ne1:∀ q,¬ q=r->(v6.setCell ⟨r,3,none⟩ v').heap[q]?=v6.heap[q]?:=fun q hq=>Below.heap_setCell _ _ _ _ hq
 refine⟨v',v6,hr,((hf5.mono (fun i hi=>.inl hi)).alloc _).grown hgw (fun q hq=>.inl (.inr ⟨(own0 q hq).1,fun e=>by subst e;exact hI.n3 hq⟩)),bx,?_⟩
 exact⟨hrs,by rw[hss _ _ 3 _ _ _ bx];rfl,(ne1 _ (by omega)).trans rx,gX (o1.kept hgw (lD (fun x h1 h2=>hI.a13 x h1 h2))) _ _ _ hI.n1,gX (o2.kept hgw (lD (fun x h1 h2=>hI.a23 x h1 h2))) _ _ _ hI.n2,by rw[List.map_append,List.length_append];exact gX ho _ _ _ nr,hI.a12,fun x hx hy=>by rw[hk1] at hy;injection hy with hy;subst hy;rcases hk2 with hk2|hk2;exact hI.a13 _ hx hk2;have:=(hI.ko.lt _ hx).2;omega,fun x hx hy=>by rw[hk1] at hy;injection hy with hy;subst hy;rcases hk2 with hk2|hk2;exact hI.a23 _ hx hk2;have:=(hI.vo.lt _ hx).2;omega,hI.n1,hI.n2,nr,(ne1 _ (by omega)).trans dx,
  (((hI.fr.trans hf5 (fun i hi=>.inl hi)).alloc _).grown hgw (fun q hq=>.inr (by have:=(own0 q hq).1;omega))).setCell _ _ (.inr (Nat.le_of_lt hrs))⟩
def Unf (w:World)(a:Option Addr):Prop:=∀ x,a=some x->x.block<w.heap.size/\∀ i,w.frozen? ⟨x.block,i,none⟩=false
theorem Unf.below {w w':World}{a:Option Addr}(h:Unf w a)(hb:Below w.heap.size w w'):Unf w' a:=by
 intro x hx;obtain⟨h1,h2⟩:=h x hx;refine⟨Nat.lt_of_lt_of_le h1 hb.size,fun i=>?_⟩;have:=h2 i;unfold World.frozen? at this |-;rw[show w'.heap[(⟨x.block,i,none⟩:Addr).block]?=w.heap[(⟨x.block,i,none⟩:Addr).block]? from hb.block x.block h1];exact this
theorem Unf.setCell {w:World}{a:Option Addr}(h:Unf w a)(p:Addr)(u:Value):Unf (w.setCell p u) a:=by
 intro x hx;obtain⟨h1,h2⟩:=h x hx;exact⟨by simp[World.setCell];exact h1,fun i=>by rw[World.frozen?_setCell];exact h2 i⟩
theorem Unf.own {w:World}{B:Nat}{e:TypeId}{z n:Nat}{a:Option Addr}{m c:Nat}{xs:List Value}(h:w.ownsRow B e z (.slice a m c) n xs):Unf w a:=by
 intro x hx
 rcases h.2 with⟨h1,_⟩|⟨g,cap,cur,h1,h2,h3,_⟩
 ·injection h1 with h1;rw[h1] at hx;cases hx
 ·injection h1 with h1;rw[h1] at hx;injection hx with hx;subst hx
  refine⟨(zl h3),fun i=>?_⟩;unfold World.frozen?;rw[h3];simp
def nA (lo:Nat)(n:Nod)(e:Ending)(w':World):Prop:=∃ ak av ac ck cv cc,e=.returned (aJ n ak av ac ck cv cc)/\NodR w' n ak av ac ck cv cc/\(∀ x,ak=some x->lo<=x.block)/\(∀ x,av=some x->lo<=x.block)/\(∀ x,ac=some x->lo<=x.block)/\Unf w' ak/\Unf w' ac
theorem ReadJ.done {w wr:World}{g r:Nat}{lf b:Bool}{K C:List Int}{V:List ByteArray}{s:ByteArray}{kv vv cv:Value}(hI:ReadJ w g r lf K V C s b kv vv cv wr)(hg:g<w.heap.size)(hok:dD ⟨lf,K,V,C⟩) :
  nA w.heap.size ⟨lf,K,V,C⟩ (.returned (.agg #[lf,kv,vv,cv])) ((((wr.setCell ⟨w.heap.size,0,none⟩ (.bool lf)).setCell ⟨w.heap.size,1,none⟩ kv).setCell ⟨w.heap.size,2,none⟩ vv).setCell ⟨w.heap.size,3,none⟩ cv)/\RDb ((((wr.setCell ⟨w.heap.size,0,none⟩ (.bool lf)).setCell ⟨w.heap.size,1,none⟩ kv).setCell ⟨w.heap.size,2,none⟩ vv).setCell ⟨w.heap.size,3,none⟩ cv) g s b/\Frm (fun k=>k=g) w ((((wr.setCell ⟨w.heap.size,0,none⟩ (.bool lf)).setCell ⟨w.heap.size,1,none⟩ kv).setCell ⟨w.heap.size,2,none⟩ vv).setCell ⟨w.heap.size,3,none⟩ cv):=by
 obtain⟨ak,ck,e1,r1,l1,m1⟩:=Rd.own hI.ko;obtain⟨av,cv',e2,r2,l2,m2⟩:=Rd.own hI.vo;obtain⟨ac,cc,e3,r3,l3,m3⟩:=Rd.own hI.co;have b1:∀ x,ak=some x->w.heap.size+1<=x.block:=fun x hx=>(hI.ko.lt x.block (by rw[e1,hx];rfl)).1
 have b2:∀ x,av=some x->w.heap.size+1<=x.block:=fun x hx=>(hI.vo.lt x.block (by rw[e2,hx];rfl)).1
 have b3:∀ x,ac=some x->w.heap.size+1<=x.block:=fun x hx=>(hI.co.lt x.block (by rw[e3,hx];rfl)).1
 subst e1 e2 e3;have u1:=Unf.own hI.ko;have u3:=Unf.own hI.co;rw[List.length_map] at l1 l2 l3;have hne:∀ i,g≠(⟨w.heap.size,i,none⟩:Addr).block:=fun i=>by show g≠w.heap.size;omega
 refine⟨⟨ak,av,ac,ck,cv',cc,?_,⟨r1.set4 _ _ _ _ _ (fun x hx=>by have:=b1 x hx;omega),r2.set4 _ _ _ _ _ (fun x hx=>by have:=b2 x hx;omega),r3.set4 _ _ _ _ _ (fun x hx=>by have:=b3 x hx;omega),l1,m1,l2,m2,l3,m3,hok⟩,fun x hx=>by have:=b1 x hx;omega,fun x hx=>by have:=b2 x hx;omega,fun x hx=>by have:=b3 x hx;omega,(((u1.setCell _ _).setCell _ _).setCell _ _).setCell _ _,(((u3.setCell _ _).setCell _ _).setCell _ _).setCell _ _⟩,?_,?_⟩
 ·unfold aJ;simp only[List.length_map]
 ·unfold RDb
  rw[Below.heap_setCell _ _ _ _ (hne 3),Below.heap_setCell _ _ _ _ (hne 2),Below.heap_setCell _ _ _ _ (hne 1),Below.heap_setCell _ _ _ _ (hne 0)];exact hI.rd
 ·exact(((hI.fr.setCell _ _ (.inr (Nat.le_refl _))).setCell _ _ (.inr (Nat.le_refl _))).setCell _ _ (.inr (Nat.le_refl _))).setCell _ _ (.inr (Nat.le_refl _))
theorem AQ (f:Nat)(s:ByteArray)(h:s.size=0):bS f s=([],[],false):=by cases f;rfl;unfold bS;rw[if_pos h]
theorem VX (f:Nat)(s:ByteArray)(h:s.size=0):eI f s=([],[],false):=by cases f;rfl;unfold eI;rw[if_pos h]
theorem mE (i:Nat):(Value.slice none 0 0).ownBlock≠some i:=fun h=>by cases h
theorem PR (g:Nat)(s:ByteArray)(b:Bool)(f:Nat)(w:World)(h:RDb w g s b)(hf:s.size<=f)(h2:s.size<=240)(KT:List Int)(VT:List ByteArray)(bad:Bool)(hr:Hid (bS f s=(KT,VT,bad))) :
  () 168 #[g] w fun e w'=>nA w.heap.size ⟨true,KT,VT,[]⟩ e w'/\RDb w' g ⟨#[]⟩ (b || bad)/\Frm (fun k=>k=g) w w':=by
 have HG:=Hd (zl h);obtain⟨i1,i2,i3,i4,i5,i6⟩:=pO f s;rw[hr.o] at i1 i3 i4 i5
 dsimp only at i1 i3 i4 i5
 have HOK:Hid (dD ⟨true,KT,VT,[]⟩):=Hd ⟨by dsimp only;omega,by dsimp only;omega,Nat.zero_le _,i4,fun v hv=>by have:=i5 v hv;omega,fun x hx=>by cases hx⟩;obtain⟨r,hre⟩:∃ r,w.heap.size+1=r:=⟨_,rfl⟩
 have HRR:Hid (w.heap.size<r):=Hd (by omega)
 have W0:Hid (ReadJ w g r true [] [] [] s b (.slice none 0 0) (.slice none 0 0) (.slice none 0 0) ((w.alloc (.cells #[false,.slice none 0 0,.slice none 0 0,.slice none 0 0]  166)).alloc (.cells #[true,.slice none 0 0,.slice none 0 0,.slice none 0 0]  166))):=Hd
  ⟨by omega,by rw[<-hre,<-show(w.alloc (.cells #[false,.slice none 0 0,.slice none 0 0,.slice none 0 0]  166)).heap.size=w.heap.size+1 from by simp];exact han _ _,
   (hao _ _ (by simp)).trans (han w _),World.ownsRow_nil _ _ _ _,World.ownsRow_nil _ _ _ _,World.ownsRow_nil _ _ _ _,(fun x hx=>by cases hx),(fun x hx=>by cases hx),(fun x hx=>by cases hx),mE _,mE _,mE _,
   (hao _ _ (by simp;have:=HG.o;omega)).trans ((hao w _ HG.o).trans h),((Frm.refl _ w).alloc _).alloc _⟩
 obtain⟨bad',hb'⟩:∃ bad',(b || bad)=bad':=⟨_,rfl⟩
 have R1:Hid ([]++(bS f s).1=KT/\[]++(bS f s).2.1=VT/\(b || (bS f s).2.2)=bad'):=Hd (by rw[hr.o];exact⟨rfl,rfl,hb'⟩);rw[hb'];clear h hr i1 i2 i3 i4 i5 i6 hb';go_enter Tryz.func168,Tryz.ntmps168;go_wp2_with fail
 go_loopw [] (fun wr=>∃ (Kj:List Int) (Vj:List ByteArray) (s:ByteArray) (b:Bool) (kv vv:Value) (f:Nat),ReadJ w g r true Kj Vj [] s b kv vv (.slice none 0 0) wr/\Kj++(bS f s).1=KT/\Vj++(bS f s).2.1=VT/\(b || (bS f s).2.2)=bad'/\s.size<=f/\Kj.length+s.size<=260/\Vj.length+s.size<=270) (fun wr=>LN g wr)
 case atStart=>exact⟨[],[],s,b,_,_,f,W0.o,R1.1,R1.2.1,R1.2.2,hf,by simp;omega,by simp;omega⟩
 case round=>
  obtain⟨Kj,Vj,s,b,kv,vv,f,hJ,hK1,hV1,hbad,hsf,hb1,hb2⟩:=hrel;obtain⟨ka,kc,hkv,-,-,-⟩:=Rd.own hJ.ko;obtain⟨va,vc,hvv,-,-,-⟩:=Rd.own hJ.vo;obtain⟨kl,hkl⟩:∃ kl,(List.map bI Kj).length=kl:=⟨_,rfl⟩
  obtain⟨vl,hvl⟩:∃ vl,(List.map Value.string Vj).length=vl:=⟨_,rfl⟩
  rw[hkl] at hkv;rw[hvl] at hvv;subst hkv hvv;clear hkl hvl;have HJ:=Hd hJ;have hb:=hJ.box;have HB:=Hd hb;have rd0:=cl hJ.rd 0 rfl;have ltN:r<wr.heap.size:=(zl hb);have nF:¬ RF w g r r:=fun hx=>by rcases hx with hx|hx;have:=HG.o;have:=HRR.o;omega;exact hx.2 rfl
  have HK1:=Hd hK1;have HV1:=Hd hV1;have HBD:=Hd hbad;clear hJ hK1 hV1 hbad
  by_cases hem0:s.size=0
  ·have e3:s=⟨#[]⟩:=dY hem0
   subst e3;have e1:=HK1.o;have e2:=HV1.o;have e4:=HBD.o;rw[AQ f _ rfl,List.append_nil] at e1 e2;rw[AQ f _ rfl] at e4;rw[Bool.or_false] at e4;subst e1 e2 e4;have RB:=HJ.res;have y0:=cl RB 0 rfl;have y1:=cl RB 1 rfl;have y2:=cl RB 2 rfl;have y3:=cl RB 3 rfl;have f0:=ufb RB 0;have f1:=ufb RB 1;have f2:=ufb RB 2;have f3:=ufb RB 3;have n0:=cl hb 0 rfl;have n1:=cl hb 1 rfl;have n2:=cl hb 2 rfl;have n3:=cl hb 3 rfl
   have XR:((((wr.setCell ⟨w.heap.size,0,none⟩ (.bool true)).setCell ⟨w.heap.size,1,none⟩ (.slice ka kl kc)).setCell ⟨w.heap.size,2,none⟩ (.slice va vl vc)).setCell ⟨w.heap.size,3,none⟩ (.slice none 0 0)).heap[w.heap.size]?=some (.cells #[true,ka kl kc,va vl vc,.slice none 0 0]  166):=by
    rw[hss _ _ 3 _ _ _ (hss _ _ 2 _ _ _ (hss _ _ 1 _ _ _ (hss _ _ 0 _ _ _ RB)))]
    rfl
   have Z0:Hid (((((wr.setCell ⟨w.heap.size,0,none⟩ (.bool true)).setCell ⟨w.heap.size,1,none⟩ (.slice ka kl kc)).setCell ⟨w.heap.size,2,none⟩ (.slice va vl vc)).setCell ⟨w.heap.size,3,none⟩ (.slice none 0 0)).cell? ⟨w.heap.size,0,none⟩=some (.bool true)):=Hd (by rw[cob XR];rfl)
   have Z1:Hid (((((wr.setCell ⟨w.heap.size,0,none⟩ (.bool true)).setCell ⟨w.heap.size,1,none⟩ (.slice ka kl kc)).setCell ⟨w.heap.size,2,none⟩ (.slice va vl vc)).setCell ⟨w.heap.size,3,none⟩ (.slice none 0 0)).cell? ⟨w.heap.size,1,none⟩=some (.slice ka kl kc)):=Hd (by rw[cob XR];rfl)
   have Z2:Hid (((((wr.setCell ⟨w.heap.size,0,none⟩ (.bool true)).setCell ⟨w.heap.size,1,none⟩ (.slice ka kl kc)).setCell ⟨w.heap.size,2,none⟩ (.slice va vl vc)).setCell ⟨w.heap.size,3,none⟩ (.slice none 0 0)).cell? ⟨w.heap.size,2,none⟩=some (.slice va vl vc)):=Hd (by rw[cob XR];rfl)
   have Z3:Hid (((((wr.setCell ⟨w.heap.size,0,none⟩ (.bool true)).setCell ⟨w.heap.size,1,none⟩ (.slice ka kl kc)).setCell ⟨w.heap.size,2,none⟩ (.slice va vl vc)).setCell ⟨w.heap.size,3,none⟩ (.slice none 0 0)).cell? ⟨w.heap.size,3,none⟩=some (.slice none 0 0)):=Hd (by rw[cob XR];rfl);have FIN:=Hd (HJ.done HG HOK.o);clear RB XR;go_wp2_with fail;exact bodyPost_ret (v:=.agg #[true,ka kl kc,va vl vc,.slice none 0 0]) (by simp[results,Tryz.results168,go_sem,Z0.o,Z1.o,Z2.o,Z3.o]) rfl FIN.o
  ·obtain⟨f',rfl⟩:∃ f',f=f'+1:=⟨f-1,by omega⟩
   have hem:s.toList.isEmpty=false:=jL _ (Nat.pos_of_ne_zero hem0);have l1:=pI s hem0 (k:=8) (by decide);have l2:=UG (aA s 8)
   have hstep:bS (f'+1) s=(aT s 8::(bS f' (ttR (aA s 8))).1,ttS (aA s 8)::(bS f' (ttR (aA s 8))).2.1,(decide (dP s 8≠0) || decide (ttE (aA s 8)≠0)) || (bS f' (ttR (aA s 8))).2.2):=by
    conv=>lhs;unfold bS
    rw[if_neg hem0]
   have NK:Hid (Kj++[aT s 8]++(bS f' (ttR (aA s 8))).1=KT):=Hd (by have:=HK1.o;rw[hstep] at this;simpa using this);have NV:Hid (Vj++[ttS (aA s 8)]++(bS f' (ttR (aA s 8))).2.1=VT):=Hd (by have:=HV1.o;rw[hstep] at this;simpa using this);have NB:Hid (((b || decide (dP s 8≠0)) || decide (ttE (aA s 8)≠0) || (bS f' (ttR (aA s 8))).2.2)=bad'):=Hd (by have:=HBD.o;rw[hstep] at this;rw[<-this];simp only[Bool.or_assoc]);have hsf':(ttR (aA s 8)).size<=f':=by omega
   have hms:(aA s 8).size<=9223372036854775807:=by omega
   have NX:=Hd (fun w5 h=>jZ g s (aA s 8) 8 (aT s 8) w5 b h (Hd rfl) (Hd rfl) _ (Hd rfl));have TX:=Hd (fun w5 h=>PP g (aA s 8) (ttR (aA s 8)) (ttS (aA s 8)) w5 (b || decide (dP s 8≠0)) h hms (Hd rfl) (Hd rfl) _ (Hd rfl));have HL1:Hid (Kj.length<=1000):=Hd (by omega);have HL2:Hid (Vj.length<=1000):=Hd (by omega);have A8:Hid ((ttR (aA s 8)).size<s.size):=Hd (by omega)
   have A9:Hid ((Kj++[aT s 8]).length+(ttR (aA s 8)).size<=260/\(Vj++[ttS (aA s 8)]).length+(ttR (aA s 8)).size<=270):=Hd (by simp only[List.length_append,List.length_cons,List.length_nil];omega);have HSF:=Hd hsf';clear l1 l2 hstep HK1 HV1 HBD hsf' hsf hb1 hb2 hem0 hms;obtain⟨b1,hb1e⟩:∃ b1,(b || decide (dP s 8≠0))=b1:=⟨_,rfl⟩
   rw[hb1e] at NX TX NB;obtain⟨b2,hb2e⟩:∃ b2,(b1 || decide (ttE (aA s 8)≠0))=b2:=⟨_,rfl⟩
   rw[hb2e] at TX NB;clear hb1e hb2e;generalize ttR (aA s 8)=s' at *;generalize ttS (aA s 8)=vx at *;generalize aT s 8=kx at *;generalize aA s 8=m at *;go_wp2_with fail;refine iS (fun w'=>Frm (RF w g r) wr w') 7 (by kernel_rfl) ?_;have hS:=((Frm.refl (RF w g r) wr).drew)
   refine Wsd 0 10 ?vk0 hS ?hk0 ?rk0
   case hk0=>
    intro w9;go_simp;try (with_reducible rfl)
   simp only[SL];refine Wtd 1 11 ?vk1 hS ?hk1 ?rk1
   case hk1=>
    intro w9 s9;have cN:=cl ((s9.block _ (zl HB.o) nF).trans HB.o) 1 rfl;go_simp;try (with_reducible rfl)
   simp only[SL];refine Wsd 2 12 ?vk2 hS ?hk2 ?rk2
   case hk2=>
    intro w9;go_simp;try (with_reducible rfl)
   simp only[SL];refine Wp 3 (fun K HK=>?_);go_simp;go_wp2_with fail;refine(NX wr.drew (show RDb wr.drew g s b from HJ.rd)).mono ?_;rintro e w5 ⟨rfl,hr5,hf5⟩;have hS5:=hS.trans hf5 (fun i hi=>.inl (.inl hi));clear hS;have hS:=hS5;clear hS5;obtain⟨v',v6,hap,F6,B6,J6⟩:=aC6 HJ HG HL1 kx m hr5 ((Frm.refl (fun k=>k=g) wr).drew.trans hf5 (fun i hi=>.inl hi));obtain⟨qak,qck,hqv,-,-,-⟩:=Rd.own J6.ko;obtain⟨qlk,hql⟩:∃ ql,(List.map bI (Kj++[kx])).length=ql:=⟨_,rfl⟩
   rw[hql] at hqv;subst hqv;clear hql;have HAP:=Hd hap;have F6H:=Hd F6;have y0:=cl B6 1 rfl;have f0:=ufb B6 1;have J6Hk:=Hd J6;clear hap F6 B6 J6 hr5 hf5;refine HK _ _ ?_ (fun _=>hS);clear HK K;try simp only[Act.put,SL]
   refine Wp 4 (fun K HK=>?_);go_simp;have hS6:=hS.alloc (.cells #[.int .u64 kx] 80);clear hS;have hS:=hS6;clear hS6;refine HK _ _ ?_ (fun _=>hS);clear HK K;try simp only[Act.put,SL]
   refine Wp 5 (fun K HK=>?_);refine eG (by rfl) 15 (by rfl) (.tmp 11) (.tmp 14) 163 (by rfl) _ _ _ (by rfl) (by rfl) HAP ?_;clear hS HAP;have hS:=F6H.o;refine HK _ _ ?_ (fun _=>hS);clear HK K;try simp only[Act.put,SL]
   refine Wsd 6 16 ?vk6 hS ?hk6 ?rk6
   case hk6=>
    intro w9;go_simp;try (with_reducible rfl)
   simp only[SL];refine Wp 7 (fun K HK=>?_);go_simp;refine HK _ _ ?_ (fun h=>absurd rfl h);clear HK K;refine kK (by kernel_rfl) ?_;obtain⟨wq,hwq⟩:∃ wq,v6.setCell ⟨r,1,none⟩ (.slice qak qlk qck)=wq:=⟨_,rfl⟩
   rw[hwq] at J6Hk |-;have HB2:=Hd J6Hk.box;clear hwq F6H rd0 ltN hem;go_wp2_with fail;refine iS (fun w'=>Frm (RF w g r) wq w') 7 (by kernel_rfl) ?_;have hS:=((Frm.refl (RF w g r) wq).drew)
   refine Wsd 0 17 ?vv0 hS ?hv0 ?rv0
   case hv0=>
    intro w9;go_simp;try (with_reducible rfl)
   simp only[SL];refine Wtd 1 18 ?vv1 hS ?hv1 ?rv1
   case hv1=>
    intro w9 s9;have cN:=cl ((s9.block _ (zl HB2.o) nF).trans HB2.o) 2 rfl;go_simp;try (with_reducible rfl)
   simp only[SL];refine Wsd 2 19 ?vv2 hS ?hv2 ?rv2
   case hv2=>
    intro w9;go_simp;try (with_reducible rfl)
   simp only[SL];refine Wp 3 (fun K HK=>?_);go_simp;go_wp2_with fail;refine(TX wq.drew (show RDb wq.drew g m b1 from J6Hk.rd)).mono ?_;rintro e w5 ⟨rfl,hr5,hf5⟩;have hS5:=hS.trans hf5 (fun i hi=>.inl (.inl hi));clear hS;have hS:=hS5;clear hS5;obtain⟨v9,v6,hap,F6,B6,J6⟩:=aE0 J6Hk HG HL2 vx s' hr5 ((Frm.refl (fun k=>k=g) wq).drew.trans hf5 (fun i hi=>.inl hi));obtain⟨qav,qcv,hqv,-,-,-⟩:=Rd.own J6.vo;obtain⟨qlv,hql⟩:∃ ql,(List.map Value.string (Vj++[vx])).length=ql:=⟨_,rfl⟩
   rw[hql] at hqv;subst hqv;clear hql;have HAP:=Hd hap;have F6H:=Hd F6;have y0:=cl B6 2 rfl;have f0:=ufb B6 2;have J6Hv:=Hd J6;clear hap F6 B6 J6 hr5 hf5;refine HK _ _ ?_ (fun _=>hS);clear HK K;try simp only[Act.put,SL]
   refine Wp 4 (fun K HK=>?_);go_simp;have hS6:=hS.alloc (.cells #[vx] 9);clear hS;have hS:=hS6;clear hS6;refine HK _ _ ?_ (fun _=>hS);clear HK K;try simp only[Act.put,SL]
   refine Wp 5 (fun K HK=>?_);refine eG (by rfl) 22 (by rfl) (.tmp 18) (.tmp 21) 164 (by rfl) _ _ _ (by rfl) (by rfl) HAP ?_;clear hS HAP;have hS:=F6H.o;refine HK _ _ ?_ (fun _=>hS);clear HK K;try simp only[Act.put,SL]
   refine Wsd 6 23 ?vv6 hS ?hv6 ?rv6
   case hv6=>
    intro w9;go_simp;try (with_reducible rfl)
   simp only[SL];refine Wp 7 (fun K HK=>?_);go_simp;refine HK _ _ ?_ (fun h=>absurd rfl h);clear HK K;refine kK (by kernel_rfl) ?_;go_wp2_with fail;go_roundw
   case rel=>exact⟨_,_,s',b2,_,_,f',J6Hv.o,NK.o,NV.o,NB.o,HSF.o,A9.1,A9.2⟩
   case measure=>rw[nR J6Hv.rd,nR HJ.rd];exact A8.o
theorem BD (w:World)(B:Nat)(e:TypeId)(u:Value)(h:B<=w.heap.size)(o:Obj):((w.alloc (.cells #[u] e)).alloc o).ownsRow B e 1 (.slice (some ⟨w.heap.size,0,none⟩) 1 1) 1 [u]:=
 ⟨rfl,.inr ⟨w.heap.size,1,#[u],rfl,h,(hao _ _ (by simp)).trans (han w _),Nat.le_refl _,by decide,rfl,rfl⟩⟩
theorem AR (g:Nat)(s:ByteArray)(b:Bool)(f:Nat)(w:World)(h:RDb w g s b)(hf:s.size<=f)(h2:s.size<=240)(KT CT:List Int)(bad:Bool)(c0:Int)(hc0:Hid (aT s 2=c0))(hr:Hid (eI f (aA s 2)=(KT,CT,bad))) :
  () 169 #[g] w fun e w'=>nA w.heap.size ⟨false,KT,[],c0::CT⟩ e w'/\RDb w' g ⟨#[]⟩ ((b || decide (dP s 2≠0)) || bad)/\Frm (fun k=>k=g) w w':=by
 have HG:=Hd (zl h);obtain⟨i1,i2,i3,i4,i5,i6⟩:=tC f (aA s 2);have l0:=mI s 2;have hcr:=nK s;rw[hc0.o] at hcr;rw[hr.o] at i1 i3 i4 i5
 dsimp only at i1 i3 i4 i5
 have HOK:Hid (dD ⟨false,KT,[],c0::CT⟩):=Hd ⟨by dsimp only;omega,Nat.zero_le _,by simp only[List.length_cons];omega,i4,(fun v hv=>by cases hv),fun x hx=>by
  rcases List.mem_cons.1 hx with rfl|hx
  ·omega
  ·have:=i5 x hx;omega⟩
 obtain⟨b0,hb0⟩:∃ b0,(b || decide (dP s 2≠0))=b0:=⟨_,rfl⟩
 have NUM:=Hd (fun w5 h=>jZ g s (aA s 2) 2 c0 w5 b h hc0 (Hd rfl) b0 (Hd hb0));rw[hb0];obtain⟨bad',hb'⟩:∃ bad',(b0 || bad)=bad':=⟨_,rfl⟩
 have R1:Hid ([]++(eI f (aA s 2)).1=KT/\[c0]++(eI f (aA s 2)).2.1=c0::CT/\(b0 || (eI f (aA s 2)).2.2)=bad'):=Hd (by rw[hr.o];exact⟨rfl,rfl,hb'⟩);have hsz:(aA s 2).size<=f:=by omega
 have hsz2:(aA s 2).size<=240:=by omega
 generalize aA s 2=s1 at *;obtain⟨CT',hCT⟩:∃ CT',c0::CT=CT':=⟨_,rfl⟩
 have hcw:IntKind.i64.wrap c0=c0:=by rw[IntKind.wrap_i64];omega
 rw[hCT] at HOK R1 |-;rw[hb'];have RD1:Hid (RDb (w.alloc (.cells #[false,.slice none 0 0,.slice none 0 0,.slice none 0 0]  166)) g s b):=Hd ((hao w _ HG.o).trans h);have b1:Below w.heap.size w (w.alloc (.cells #[false,.slice none 0 0,.slice none 0 0,.slice none 0 0]  166)):=aB _ _;have BB1:=Hd b1;clear h hr hc0 i1 i2 i3 i4 i5 i6 hb' hb0 hCT l0 hf h2 b1;go_enter Tryz.func169,Tryz.ntmps169;go_wp2_with fail;refine(NUM _ RD1.o).mono ?_;rintro e w5 ⟨rfl,hr5,hf5⟩;have HR5:=Hd hr5
 have HF5:Hid (Frm (fun k=>k=g) w w5):=Hd (((Frm.refl (fun k=>k=g) w).alloc _).trans hf5 (fun i hi=>.inl hi));have hs5:w.heap.size+1<=w5.heap.size:=by have:=hf5.size;simpa using this
 have XR5:Hid (w5.heap[w.heap.size]?=some (.cells #[false,.slice none 0 0,.slice none 0 0,.slice none 0 0]  166)):=Hd ((hf5.block _ (by simp) (by show ¬ w.heap.size=g;have:=HG.o;omega)).trans (han w _));clear hr5 hf5 NUM RD1 BB1;obtain⟨r,hre⟩:∃ r,w5.heap.size+1=r:=⟨_,rfl⟩
 have HRR:Hid (w.heap.size<r):=Hd (by omega)
 have W0:Hid (ReadJ w g r false [] [] [c0] s1 b0 (.slice none 0 0) (.slice none 0 0) (.slice (some ⟨w5.heap.size,0,none⟩) 1 1) ((w5.alloc (.cells #[c0] 3)).alloc (.cells #[false,.slice none 0 0,.slice none 0 0,.slice (some ⟨w5.heap.size,0,none⟩) 1 1]  166))):=Hd
  ⟨by omega,by rw[<-hre,<-show(w5.alloc (.cells #[c0] 3)).heap.size=w5.heap.size+1 from by simp];exact han _ _,
   (hao _ _ (by simp;omega)).trans ((hao _ _ (by omega)).trans XR5.o),World.ownsRow_nil _ _ _ _,World.ownsRow_nil _ _ _ _,BD w5 (w.heap.size+1) 3 (.int .i64 c0) (by omega) _,(fun x hx=>by cases hx),(fun x hx=>by cases hx),(fun x hx=>by cases hx),mE _,mE _,(fun h=>by have h':w5.heap.size=r:=Option.some.inj h;omega),
   (hao _ _ (by simp;have:=HG.o;omega)).trans ((hao w5 _ (by have:=HG.o;omega)).trans HR5.o),((HF5.alloc _).alloc _)⟩
 clear HR5 HF5 XR5;go_wp2_with fail
 go_loopw [] (fun wr=>∃ (Kj Cj:List Int) (s:ByteArray) (b:Bool) (kv cv:Value) (f:Nat),ReadJ w g r false Kj [] Cj s b kv (.slice none 0 0) cv wr/\Kj++(eI f s).1=KT/\Cj++(eI f s).2.1=CT'/\(b || (eI f s).2.2)=bad'/\s.size<=f/\Kj.length+s.size<=260/\Cj.length+s.size<=270) (fun wr=>LN g wr)
 case atStart=>exact⟨[],[c0],s1,b0,_,_,f,W0.o,R1.1,R1.2.1,R1.2.2,hsz,by simp;omega,by simp;omega⟩
 case round=>
  obtain⟨Kj,Cj,s,b,kv,cv,f,hJ,hK1,hV1,hbad,hsf,hb1,hb2⟩:=hrel;obtain⟨ka,kc,hkv,-,-,-⟩:=Rd.own hJ.ko;obtain⟨va,vc,hvv,-,-,-⟩:=Rd.own hJ.co;obtain⟨kl,hkl⟩:∃ kl,(List.map bI Kj).length=kl:=⟨_,rfl⟩
  obtain⟨vl,hvl⟩:∃ vl,(List.map dT Cj).length=vl:=⟨_,rfl⟩
  rw[hkl] at hkv;rw[hvl] at hvv;subst hkv hvv;clear hkl hvl;have HJ:=Hd hJ;have hb:=hJ.box;have HB:=Hd hb;have rd0:=cl hJ.rd 0 rfl;have ltN:r<wr.heap.size:=(zl hb);have nF:¬ RF w g r r:=fun hx=>by rcases hx with hx|hx;have:=HG.o;have:=HRR.o;omega;exact hx.2 rfl
  have HK1:=Hd hK1;have HV1:=Hd hV1;have HBD:=Hd hbad;clear hJ hK1 hV1 hbad
  by_cases hem0:s.size=0
  ·have e3:s=⟨#[]⟩:=dY hem0
   subst e3;have e1:=HK1.o;have e2:=HV1.o;have e4:=HBD.o;rw[VX f _ rfl,List.append_nil] at e1 e2;rw[VX f _ rfl] at e4;rw[Bool.or_false] at e4;subst e1 e2 e4;have RB:=HJ.res;have y0:=cl RB 0 rfl;have y1:=cl RB 1 rfl;have y2:=cl RB 2 rfl;have y3:=cl RB 3 rfl;have f0:=ufb RB 0;have f1:=ufb RB 1;have f2:=ufb RB 2;have f3:=ufb RB 3;have n0:=cl hb 0 rfl;have n1:=cl hb 1 rfl;have n2:=cl hb 2 rfl;have n3:=cl hb 3 rfl
   have XR:((((wr.setCell ⟨w.heap.size,0,none⟩ (.bool false)).setCell ⟨w.heap.size,1,none⟩ (.slice ka kl kc)).setCell ⟨w.heap.size,2,none⟩ (.slice none 0 0)).setCell ⟨w.heap.size,3,none⟩ (.slice va vl vc)).heap[w.heap.size]?=some (.cells #[false,ka kl kc,.slice none 0 0,va vl vc]  166):=by
    rw[hss _ _ 3 _ _ _ (hss _ _ 2 _ _ _ (hss _ _ 1 _ _ _ (hss _ _ 0 _ _ _ RB)))]
    rfl
   have Z0:Hid (((((wr.setCell ⟨w.heap.size,0,none⟩ (.bool false)).setCell ⟨w.heap.size,1,none⟩ (.slice ka kl kc)).setCell ⟨w.heap.size,2,none⟩ (.slice none 0 0)).setCell ⟨w.heap.size,3,none⟩ (.slice va vl vc)).cell? ⟨w.heap.size,0,none⟩=some (.bool false)):=Hd (by rw[cob XR];rfl)
   have Z1:Hid (((((wr.setCell ⟨w.heap.size,0,none⟩ (.bool false)).setCell ⟨w.heap.size,1,none⟩ (.slice ka kl kc)).setCell ⟨w.heap.size,2,none⟩ (.slice none 0 0)).setCell ⟨w.heap.size,3,none⟩ (.slice va vl vc)).cell? ⟨w.heap.size,1,none⟩=some (.slice ka kl kc)):=Hd (by rw[cob XR];rfl)
   have Z2:Hid (((((wr.setCell ⟨w.heap.size,0,none⟩ (.bool false)).setCell ⟨w.heap.size,1,none⟩ (.slice ka kl kc)).setCell ⟨w.heap.size,2,none⟩ (.slice none 0 0)).setCell ⟨w.heap.size,3,none⟩ (.slice va vl vc)).cell? ⟨w.heap.size,2,none⟩=some (.slice none 0 0)):=Hd (by rw[cob XR];rfl)
   have Z3:Hid (((((wr.setCell ⟨w.heap.size,0,none⟩ (.bool false)).setCell ⟨w.heap.size,1,none⟩ (.slice ka kl kc)).setCell ⟨w.heap.size,2,none⟩ (.slice none 0 0)).setCell ⟨w.heap.size,3,none⟩ (.slice va vl vc)).cell? ⟨w.heap.size,3,none⟩=some (.slice va vl vc)):=Hd (by rw[cob XR];rfl);have FIN:=Hd (HJ.done HG HOK.o);clear RB XR;go_wp2_with fail;exact bodyPost_ret (v:=.agg #[false,ka kl kc,.slice none 0 0,va vl vc]) (by simp[results,Tryz.results169,go_sem,Z0.o,Z1.o,Z2.o,Z3.o]) rfl FIN.o
  ·obtain⟨f',rfl⟩:∃ f',f=f'+1:=⟨f-1,by omega⟩
   have hem:s.toList.isEmpty=false:=jL _ (Nat.pos_of_ne_zero hem0);have l1:=pI s hem0 (k:=8) (by decide);have l2:=mI (aA s 8) 2
   have hstep:eI (f'+1) s=(aT s 8::(eI f' (aA (aA s 8) 2)).1,aT (aA s 8) 2::(eI f' (aA (aA s 8) 2)).2.1,(decide (dP s 8≠0) || decide (dP (aA s 8) 2≠0)) || (eI f' (aA (aA s 8) 2)).2.2):=by
    conv=>lhs;unfold eI
    rw[if_neg hem0]
   have NK:Hid (Kj++[aT s 8]++(eI f' (aA (aA s 8) 2)).1=KT):=Hd (by have:=HK1.o;rw[hstep] at this;simpa using this);have NV:Hid (Cj++[aT (aA s 8) 2]++(eI f' (aA (aA s 8) 2)).2.1=CT'):=Hd (by have:=HV1.o;rw[hstep] at this;simpa using this);have NB:Hid (((b || decide (dP s 8≠0)) || decide (dP (aA s 8) 2≠0) || (eI f' (aA (aA s 8) 2)).2.2)=bad'):=Hd (by have:=HBD.o;rw[hstep] at this;rw[<-this];simp only[Bool.or_assoc]);have hsf':(aA (aA s 8) 2).size<=f':=by omega
   have hms:(aA s 8).size<=9223372036854775807:=by omega
   have NX:=Hd (fun w5 h=>jZ g s (aA s 8) 8 (aT s 8) w5 b h (Hd rfl) (Hd rfl) _ (Hd rfl));have TX:=Hd (fun w5 h=>jZ g (aA s 8) (aA (aA s 8) 2) 2 (aT (aA s 8) 2) w5 (b || decide (dP s 8≠0)) h (Hd rfl) (Hd rfl) _ (Hd rfl));have hvx:0<=aT (aA s 8) 2/\aT (aA s 8) 2<=65535:=nK _;have HL1:Hid (Kj.length<=1000):=Hd (by omega);have HL2:Hid (Cj.length<=1000):=Hd (by omega);have A8:Hid ((aA (aA s 8) 2).size<s.size):=Hd (by omega)
   have A9:Hid ((Kj++[aT s 8]).length+(aA (aA s 8) 2).size<=260/\(Cj++[aT (aA s 8) 2]).length+(aA (aA s 8) 2).size<=270):=Hd (by simp only[List.length_append,List.length_cons,List.length_nil];omega);have HSF:=Hd hsf';clear l1 l2 hstep HK1 HV1 HBD hsf' hsf hb1 hb2 hem0 hms;obtain⟨b1,hb1e⟩:∃ b1,(b || decide (dP s 8≠0))=b1:=⟨_,rfl⟩
   rw[hb1e] at NX TX NB;obtain⟨b2,hb2e⟩:∃ b2,(b1 || decide (dP (aA s 8) 2≠0))=b2:=⟨_,rfl⟩
   rw[hb2e] at TX NB;clear hb1e hb2e;generalize aA (aA s 8) 2=s' at *;generalize aT (aA s 8) 2=vx at *;generalize aT s 8=kx at *;generalize aA s 8=m at *;have hvw:IntKind.i64.wrap vx=vx:=by rw[IntKind.wrap_i64];omega
   go_wp2_with fail;refine iS (fun w'=>Frm (RF w g r) wr w') 7 (by kernel_rfl) ?_;have hS:=((Frm.refl (RF w g r) wr).drew)
   refine Wsd 0 14 ?vk0 hS ?hk0 ?rk0
   case hk0=>
    intro w9;go_simp;try (with_reducible rfl)
   simp only[SL];refine Wtd 1 15 ?vk1 hS ?hk1 ?rk1
   case hk1=>
    intro w9 s9;have cN:=cl ((s9.block _ (zl HB.o) nF).trans HB.o) 1 rfl;go_simp;try (with_reducible rfl)
   simp only[SL];refine Wsd 2 16 ?vk2 hS ?hk2 ?rk2
   case hk2=>
    intro w9;go_simp;try (with_reducible rfl)
   simp only[SL];refine Wp 3 (fun K HK=>?_);go_simp;go_wp2_with fail;refine(NX wr.drew (show RDb wr.drew g s b from HJ.rd)).mono ?_;rintro e w5 ⟨rfl,hr5,hf5⟩;have hS5:=hS.trans hf5 (fun i hi=>.inl (.inl hi));clear hS;have hS:=hS5;clear hS5;obtain⟨v',v6,hap,F6,B6,J6⟩:=aC6 HJ HG HL1 kx m hr5 ((Frm.refl (fun k=>k=g) wr).drew.trans hf5 (fun i hi=>.inl hi));obtain⟨qak,qck,hqv,-,-,-⟩:=Rd.own J6.ko;obtain⟨qlk,hql⟩:∃ ql,(List.map bI (Kj++[kx])).length=ql:=⟨_,rfl⟩
   rw[hql] at hqv;subst hqv;clear hql;have HAP:=Hd hap;have F6H:=Hd F6;have y0:=cl B6 1 rfl;have f0:=ufb B6 1;have J6Hk:=Hd J6;clear hap F6 B6 J6 hr5 hf5;refine HK _ _ ?_ (fun _=>hS);clear HK K;try simp only[Act.put,SL]
   refine Wp 4 (fun K HK=>?_);go_simp;have hS6:=hS.alloc (.cells #[.int .u64 kx] 80);clear hS;have hS:=hS6;clear hS6;refine HK _ _ ?_ (fun _=>hS);clear HK K;try simp only[Act.put,SL]
   refine Wp 5 (fun K HK=>?_);refine eG (by rfl) 19 (by rfl) (.tmp 15) (.tmp 18) 163 (by rfl) _ _ _ (by rfl) (by rfl) HAP ?_;clear hS HAP;have hS:=F6H.o;refine HK _ _ ?_ (fun _=>hS);clear HK K;try simp only[Act.put,SL]
   refine Wsd 6 20 ?vk6 hS ?hk6 ?rk6
   case hk6=>
    intro w9;go_simp;try (with_reducible rfl)
   simp only[SL];refine Wp 7 (fun K HK=>?_);go_simp;refine HK _ _ ?_ (fun h=>absurd rfl h);clear HK K;refine kK (by kernel_rfl) ?_;obtain⟨wq,hwq⟩:∃ wq,v6.setCell ⟨r,1,none⟩ (.slice qak qlk qck)=wq:=⟨_,rfl⟩
   rw[hwq] at J6Hk |-;have HB2:=Hd J6Hk.box;clear hwq F6H rd0 ltN hem;go_wp2_with fail;refine iS (fun w'=>Frm (RF w g r) wq w') 8 (by kernel_rfl) ?_;have hS:=((Frm.refl (RF w g r) wq).drew)
   refine Wsd 0 21 ?vv0 hS ?hv0 ?rv0
   case hv0=>
    intro w9;go_simp;try (with_reducible rfl)
   simp only[SL];refine Wtd 1 22 ?vv1 hS ?hv1 ?rv1
   case hv1=>
    intro w9 s9;have cN:=cl ((s9.block _ (zl HB2.o) nF).trans HB2.o) 3 rfl;go_simp;try (with_reducible rfl)
   simp only[SL];refine Wsd 2 23 ?vv2 hS ?hv2 ?rv2
   case hv2=>
    intro w9;go_simp;try (with_reducible rfl)
   simp only[SL];refine Wp 3 (fun K HK=>?_);go_simp;go_wp2_with fail;refine(TX wq.drew (show RDb wq.drew g m b1 from J6Hk.rd)).mono ?_;rintro e w5 ⟨rfl,hr5,hf5⟩;have hS5:=hS.trans hf5 (fun i hi=>.inl (.inl hi));clear hS;have hS:=hS5;clear hS5;obtain⟨v9,v6,hap,F6,B6,J6⟩:=aEZ J6Hk HG HL2 vx s' hr5 ((Frm.refl (fun k=>k=g) wq).drew.trans hf5 (fun i hi=>.inl hi));obtain⟨qav,qcv,hqv,-,-,-⟩:=Rd.own J6.co;obtain⟨qlv,hql⟩:∃ ql,(List.map dT (Cj++[vx])).length=ql:=⟨_,rfl⟩
   rw[hql] at hqv;subst hqv;clear hql;have HAP:=Hd hap;have F6H:=Hd F6;have y0:=cl B6 3 rfl;have f0:=ufb B6 3;have J6Hv:=Hd J6;clear hap F6 B6 J6 hr5 hf5;refine HK _ _ ?_ (fun _=>hS);clear HK K;try simp only[Act.put,SL]
   refine Wsd 4 25 ?vv4 hS ?hv4 ?rv4
   case hv4=>
    intro w9;go_simp;try (with_reducible rfl)
   simp only[SL];refine Wp 5 (fun K HK=>?_);go_simp;have hS6:=hS.alloc (.cells #[.int .i64 vx] 3);clear hS;have hS:=hS6;clear hS6;refine HK _ _ ?_ (fun _=>hS);clear HK K;try simp only[Act.put,SL]
   refine Wp 6 (fun K HK=>?_);refine eG (by rfl) 27 (by rfl) (.tmp 22) (.tmp 26) 36 (by rfl) _ _ _ (by rfl) (by rfl) HAP ?_;clear hS HAP;have hS:=F6H.o;refine HK _ _ ?_ (fun _=>hS);clear HK K;try simp only[Act.put,SL]
   refine Wsd 7 28 ?vv7 hS ?hv7 ?rv7
   case hv7=>
    intro w9;go_simp;try (with_reducible rfl)
   simp only[SL];refine Wp 8 (fun K HK=>?_);go_simp;refine HK _ _ ?_ (fun h=>absurd rfl h);clear HK K;refine kK (by kernel_rfl) ?_;go_wp2_with fail;go_roundw
   case rel=>exact⟨_,_,s',b2,_,_,f',J6Hv.o,NK.o,NV.o,NB.o,HSF.o,A9.1,A9.2⟩
   case measure=>rw[nR J6Hv.rd,nR HJ.rd];exact A8.o
theorem PW (K:List Int)(a:Option Addr)(c:Nat)(w:World)(h:Rd w a (K.map bI))(h1:K.length<=1000)(hs:¬ ∀ i (h:i+1<K.length),K[i]<K[i+1]) :
  () 195 #[a K.length c] w fun e w'=>e=.returned (.bool false)/\Below w.heap.size w w':=by
 have HR:=Hd h;have HS:=Hd hs;obtain⟨m,hm⟩:∃ m,K.length=m:=⟨_,rfl⟩
 rw[hm] at h1 |-;clear h hs;go_enter Tryz.func195,Tryz.ntmps195;go_wp2_with fail
 go_loopw [3] (fun i wr=>∃ j q:Nat,j<=1000/\i=.int .i64 ((j:Int)+1)/\wr=w.drewN q/\∀ i (h:i+1<K.length),i<j->K[i]<K[i+1]) (fun i _=>1002-(intOf i).toNat)
 case atStart=>exact⟨0,0,by omega,rfl,rfl,fun i h hi=>absurd hi (Nat.not_lt_zero _)⟩
 case round=>
  obtain⟨j,q,hj,rfl,rfl,hall⟩:=hrel;have HA:=Hd hall;clear hall
  by_cases hlt:j+1<m
  ·have hji:(j:Int)+1<(m:Int):=by omega
   have hji2:(j:Int)<(m:Int):=by omega
   have hjl:j<(K.map bI).length:=by rw[List.length_map];omega
   have hjl2:j+1<(K.map bI).length:=by rw[List.length_map];omega
   obtain⟨b,off,hab,hb,z1⟩:=HR.at j hjl;obtain⟨b2,off2,hab2,_,z2⟩:=HR.at (j+1) hjl2;rw[hab] at hab2
   obtain⟨rfl,rfl⟩:b2=b/\off2=off:=by
    have:=Option.some.inj hab2;exact⟨(congrArg Addr.block this).symm,(congrArg Addr.off this).symm⟩
   subst hab;have e1:(K.map bI)[j]=.int .u64 (K[j]'(by omega)):=by rw[List.getElem_map];rfl
   have e2:(K.map bI)[j+1]=.int .u64 (K[j+1]'(by omega)):=by rw[List.getElem_map];rfl
   rw[e1] at z1;rw[e2] at z2
   have HX:Hid (K[j]'(by omega)<K[j+1]'(by omega)->∀ i (h:i+1<K.length),i<j+1->K[i]<K[i+1]):=Hd (fun hx i h hi=>by
    by_cases he:i=j
    ·subst he;exact hx
    ·exact HA i h (by omega))
   clear e1 e2 hab2 hb;generalize K[j]'(by omega)=x at *;generalize K[j+1]'(by omega)=y at *;have hw0:IntKind.i64.wrap ((j:Int)+1-1)=(j:Int):=by rw[IntKind.wrap_i64];omega
   have hw1:IntKind.i64.wrap (j:Int)=(j:Int):=by rw[IntKind.wrap_i64];omega
   have ht1:((j:Int)+1).toNat=j+1:=by omega
   by_cases hge:y<=x
   ·clear HX HA HS
    go_wp2_with fail
    go_quiet (fail)
    go_wp2_with fail;try rw[Exit.noGoto_ret]
    go_ret;exact⟨rfl,bU (bU Br _) _⟩
   ·have HY:=Hd (HX (by omega))
    clear HX HA HS;go_wp2_with fail
    go_quiet (fail)
    go_wp2_with fail;go_roundw
    case rel=>exact⟨j+1,_,by omega,by go_num,rfl,HY.o⟩
    case measure=>simp[intOf];omega
  ·exact absurd (fun i h=>HA i h (by omega)) HS.o
theorem GF (K:List Int)(a:Option Addr)(c:Nat)(w:World)(h:Rd w a (K.map bI))(h1:K.length<=1000)(v:Bool)(hv:AL K=v) :
  () 195 #[a K.length c] w fun e w'=>e=.returned (.bool v)/\Below w.heap.size w w':=by
 cases v with
 | true=>exact tB K a c w h h1 ((qO K).1 hv)
 | false=>exact PW K a c w h h1 (fun hx=>by rw[(qO K).2 hx] at hv;cases hv)
theorem QJ (n:Nod)(ak av ac:Option Addr)(ck cv cc:Nat)(w:World)(h:NodR w n ak av ac ck cv cc)(v:Bool)(hpv:Hid ((lI n&&bH n)=v)) :
  () 187 #[aJ n ak av ac ck cv cc] w fun e w'=>e=.returned (.bool v)/\Below w.heap.size w w':=by
 obtain⟨u,hu⟩:∃ u,bH n=u:=⟨_,rfl⟩
 obtain⟨ri,hri⟩:∃ ri,AL n.K=ri:=⟨_,rfl⟩
 have WH:=Hd (fun w=>gK n ak av ac ck cv cc w h.ok u hu);have RI:=Hd (fun w' (hb:Below w.heap.size w w')=>GF n.K ak ck w' (h.k.below hb) h.ok.k1 ri hri)
 have FV:Hid (∀ i (h:i<n.V.length),¬ n.V[i].size<=40->v=false):=Hd (fun i h hx=>by
  rw[<-hpv.o,Bool.and_eq_false_iff];left
  cases hp:lI n with
  | false=>rfl
  | true=>exact absurd ((dX n).1 hp).2.1 (fun h2=>hx (h2 _ (List.getElem_mem h))))
 have FC:Hid (∀ i (h:i<n.C.length),¬ (2<=n.C[i]/\n.C[i]<640)->v=false):=Hd (fun i h hx=>by
  rw[<-hpv.o,Bool.and_eq_false_iff];left
  cases hp:lI n with
  | false=>rfl
  | true=>exact absurd ((dX n).1 hp).2.2 (fun h2=>hx (h2 _ (List.getElem_mem h))))
 have FE:Hid ((∀ i (h:i<n.V.length),n.V[i].size<=40)->(∀ i (h:i<n.C.length),2<=n.C[i]/\n.C[i]<640)->v=(u&&ri)):=Hd (fun h1 h2=>by
  have a1:n.V.all (fun v=>decide (v.size<=40))=true:=by
   rw[List.all_eq_true];intro x hx;obtain⟨i,hi,rfl⟩:=List.getElem_of_mem hx;exact decide_eq_true (h1 i hi)
  have a2:n.C.all (fun c=>decide (2<=c/\c<640))=true:=by
   rw[List.all_eq_true];intro x hx;obtain⟨i,hi,rfl⟩:=List.getElem_of_mem hx;exact decide_eq_true (h2 i hi)
  rw[<-hpv.o,hu];unfold lI;rw[a1,a2,hri]
  cases u <;> cases ri <;> rfl)
 have hv1:=h.ok.v1;have hc1:=h.ok.c1;have HV0:=h.v;have HC0:=h.c;clear h hpv hu hri;obtain⟨lf,K,V,C⟩:=n;unfold aJ at *
 dsimp only at WH RI hv1 hc1 HV0 HC0 FV FC FE |-
 obtain⟨lk,hlk⟩:∃ lk,K.length=lk:=⟨_,rfl⟩
 obtain⟨lv,hlv⟩:∃ lv,V.length=lv:=⟨_,rfl⟩
 obtain⟨lc,hlc⟩:∃ lc,C.length=lc:=⟨_,rfl⟩
 rw[hlk,hlv,hlc] at WH |-;rw[hlk] at RI;rw[hlv] at hv1;rw[hlc] at hc1;obtain⟨W,hW⟩:∃ W,w.alloc (.cells #[lf,ak lk ck,av lv cv,ac lc cc] 166)=W:=⟨_,rfl⟩
 have bel:Below w.heap.size w W:=by rw[<-hW];exact aB _ _
 have XA:W.heap[w.heap.size]?=some (.cells #[lf,ak lk ck,av lv cv,ac lc cc] 166):=by rw[<-hW];exact han w _
 have x0:=cl XA 0 rfl;have x1:=cl XA 1 rfl;have x2:=cl XA 2 rfl;have x3:=cl XA 3 rfl;have HV:=Hd (HV0.below bel);have HC:=Hd (HC0.below bel);have BEL:=Hd bel;have XH:=Hd XA;have HW:=Hd hW;clear bel XA hW HV0 HC0;go_enter Tryz.func187,Tryz.ntmps187;go_upto_region 1 with fail
 rw[HW.o];go_wp2_with fail
 go_loop [10] (fun i=>∃ j:Nat,j<=lv/\i=.int .i64 (j:Int)/\∀ i (h:i<V.length),i<j->V[i].size<=40) (fun i=>lv+1-(intOf i).toNat)
 case atStart=>exact⟨0,Nat.zero_le _,rfl,fun i h hi=>absurd hi (Nat.not_lt_zero _)⟩
 case round=>
  obtain⟨j,hj,rfl,hall⟩:=hrel;have HA:=Hd hall;clear hall
  by_cases hlt:j<lv
  ·have hji:(j:Int)<(lv:Int):=by omega
   have hjl:j<(V.map Value.string).length:=by rw[List.length_map];omega
   obtain⟨b,off,rfl,hb,z⟩:=HV.at j hjl;have e1:(V.map Value.string)[j]=.string (V[j]'(by omega)):=by rw[List.getElem_map]
   rw[e1] at z
   have HX:Hid ((V[j]'(by omega)).size<=40->∀ i (h:i<V.length),i<j+1->V[i].size<=40):=Hd (fun hx i h hi=>by
    by_cases he:i=j
    ·subst he;exact hx
    ·exact HA i h (by omega))
   have FVJ:=Hd (FV j (by omega));clear e1 hb;generalize V[j]'(by omega)=x at *
   by_cases hz2:(40:Int)<(x.size:Int)
   ·have hvf:v=false:=FVJ (by omega)
    subst hvf;clear HX HA FV FC FE FVJ;go_wp2_with fail;try rw[Exit.noGoto_ret]
    go_ret;exact⟨rfl,BEL.o⟩
   ·have HY:=Hd (HX (by omega))
    clear HX FVJ;go_wp2_with fail
    go_round
    case rel=>exact⟨j+1,by omega,by go_num,HY.o⟩
    case measure=>simp[intOf];omega
  ·obtain rfl:j=lv:=by omega
   have hji:¬ (j:Int)<(j:Int):=by omega
   go_wp2_with fail
   go_loop [21] (fun i=>∃ k:Nat,k<=lc/\i=.int .i64 (k:Int)/\∀ i (h:i<C.length),i<k->2<=C[i]/\C[i]<640) (fun i=>lc+1-(intOf i).toNat)
   case atStart=>exact⟨0,Nat.zero_le _,rfl,fun i h hi=>absurd hi (Nat.not_lt_zero _)⟩
   case round=>
    obtain⟨k,hk,rfl,hall⟩:=hrel;have HAC:=Hd hall;clear hall
    by_cases hlt2:k<lc
    ·have hki:(k:Int)<(lc:Int):=by omega
     have hkl:k<(C.map dT).length:=by rw[List.length_map];omega
     obtain⟨b,off,rfl,hb,z⟩:=HC.at k hkl;have e1:(C.map dT)[k]=.int .i64 (C[k]'(by omega)):=by rw[List.getElem_map];rfl
     rw[e1] at z
     have HX:Hid ((2<=C[k]'(by omega)/\C[k]'(by omega)<640)->∀ i (h:i<C.length),i<k+1->2<=C[i]/\C[i]<640):=Hd (fun hx i h hi=>by
      by_cases he:i=k
      ·subst he;exact hx
      ·exact HAC i h (by omega))
     have FCJ:=Hd (FC k (by omega));clear e1 hb;generalize C[k]'(by omega)=x at *
     by_cases hz1:x<2
     ·have hvf:v=false:=FCJ (by omega)
      subst hvf;clear HX HA HAC FV FC FE FCJ;go_wp2_with fail;try rw[Exit.noGoto_ret]
      go_ret;exact⟨rfl,BEL.o⟩
     ·by_cases hz2:640<=x
      ·have hvf:v=false:=FCJ (by omega)
       subst hvf;clear HX HA HAC FV FC FE FCJ;go_wp2_with fail;try rw[Exit.noGoto_ret]
       go_ret;exact⟨rfl,BEL.o⟩
      ·have HY:=Hd (HX (by omega))
       clear HX FCJ;go_wp2_with fail
       go_round
       case rel=>exact⟨k+1,by omega,by go_num,HY.o⟩
       case measure=>simp[intOf];omega
    ·obtain rfl:k=lc:=by omega
     have hki:¬ (k:Int)<(k:Int):=by omega
     have hvE:=FE (fun i h=>HA i h (by omega)) (fun i h=>HAC i h (by omega));subst hvE;clear FE FV FC HA HAC
     cases u
     ·go_wp2_with fail
      refine(WH _).mono ?_;rintro e w1 ⟨rfl,b1⟩;go_wp2_with fail;go_ret;exact⟨rfl,chain BEL b1⟩
     ·go_wp2_with fail
      refine(WH _).mono ?_;rintro e w1 ⟨rfl,b1⟩;have B1:=Hd (chain BEL b1)
      have y1:w1.cell? ⟨w.heap.size,1,none⟩=some (.slice ak lk ck):=by
       have X1:w1.heap[w.heap.size]?=_:=(b1.block _ (zl XH.o)).trans XH.o;rw[cob X1];rfl
      clear b1;go_wp2_with fail;refine(RI _ B1.o).mono ?_;rintro e w2 ⟨rfl,b2⟩;go_wp2_with fail;go_ret;exact⟨aU (by simp),chain B1 b2⟩
theorem rL (n:Nod)(ak av ac:Option Addr)(ck cv cc:Nat)(w:World)(h:NodR w n ak av ac ck cv cc)(v:Bool)(hv:Hid (cC n=v)) :
  () 170 #[aJ n ak av ac ck cv cc] w fun e w'=>e=.returned (.bool v)/\Below w.heap.size w w':=by
 obtain⟨z,hzz⟩:∃ z,aI n=z:=⟨_,rfl⟩
 obtain⟨pw,hpw⟩:∃ pw,(lI n&&bH n)=pw:=⟨_,rfl⟩
 have PL:=Hd (fun w' (hb:Below w.heap.size w w')=>QJ n ak av ac ck cv cc w' (h.below hb) pw (Hd hpw));have SZ:=Hd (fun(hp:pw=true) w' (hb:Below w.heap.size w w')=>jA n ak av ac ck cv cc w' (h.below hb) z (Hd hzz) (by rw[hp,Bool.and_eq_true] at hpw;exact hpw.2));have hv':(pw&&(!n.leaf || decide (0<n.K.length))&&decide (z<=240))=v:=by rw[<-hv.o,<-hpw,<-hzz];rfl
 clear h hzz hpw hv;obtain⟨lf,K,V,C⟩:=n;unfold aJ at *
 dsimp only at PL SZ hv' |-
 generalize K.length=lk at *;generalize V.length=lv at *;generalize C.length=lc at *;have b0:Below w.heap.size w (w.alloc (.cells #[lf,ak lk ck,av lv cv,ac lc cc] 166)):=aB _ _;have B0:=Hd b0;subst hv';clear b0
 cases pw
 ·go_enter Tryz.func170,Tryz.ntmps170
  go_wp2_with fail;refine(PL _ B0.o).mono ?_;rintro e w1 ⟨rfl,b1⟩;have B1:=Hd (fS b1);clear b1;go_wp2_with fail;go_ret;exact⟨rfl,B1.o⟩
 ·by_cases h0:lf=true/\¬ 0<lk
  ·obtain⟨rfl,h0⟩:=h0
   have h0i:¬ (0:Int)<(lk:Int):=by omega
   have h0d:decide (0<lk)=false:=by simpa using h0
   go_enter Tryz.func170,Tryz.ntmps170;go_wp2_with fail;refine(PL _ B0.o).mono ?_;rintro e w1 ⟨rfl,b1⟩;have X1:=jO b1;have B1:=Hd (fS b1);have y0:=cl X1 0 rfl;have y1:=cl X1 1 rfl;clear X1 b1;go_wp2_with fail;go_ret;exact⟨aU (by simp[h0d]),B1.o⟩
  ·have hmid:(!lf || decide (0<lk))=true:=by cases lf <;> simp at h0 |- <;> omega
   have hend:(true&&(!lf || decide (0<lk))&&decide (z<=240))=decide ((z:Int)<=240):=by rw[hmid];simp;omega
   rw[hend];have hleaf:lf=true->(0:Int)<(lk:Int):=by intro h;subst h;simp at h0;omega
   clear hmid hend h0;obtain⟨hl0,hl1⟩:True/\True:=⟨trivial,trivial⟩
   cases lf
   ·clear hleaf hl0 hl1
    go_enter Tryz.func170,Tryz.ntmps170;go_wp2_with fail;refine(PL _ B0.o).mono ?_;rintro e w1 ⟨rfl,b1⟩;have X1:=jO b1;have B1:=Hd (fS b1);have y0:=cl X1 0 rfl;have y1:=cl X1 1 rfl;have y2:=cl X1 2 rfl;have y3:=cl X1 3 rfl;clear X1 b1;go_wp2_with fail;refine(SZ trivial _ B1.o).mono ?_;rintro e w2 ⟨rfl,b2⟩;go_wp2_with fail;go_ret;exact⟨rfl,chain B1 b2⟩
   ·have hli:=hleaf rfl
    clear hleaf hl0 hl1;go_enter Tryz.func170,Tryz.ntmps170;go_wp2_with fail;refine(PL _ B0.o).mono ?_;rintro e w1 ⟨rfl,b1⟩;have X1:=jO b1;have B1:=Hd (fS b1);have y0:=cl X1 0 rfl;have y1:=cl X1 1 rfl;have y2:=cl X1 2 rfl;have y3:=cl X1 3 rfl;clear X1 b1;go_wp2_with fail;refine(SZ trivial _ B1.o).mono ?_;rintro e w2 ⟨rfl,b2⟩;go_wp2_with fail;go_ret;exact⟨rfl,chain B1 b2⟩

def nC (lo:Nat)(n:Nod)(e:Ending)(w':World):Prop:=∃ ak av ac ck cv cc,e=.returned (.tuple #[aJ n ak av ac ck cv cc,(0:Int)])/\NodR w' n ak av ac ck cv cc/\(∀ x,ak=some x->lo<=x.block)/\(∀ x,av=some x->lo<=x.block)/\(∀ x,ac=some x->lo<=x.block)/\Unf w' ak/\Unf w' ac
def iF (lo:Nat)(o:Option Nod)(e:Ending)(w':World):Prop:=
 match o with
 | some n=>nC lo n e w'
 | none=>e=.returned (.tuple #[.agg #[.bool false,.slice none 0 0,.slice none 0 0,.slice none 0 0],.int .i64 2])
theorem wT (x:ByteArray)(b:UInt8)(h:x≠⟨#[b]⟩):(x.toList==[b])=false:=by
 rw[beq_eq_false_iff_ne];intro e;apply h;apply aK;rw[<-toList_data,e]
theorem SN (s:ByteArray)(h:1<=s.size):(s.extract 1 s.size).size+1=s.size:=by rw[ByteArray.size_extract];omega
theorem DD (s:ByteArray)(w:World)(h:s.size=0\/240<s.size) :
  () 150 #[s] w fun e w'=>iF w.heap.size none e w'/\Below w.heap.size w w':=by
 have X0:(w.alloc (.cells #[false,.slice none 0 0,.slice none 0 0,.slice none 0 0] 166)).heap[w.heap.size]?=some (.cells #[false,.slice none 0 0,.slice none 0 0,.slice none 0 0] 166):=han _ _;have B0:=Hd ((Below.refl w.heap.size w).alloc (Nat.le_refl _) (.cells #[false,.slice none 0 0,.slice none 0 0,.slice none 0 0] 166))
 rcases h with h|h
 ·have e0:s=⟨#[]⟩:=dY h
  subst e0;go_enter Tryz.func150,Tryz.ntmps150;have FIN:Hid (iF w.heap.size none (.returned (.tuple #[.agg #[false,.slice none 0 0,.slice none 0 0,.slice none 0 0],(2:Int)])) (w.alloc (.cells #[false,.slice none 0 0,.slice none 0 0,.slice none 0 0] 166))/\Below w.heap.size w (w.alloc (.cells #[false,.slice none 0 0,.slice none 0 0,.slice none 0 0] 166))):=Hd ⟨rfl,B0.o⟩;clear X0;go_wp2_with fail
  exact bodyPost_ret (v:=.tuple #[.agg #[false,.slice none 0 0,.slice none 0 0,.slice none 0 0],(2:Int)]) (by simp[results,Tryz.results150,go_sem]) rfl FIN.o
 ·have l1:¬ s=ByteArray.empty:=fun e=>by rw[e] at h;exact absurd h (by decide)
  have l2:(240:Int)<(s.size:Int):=by omega
  go_enter Tryz.func150,Tryz.ntmps150;have FIN:Hid (iF w.heap.size none (.returned (.tuple #[.agg #[false,.slice none 0 0,.slice none 0 0,.slice none 0 0],(2:Int)])) (w.alloc (.cells #[false,.slice none 0 0,.slice none 0 0,.slice none 0 0] 166))/\Below w.heap.size w (w.alloc (.cells #[false,.slice none 0 0,.slice none 0 0,.slice none 0 0] 166))):=Hd ⟨rfl,B0.o⟩;clear X0;go_wp2_with fail
  exact bodyPost_ret (v:=.tuple #[.agg #[false,.slice none 0 0,.slice none 0 0,.slice none 0 0],(2:Int)]) (by simp[results,Tryz.results150,go_sem]) rfl FIN.o
theorem fE:(True->∀ (s r0:ByteArray) (w:World) (h1:1<=s.size) (h2:s.size<=240) (hb:s.extract 0 1=⟨#[1]⟩) (hr:s.extract 1 s.size=r0) (n:Nod) (bad v:Bool) (res:Option Nod) (hres:res=if(!bad&&v)=true then some n else none) (hv:Hid (cC n=v))
  (RDR:∀ w3,RDb w3 (w.heap.size+1) r0 false->() 168 #[.pointer (some ⟨w.heap.size+1,0,none⟩)] w3 fun e w'=>nA w3.heap.size n e w'/\RDb w' (w.heap.size+1) ⟨#[]⟩ bad/\Frm (fun k=>k=w.heap.size+1) w3 w'),
    () 150 #[s] w fun e w'=>iF w.heap.size res e w'/\Below w.heap.size w w')/\(∀ (s r0:ByteArray) (w:World) (h1:1<=s.size) (h2:s.size<=240) (hb:s.extract 0 1=⟨#[2]⟩) (hr:s.extract 1 s.size=r0) (n:Nod) (bad v:Bool) (res:Option Nod) (hres:res=if(!bad&&v)=true then some n else none) (hv:Hid (cC n=v))
  (RDR:∀ w3,RDb w3 (w.heap.size+1) r0 false->() 169 #[.pointer (some ⟨w.heap.size+1,0,none⟩)] w3 fun e w'=>nA w3.heap.size n e w'/\RDb w' (w.heap.size+1) ⟨#[]⟩ bad/\Frm (fun k=>k=w.heap.size+1) w3 w'),
    () 150 #[s] w fun e w'=>iF w.heap.size res e w'/\Below w.heap.size w w'):=by
  constructor
  all_goals first|intro(mk:True) s r0 w h1 h2 hb hr n bad v res hres hv RDR|intro s r0 w h1 h2 hb hr n bad v res hres hv RDR
  all_goals
   have RG:=Hd (fun ak av ac ck cv cc w' (h:NodR w' n ak av ac ck cv cc)=>rL n ak av ac ck cv cc w' h v hv);have z1:(w.alloc (.cells #[false,.slice none 0 0,.slice none 0 0,.slice none 0 0] 166)).heap.size=w.heap.size+1:=by simp
   have z2:((w.alloc (.cells #[false,.slice none 0 0,.slice none 0 0,.slice none 0 0] 166)).alloc (.cells #[r0,false] 244)).heap.size=w.heap.size+1+1:=by simp
   obtain⟨w3,hw3⟩:∃ w3,((w.alloc (.cells #[false,.slice none 0 0,.slice none 0 0,.slice none 0 0] 166)).alloc (.cells #[r0,false] 244)).alloc (.cells #[false,.slice none 0 0,.slice none 0 0,.slice none 0 0] 166)=w3:=⟨_,rfl⟩
   have RD0:RDb w3 (w.heap.size+1) r0 false:=by
    rw[<-hw3];unfold RDb;rw[hao _ _ (by rw[z2];omega),<-z1];exact han _ _
   have X0:w3.heap[w.heap.size]?=some (.cells #[false,.slice none 0 0,.slice none 0 0,.slice none 0 0] 166):=by
    rw[<-hw3,hao _ _ (by rw[z2];omega),hao _ _ (by rw[z1];omega)];exact han _ _
   have X2:w3.heap[w.heap.size+1+1]?=some (.cells #[false,.slice none 0 0,.slice none 0 0,.slice none 0 0] 166):=by
    rw[<-hw3,<-z2];exact han _ _
   have z3:w3.heap.size=w.heap.size+3:=by rw[<-hw3];simp
   have B3:Below w.heap.size w w3:=by
    rw[<-hw3];exact((Br.alloc (Nat.le_refl _) _).alloc (by simp) _).alloc (by rw[z2];omega) _
   have LEAF:=Hd (RDR w3 RD0);have H0:=Hd X0;have H2:=Hd X2;have HB3:=Hd B3;have HW3:=Hd hw3;have HZ3:=Hd z3;have HRES:=Hd hres;have l1:¬ s=ByteArray.empty:=fun e=>by rw[e] at h1;exact absurd h1 (by decide)
   have l2:¬ (240:Int)<(s.size:Int):=by omega
   have l3:(1:Int)<=(s.size:Int):=by omega
   clear z1 z2 RD0 X0 X2 z3 B3 hw3 h1 h2 RDR hres hv;go_enter Tryz.func150,Tryz.ntmps150;go_wp2_with fail;rw[HW3.o];refine LEAF.mono ?_;rintro e w1 ⟨⟨ak,av,ac,ck,cv,cc,rfl,hR,q1,q2,q3,u1,u2⟩,hrd,hfr⟩;have HR:=Hd hR;have Q1:=Hd q1;have Q2:=Hd q2;have Q3:=Hd q3;have U1:=Hd ((((u1.setCell ⟨w.heap.size+1+1,0,none⟩ (.bool n.leaf)).setCell ⟨w.heap.size+1+1,1,none⟩ (.slice ak n.K.length ck)).setCell ⟨w.heap.size+1+1,2,none⟩ (.slice av n.V.length cv)).setCell ⟨w.heap.size+1+1,3,none⟩ (.slice ac n.C.length cc))
   have U2:=Hd ((((u2.setCell ⟨w.heap.size+1+1,0,none⟩ (.bool n.leaf)).setCell ⟨w.heap.size+1+1,1,none⟩ (.slice ak n.K.length ck)).setCell ⟨w.heap.size+1+1,2,none⟩ (.slice av n.V.length cv)).setCell ⟨w.heap.size+1+1,3,none⟩ (.slice ac n.C.length cc));have z3:=HZ3.o;have X1:w1.heap[w.heap.size]?=some (.cells #[false,.slice none 0 0,.slice none 0 0,.slice none 0 0] 166):=(hfr.block _ (by omega) (by show ¬ w.heap.size=w.heap.size+1;omega)).trans H0.o
   have XB:w1.heap[w.heap.size+1+1]?=some (.cells #[false,.slice none 0 0,.slice none 0 0,.slice none 0 0] 166):=(hfr.block _ (by omega) (by show ¬ w.heap.size+1+1=w.heap.size+1;omega)).trans H2.o;have HB1:Hid (Below w.heap.size w w1):=Hd (HB3.trans (hfr.below (fun i hi=>by have hi:i=w.heap.size+1:=hi;omega) (by omega)));have y0:=cl XB 0 rfl;have y1:=cl XB 1 rfl;have y2:=cl XB 2 rfl;have y3:=cl XB 3 rfl;have f0:=ufb XB 0;have f1:=ufb XB 1;have f2:=ufb XB 2;have f3:=ufb XB 3
   have XW:((((w1.setCell ⟨w.heap.size+1+1,0,none⟩ (.bool n.leaf)).setCell ⟨w.heap.size+1+1,1,none⟩ (.slice ak n.K.length ck)).setCell ⟨w.heap.size+1+1,2,none⟩ (.slice av n.V.length cv)).setCell ⟨w.heap.size+1+1,3,none⟩ (.slice ac n.C.length cc)).heap[w.heap.size+1+1]?=some (.cells #[n.leaf,ak n.K.length ck,av n.V.length cv,ac n.C.length cc] 166):=by
    rw[hss _ _ 3 _ _ _ (hss _ _ 2 _ _ _ (hss _ _ 1 _ _ _ (hss _ _ 0 _ _ _ XB)))]
    rfl
   have keep:∀ q,¬ q=w.heap.size+1+1->((((w1.setCell ⟨w.heap.size+1+1,0,none⟩ (.bool n.leaf)).setCell ⟨w.heap.size+1+1,1,none⟩ (.slice ak n.K.length ck)).setCell ⟨w.heap.size+1+1,2,none⟩ (.slice av n.V.length cv)).setCell ⟨w.heap.size+1+1,3,none⟩ (.slice ac n.C.length cc)).heap[q]?=w1.heap[q]?:=fun q hne=>by
    have hne':∀ i,q≠(⟨w.heap.size+1+1,i,none⟩:Addr).block:=fun i=>hne
    rw[Below.heap_setCell _ _ _ _ (hne' 3),Below.heap_setCell _ _ _ _ (hne' 2),Below.heap_setCell _ _ _ _ (hne' 1),Below.heap_setCell _ _ _ _ (hne' 0)]
   have RW:=(keep (w.heap.size+1) (by omega)).trans hrd;have ZW:=(keep w.heap.size (by omega)).trans X1;have HRW:=Hd (hR.set4 (w.heap.size+1+1) (.bool n.leaf) (.slice ak n.K.length ck) (.slice av n.V.length cv) (.slice ac n.C.length cc) (fun x hx=>by have:=q1 x hx;omega) (fun x hx=>by have:=q2 x hx;omega) (fun x hx=>by have:=q3 x hx;omega))
   have BW:Hid (Below w.heap.size w ((((w1.setCell ⟨w.heap.size+1+1,0,none⟩ (.bool n.leaf)).setCell ⟨w.heap.size+1+1,1,none⟩ (.slice ak n.K.length ck)).setCell ⟨w.heap.size+1+1,2,none⟩ (.slice av n.V.length cv)).setCell ⟨w.heap.size+1+1,3,none⟩ (.slice ac n.C.length cc))):=Hd (((((HB1.o).setCell (by show _<=w.heap.size+1+1;omega) _).setCell (by show _<=w.heap.size+1+1;omega) _).setCell (by show _<=w.heap.size+1+1;omega) _).setCell (by show _<=w.heap.size+1+1;omega) _);simp only[aJ];clear hR q1 q2 q3 u1 u2 hrd hfr X1 XB keep
   go_upto_region 11 with fail
   obtain⟨wb,hwb⟩:∃ wb,((((w1.setCell ⟨w.heap.size+1+1,0,none⟩ (.bool n.leaf)).setCell ⟨w.heap.size+1+1,1,none⟩ (.slice ak n.K.length ck)).setCell ⟨w.heap.size+1+1,2,none⟩ (.slice av n.V.length cv)).setCell ⟨w.heap.size+1+1,3,none⟩ (.slice ac n.C.length cc))=wb:=⟨_,rfl⟩
   rw[hwb] at XW RW ZW HRW BW U1 U2 |-;have XWH:=Hd XW;have ZWH:=Hd ZW;have cR:=cl RW 1 rfl;have c0:=cl XW 0 rfl;have c1:=cl XW 1 rfl;have c2:=cl XW 2 rfl;have c3:=cl XW 3 rfl;clear XW RW z3 hwb y0 y1 y2 y3 f0 f1 f2 f3;have hres:=HRES.o
   cases bad
   ·go_wp2_with fail
    refine(RG _ _ _ _ _ _ _ HRW.o).mono ?_;rintro e w2 ⟨rfl,b2⟩;have XB2:=kept XWH b2;have XZ2:=kept ZWH b2;have hbw:=Hd (chain BW b2);have HRW2:=Hd (HRW.below b2);have U12:=Hd (U1.below b2);have U22:=Hd (U2.below b2);have d0:=cl XB2 0 rfl;have d1:=cl XB2 1 rfl;have d2:=cl XB2 2 rfl;have d3:=cl XB2 3 rfl;clear b2 cR c0 c1 c2 c3 XB2 HRW BW
    cases v
    ·rw[if_neg (by decide)] at hres
     subst hres;have g0:=cl XZ2 0 rfl;have g1:=cl XZ2 1 rfl;have g2:=cl XZ2 2 rfl;have g3:=cl XZ2 3 rfl;have k0:=ufb XZ2 0;have k1:=ufb XZ2 1;have k2:=ufb XZ2 2;have k3:=ufb XZ2 3
     have XR:((((w2.setCell ⟨w.heap.size,0,none⟩ (.bool false)).setCell ⟨w.heap.size,1,none⟩ (.slice none 0 0)).setCell ⟨w.heap.size,2,none⟩ (.slice none 0 0)).setCell ⟨w.heap.size,3,none⟩ (.slice none 0 0)).heap[w.heap.size]?=some (.cells #[false,.slice none 0 0,.slice none 0 0,.slice none 0 0] 166):=by
      rw[hss _ _ 3 _ _ _ (hss _ _ 2 _ _ _ (hss _ _ 1 _ _ _ (hss _ _ 0 _ _ _ XZ2)))]
      rfl
     have Z0:Hid (((((w2.setCell ⟨w.heap.size,0,none⟩ (.bool false)).setCell ⟨w.heap.size,1,none⟩ (.slice none 0 0)).setCell ⟨w.heap.size,2,none⟩ (.slice none 0 0)).setCell ⟨w.heap.size,3,none⟩ (.slice none 0 0)).cell? ⟨w.heap.size,0,none⟩=some (.bool false)):=Hd (by rw[cob XR];rfl)
     have Z1:Hid (((((w2.setCell ⟨w.heap.size,0,none⟩ (.bool false)).setCell ⟨w.heap.size,1,none⟩ (.slice none 0 0)).setCell ⟨w.heap.size,2,none⟩ (.slice none 0 0)).setCell ⟨w.heap.size,3,none⟩ (.slice none 0 0)).cell? ⟨w.heap.size,1,none⟩=some (.slice none 0 0)):=Hd (by rw[cob XR];rfl)
     have Z2:Hid (((((w2.setCell ⟨w.heap.size,0,none⟩ (.bool false)).setCell ⟨w.heap.size,1,none⟩ (.slice none 0 0)).setCell ⟨w.heap.size,2,none⟩ (.slice none 0 0)).setCell ⟨w.heap.size,3,none⟩ (.slice none 0 0)).cell? ⟨w.heap.size,2,none⟩=some (.slice none 0 0)):=Hd (by rw[cob XR];rfl)
     have Z3:Hid (((((w2.setCell ⟨w.heap.size,0,none⟩ (.bool false)).setCell ⟨w.heap.size,1,none⟩ (.slice none 0 0)).setCell ⟨w.heap.size,2,none⟩ (.slice none 0 0)).setCell ⟨w.heap.size,3,none⟩ (.slice none 0 0)).cell? ⟨w.heap.size,3,none⟩=some (.slice none 0 0)):=Hd (by rw[cob XR];rfl)
     have FIN:Hid (iF w.heap.size none (.returned (.tuple #[.agg #[false,.slice none 0 0,.slice none 0 0,.slice none 0 0],(2:Int)])) ((((w2.setCell ⟨w.heap.size,0,none⟩ (.bool false)).setCell ⟨w.heap.size,1,none⟩ (.slice none 0 0)).setCell ⟨w.heap.size,2,none⟩ (.slice none 0 0)).setCell ⟨w.heap.size,3,none⟩ (.slice none 0 0))/\Below w.heap.size w ((((w2.setCell ⟨w.heap.size,0,none⟩ (.bool false)).setCell ⟨w.heap.size,1,none⟩ (.slice none 0 0)).setCell ⟨w.heap.size,2,none⟩ (.slice none 0 0)).setCell ⟨w.heap.size,3,none⟩ (.slice none 0 0))):=Hd ⟨rfl,((((hbw.o).setCell (Nat.le_refl _) _).setCell (Nat.le_refl _) _).setCell (Nat.le_refl _) _).setCell (Nat.le_refl _) _⟩
     clear XR;go_wp2_with fail;exact bodyPost_ret (v:=.tuple #[.agg #[false,.slice none 0 0,.slice none 0 0,.slice none 0 0],(2:Int)]) (by simp[results,Tryz.results150,go_sem,Z0.o,Z1.o,Z2.o,Z3.o]) rfl FIN.o
    ·rw[if_pos (by decide)] at hres
     subst hres;have g0:=cl XZ2 0 rfl;have g1:=cl XZ2 1 rfl;have g2:=cl XZ2 2 rfl;have g3:=cl XZ2 3 rfl;have k0:=ufb XZ2 0;have k1:=ufb XZ2 1;have k2:=ufb XZ2 2;have k3:=ufb XZ2 3
     have XR:((((w2.setCell ⟨w.heap.size,0,none⟩ (.bool n.leaf)).setCell ⟨w.heap.size,1,none⟩ (.slice ak n.K.length ck)).setCell ⟨w.heap.size,2,none⟩ (.slice av n.V.length cv)).setCell ⟨w.heap.size,3,none⟩ (.slice ac n.C.length cc)).heap[w.heap.size]?=some (.cells #[n.leaf,ak n.K.length ck,av n.V.length cv,ac n.C.length cc] 166):=by
      rw[hss _ _ 3 _ _ _ (hss _ _ 2 _ _ _ (hss _ _ 1 _ _ _ (hss _ _ 0 _ _ _ XZ2)))]
      rfl
     have Z0:Hid (((((w2.setCell ⟨w.heap.size,0,none⟩ (.bool n.leaf)).setCell ⟨w.heap.size,1,none⟩ (.slice ak n.K.length ck)).setCell ⟨w.heap.size,2,none⟩ (.slice av n.V.length cv)).setCell ⟨w.heap.size,3,none⟩ (.slice ac n.C.length cc)).cell? ⟨w.heap.size,0,none⟩=some (.bool n.leaf)):=Hd (by rw[cob XR];rfl)
     have Z1:Hid (((((w2.setCell ⟨w.heap.size,0,none⟩ (.bool n.leaf)).setCell ⟨w.heap.size,1,none⟩ (.slice ak n.K.length ck)).setCell ⟨w.heap.size,2,none⟩ (.slice av n.V.length cv)).setCell ⟨w.heap.size,3,none⟩ (.slice ac n.C.length cc)).cell? ⟨w.heap.size,1,none⟩=some (.slice ak n.K.length ck)):=Hd (by rw[cob XR];rfl)
     have Z2:Hid (((((w2.setCell ⟨w.heap.size,0,none⟩ (.bool n.leaf)).setCell ⟨w.heap.size,1,none⟩ (.slice ak n.K.length ck)).setCell ⟨w.heap.size,2,none⟩ (.slice av n.V.length cv)).setCell ⟨w.heap.size,3,none⟩ (.slice ac n.C.length cc)).cell? ⟨w.heap.size,2,none⟩=some (.slice av n.V.length cv)):=Hd (by rw[cob XR];rfl)
     have Z3:Hid (((((w2.setCell ⟨w.heap.size,0,none⟩ (.bool n.leaf)).setCell ⟨w.heap.size,1,none⟩ (.slice ak n.K.length ck)).setCell ⟨w.heap.size,2,none⟩ (.slice av n.V.length cv)).setCell ⟨w.heap.size,3,none⟩ (.slice ac n.C.length cc)).cell? ⟨w.heap.size,3,none⟩=some (.slice ac n.C.length cc)):=Hd (by rw[cob XR];rfl)
     have FIN:Hid (iF w.heap.size (some n) (.returned (.tuple #[.agg #[n.leaf,ak n.K.length ck,av n.V.length cv,ac n.C.length cc],(0:Int)])) ((((w2.setCell ⟨w.heap.size,0,none⟩ (.bool n.leaf)).setCell ⟨w.heap.size,1,none⟩ (.slice ak n.K.length ck)).setCell ⟨w.heap.size,2,none⟩ (.slice av n.V.length cv)).setCell ⟨w.heap.size,3,none⟩ (.slice ac n.C.length cc))/\Below w.heap.size w ((((w2.setCell ⟨w.heap.size,0,none⟩ (.bool n.leaf)).setCell ⟨w.heap.size,1,none⟩ (.slice ak n.K.length ck)).setCell ⟨w.heap.size,2,none⟩ (.slice av n.V.length cv)).setCell ⟨w.heap.size,3,none⟩ (.slice ac n.C.length cc))):=by
      have z3:=HZ3.o;exact Hd ⟨⟨ak,av,ac,ck,cv,cc,rfl,HRW2.set4 _ _ _ _ _ (fun x hx=>by have:=Q1 x hx;omega) (fun x hx=>by have:=Q2 x hx;omega) (fun x hx=>by have:=Q3 x hx;omega),fun x hx=>by have:=Q1 x hx;omega,fun x hx=>by have:=Q2 x hx;omega,fun x hx=>by have:=Q3 x hx;omega,(((U12.setCell _ _).setCell _ _).setCell _ _).setCell _ _,(((U22.setCell _ _).setCell _ _).setCell _ _).setCell _ _⟩,((((hbw.o).setCell (Nat.le_refl _) _).setCell (Nat.le_refl _) _).setCell (Nat.le_refl _) _).setCell (Nat.le_refl _) _⟩
     clear XR;go_wp2_with fail;exact bodyPost_ret (v:=.tuple #[.agg #[n.leaf,ak n.K.length ck,av n.V.length cv,ac n.C.length cc],(0:Int)]) (by simp[results,Tryz.results150,go_sem,Z0.o,Z1.o,Z2.o,Z3.o]) rfl FIN.o
   ·rw[if_neg (by simp)] at hres
    subst hres;have XZ2:=ZWH.o;clear c0 c1 c2 c3 RG;have g0:=cl XZ2 0 rfl;have g1:=cl XZ2 1 rfl;have g2:=cl XZ2 2 rfl;have g3:=cl XZ2 3 rfl;have k0:=ufb XZ2 0;have k1:=ufb XZ2 1;have k2:=ufb XZ2 2;have k3:=ufb XZ2 3
    have XR:((((wb.setCell ⟨w.heap.size,0,none⟩ (.bool false)).setCell ⟨w.heap.size,1,none⟩ (.slice none 0 0)).setCell ⟨w.heap.size,2,none⟩ (.slice none 0 0)).setCell ⟨w.heap.size,3,none⟩ (.slice none 0 0)).heap[w.heap.size]?=some (.cells #[false,.slice none 0 0,.slice none 0 0,.slice none 0 0] 166):=by
     rw[hss _ _ 3 _ _ _ (hss _ _ 2 _ _ _ (hss _ _ 1 _ _ _ (hss _ _ 0 _ _ _ XZ2)))]
     rfl
    have Z0:Hid (((((wb.setCell ⟨w.heap.size,0,none⟩ (.bool false)).setCell ⟨w.heap.size,1,none⟩ (.slice none 0 0)).setCell ⟨w.heap.size,2,none⟩ (.slice none 0 0)).setCell ⟨w.heap.size,3,none⟩ (.slice none 0 0)).cell? ⟨w.heap.size,0,none⟩=some (.bool false)):=Hd (by rw[cob XR];rfl)
    have Z1:Hid (((((wb.setCell ⟨w.heap.size,0,none⟩ (.bool false)).setCell ⟨w.heap.size,1,none⟩ (.slice none 0 0)).setCell ⟨w.heap.size,2,none⟩ (.slice none 0 0)).setCell ⟨w.heap.size,3,none⟩ (.slice none 0 0)).cell? ⟨w.heap.size,1,none⟩=some (.slice none 0 0)):=Hd (by rw[cob XR];rfl)
    have Z2:Hid (((((wb.setCell ⟨w.heap.size,0,none⟩ (.bool false)).setCell ⟨w.heap.size,1,none⟩ (.slice none 0 0)).setCell ⟨w.heap.size,2,none⟩ (.slice none 0 0)).setCell ⟨w.heap.size,3,none⟩ (.slice none 0 0)).cell? ⟨w.heap.size,2,none⟩=some (.slice none 0 0)):=Hd (by rw[cob XR];rfl)
    have Z3:Hid (((((wb.setCell ⟨w.heap.size,0,none⟩ (.bool false)).setCell ⟨w.heap.size,1,none⟩ (.slice none 0 0)).setCell ⟨w.heap.size,2,none⟩ (.slice none 0 0)).setCell ⟨w.heap.size,3,none⟩ (.slice none 0 0)).cell? ⟨w.heap.size,3,none⟩=some (.slice none 0 0)):=Hd (by rw[cob XR];rfl)
    have FIN:Hid (iF w.heap.size none (.returned (.tuple #[.agg #[false,.slice none 0 0,.slice none 0 0,.slice none 0 0],(2:Int)])) ((((wb.setCell ⟨w.heap.size,0,none⟩ (.bool false)).setCell ⟨w.heap.size,1,none⟩ (.slice none 0 0)).setCell ⟨w.heap.size,2,none⟩ (.slice none 0 0)).setCell ⟨w.heap.size,3,none⟩ (.slice none 0 0))/\Below w.heap.size w ((((wb.setCell ⟨w.heap.size,0,none⟩ (.bool false)).setCell ⟨w.heap.size,1,none⟩ (.slice none 0 0)).setCell ⟨w.heap.size,2,none⟩ (.slice none 0 0)).setCell ⟨w.heap.size,3,none⟩ (.slice none 0 0))):=Hd ⟨rfl,((((BW.o).setCell (Nat.le_refl _) _).setCell (Nat.le_refl _) _).setCell (Nat.le_refl _) _).setCell (Nat.le_refl _) _⟩
    clear XR;go_wp2_with fail;exact bodyPost_ret (v:=.tuple #[.agg #[false,.slice none 0 0,.slice none 0 0,.slice none 0 0],(2:Int)]) (by simp[results,Tryz.results150,go_sem,Z0.o,Z1.o,Z2.o,Z3.o]) rfl FIN.o
set_option linter.defProp false in
def yI:=fE.1 trivial
set_option linter.defProp false in
def uF:=fE.2
theorem yH (s:ByteArray)(w:World)(h1:1<=s.size)(h2:s.size<=240)(n1:s.extract 0 1≠⟨#[1]⟩)(n2:s.extract 0 1≠⟨#[2]⟩) :
  () 150 #[s] w fun e w'=>iF w.heap.size none e w'/\Below w.heap.size w w':=by
 obtain⟨r0,hr⟩:∃ r0,s.extract 1 s.size=r0:=⟨_,rfl⟩
 obtain⟨x,hx⟩:∃ x,s.extract 0 1=x:=⟨_,rfl⟩
 rw[hx] at n1 n2;have z1:(w.alloc (.cells #[false,.slice none 0 0,.slice none 0 0,.slice none 0 0] 166)).heap.size=w.heap.size+1:=by simp
 have z2:((w.alloc (.cells #[false,.slice none 0 0,.slice none 0 0,.slice none 0 0] 166)).alloc (.cells #[.string r0,false] 244)).heap.size=w.heap.size+1+1:=by simp
 obtain⟨w3,hw3⟩:∃ w3,((w.alloc (.cells #[false,.slice none 0 0,.slice none 0 0,.slice none 0 0] 166)).alloc (.cells #[.string r0,false] 244)).alloc (.cells #[false,.slice none 0 0,.slice none 0 0,.slice none 0 0] 166)=w3:=⟨_,rfl⟩
 have RD0:RDb w3 (w.heap.size+1) r0 false:=by
  rw[<-hw3];unfold RDb;rw[hao _ _ (by rw[z2];omega),<-z1];exact han _ _
 have X0:w3.heap[w.heap.size]?=some (.cells #[false,.slice none 0 0,.slice none 0 0,.slice none 0 0] 166):=by
  rw[<-hw3,hao _ _ (by rw[z2];omega),hao _ _ (by rw[z1];omega)];exact han _ _
 have X2:w3.heap[w.heap.size+1+1]?=some (.cells #[false,.slice none 0 0,.slice none 0 0,.slice none 0 0] 166):=by
  rw[<-hw3,<-z2];exact han _ _
 have z3:w3.heap.size=w.heap.size+3:=by rw[<-hw3];simp
 have B3:Below w.heap.size w w3:=by
  rw[<-hw3];exact((Br.alloc (Nat.le_refl _) _).alloc (by simp) _).alloc (by rw[z2];omega) _
 have l1:¬ s=ByteArray.empty:=fun e=>by rw[e] at h1;exact absurd h1 (by decide)
 have l2:¬ (240:Int)<(s.size:Int):=by omega
 have l3:(1:Int)<=(s.size:Int):=by omega
 have n1':(x.toList==[1])=false:=wT x 1 n1;have n2':(x.toList==[2])=false:=wT x 2 n2;have XZ2:=X0;have HB3:=Hd B3;clear z1 z2 RD0 X0 X2 z3 B3 h1 h2 n1 n2;go_enter Tryz.func150,Tryz.ntmps150;go_upto_region 6 with fail
 try rw[hw3]
 have g0:=cl XZ2 0 rfl;have g1:=cl XZ2 1 rfl;have g2:=cl XZ2 2 rfl;have g3:=cl XZ2 3 rfl;have k0:=ufb XZ2 0;have k1:=ufb XZ2 1;have k2:=ufb XZ2 2;have k3:=ufb XZ2 3
 have XR:((((w3.setCell ⟨w.heap.size,0,none⟩ (.bool false)).setCell ⟨w.heap.size,1,none⟩ (.slice none 0 0)).setCell ⟨w.heap.size,2,none⟩ (.slice none 0 0)).setCell ⟨w.heap.size,3,none⟩ (.slice none 0 0)).heap[w.heap.size]?=some (.cells #[false,.slice none 0 0,.slice none 0 0,.slice none 0 0] 166):=by
  rw[hss _ _ 3 _ _ _ (hss _ _ 2 _ _ _ (hss _ _ 1 _ _ _ (hss _ _ 0 _ _ _ XZ2)))]
  rfl
 have Z0:Hid (((((w3.setCell ⟨w.heap.size,0,none⟩ (.bool false)).setCell ⟨w.heap.size,1,none⟩ (.slice none 0 0)).setCell ⟨w.heap.size,2,none⟩ (.slice none 0 0)).setCell ⟨w.heap.size,3,none⟩ (.slice none 0 0)).cell? ⟨w.heap.size,0,none⟩=some (.bool false)):=Hd (by rw[cob XR];rfl)
 have Z1:Hid (((((w3.setCell ⟨w.heap.size,0,none⟩ (.bool false)).setCell ⟨w.heap.size,1,none⟩ (.slice none 0 0)).setCell ⟨w.heap.size,2,none⟩ (.slice none 0 0)).setCell ⟨w.heap.size,3,none⟩ (.slice none 0 0)).cell? ⟨w.heap.size,1,none⟩=some (.slice none 0 0)):=Hd (by rw[cob XR];rfl)
 have Z2:Hid (((((w3.setCell ⟨w.heap.size,0,none⟩ (.bool false)).setCell ⟨w.heap.size,1,none⟩ (.slice none 0 0)).setCell ⟨w.heap.size,2,none⟩ (.slice none 0 0)).setCell ⟨w.heap.size,3,none⟩ (.slice none 0 0)).cell? ⟨w.heap.size,2,none⟩=some (.slice none 0 0)):=Hd (by rw[cob XR];rfl)
 have Z3:Hid (((((w3.setCell ⟨w.heap.size,0,none⟩ (.bool false)).setCell ⟨w.heap.size,1,none⟩ (.slice none 0 0)).setCell ⟨w.heap.size,2,none⟩ (.slice none 0 0)).setCell ⟨w.heap.size,3,none⟩ (.slice none 0 0)).cell? ⟨w.heap.size,3,none⟩=some (.slice none 0 0)):=Hd (by rw[cob XR];rfl)
 have FIN:Hid (iF w.heap.size none (.returned (.tuple #[.agg #[false,.slice none 0 0,.slice none 0 0,.slice none 0 0],(2:Int)])) ((((w3.setCell ⟨w.heap.size,0,none⟩ (.bool false)).setCell ⟨w.heap.size,1,none⟩ (.slice none 0 0)).setCell ⟨w.heap.size,2,none⟩ (.slice none 0 0)).setCell ⟨w.heap.size,3,none⟩ (.slice none 0 0))/\Below w.heap.size w ((((w3.setCell ⟨w.heap.size,0,none⟩ (.bool false)).setCell ⟨w.heap.size,1,none⟩ (.slice none 0 0)).setCell ⟨w.heap.size,2,none⟩ (.slice none 0 0)).setCell ⟨w.heap.size,3,none⟩ (.slice none 0 0))):=Hd ⟨rfl,((((HB3.o).setCell (Nat.le_refl _) _).setCell (Nat.le_refl _) _).setCell (Nat.le_refl _) _).setCell (Nat.le_refl _) _⟩
 clear XR;go_wp2_with fail;exact bodyPost_ret (v:=.tuple #[.agg #[false,.slice none 0 0,.slice none 0 0,.slice none 0 0],(2:Int)]) (by simp[results,Tryz.results150,go_sem,Z0.o,Z1.o,Z2.o,Z3.o]) rfl FIN.o
theorem DF (s:ByteArray)(w:World):() 150 #[s] w fun e w'=>iF w.heap.size (yJ s) e w'/\Below w.heap.size w w':=by
 unfold yJ
 by_cases h:s.size=0\/240<s.size
 ·rw[if_pos h];exact DD s w h
 ·rw[if_neg h]
  have h1:1<=s.size:=by omega
  have h2:s.size<=240:=by omega
  have hez:=SN s h1;unfold rdN
  by_cases e1:s.extract 0 1=⟨#[1]⟩
  ·rw[if_pos e1]
   refine yI s _ w h1 h2 e1 rfl _ _ _ _ rfl (Hd rfl) (fun w3 hrd=>?_);have:=PR (w.heap.size+1) (s.extract 1 s.size) false s.size w3 hrd (by omega) (by omega) (bS s.size (s.extract 1 s.size)).1 (bS s.size (s.extract 1 s.size)).2.1 (bS s.size (s.extract 1 s.size)).2.2 (Hd rfl);rw[Bool.false_or] at this;exact this
  ·rw[if_neg e1]
   by_cases e2:s.extract 0 1=⟨#[2]⟩
   ·rw[if_pos e2]
    refine uF s _ w h1 h2 e2 rfl _ _ _ _ rfl (Hd rfl) (fun w3 hrd=>?_);have hle:=mI (s.extract 1 s.size) 2;have:=AR (w.heap.size+1) (s.extract 1 s.size) false s.size w3 hrd (by omega) (by omega) (eI s.size (aA (s.extract 1 s.size) 2)).1 (eI s.size (aA (s.extract 1 s.size) 2)).2.1 (eI s.size (aA (s.extract 1 s.size) 2)).2.2 _ (Hd rfl) (Hd rfl);rw[Bool.false_or] at this;exact this
   ·rw[if_neg e2]
    exact yH s w h1 h2 e1 e2
theorem pQ (n:Int):(aS n 2).length<=2:=by
 unfold aS
 split
 ·rw[be_length];decide
 ·exact Nat.zero_le _
theorem YU (K C:List Int)(j:Nat):(iX K C j).length<=3+10*j:=by
 induction j with
 | zero=>have:=pQ (C.getD 0 0);simp only[iX,List.length_cons];omega
 | succ j ih=>
  have h1:=rX (K.getD j 0);have h2:=pQ (C.getD (j+1) 0);simp only[iX,List.length_append];omega
theorem uW (n:Nod)(ak av ac:Option Addr)(ck cv cc:Nat)(w:World)(h:NodR w n ak av ac ck cv cc)(hr:cC n=true)(h0:n.leaf=false) :
  () 173 #[aJ n ak av ac ck cv cc] w fun e w'=>e=.returned (.tuple #[.string (Str (iX n.K n.C n.K.length)),(0:Int)])/\Below w.heap.size w w':=by
 have hr2:=(dV n).1 hr;have hw:=hr2.2.1;have hcb:=((dX n).1 hr2.1).2.2;have hwl:=(aQ h0).1 hw;have RG:=Hd (fun w' (hb:Below w.heap.size w w')=>rL n ak av ac ck cv cc w' (h.below hb) true (Hd hr));have hk1:=h.ok.k1;have hkb:=h.ok.kb;have HK0:=h.k;have HV0:=h.c;clear h hw hr hr2;obtain⟨lf,K,V,C⟩:=n;unfold aJ at *
 dsimp only at RG h0 hwl hk1 hkb HK0 HV0 hcb |-
 subst h0;obtain⟨lk,hlk⟩:∃ lk,K.length=lk:=⟨_,rfl⟩
 have hlv:C.length=lk+1:=by rw[hwl.1,hlk]
 rw[hlk,hlv] at RG |-;rw[hlk] at hk1;generalize V.length=lv at *;have b0:Below w.heap.size w (w.alloc (.cells #[false,ak lk ck,av lv cv,ac (lk+1) cc] 166)):=aB _ _;have B0:=Hd b0;have HKB:=Hd hkb;have HLE:=Hd (YU K C);have HCB:=Hd hcb;have hc0:0<(C.map dT).length:=by rw[List.length_map];omega
 have HC0:Hid (∀ w',Below w.heap.size w w'->∃ b off x,ac=some ⟨b,off,none⟩/\2<=x/\x<640/\C.getD 0 0=x/\w'.cell? ⟨b,off,none⟩=some (.int .i64 x)):=Hd (fun w' hb=>by
  obtain⟨b,off,q1,q2,q3⟩:=(HV0.below hb).at 0 hc0;have hm:=hcb C[0] (List.getElem_mem _);refine⟨b,off,C[0],q1,hm.1,hm.2,by rw[List.getD_eq_getElem?_getD,List.getElem?_eq_getElem (by omega)];rfl,?_⟩;have:off+0=off:=rfl;rw[this] at q3;rw[q3,List.getElem_map];rfl)
 clear b0 hwl hkb hcb hc0;go_enter Tryz.func173,Tryz.ntmps173;go_wp2_with fail;refine(RG _ B0.o).mono ?_;rintro e w1 ⟨rfl,b1⟩;have X1:=Hd (jO b1);have B1:=Hd (fS b1);clear b1 RG B0;have FB:=Lib.fresh_isBuilder 259 5 w1;have bA:Below w1.heap.size w1 (w1.alloc (.cells #[.pointer none,.slice none 0 0] 259)):=aB _ _;have XA:=Hd ((bA.block _ (zl X1.o)).trans X1.o);have y0:=cl XA 0 rfl;have FBH:=Hd FB;have BA:=Hd bA;clear FB bA;have y3:=cl XA 3 rfl
 obtain⟨b0,off0,x0,rfl,hx1,hx2,hx3,hx4⟩:=HC0 _ (chain B1 BA.o);have hxw:IntKind.u64.wrap x0=x0:=by rw[IntKind.wrap_u64];omega
 have hlt0:(0:Int)<((lk+1:Nat):Int):=by omega
 have hlt0':(0:Int)<(lk:Int)+1:=by omega
 have HX3:=Hd hx3;have HX12:=Hd (And.intro hx1 hx2);clear hx3 HC0;go_wp2_with fail;refine(kA x0 2 _ _ (by omega) rfl).mono ?_;rintro e w1b ⟨rfl,b1b⟩;have BAb:=Hd (chain BA b1b);have FB2:=Hd (lC FBH b1b);have hpl:=pQ x0;have hadd:(⟨#[2]⟩:ByteArray)++Str (aS x0 2)=Str (2::aS x0 2):=by apply aK;simp[bN,aY]
 have hp2:(Str (2::aS x0 2)).size<=3:=by rw[cP];simp;omega
 obtain⟨p2,hp2e⟩:∃ p2,Str (aS x0 2)=p2:=⟨_,rfl⟩
 have hp2z:p2.size<=2:=by rw[<-hp2e,cP];omega
 have hs1:(9223372036854775807<1+p2.size)=False:=by simp;omega
 have hs2:(9223372036854775807<(⟨#[2]⟩:ByteArray).size+p2.size)=False:=by simp only[show(⟨#[2]⟩:ByteArray).size=1 from rfl];exact hs1
 rw[hp2e] at hadd |-;clear hp2e;clear b1b FBH hx4 y0 y3 hx1 hx2;go_wp2_with fail
 first|rw[hadd]|skip
 refine(iK w1.heap.size w1.heap.size [] (Str (2::aS x0 2)) _ FB2 (by simp only[List.length_nil];omega) BAb.size).mono ?_;rintro e w2 ⟨rfl,h2,b2⟩
 have I2:Lib.IsBuilder 259 5 w1.heap.size w1.heap.size (Lib.byteCells (iX K C 0)) w2:=by
  rw[List.nil_append,Lib.strCells_eq] at h2;unfold iX;rw[HX3.o];rw[aY] at h2;exact .inr h2
 have B2:=Hd (BAb.trans b2);have I2H:=Hd I2
 have z1:w2.cell? ⟨w.heap.size,1,none⟩=some (.slice ak lk ck):=by
  have X2:=(B2.block _ (zl X1.o)).trans X1.o;rw[cob X2];rfl
 clear h2 b2 I2;go_wp2_with fail
 go_loopw [26] (fun i wr=>∃ j:Nat,j<=lk/\i=.int .i64 (j:Int)/\Below w1.heap.size w1 wr/\Lib.IsBuilder 259 5 w1.heap.size w1.heap.size (Lib.byteCells (iX K C j)) wr) (fun i _=>lk+1-(intOf i).toNat)
 case atStart=>exact⟨0,Nat.zero_le _,rfl,B2.o,I2H.o⟩
 case round=>
  obtain⟨j,hj,rfl,hb,hI⟩:=hrel;have HB:=Hd hb;have HI:=Hd hI;clear hI
  by_cases hlt:j<lk
  ·have hji:(j:Int)<(lk:Int):=by omega
   have hjl:j<(K.map bI).length:=by rw[List.length_map];omega
   have hjv:j+1<(C.map dT).length:=by rw[List.length_map];omega
   obtain⟨b,off,rfl,hbl,zk0⟩:=HK0.at j hjl;obtain⟨b',off',he',hbl',zv0⟩:=HV0.at (j+1) hjv
   cases he'
   have zk:=(hb.cell (p:=⟨b,off+j,none⟩) (Nat.lt_of_lt_of_le hbl B1.size)).trans ((B1.cell (p:=⟨b,off+j,none⟩) hbl).trans zk0);have zv1:=(B1.cell (p:=⟨b0,off0+(j+1),none⟩) hbl').trans zv0;have e1:(K.map bI)[j]=.int .u64 (K.getD j 0):=by rw[List.getElem_map,List.getD_eq_getElem?_getD,List.getElem?_eq_getElem (by omega)];rfl
   have e2:(C.map dT)[j+1]=.int .i64 (C.getD (j+1) 0):=by rw[List.getElem_map,List.getD_eq_getElem?_getD,List.getElem?_eq_getElem (by omega)];rfl
   have hcx:2<=C.getD (j+1) 0/\C.getD (j+1) 0<640:=by
    rw[List.getD_eq_getElem?_getD,List.getElem?_eq_getElem (by omega)];exact HCB _ (List.getElem_mem _)
   rw[e1] at zk;rw[e2] at zv1;have ZV1:=Hd zv1
   have hkj:0<=K.getD j 0:=by
    rw[List.getD_eq_getElem?_getD,List.getElem?_eq_getElem (by omega)];exact(HKB _ (List.getElem_mem _)).1
   have hle:=HLE j;have hp8:=rX (K.getD j 0);have ht8:=pQ (C.getD (j+1) 0);have ES:Hid (iX K C (j+1)=iX K C j++aS (K.getD j 0) 8++aS (C.getD (j+1) 0) 2):=Hd rfl;clear e1 e2 zk0 zv0 zv1;generalize K.getD j 0=kx at *;generalize C.getD (j+1) 0=vx at *;have XR:=(hb.block _ (zl X1.o)).trans X1.o;have XRH:=Hd XR;clear XR hb;go_wp2_with fail;refine(kA kx 8 _ _ hkj rfl).mono ?_;rintro e w3 ⟨rfl,b3⟩;have I3:=Hd (lC HI b3);have B3:=Hd (chain HB b3);clear b3 zk hbl;go_wp2_with fail
   refine(iK w1.heap.size w1.heap.size _ _ _ I3 (by rw[Lib.byteCells_length,cP];omega) B3.size).mono ?_;rintro e w4 ⟨rfl,h4,b4⟩;have B4:=Hd (B3.trans b4)
   have I4:Hid (Lib.IsBuilder 259 5 w1.heap.size w1.heap.size (Lib.byteCells (iX K C j++aS kx 8)) w4):=Hd (by
    rw[Lib.strCells_eq,aY,<-Lib.byteCells_append] at h4;exact .inr h4)
   have X4:=(B4.block _ (zl X1.o)).trans X1.o;have u0:=cl X4 0 rfl;have u2:=cl X4 3 rfl;clear X4 h4 b4;have zv4:w4.cell? ⟨b0,off0+(j+1),none⟩=some (.int .i64 vx):=(B4.cell (p:=⟨b0,off0+(j+1),none⟩) (Nat.lt_of_lt_of_le hbl' B1.size)).trans ZV1.o;have hvw:IntKind.u64.wrap vx=vx:=by rw[IntKind.wrap_u64];omega
   have hj1w:IntKind.i64.wrap ((j:Int)+1)=((j+1:Nat):Int):=by rw[IntKind.wrap_i64];omega
   have hj1l:((j+1:Nat):Int)<((lk+1:Nat):Int):=by omega
   go_wp2_with fail;refine(kA vx 2 _ _ (by omega) rfl).mono ?_;rintro e w5 ⟨rfl,b5⟩;have I5:=Hd (lC I4 b5);have B5:=Hd (chain B4 b5);clear b5 zv4 u0 u2;go_wp2_with fail;refine(iK w1.heap.size w1.heap.size _ _ _ I5 (by rw[Lib.byteCells_length,List.length_append,cP];omega) B5.size).mono ?_;rintro e w6 ⟨rfl,h6,b6⟩;have B6:=Hd (B5.trans b6)
   have I6:Hid (Lib.IsBuilder 259 5 w1.heap.size w1.heap.size (Lib.byteCells (iX K C (j+1))) w6):=Hd (by
    rw[Lib.strCells_eq,aY,<-Lib.byteCells_append] at h6;rw[ES.o];exact .inr h6)
   clear h6 b6;go_wp2_with fail;go_roundw
   case rel=>exact⟨j+1,by omega,by go_num,B6.o,I6.o⟩
   case measure=>simp[intOf];omega
  ·obtain rfl:j=lk:=by omega
   have hji:¬ (j:Int)<(j:Int):=by omega
   clear hb;go_wp2_with fail;refine(Tryz.Builder_String_any w1.heap.size w1.heap.size _ _ HI HB.size).mono ?_;rintro e w3 ⟨rfl,b3⟩;go_wp2_with fail;go_ret2;exact⟨rfl,chain B1 (HB.trans b3)⟩
theorem JH (n:Nod)(ak av ac:Option Addr)(ck cv cc:Nat)(w:World)(h:NodR w n ak av ac ck cv cc)(hr:cC n=true) :
  () 173 #[aJ n ak av ac ck cv cc] w fun e w'=>e=.returned (.tuple #[.string (dM n),(0:Int)])/\Below w.heap.size w w':=by
 cases hl:n.leaf with
 | false=>
  have:=uW n ak av ac ck cv cc w h hr hl;unfold dM;rw[hl];exact this
 | true=>
  have hr2:=(dV n).1 hr;have hp:=(dX n).1 hr2.1;have:=CW n ak av ac ck cv cc w h hr2.2.1 hp.1 hp.2.1 hl (hr2.2.2.1 hl) hr2.2.2.2;unfold dM;rw[hl];exact this
def jT (s:Nat)(r:Nat):Obj:=.cells #[s,(r:Int),(0:Int)] 157
structure aFO (w:World)(d s g:Nat)(dk:DkS)(st:ShS)(r:Nat)(FD FS:Nat->Prop):Prop where
 ds:DS w d s dk st FD FS
 v:w.heap[g]?=some (jT s r)
 gd:¬ FD g
 gs:¬ FS g
def TS (w:World)(d s g:Nat)(dk:DkS)(st:ShS)(r:Nat)(F:Nat->Prop):Prop:=∃ FD FS,aFO w d s g dk st r FD FS/\∀ k,F k ↔ FD k\/FS k\/k=g
theorem TS.lt {w:World}{d s g:Nat}{dk:DkS}{st:ShS}{r:Nat}{F:Nat->Prop}(h:TS w d s g dk st r F)(k:Nat)(hk:F k):k<w.heap.size:=by
 obtain⟨FD,FS,hi,he⟩:=h
 rcases(he k).1 hk with h1|h1|h1
 ·obtain⟨a,b,c,h2,h3⟩:=hi.ds.dk
  exact h2.lt k ((h3 k).1 h1)
 ·exact hi.ds.sto.lt k h1
 ·subst h1;exact(zl hi.v)
theorem TS.frm {w w':World}{d s g:Nat}{dk:DkS}{st:ShS}{r:Nat}{F G:Nat->Prop}(h:TS w d s g dk st r F)(hf:Frm G w w')(hd:∀ k,F k->¬ G k):TS w' d s g dk st r F:=by
 have hlt:=h.lt;obtain⟨FD,FS,hi,he⟩:=h;refine⟨FD,FS,⟨⟨hi.ds.dk.frm hf fun k hk=>hd k ((he k).2 (.inl hk)),hi.ds.sto.frm hf fun k hk=>hd k ((he k).2 (.inr (.inl hk))),hi.ds.apart⟩,?_,hi.gd,hi.gs⟩,he⟩;have hg:=(he g).2 (.inr (.inr rfl));exact(hf.block g (hlt g hg) (hd g hg)).trans hi.v
theorem TS.below {w w':World}{d s g:Nat}{dk:DkS}{st:ShS}{r:Nat}{F:Nat->Prop}(h:TS w d s g dk st r F)(hb:Below w.heap.size w w'):TS w' d s g dk st r F:=
 h.frm (G:=fun _=>False) (Frm.of_below hb) fun _ _ hx=>hx
def TSPost (w:World)(d s g:Nat)(dk:DkS)(st:ShS)(r:Nat)(F:Nat->Prop)(w':World):Prop:=∃ F',TS w' d s g dk st r F'/\Frm F w w'/\∀ k,F' k->F k\/w.heap.size<=k
theorem TSPost.trans {w w1 w2:World}{d s g:Nat}{dk2:DkS}{st2:ShS}{r2:Nat}{F F1:Nat->Prop}(hs:w.heap.size<=w1.heap.size)(hf:Frm F w w1)(hn:∀ k,F1 k->F k\/w.heap.size<=k)(h2:TSPost w1 d s g dk2 st2 r2 F1 w2):TSPost w d s g dk2 st2 r2 F w2:=by
 obtain⟨F2,h,f2,n2⟩:=h2;refine⟨F2,h,hf.trans f2 hn,fun k hk=>?_⟩
 rcases n2 k hk with hx|hx
 ·exact hn k hx
 ·exact .inr (Nat.le_trans hs hx)
def mL (w:World)(b:Nat)(v0 v1 v2 v3:Value):World:=(((w.setCell ⟨b,0,none⟩ v0).setCell ⟨b,1,none⟩ v1).setCell ⟨b,2,none⟩ v2).setCell ⟨b,3,none⟩ v3
theorem jK {w:World}{b:Nat}{a0 a1 a2 a3:Value}{T:TypeId}(h:w.heap[b]?=some (.cells #[a0,a1,a2,a3] T))(v0 v1 v2 v3:Value):(mL w b v0 v1 v2 v3).heap[b]?=some (.cells #[v0,v1,v2,v3] T):=by
 unfold mL;rw[hss _ _ 3 _ _ _ (hss _ _ 2 _ _ _ (hss _ _ 1 _ _ _ (hss _ _ 0 _ _ _ h)))]
 rfl
theorem iH {B:Nat}{w w1:World}(h:Below B w w1)(b:Nat)(v0 v1 v2 v3:Value)(hb:B<=b):Below B w (mL w1 b v0 v1 v2 v3):=(((h.setCell hb _).setCell hb _).setCell hb _).setCell hb _
theorem kR {F:Nat->Prop}{w w1:World}(h:Frm F w w1)(b:Nat)(v0 v1 v2 v3:Value)(hb:F b\/w.heap.size<=b):Frm F w (mL w1 b v0 v1 v2 v3):=(((h.setCell _ _ hb).setCell _ _ hb).setCell _ _ hb).setCell _ _ hb
theorem AW {w:World}{a:Option Addr}(h:Unf w a)(b:Nat)(v0 v1 v2 v3:Value):Unf (mL w b v0 v1 v2 v3) a:=(((h.setCell _ _).setCell _ _).setCell _ _).setCell _ _
theorem cS {w:World}{b:Nat}{v0 v1 v2 v3:Value}{T:TypeId}(h:w.heap[b]?=some (.cells #[v0,v1,v2,v3] T)):w.cell? ⟨b,0,none⟩=some v0/\w.cell? ⟨b,1,none⟩=some v1/\w.cell? ⟨b,2,none⟩=some v2/\w.cell? ⟨b,3,none⟩=some v3:=by
 refine⟨?_,?_,?_,?_⟩ <;> (rw[cob h];rfl)
theorem kJ {w:World}{b:Nat}{v0:Value}{T:TypeId}(h:w.heap[b]?=some (.cells #[v0] T)):w.cell? ⟨b,0,none⟩=some v0:=by
 rw[cob h];rfl
theorem cH {w:World}{g s r:Nat}(h:w.heap[g]?=some (jT s r)):w.cell? ⟨g,0,none⟩=some (.pointer (some ⟨s,0,none⟩))/\w.cell? ⟨g,1,none⟩=some (.int .i64 (r:Int))/\w.cell? ⟨g,2,none⟩=some (.int .i64 0)/\∀ i,w.frozen? ⟨g,i,none⟩=false:=by
 unfold jT at h;refine⟨?_,?_,?_,fun i=>ufb h i⟩ <;> (rw[cob h];rfl)
theorem UK (w:World)(s d:Nat)(st:ShS)(F:Nat->Prop)(h:Sto w s d st F) :
  () 167 #[s,(0:Int)] w fun e w'=>e=.returned (.int .i64 0)/\w=w':=by
 go_enter Tryz.func167,Tryz.ntmps167;go_wp2_with fail;go_ret;exact⟨rfl,rfl⟩
theorem VW (w:World)(d s:Nat)(dk:DkS)(st:ShS)(FD FS:Nat->Prop)(h:DS w d s dk st FD FS)(hu:st.up=true)(n:Int)(h1:2<=n)(h2:n<(dk.S.length:Int))(he:rdE dk n=0) :
  () 149 #[s,n] w fun e w'=>e=.returned (.tuple #[.int .i64 (rdK dk n),.string (rdT dk n),(0:Int)])/\Below w.heap.size w w':=by
 have SZ:=Hd (sX w s d st FS h.sto dk FD h.dk);have RD:=Hd (BC w d dk FD h.dk n);have TD:=Hd (fun w' (hb:Below w.heap.size w w')=>UK w' s d st FS (h.sto.below hb));obtain⟨f,g,hi,_⟩:=h.sto;obtain⟨c0,c1,c2,c3,c4,c5,c6⟩:=hi.cells;rw[hu] at c6;rw[he] at RD;have h1':¬ n<2:=by omega
 have h2':¬ (dk.S.length:Int)<=n:=by omega
 clear h hi he;generalize rdK dk n=rk at *;generalize rdT dk n=rt at *;go_enter Tryz.func149,Tryz.ntmps149;go_wp2_with fail;refine SZ.mono ?_;rintro e w1 ⟨rfl,rfl⟩;go_wp2_with fail;refine RD.mono ?_;rintro e w2 ⟨rfl,b2⟩;have T2:=Hd (TD w2 b2);have B2:=Hd b2;clear b2;go_wp2_with fail;refine T2.mono ?_;rintro e w3 ⟨rfl,rfl⟩;go_wp2_with fail;go_ret3;exact⟨rfl,B2.o⟩
theorem pB (w:World)(d s g:Nat)(dk:DkS)(st:ShS)(r:Nat)(F:Nat->Prop)(h:TS w d s g dk st r F)(hu:st.up=true)(hr:r<640)(p dp:Int)(hd:dp<=10)(M:Nod)(hM:Rn dk p=some M) :
  () 126 #[g,p,dp] w fun e w'=>nC w.heap.size M e w'/\TS w' d s g dk st (r+1) F/\Frm (fun k=>k=g) w w':=by
 obtain⟨m1,m2,m3,m4,m5⟩:=sH hM;have HL:=Hd h.lt;obtain⟨FD,FS,hi,he⟩:=h;obtain⟨v0,v1,v2,vf⟩:=cH hi.v;have vf1:=vf 1;have hg:g<w.heap.size:=(zl hi.v);obtain⟨wa,hwa⟩:∃ wa,(w.alloc (.cells #[false,.slice none 0 0,.slice none 0 0,.slice none 0 0] 166)).setCell ⟨g,1,none⟩ (.int .i64 ((r:Int)+1))=wa:=⟨_,rfl⟩
 have FA:Frm (fun k=>k=g) w wa:=by rw[<-hwa];exact((Frm.refl _ w).alloc _).setCell _ _ (.inl rfl)
 have VA:wa.heap[g]?=some (jT s (r+1)):=by
  rw[<-hwa,hss _ _ 1 _ _ _ ((hao w _ hg).trans hi.v)]
  rfl
 have XA:wa.heap[w.heap.size]?=some (.cells #[false,.slice none 0 0,.slice none 0 0,.slice none 0 0] 166):=by
  rw[<-hwa,Below.heap_setCell _ _ _ _ (show w.heap.size≠(⟨g,1,none⟩:Addr).block from by show w.heap.size≠g;omega)];exact han w _
 have DA:DS wa d s dk st FD FS:=⟨hi.ds.dk.frm FA (fun k hk e=>hi.gd (e ▸ hk)),hi.ds.sto.frm FA (fun k hk e=>hi.gs (e ▸ hk)),hi.ds.apart⟩
 have TA:TS wa d s g dk st (r+1) F:=⟨FD,FS,⟨DA,VA,hi.gd,hi.gs⟩,he⟩
 have RD:=Hd (VW wa d s dk st FD FS DA hu p m1 m2 m3);have DE:=Hd (fun w'=>DF (rdT dk p) w');rw[m5] at DE;rw[m4] at RD;have HF:=Hd FA;have HX:=Hd XA;have HT:=Hd TA;have hr1:((r:Int)==640)=false:=by rw[beq_eq_false_iff_ne];omega
 have hd1:¬ (10:Int)<dp:=by omega
 have a0:wa.cell? ⟨g,0,none⟩=some (.pointer (some ⟨s,0,none⟩)):=(cH VA).1;clear hi FA VA XA DA TA vf hM m1 m2 m3 m4 m5;generalize rdT dk p=tx at *;go_enter Tryz.func126,Tryz.ntmps126;go_wp2_with fail;refine RD.mono ?_;rintro e w1 ⟨rfl,b1⟩;have X1:=Hd (kept HX b1);have T1:=Hd (HT.below b1);have F1:Hid (Frm (fun k=>k=g) w w1):=Hd (HF.trans (G:=fun _=>False) (Frm.of_below b1) (fun _ hx=>hx.elim));clear b1;go_wp2_with fail;refine(DE w1).mono ?_;rintro e w2 ⟨⟨ak,av,ac,ck,cv,cc,rfl,hR,q1,q2,q3,u1,u2⟩,b2⟩
 have X2:=kept X1 b2;obtain⟨x0,x1,x2,x3⟩:=cS X2;have f0:=ufb X2 0;have f1:=ufb X2 1;have f2:=ufb X2 2;have f3:=ufb X2 3;have Y:=jK X2 (.bool M.leaf) (.slice ak M.K.length ck) (.slice av M.V.length cv) (.slice ac M.C.length cc);have Z:=Hd (cS Y);have h0:=F1.size;have hne:w.heap.size<w1.heap.size:=(zl X1.o);have F2:Frm (fun k=>k=g) w w2:=F1.trans (G:=fun _=>False) (Frm.of_below b2) (fun _ hx=>hx.elim)
 have FIN:Hid (nC w.heap.size M (.returned (.tuple #[aJ M ak av ac ck cv cc,(0:Int)])) (mL w2 w.heap.size (.bool M.leaf) (.slice ak M.K.length ck) (.slice av M.V.length cv) (.slice ac M.C.length cc))/\TS (mL w2 w.heap.size (.bool M.leaf) (.slice ak M.K.length ck) (.slice av M.V.length cv) (.slice ac M.C.length cc)) d s g dk st (r+1) F/\Frm (fun k=>k=g) w (mL w2 w.heap.size (.bool M.leaf) (.slice ak M.K.length ck) (.slice av M.V.length cv) (.slice ac M.C.length cc))):=by
  refine Hd ⟨⟨ak,av,ac,ck,cv,cc,rfl,hR.set4 _ _ _ _ _ (fun x hx=>by have:=q1 x hx;omega) (fun x hx=>by have:=q2 x hx;omega) (fun x hx=>by have:=q3 x hx;omega),fun x hx=>by have:=q1 x hx;omega,fun x hx=>by have:=q2 x hx;omega,fun x hx=>by have:=q3 x hx;omega,AW u1 _ _ _ _ _,AW u2 _ _ _ _ _⟩,?_,kR F2 _ _ _ _ _ (.inr (Nat.le_refl _))⟩;refine(T1.below b2).frm (G:=fun k=>k=w.heap.size) (kR (Frm.refl _ w2) _ _ _ _ _ (.inl rfl)) (fun k hk e=>?_);subst e;have:=HL _ hk;omega
 unfold mL at Z FIN;simp only[aJ] at FIN |-;clear hR q1 q2 q3 u1 u2 b2 X2 Y F2 h0 hne;go_wp2_with fail;exact bodyPost_ret (v:=.tuple #[.agg #[M.leaf,ak M.K.length ck,av M.V.length cv,ac M.C.length cc],(0:Int)]) (by simp[results,Tryz.results126,go_sem,Z.1,Z.2.1,Z.2.2.1,Z.2.2.2]) rfl FIN.o
