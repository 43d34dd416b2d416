/-
 NodeRl, NodePl, NodeDe, NodeDa.
-/
import Derived.Test.YtblbiihpfjjhhaaGreatDoorN13
import Derived.Test.YtblbiihpfjjhhaaGreatDoorN05
import Derived.Test.YtblbiihpfjjhhaaGreatDoorN04
namespace Go.Proofs.YtblbiihpfjjhhaaGreatDoor
open Go.RowKit
set_option maxRecDepth 20000
set_option maxHeartbeats 12800000
set_option linter.unusedVariables false
set_option linter.unusedSimpArgs false
theorem fU {w:World} {B:Nat} {e:TypeId} {v:Value} {n:Nat} {xs:List Value} (h:w.ownsRow B e 1 v n xs) (r i:Nat) (u:Value) (hr:v.ownBlock≠some r):(w.setCell ⟨r,i,none⟩ u).ownsRow B e 1 v n xs:=by
 refine ⟨h.1,?_⟩
 rcases h.2 with hx | ⟨g,cap,cur,hv,hbg,hh,q⟩
 ·exact .inl hx
 ·exact .inr ⟨g,cap,cur,hv,hbg,(Below.heap_setCell _ _ _ _ (by show ¬ g=r; intro e; apply hr; rw [hv,e]; rfl)).trans hh,q⟩
structure ReadJ (w:World) (g r:Nat) (lf:Bool) (K:List Int) (V:List ByteArray) (C:List Int) (s:ByteArray) (b:Bool) (kv vv cv:Value) (wr:World):Prop where
 hr:w.heap.size < r
 box:wr.heap[r]?=some (.cells #[.bool lf,kv,vv,cv]  206)
 res:wr.heap[w.heap.size]?=some (.cells #[.bool false,.slice none 0 0,.slice none 0 0,.slice none 0 0]  206)
 ko:wr.ownsRow (w.heap.size + 1) 30 1 kv K.length (K.map bS)
 vo:wr.ownsRow (w.heap.size + 1) 9 1 vv V.length (V.map Value.string)
 co:wr.ownsRow (w.heap.size + 1) 3 1 cv C.length (C.map fP)
 a12:∀ x,kv.ownBlock=some x→vv.ownBlock≠some x
 a13:∀ x,kv.ownBlock=some x→cv.ownBlock≠some x
 a23:∀ x,vv.ownBlock=some x→cv.ownBlock≠some x
 n1:kv.ownBlock≠some r
 n2:vv.ownBlock≠some r
 n3:cv.ownBlock≠some r
 rd:RDb wr g s b
 fr:Frm (fun k=>k=g) w wr
theorem lZ {g:Nat} {w:World} {s:ByteArray} {b:Bool} (h:RDb w g s b):II g w=s.size:=by unfold II; rw [show w.cell? ⟨g,0,none⟩=some (.string s) from by rw [cob h]; rfl]
def RF (w:World) (g r:Nat) (k:Nat):Prop:=k=g∨(w.heap.size + 1≤k∧¬ k=r)
theorem ZU {w wr w5:World} {g r:Nat} {lf b b' : Bool} {K C:List Int} {V:List ByteArray} {s:ByteArray} {kv vv cv:Value} (hI:ReadJ w g r lf K V C s b kv vv cv wr) (hg:g < w.heap.size) (hK:K.length≤1000) (x:Int) (m:ByteArray) (hr5:RDb w5 g m b') (hf5:Frm (fun k=>k=g) wr w5) :
  ∃ v' v6,(Builtin.append_ #[204,204] 204 #[kv,.slice (some ⟨w5.heap.size,0,none⟩) 1 1]).run Tryz.prog (w5.alloc (.cells #[.int .u64 x] 30))=.ok v' v6∧Frm (RF w g r) wr v6 ∧
   v6.heap[r]?=some (.cells #[.bool lf,kv,vv,cv] 206)∧ReadJ w g r lf (K ++ [x]) V C m b' v' vv cv (v6.setCell ⟨r,1,none⟩ v'):=by
 obtain ⟨i0,hi,hz0,hz1,hz2⟩:=info_parts DW;have hbx:=(zl hI.box);have hrs:=hI.hr;have hs5:=hf5.size;have nog:∀ k,w.heap.size≤k→¬ k=g:=fun k hk e=>by omega
 have o1:=(iA hI.ko hf5 (fun k hk=>nog k (by have:=(hI.ko.lt k hk).1; omega))).alloc (.cells #[.int .u64 x] 30);have o2:=(iA hI.vo hf5 (fun k hk=>nog k (by have:=(hI.vo.lt k hk).1; omega))).alloc (.cells #[.int .u64 x] 30);have o3:=(iA hI.co hf5 (fun k hk=>nog k (by have:=(hI.co.lt k hk).1; omega))).alloc (.cells #[.int .u64 x] 30);have h6s:(w5.alloc (.cells #[.int .u64 x] 30)).heap.size=w5.heap.size + 1:=by simp
 obtain ⟨v', v6,k,hr,ho,hgw,hk1,hk2⟩:=wI (P:=Tryz.prog) (w5.alloc (.cells #[.int .u64 x] 30)) (w.heap.size + 1) 204 204 30 i0 (.int .u64 0) 8 (by decide) Tryz.underlying204 hi hz0 hz1 hz2 rfl kv K.length _ o1 w5.heap.size (.int .u64 x) (by rw [cob (han w5 _)]; rfl) rfl (by omega) (by omega);have own0:∀ q,kv.ownBlock=some q→w.heap.size + 1≤q∧q < wr.heap.size:=fun q hq=>hI.ko.lt q hq
 have keep:∀ q,q < wr.heap.size→¬ q=g→kv.ownBlock≠some q→v6.heap[q]?=wr.heap[q]?:=fun q hq hqg hne =>
  (hgw.block q (by omega) (fun e=>hne e.symm)).trans ((hao w5 _ (by omega)).trans (hf5.block q hq hqg))
 have bx:=(keep r hbx (nog _ (by omega)) hI.n1).trans hI.box;have rx:=(keep w.heap.size (by omega) (nog _ (Nat.le_refl _)) (fun e=>by have:=(own0 _ e).1; omega)).trans hI.res
 have dx:v6.heap[g]?=some (.cells #[.string m,.bool b'] 278) :=
  (hgw.block g (by omega) (fun e=>by have:=(own0 _ e.symm).1; omega)).trans ((hao w5 _ (by omega)).trans hr5)
 have nr:v'.ownBlock≠some r:=fun e=>by
  rw [hk1] at e; injection e with e; subst e
  rcases hk2 with hk2 | hk2
  ·exact hI.n1 hk2
  ·omega
 have ne1:∀ q,¬ q=r→(v6.setCell ⟨r,1,none⟩ v').heap[q]?=v6.heap[q]?:=fun q hq=>Below.heap_setCell _ _ _ _ hq
 refine ⟨v', v6,hr,((hf5.mono (fun i hi=>.inl hi)).alloc _).grown hgw (fun q hq=>.inl (.inr ⟨(own0 q hq).1,fun e=>by subst e; exact hI.n1 hq⟩)),bx,?_⟩
 exact ⟨hrs,by rw [hss _ _ 1 _ _ _ bx]; rfl,(ne1 _ (by omega)).trans rx,by rw [List.map_append,List.length_append]; exact fU ho _ _ _ nr,fU (o2.kept hgw (jT (fun x h1 h2=>hI.a12 x h2 h1))) _ _ _ hI.n2,fU (o3.kept hgw (jT (fun x h1 h2=>hI.a13 x h2 h1))) _ _ _ hI.n3,fun x hx hy=>by rw [hk1] at hx; injection hx with hx; subst hx; rcases hk2 with hk2 | hk2; exact hI.a12 _ hk2 hy; have:=(hI.vo.lt _ hy).2; omega,fun x hx hy=>by rw [hk1] at hx; injection hx with hx; subst hx; rcases hk2 with hk2 | hk2; exact hI.a13 _ hk2 hy; have:=(hI.co.lt _ hy).2; omega,hI.a23,nr,hI.n2,hI.n3,(ne1 _ (by omega)).trans dx,
  (((hI.fr.trans hf5 (fun i hi=>.inl hi)).alloc _).grown hgw (fun q hq=>.inr (by have:=(own0 q hq).1; omega))).setCell _ _ (.inr (Nat.le_of_lt hrs))⟩
theorem aB1 {w wr w5:World} {g r:Nat} {lf b b' : Bool} {K C:List Int} {V:List ByteArray} {s:ByteArray} {kv vv cv:Value} (hI:ReadJ w g r lf K V C s b kv vv cv wr) (hg:g < w.heap.size) (hK:V.length≤1000) (x:ByteArray) (m:ByteArray) (hr5:RDb w5 g m b') (hf5:Frm (fun k=>k=g) wr w5) :
  ∃ v' v6,(Builtin.append_ #[39,39] 39 #[vv,.slice (some ⟨w5.heap.size,0,none⟩) 1 1]).run Tryz.prog (w5.alloc (.cells #[.string x] 9))=.ok v' v6∧Frm (RF w g r) wr v6 ∧
   v6.heap[r]?=some (.cells #[.bool lf,kv,vv,cv] 206)∧ReadJ w g r lf K (V ++ [x]) C m b' kv v' cv (v6.setCell ⟨r,2,none⟩ v'):=by
 obtain ⟨i0,hi,hz0,hz1,hz2⟩:=info_parts DX;have hbx:=(zl hI.box);have hrs:=hI.hr;have hs5:=hf5.size;have nog:∀ k,w.heap.size≤k→¬ k=g:=fun k hk e=>by omega
 have o1:=(iA hI.ko hf5 (fun k hk=>nog k (by have:=(hI.ko.lt k hk).1; omega))).alloc (.cells #[.string x] 9);have o2:=(iA hI.vo hf5 (fun k hk=>nog k (by have:=(hI.vo.lt k hk).1; omega))).alloc (.cells #[.string x] 9);have o3:=(iA hI.co hf5 (fun k hk=>nog k (by have:=(hI.co.lt k hk).1; omega))).alloc (.cells #[.string x] 9);have h6s:(w5.alloc (.cells #[.string x] 9)).heap.size=w5.heap.size + 1:=by simp
 obtain ⟨v', v6,k,hr,ho,hgw,hk1,hk2⟩:=wI (P:=Tryz.prog) (w5.alloc (.cells #[.string x] 9)) (w.heap.size + 1) 39 39 9 i0 (.string ByteArray.empty) 16 (by decide) Tryz.underlying39 hi hz0 hz1 hz2 rfl vv V.length _ o2 w5.heap.size (.string x) (by rw [cob (han w5 _)]; rfl) rfl (by omega) (by omega);have own0:∀ q,vv.ownBlock=some q→w.heap.size + 1≤q∧q < wr.heap.size:=fun q hq=>hI.vo.lt q hq
 have keep:∀ q,q < wr.heap.size→¬ q=g→vv.ownBlock≠some q→v6.heap[q]?=wr.heap[q]?:=fun q hq hqg hne =>
  (hgw.block q (by omega) (fun e=>hne e.symm)).trans ((hao w5 _ (by omega)).trans (hf5.block q hq hqg))
 have bx:=(keep r hbx (nog _ (by omega)) hI.n2).trans hI.box;have rx:=(keep w.heap.size (by omega) (nog _ (Nat.le_refl _)) (fun e=>by have:=(own0 _ e).1; omega)).trans hI.res
 have dx:v6.heap[g]?=some (.cells #[.string m,.bool b'] 278) :=
  (hgw.block g (by omega) (fun e=>by have:=(own0 _ e.symm).1; omega)).trans ((hao w5 _ (by omega)).trans hr5)
 have nr:v'.ownBlock≠some r:=fun e=>by
  rw [hk1] at e; injection e with e; subst e
  rcases hk2 with hk2 | hk2
  ·exact hI.n2 hk2
  ·omega
 have ne1:∀ q,¬ q=r→(v6.setCell ⟨r,2,none⟩ v').heap[q]?=v6.heap[q]?:=fun q hq=>Below.heap_setCell _ _ _ _ hq
 refine ⟨v', v6,hr,((hf5.mono (fun i hi=>.inl hi)).alloc _).grown hgw (fun q hq=>.inl (.inr ⟨(own0 q hq).1,fun e=>by subst e; exact hI.n2 hq⟩)),bx,?_⟩
 exact ⟨hrs,by rw [hss _ _ 2 _ _ _ bx]; rfl,(ne1 _ (by omega)).trans rx,fU (o1.kept hgw (jT (fun x h1 h2=>hI.a12 x h1 h2))) _ _ _ hI.n1,by rw [List.map_append,List.length_append]; exact fU ho _ _ _ nr,fU (o3.kept hgw (jT (fun x h1 h2=>hI.a23 x h2 h1))) _ _ _ hI.n3,fun x hx hy=>by rw [hk1] at hy; injection hy with hy; subst hy; rcases hk2 with hk2 | hk2; exact hI.a12 _ hx hk2; have:=(hI.ko.lt _ hx).2; omega,hI.a13,fun x hx hy=>by rw [hk1] at hx; injection hx with hx; subst hx; rcases hk2 with hk2 | hk2; exact hI.a23 _ hk2 hy; have:=(hI.co.lt _ hy).2; omega,hI.n1,nr,hI.n3,(ne1 _ (by omega)).trans dx,
  (((hI.fr.trans hf5 (fun i hi=>.inl hi)).alloc _).grown hgw (fun q hq=>.inr (by have:=(own0 q hq).1; omega))).setCell _ _ (.inr (Nat.le_of_lt hrs))⟩
theorem aB0 {w wr w5:World} {g r:Nat} {lf b b' : Bool} {K C:List Int} {V:List ByteArray} {s:ByteArray} {kv vv cv:Value} (hI:ReadJ w g r lf K V C s b kv vv cv wr) (hg:g < w.heap.size) (hK:C.length≤1000) (x:Int) (m:ByteArray) (hr5:RDb w5 g m b') (hf5:Frm (fun k=>k=g) wr w5) :
  ∃ v' v6,(Builtin.append_ #[48,48] 48 #[cv,.slice (some ⟨w5.heap.size,0,none⟩) 1 1]).run Tryz.prog (w5.alloc (.cells #[.int .i64 x] 3))=.ok v' v6∧Frm (RF w g r) wr v6 ∧
   v6.heap[r]?=some (.cells #[.bool lf,kv,vv,cv] 206)∧ReadJ w g r lf K V (C ++ [x]) m b' kv vv v' (v6.setCell ⟨r,3,none⟩ v'):=by
 obtain ⟨i0,hi,hz0,hz1,hz2⟩:=info_parts DY;have hbx:=(zl hI.box);have hrs:=hI.hr;have hs5:=hf5.size;have nog:∀ k,w.heap.size≤k→¬ k=g:=fun k hk e=>by omega
 have o1:=(iA hI.ko hf5 (fun k hk=>nog k (by have:=(hI.ko.lt k hk).1; omega))).alloc (.cells #[.int .i64 x] 3);have o2:=(iA hI.vo hf5 (fun k hk=>nog k (by have:=(hI.vo.lt k hk).1; omega))).alloc (.cells #[.int .i64 x] 3);have o3:=(iA hI.co hf5 (fun k hk=>nog k (by have:=(hI.co.lt k hk).1; omega))).alloc (.cells #[.int .i64 x] 3);have h6s:(w5.alloc (.cells #[.int .i64 x] 3)).heap.size=w5.heap.size + 1:=by simp
 obtain ⟨v', v6,k,hr,ho,hgw,hk1,hk2⟩:=wI (P:=Tryz.prog) (w5.alloc (.cells #[.int .i64 x] 3)) (w.heap.size + 1) 48 48 3 i0 (.int .i64 0) 8 (by decide) Tryz.underlying48 hi hz0 hz1 hz2 rfl cv C.length _ o3 w5.heap.size (.int .i64 x) (by rw [cob (han w5 _)]; rfl) rfl (by omega) (by omega);have own0:∀ q,cv.ownBlock=some q→w.heap.size + 1≤q∧q < wr.heap.size:=fun q hq=>hI.co.lt q hq
 have keep:∀ q,q < wr.heap.size→¬ q=g→cv.ownBlock≠some q→v6.heap[q]?=wr.heap[q]?:=fun q hq hqg hne =>
  (hgw.block q (by omega) (fun e=>hne e.symm)).trans ((hao w5 _ (by omega)).trans (hf5.block q hq hqg))
 have bx:=(keep r hbx (nog _ (by omega)) hI.n3).trans hI.box;have rx:=(keep w.heap.size (by omega) (nog _ (Nat.le_refl _)) (fun e=>by have:=(own0 _ e).1; omega)).trans hI.res
 have dx:v6.heap[g]?=some (.cells #[.string m,.bool b'] 278) :=
  (hgw.block g (by omega) (fun e=>by have:=(own0 _ e.symm).1; omega)).trans ((hao w5 _ (by omega)).trans hr5)
 have nr:v'.ownBlock≠some r:=fun e=>by
  rw [hk1] at e; injection e with e; subst e
  rcases hk2 with hk2 | hk2
  ·exact hI.n3 hk2
  ·omega
 have ne1:∀ q,¬ q=r→(v6.setCell ⟨r,3,none⟩ v').heap[q]?=v6.heap[q]?:=fun q hq=>Below.heap_setCell _ _ _ _ hq
 refine ⟨v', v6,hr,((hf5.mono (fun i hi=>.inl hi)).alloc _).grown hgw (fun q hq=>.inl (.inr ⟨(own0 q hq).1,fun e=>by subst e; exact hI.n3 hq⟩)),bx,?_⟩
 exact ⟨hrs,by rw [hss _ _ 3 _ _ _ bx]; rfl,(ne1 _ (by omega)).trans rx,fU (o1.kept hgw (jT (fun x h1 h2=>hI.a13 x h1 h2))) _ _ _ hI.n1,fU (o2.kept hgw (jT (fun x h1 h2=>hI.a23 x h1 h2))) _ _ _ hI.n2,by rw [List.map_append,List.length_append]; exact fU ho _ _ _ nr,hI.a12,fun x hx hy=>by rw [hk1] at hy; injection hy with hy; subst hy; rcases hk2 with hk2 | hk2; exact hI.a13 _ hx hk2; have:=(hI.ko.lt _ hx).2; omega,fun x hx hy=>by rw [hk1] at hy; injection hy with hy; subst hy; rcases hk2 with hk2 | hk2; exact hI.a23 _ hx hk2; have:=(hI.vo.lt _ hx).2; omega,hI.n1,hI.n2,nr,(ne1 _ (by omega)).trans dx,
  (((hI.fr.trans hf5 (fun i hi=>.inl hi)).alloc _).grown hgw (fun q hq=>.inr (by have:=(own0 q hq).1; omega))).setCell _ _ (.inr (Nat.le_of_lt hrs))⟩
def Unf (w:World) (a:Option Addr):Prop:=∀ x,a=some x→x.block < w.heap.size∧∀ i,w.frozen? ⟨x.block,i,none⟩=false
theorem Unf.below {w w' : World} {a:Option Addr} (h:Unf w a) (hb:Below w.heap.size w w'):Unf w' a:=by
 intro x hx;obtain ⟨h1,h2⟩:=h x hx;refine ⟨Nat.lt_of_lt_of_le h1 hb.size,fun i=>?_⟩;have:=h2 i;unfold World.frozen? at this ⊢;rw [show w'.heap[(⟨x.block,i,none⟩:Addr).block]?=w.heap[(⟨x.block,i,none⟩:Addr).block]? from hb.block x.block h1];exact this
theorem Unf.setCell {w:World} {a:Option Addr} (h:Unf w a) (p:Addr) (u:Value):Unf (w.setCell p u) a:=by
 intro x hx;obtain ⟨h1,h2⟩:=h x hx;exact ⟨by simp [World.setCell]; exact h1,fun i=>by rw [World.frozen?_setCell]; exact h2 i⟩
theorem Unf.own {w:World} {B:Nat} {e:TypeId} {z n:Nat} {a:Option Addr} {m c:Nat} {xs:List Value} (h:w.ownsRow B e z (.slice a m c) n xs):Unf w a:=by
 intro x hx
 rcases h.2 with ⟨h1,_⟩ | ⟨g,cap,cur,h1,h2,h3,_⟩
 ·injection h1 with h1; rw [h1] at hx; cases hx
 ·injection h1 with h1; rw [h1] at hx; injection hx with hx; subst hx
  refine ⟨(zl h3),fun i=>?_⟩;unfold World.frozen?;rw [h3]; simp
def lP (lo:Nat) (n:Nod) (e:Ending) (w' : World):Prop:=∃ ak av ac ck cv cc,e=.returned (aQ n ak av ac ck cv cc)∧NodR w' n ak av ac ck cv cc∧(∀ x,ak=some x→lo≤x.block)∧(∀ x,av=some x→lo≤x.block)∧(∀ x,ac=some x→lo≤x.block)∧Unf w' ak∧Unf w' ac
theorem ReadJ.done {w wr:World} {g r:Nat} {lf b:Bool} {K C:List Int} {V:List ByteArray} {s:ByteArray} {kv vv cv:Value} (hI:ReadJ w g r lf K V C s b kv vv cv wr) (hg:g < w.heap.size) (hok:dP ⟨lf,K,V,C⟩) :
  lP w.heap.size ⟨lf,K,V,C⟩ (.returned (.agg #[.bool lf,kv,vv,cv])) ((((wr.setCell ⟨w.heap.size,0,none⟩ (.bool lf)).setCell ⟨w.heap.size,1,none⟩ kv).setCell ⟨w.heap.size,2,none⟩ vv).setCell ⟨w.heap.size,3,none⟩ cv)∧RDb ((((wr.setCell ⟨w.heap.size,0,none⟩ (.bool lf)).setCell ⟨w.heap.size,1,none⟩ kv).setCell ⟨w.heap.size,2,none⟩ vv).setCell ⟨w.heap.size,3,none⟩ cv) g s b∧Frm (fun k=>k=g) w ((((wr.setCell ⟨w.heap.size,0,none⟩ (.bool lf)).setCell ⟨w.heap.size,1,none⟩ kv).setCell ⟨w.heap.size,2,none⟩ vv).setCell ⟨w.heap.size,3,none⟩ cv):=by
 obtain ⟨ak,ck,e1,r1,l1,m1⟩:=Rd.own hI.ko;obtain ⟨av,cv', e2,r2,l2,m2⟩:=Rd.own hI.vo;obtain ⟨ac,cc,e3,r3,l3,m3⟩:=Rd.own hI.co;have b1:∀ x,ak=some x→w.heap.size + 1≤x.block:=fun x hx=>(hI.ko.lt x.block (by rw [e1,hx]; rfl)).1
 have b2:∀ x,av=some x→w.heap.size + 1≤x.block:=fun x hx=>(hI.vo.lt x.block (by rw [e2,hx]; rfl)).1
 have b3:∀ x,ac=some x→w.heap.size + 1≤x.block:=fun x hx=>(hI.co.lt x.block (by rw [e3,hx]; rfl)).1
 subst e1 e2 e3;have u1:=Unf.own hI.ko;have u3:=Unf.own hI.co;rw [List.length_map] at l1 l2 l3;have hne:∀ i,g≠(⟨w.heap.size,i,none⟩:Addr).block:=fun i=>by show g≠w.heap.size; omega
 refine ⟨⟨ak,av,ac,ck,cv', cc,?_,⟨r1.set4 _ _ _ _ _ (fun x hx=>by have:=b1 x hx; omega),r2.set4 _ _ _ _ _ (fun x hx=>by have:=b2 x hx; omega),r3.set4 _ _ _ _ _ (fun x hx=>by have:=b3 x hx; omega),l1,m1,l2,m2,l3,m3,hok⟩,fun x hx=>by have:=b1 x hx; omega,fun x hx=>by have:=b2 x hx; omega,fun x hx=>by have:=b3 x hx; omega,(((u1.setCell _ _).setCell _ _).setCell _ _).setCell _ _,(((u3.setCell _ _).setCell _ _).setCell _ _).setCell _ _⟩,?_,?_⟩
 ·unfold aQ; simp only [List.length_map]
 ·unfold RDb
  rw [Below.heap_setCell _ _ _ _ (hne 3),Below.heap_setCell _ _ _ _ (hne 2),Below.heap_setCell _ _ _ _ (hne 1),Below.heap_setCell _ _ _ _ (hne 0)];exact hI.rd
 ·exact (((hI.fr.setCell _ _ (.inr (Nat.le_refl _))).setCell _ _ (.inr (Nat.le_refl _))).setCell _ _ (.inr (Nat.le_refl _))).setCell _ _ (.inr (Nat.le_refl _))
theorem yD (f:Nat) (s:ByteArray) (h:s.size=0):bD f s=([],[],false):=by cases f; rfl; unfold bD; rw [if_pos h]
theorem QU (f:Nat) (s:ByteArray) (h:s.size=0):dN f s=([],[],false):=by cases f; rfl; unfold dN; rw [if_pos h]
theorem kV (i:Nat):(Value.slice none 0 0).ownBlock≠some i:=fun h=>by cases h
theorem LL (g:Nat) (s:ByteArray) (b:Bool) (f:Nat) (w:World) (h:RDb w g s b) (hf:s.size≤f) (h2:s.size≤240) (KT:List Int) (VT:List ByteArray) (bad:Bool) (hr:Hid (bD f s=(KT,VT,bad))) :
  Calls Tryz.prog 217 #[.pointer (some ⟨g,0,none⟩)] w fun e w' => lP w.heap.size ⟨true,KT,VT,[]⟩ e w'∧RDb w' g ⟨#[]⟩ (b || bad)∧Frm (fun k=>k=g) w w' := by
 have HG:=Hd (zl h);obtain ⟨i1,i2,i3,i4,i5,i6⟩:=nX f s;rw [hr.out] at i1 i3 i4 i5
 dsimp only at i1 i3 i4 i5
 have HOK:Hid (dP ⟨true,KT,VT,[]⟩):=Hd ⟨by dsimp only; omega,by dsimp only; omega,Nat.zero_le _,i4,fun v hv=>by have:=i5 v hv; omega,fun x hx=>by cases hx⟩;obtain ⟨r,hre⟩:∃ r,w.heap.size + 1=r:=⟨_,rfl⟩
 have HRR:Hid (w.heap.size < r):=Hd (by omega)
 have W0:Hid (ReadJ w g r true [] [] [] s b (.slice none 0 0) (.slice none 0 0) (.slice none 0 0) ((w.alloc (.cells #[.bool false,.slice none 0 0,.slice none 0 0,.slice none 0 0]  206)).alloc (.cells #[.bool true,.slice none 0 0,.slice none 0 0,.slice none 0 0]  206))):=Hd
  ⟨by omega,by rw [← hre,← show (w.alloc (.cells #[.bool false,.slice none 0 0,.slice none 0 0,.slice none 0 0]  206)).heap.size=w.heap.size + 1 from by simp]; exact han _ _,
   (hao _ _ (by simp)).trans (han w _),World.ownsRow_nil _ _ _ _,World.ownsRow_nil _ _ _ _,World.ownsRow_nil _ _ _ _,(fun x hx=>by cases hx),(fun x hx=>by cases hx),(fun x hx=>by cases hx),kV _,kV _,kV _,
   (hao _ _ (by simp; have:=HG.out; omega)).trans ((hao w _ HG.out).trans h),((Frm.refl _ w).alloc _).alloc _⟩
 obtain ⟨bad', hb'⟩:∃ bad', (b || bad)=bad' := ⟨_,rfl⟩
 have R1:Hid ([] ++ (bD f s).1=KT∧[] ++ (bD f s).2.1=VT∧(b || (bD f s).2.2)=bad'):=Hd (by rw [hr.out]; exact ⟨rfl,rfl,hb'⟩);rw [hb'];clear h hr i1 i2 i3 i4 i5 i6 hb';go_enter Tryz.func217,Tryz.ntmps217;go_wp2_with fail
 go_loopw [] (fun wr=>∃ (Kj:List Int) (Vj:List ByteArray) (s:ByteArray) (b:Bool) (kv vv:Value) (f:Nat),ReadJ w g r true Kj Vj [] s b kv vv (.slice none 0 0) wr∧Kj ++ (bD f s).1=KT∧Vj ++ (bD f s).2.1=VT∧(b || (bD f s).2.2)=bad'∧s.size≤f∧Kj.length + s.size≤260∧Vj.length + s.size≤270) (fun wr=>II g wr)
 case atStart=>exact ⟨[],[],s,b,_,_,f,W0.out,R1.out.1,R1.out.2.1,R1.out.2.2,hf,by simp; omega,by simp; omega⟩
 case round =>
  obtain ⟨Kj,Vj,s,b,kv,vv,f,hJ,hK1,hV1,hbad,hsf,hb1,hb2⟩:=hrel;obtain ⟨ka,kc,hkv,-,-,-⟩:=Rd.own hJ.ko;obtain ⟨va,vc,hvv,-,-,-⟩:=Rd.own hJ.vo;obtain ⟨kl,hkl⟩:∃ kl,(List.map bS Kj).length=kl:=⟨_,rfl⟩
  obtain ⟨vl,hvl⟩:∃ vl,(List.map Value.string Vj).length=vl:=⟨_,rfl⟩
  rw [hkl] at hkv;rw [hvl] at hvv;subst hkv hvv;clear hkl hvl;have HJ:=Hd hJ;have hb:=hJ.box;have HB:=Hd hb;have rd0:=cl hJ.rd 0 rfl;have ltN:r < wr.heap.size:=(zl hb);have nF:¬ RF w g r r:=fun hx=>by rcases hx with hx | hx; have:=HG.out; have:=HRR.out; omega; exact hx.2 rfl
  have HK1:=Hd hK1;have HV1:=Hd hV1;have HBD:=Hd hbad;clear hJ hK1 hV1 hbad
  by_cases hem0:s.size=0
  ·have e3:s=⟨#[]⟩:=dG hem0
   subst e3;have e1:=HK1.out;have e2:=HV1.out;have e4:=HBD.out;rw [yD f _ rfl,List.append_nil] at e1 e2;rw [yD f _ rfl] at e4;rw [Bool.or_false] at e4;subst e1 e2 e4;have RB:=HJ.out.res;have y0:=cl RB 0 rfl;have y1:=cl RB 1 rfl;have y2:=cl RB 2 rfl;have y3:=cl RB 3 rfl;have f0:=ufb RB 0;have f1:=ufb RB 1;have f2:=ufb RB 2;have f3:=ufb RB 3;have n0:=cl hb 0 rfl;have n1:=cl hb 1 rfl;have n2:=cl hb 2 rfl;have n3:=cl hb 3 rfl
   have XR:((((wr.setCell ⟨w.heap.size,0,none⟩ (.bool true)).setCell ⟨w.heap.size,1,none⟩ (.slice ka kl kc)).setCell ⟨w.heap.size,2,none⟩ (.slice va vl vc)).setCell ⟨w.heap.size,3,none⟩ (.slice none 0 0)).heap[w.heap.size]?=some (.cells #[.bool true,.slice ka kl kc,.slice va vl vc,.slice none 0 0]  206):=by
    rw [hss _ _ 3 _ _ _ (hss _ _ 2 _ _ _ (hss _ _ 1 _ _ _ (hss _ _ 0 _ _ _ RB)))]
    rfl
   have Z0:Hid (((((wr.setCell ⟨w.heap.size,0,none⟩ (.bool true)).setCell ⟨w.heap.size,1,none⟩ (.slice ka kl kc)).setCell ⟨w.heap.size,2,none⟩ (.slice va vl vc)).setCell ⟨w.heap.size,3,none⟩ (.slice none 0 0)).cell? ⟨w.heap.size,0,none⟩=some (.bool true)):=Hd (by rw [cob XR]; rfl)
   have Z1:Hid (((((wr.setCell ⟨w.heap.size,0,none⟩ (.bool true)).setCell ⟨w.heap.size,1,none⟩ (.slice ka kl kc)).setCell ⟨w.heap.size,2,none⟩ (.slice va vl vc)).setCell ⟨w.heap.size,3,none⟩ (.slice none 0 0)).cell? ⟨w.heap.size,1,none⟩=some (.slice ka kl kc)):=Hd (by rw [cob XR]; rfl)
   have Z2:Hid (((((wr.setCell ⟨w.heap.size,0,none⟩ (.bool true)).setCell ⟨w.heap.size,1,none⟩ (.slice ka kl kc)).setCell ⟨w.heap.size,2,none⟩ (.slice va vl vc)).setCell ⟨w.heap.size,3,none⟩ (.slice none 0 0)).cell? ⟨w.heap.size,2,none⟩=some (.slice va vl vc)):=Hd (by rw [cob XR]; rfl)
   have Z3:Hid (((((wr.setCell ⟨w.heap.size,0,none⟩ (.bool true)).setCell ⟨w.heap.size,1,none⟩ (.slice ka kl kc)).setCell ⟨w.heap.size,2,none⟩ (.slice va vl vc)).setCell ⟨w.heap.size,3,none⟩ (.slice none 0 0)).cell? ⟨w.heap.size,3,none⟩=some (.slice none 0 0)):=Hd (by rw [cob XR]; rfl);have FIN:=Hd (HJ.out.done HG.out HOK.out);clear RB XR;go_wp2_with fail;exact bodyPost_ret (v:=.agg #[.bool true,.slice ka kl kc,.slice va vl vc,.slice none 0 0]) (by simp [results,Tryz.results217,go_sem,Z0.out,Z1.out,Z2.out,Z3.out]) rfl FIN.out
  ·obtain ⟨f', rfl⟩:∃ f', f=f' + 1:=⟨f - 1,by omega⟩
   have hem:s.toList.isEmpty=false:=iL _ (Nat.pos_of_ne_zero hem0);have l1:=nP s hem0 (k:=8) (by decide);have l2:=PE (aA s 8)
   have hstep:bD (f' + 1) s=(aG s 8 :: (bD f' (ttR (aA s 8))).1,ttS (aA s 8) :: (bD f' (ttR (aA s 8))).2.1,(decide (cY s 8≠0) || decide (ttE (aA s 8)≠0)) || (bD f' (ttR (aA s 8))).2.2):=by
    conv=>lhs; unfold bD
    rw [if_neg hem0]
   have NK:Hid (Kj ++ [aG s 8] ++ (bD f' (ttR (aA s 8))).1=KT):=Hd (by have:=HK1.out; rw [hstep] at this; simpa using this);have NV:Hid (Vj ++ [ttS (aA s 8)] ++ (bD f' (ttR (aA s 8))).2.1=VT):=Hd (by have:=HV1.out; rw [hstep] at this; simpa using this);have NB:Hid (((b || decide (cY s 8≠0)) || decide (ttE (aA s 8)≠0) || (bD f' (ttR (aA s 8))).2.2)=bad'):=Hd (by have:=HBD.out; rw [hstep] at this; rw [← this]; simp only [Bool.or_assoc]);have hsf' : (ttR (aA s 8)).size≤f' := by omega
   have hms:(aA s 8).size≤9223372036854775807:=by omega
   have NX:=Hd (fun w5 h=>iT g s (aA s 8) 8 (aG s 8) w5 b h (Hd rfl) (Hd rfl) _ (Hd rfl));have TX:=Hd (fun w5 h=>LI g (aA s 8) (ttR (aA s 8)) (ttS (aA s 8)) w5 (b || decide (cY s 8≠0)) h hms (Hd rfl) (Hd rfl) _ (Hd rfl));have HL1:Hid (Kj.length≤1000):=Hd (by omega);have HL2:Hid (Vj.length≤1000):=Hd (by omega);have A8:Hid ((ttR (aA s 8)).size < s.size):=Hd (by omega)
   have A9:Hid ((Kj ++ [aG s 8]).length + (ttR (aA s 8)).size≤260∧(Vj ++ [ttS (aA s 8)]).length + (ttR (aA s 8)).size≤270):=Hd (by simp only [List.length_append,List.length_cons,List.length_nil]; omega);have HSF:=Hd hsf';clear l1 l2 hstep HK1 HV1 HBD hsf' hsf hb1 hb2 hem0 hms;obtain ⟨b1,hb1e⟩:∃ b1,(b || decide (cY s 8≠0))=b1:=⟨_,rfl⟩
   rw [hb1e] at NX TX NB;obtain ⟨b2,hb2e⟩:∃ b2,(b1 || decide (ttE (aA s 8)≠0))=b2:=⟨_,rfl⟩
   rw [hb2e] at TX NB;clear hb1e hb2e;generalize ttR (aA s 8)=s' at *;generalize ttS (aA s 8)=vx at *;generalize aG s 8=kx at *;generalize aA s 8=m at *;go_wp2_with fail;refine gS (fun w' => Frm (RF w g r) wr w') 7 (by kernel_rfl) ?_;have hS:=((Frm.refl (RF w g r) wr).drew)
   refine Wsd 0 10 ?vk0 hS ?hk0 ?rk0
   case hk0 =>
    intro w9;go_simp;try (with_reducible rfl)
   simp only [SL];refine Wtd 1 11 ?vk1 hS ?hk1 ?rk1
   case hk1 =>
    intro w9 s9;have cN:=cl ((s9.block _ (zl HB.out) nF).trans HB.out) 1 rfl;go_simp;try (with_reducible rfl)
   simp only [SL];refine Wsd 2 12 ?vk2 hS ?hk2 ?rk2
   case hk2 =>
    intro w9;go_simp;try (with_reducible rfl)
   simp only [SL];refine Wp 3 (fun K HK=>?_);go_simp;go_wp2_with fail;refine (NX.out wr.drew (show RDb wr.drew g s b from HJ.out.rd)).mono ?_;rintro e w5 ⟨rfl,hr5,hf5⟩;have hS5:=hS.trans hf5 (fun i hi=>.inl (.inl hi));clear hS;have hS:=hS5;clear hS5;obtain ⟨v', v6,hap,F6,B6,J6⟩:=ZU HJ.out HG.out HL1.out kx m hr5 ((Frm.refl (fun k=>k=g) wr).drew.trans hf5 (fun i hi=>.inl hi));obtain ⟨qak,qck,hqv,-,-,-⟩:=Rd.own J6.ko;obtain ⟨qlk,hql⟩:∃ ql,(List.map bS (Kj ++ [kx])).length=ql:=⟨_,rfl⟩
   rw [hql] at hqv;subst hqv;clear hql;have HAP:=Hd hap;have F6H:=Hd F6;have y0:=cl B6 1 rfl;have f0:=ufb B6 1;have J6Hk:=Hd J6;clear hap F6 B6 J6 hr5 hf5;refine HK.out _ _ ?_ (fun _=>hS);clear HK K;try simp only [Act.put,SL]
   refine Wp 4 (fun K HK=>?_);go_simp;have hS6:=hS.alloc (.cells #[.int .u64 kx] 30);clear hS;have hS:=hS6;clear hS6;refine HK.out _ _ ?_ (fun _=>hS);clear HK K;try simp only [Act.put,SL]
   refine Wp 5 (fun K HK=>?_);refine dJ (by rfl) 15 (by rfl) (.tmp 11) (.tmp 14) 204 (by rfl) _ _ _ (by rfl) (by rfl) HAP.out ?_;clear hS HAP;have hS:=F6H.out;refine HK.out _ _ ?_ (fun _=>hS);clear HK K;try simp only [Act.put,SL]
   refine Wsd 6 16 ?vk6 hS ?hk6 ?rk6
   case hk6 =>
    intro w9;go_simp;try (with_reducible rfl)
   simp only [SL];refine Wp 7 (fun K HK=>?_);go_simp;refine HK.out _ _ ?_ (fun h=>absurd rfl h);clear HK K;refine jF (by kernel_rfl) ?_;obtain ⟨wq,hwq⟩:∃ wq,v6.setCell ⟨r,1,none⟩ (.slice qak qlk qck)=wq:=⟨_,rfl⟩
   rw [hwq] at J6Hk ⊢;have HB2:=Hd J6Hk.out.box;clear hwq F6H rd0 ltN hem;go_wp2_with fail;refine gS (fun w' => Frm (RF w g r) wq w') 7 (by kernel_rfl) ?_;have hS:=((Frm.refl (RF w g r) wq).drew)
   refine Wsd 0 17 ?vv0 hS ?hv0 ?rv0
   case hv0 =>
    intro w9;go_simp;try (with_reducible rfl)
   simp only [SL];refine Wtd 1 18 ?vv1 hS ?hv1 ?rv1
   case hv1 =>
    intro w9 s9;have cN:=cl ((s9.block _ (zl HB2.out) nF).trans HB2.out) 2 rfl;go_simp;try (with_reducible rfl)
   simp only [SL];refine Wsd 2 19 ?vv2 hS ?hv2 ?rv2
   case hv2 =>
    intro w9;go_simp;try (with_reducible rfl)
   simp only [SL];refine Wp 3 (fun K HK=>?_);go_simp;go_wp2_with fail;refine (TX.out wq.drew (show RDb wq.drew g m b1 from J6Hk.out.rd)).mono ?_;rintro e w5 ⟨rfl,hr5,hf5⟩;have hS5:=hS.trans hf5 (fun i hi=>.inl (.inl hi));clear hS;have hS:=hS5;clear hS5;obtain ⟨v9,v6,hap,F6,B6,J6⟩:=aB1 J6Hk.out HG.out HL2.out vx s' hr5 ((Frm.refl (fun k=>k=g) wq).drew.trans hf5 (fun i hi=>.inl hi));obtain ⟨qav,qcv,hqv,-,-,-⟩:=Rd.own J6.vo;obtain ⟨qlv,hql⟩:∃ ql,(List.map Value.string (Vj ++ [vx])).length=ql:=⟨_,rfl⟩
   rw [hql] at hqv;subst hqv;clear hql;have HAP:=Hd hap;have F6H:=Hd F6;have y0:=cl B6 2 rfl;have f0:=ufb B6 2;have J6Hv:=Hd J6;clear hap F6 B6 J6 hr5 hf5;refine HK.out _ _ ?_ (fun _=>hS);clear HK K;try simp only [Act.put,SL]
   refine Wp 4 (fun K HK=>?_);go_simp;have hS6:=hS.alloc (.cells #[.string vx] 9);clear hS;have hS:=hS6;clear hS6;refine HK.out _ _ ?_ (fun _=>hS);clear HK K;try simp only [Act.put,SL]
   refine Wp 5 (fun K HK=>?_);refine dJ (by rfl) 22 (by rfl) (.tmp 18) (.tmp 21) 39 (by rfl) _ _ _ (by rfl) (by rfl) HAP.out ?_;clear hS HAP;have hS:=F6H.out;refine HK.out _ _ ?_ (fun _=>hS);clear HK K;try simp only [Act.put,SL]
   refine Wsd 6 23 ?vv6 hS ?hv6 ?rv6
   case hv6 =>
    intro w9;go_simp;try (with_reducible rfl)
   simp only [SL];refine Wp 7 (fun K HK=>?_);go_simp;refine HK.out _ _ ?_ (fun h=>absurd rfl h);clear HK K;refine jF (by kernel_rfl) ?_;go_wp2_with fail;go_roundw
   case rel=>exact ⟨_,_,s', b2,_,_,f', J6Hv.out,NK.out,NV.out,NB.out,HSF.out,A9.out.1,A9.out.2⟩
   case measure=>rw [lZ J6Hv.out.rd,lZ HJ.out.rd]; exact A8.out
theorem yQ (w:World) (B:Nat) (e:TypeId) (u:Value) (h:B≤w.heap.size) (o:Obj):((w.alloc (.cells #[u] e)).alloc o).ownsRow B e 1 (.slice (some ⟨w.heap.size,0,none⟩) 1 1) 1 [u] :=
 ⟨rfl,.inr ⟨w.heap.size,1,#[u],rfl,h,(hao _ _ (by simp)).trans (han w _),Nat.le_refl _,by decide,rfl,rfl⟩⟩
theorem yE (g:Nat) (s:ByteArray) (b:Bool) (f:Nat) (w:World) (h:RDb w g s b) (hf:s.size≤f) (h2:s.size≤240) (KT CT:List Int) (bad:Bool) (c0:Int) (hc0:Hid (aG s 2=c0)) (hr:Hid (dN f (aA s 2)=(KT,CT,bad))) :
  Calls Tryz.prog 218 #[.pointer (some ⟨g,0,none⟩)] w fun e w' => lP w.heap.size ⟨false,KT,[],c0 :: CT⟩ e w'∧RDb w' g ⟨#[]⟩ ((b || decide (cY s 2≠0)) || bad)∧Frm (fun k=>k=g) w w' := by
 have HG:=Hd (zl h);obtain ⟨i1,i2,i3,i4,i5,i6⟩:=rL f (aA s 2);have l0:=kY s 2;have hcr:=lR s;rw [hc0.out] at hcr;rw [hr.out] at i1 i3 i4 i5
 dsimp only at i1 i3 i4 i5
 have HOK:Hid (dP ⟨false,KT,[],c0 :: CT⟩):=Hd ⟨by dsimp only; omega,Nat.zero_le _,by simp only [List.length_cons]; omega,i4,(fun v hv=>by cases hv),fun x hx=>by
  rcases List.mem_cons.1 hx with rfl | hx
  ·omega
  ·have:=i5 x hx; omega⟩
 obtain ⟨b0,hb0⟩:∃ b0,(b || decide (cY s 2≠0))=b0:=⟨_,rfl⟩
 have NUM:=Hd (fun w5 h=>iT g s (aA s 2) 2 c0 w5 b h hc0 (Hd rfl) b0 (Hd hb0));rw [hb0];obtain ⟨bad', hb'⟩:∃ bad', (b0 || bad)=bad' := ⟨_,rfl⟩
 have R1:Hid ([] ++ (dN f (aA s 2)).1=KT∧[c0] ++ (dN f (aA s 2)).2.1=c0 :: CT∧(b0 || (dN f (aA s 2)).2.2)=bad'):=Hd (by rw [hr.out]; exact ⟨rfl,rfl,hb'⟩);have hsz:(aA s 2).size≤f:=by omega
 have hsz2:(aA s 2).size≤240:=by omega
 generalize aA s 2=s1 at *;obtain ⟨CT', hCT⟩:∃ CT', c0 :: CT=CT' := ⟨_,rfl⟩
 have hcw:IntKind.i64.wrap c0=c0:=by rw [IntKind.wrap_i64]; omega
 rw [hCT] at HOK R1 ⊢;rw [hb'];have RD1:Hid (RDb (w.alloc (.cells #[.bool false,.slice none 0 0,.slice none 0 0,.slice none 0 0]  206)) g s b):=Hd ((hao w _ HG.out).trans h);have b1:Below w.heap.size w (w.alloc (.cells #[.bool false,.slice none 0 0,.slice none 0 0,.slice none 0 0]  206)):=aB _ _;have BB1:=Hd b1;clear h hr hc0 i1 i2 i3 i4 i5 i6 hb' hb0 hCT l0 hf h2 b1;go_enter Tryz.func218,Tryz.ntmps218;go_wp2_with fail;refine (NUM.out _ RD1.out).mono ?_;rintro e w5 ⟨rfl,hr5,hf5⟩;have HR5:=Hd hr5
 have HF5:Hid (Frm (fun k=>k=g) w w5):=Hd (((Frm.refl (fun k=>k=g) w).alloc _).trans hf5 (fun i hi=>.inl hi));have hs5:w.heap.size + 1≤w5.heap.size:=by have:=hf5.size; simpa using this
 have XR5:Hid (w5.heap[w.heap.size]?=some (.cells #[.bool false,.slice none 0 0,.slice none 0 0,.slice none 0 0]  206)):=Hd ((hf5.block _ (by simp) (by show ¬ w.heap.size=g; have:=HG.out; omega)).trans (han w _));clear hr5 hf5 NUM RD1 BB1;obtain ⟨r,hre⟩:∃ r,w5.heap.size + 1=r:=⟨_,rfl⟩
 have HRR:Hid (w.heap.size < r):=Hd (by omega)
 have W0:Hid (ReadJ w g r false [] [] [c0] s1 b0 (.slice none 0 0) (.slice none 0 0) (.slice (some ⟨w5.heap.size,0,none⟩) 1 1) ((w5.alloc (.cells #[.int .i64 c0] 3)).alloc (.cells #[.bool false,.slice none 0 0,.slice none 0 0,.slice (some ⟨w5.heap.size,0,none⟩) 1 1]  206))):=Hd
  ⟨by omega,by rw [← hre,← show (w5.alloc (.cells #[.int .i64 c0] 3)).heap.size=w5.heap.size + 1 from by simp]; exact han _ _,
   (hao _ _ (by simp; omega)).trans ((hao _ _ (by omega)).trans XR5.out),World.ownsRow_nil _ _ _ _,World.ownsRow_nil _ _ _ _,yQ w5 (w.heap.size + 1) 3 (.int .i64 c0) (by omega) _,(fun x hx=>by cases hx),(fun x hx=>by cases hx),(fun x hx=>by cases hx),kV _,kV _,(fun h=>by have h' : w5.heap.size=r:=Option.some.inj h; omega),
   (hao _ _ (by simp; have:=HG.out; omega)).trans ((hao w5 _ (by have:=HG.out; omega)).trans HR5.out),((HF5.out.alloc _).alloc _)⟩
 clear HR5 HF5 XR5;go_wp2_with fail
 go_loopw [] (fun wr=>∃ (Kj Cj:List Int) (s:ByteArray) (b:Bool) (kv cv:Value) (f:Nat),ReadJ w g r false Kj [] Cj s b kv (.slice none 0 0) cv wr∧Kj ++ (dN f s).1=KT∧Cj ++ (dN f s).2.1=CT'∧(b || (dN f s).2.2)=bad'∧s.size≤f∧Kj.length + s.size≤260∧Cj.length + s.size≤270) (fun wr=>II g wr)
 case atStart=>exact ⟨[],[c0],s1,b0,_,_,f,W0.out,R1.out.1,R1.out.2.1,R1.out.2.2,hsz,by simp; omega,by simp; omega⟩
 case round =>
  obtain ⟨Kj,Cj,s,b,kv,cv,f,hJ,hK1,hV1,hbad,hsf,hb1,hb2⟩:=hrel;obtain ⟨ka,kc,hkv,-,-,-⟩:=Rd.own hJ.ko;obtain ⟨va,vc,hvv,-,-,-⟩:=Rd.own hJ.co;obtain ⟨kl,hkl⟩:∃ kl,(List.map bS Kj).length=kl:=⟨_,rfl⟩
  obtain ⟨vl,hvl⟩:∃ vl,(List.map fP Cj).length=vl:=⟨_,rfl⟩
  rw [hkl] at hkv;rw [hvl] at hvv;subst hkv hvv;clear hkl hvl;have HJ:=Hd hJ;have hb:=hJ.box;have HB:=Hd hb;have rd0:=cl hJ.rd 0 rfl;have ltN:r < wr.heap.size:=(zl hb);have nF:¬ RF w g r r:=fun hx=>by rcases hx with hx | hx; have:=HG.out; have:=HRR.out; omega; exact hx.2 rfl
  have HK1:=Hd hK1;have HV1:=Hd hV1;have HBD:=Hd hbad;clear hJ hK1 hV1 hbad
  by_cases hem0:s.size=0
  ·have e3:s=⟨#[]⟩:=dG hem0
   subst e3;have e1:=HK1.out;have e2:=HV1.out;have e4:=HBD.out;rw [QU f _ rfl,List.append_nil] at e1 e2;rw [QU f _ rfl] at e4;rw [Bool.or_false] at e4;subst e1 e2 e4;have RB:=HJ.out.res;have y0:=cl RB 0 rfl;have y1:=cl RB 1 rfl;have y2:=cl RB 2 rfl;have y3:=cl RB 3 rfl;have f0:=ufb RB 0;have f1:=ufb RB 1;have f2:=ufb RB 2;have f3:=ufb RB 3;have n0:=cl hb 0 rfl;have n1:=cl hb 1 rfl;have n2:=cl hb 2 rfl;have n3:=cl hb 3 rfl
   have XR:((((wr.setCell ⟨w.heap.size,0,none⟩ (.bool false)).setCell ⟨w.heap.size,1,none⟩ (.slice ka kl kc)).setCell ⟨w.heap.size,2,none⟩ (.slice none 0 0)).setCell ⟨w.heap.size,3,none⟩ (.slice va vl vc)).heap[w.heap.size]?=some (.cells #[.bool false,.slice ka kl kc,.slice none 0 0,.slice va vl vc]  206):=by
    rw [hss _ _ 3 _ _ _ (hss _ _ 2 _ _ _ (hss _ _ 1 _ _ _ (hss _ _ 0 _ _ _ RB)))]
    rfl
   have Z0:Hid (((((wr.setCell ⟨w.heap.size,0,none⟩ (.bool false)).setCell ⟨w.heap.size,1,none⟩ (.slice ka kl kc)).setCell ⟨w.heap.size,2,none⟩ (.slice none 0 0)).setCell ⟨w.heap.size,3,none⟩ (.slice va vl vc)).cell? ⟨w.heap.size,0,none⟩=some (.bool false)):=Hd (by rw [cob XR]; rfl)
   have Z1:Hid (((((wr.setCell ⟨w.heap.size,0,none⟩ (.bool false)).setCell ⟨w.heap.size,1,none⟩ (.slice ka kl kc)).setCell ⟨w.heap.size,2,none⟩ (.slice none 0 0)).setCell ⟨w.heap.size,3,none⟩ (.slice va vl vc)).cell? ⟨w.heap.size,1,none⟩=some (.slice ka kl kc)):=Hd (by rw [cob XR]; rfl)
   have Z2:Hid (((((wr.setCell ⟨w.heap.size,0,none⟩ (.bool false)).setCell ⟨w.heap.size,1,none⟩ (.slice ka kl kc)).setCell ⟨w.heap.size,2,none⟩ (.slice none 0 0)).setCell ⟨w.heap.size,3,none⟩ (.slice va vl vc)).cell? ⟨w.heap.size,2,none⟩=some (.slice none 0 0)):=Hd (by rw [cob XR]; rfl)
   have Z3:Hid (((((wr.setCell ⟨w.heap.size,0,none⟩ (.bool false)).setCell ⟨w.heap.size,1,none⟩ (.slice ka kl kc)).setCell ⟨w.heap.size,2,none⟩ (.slice none 0 0)).setCell ⟨w.heap.size,3,none⟩ (.slice va vl vc)).cell? ⟨w.heap.size,3,none⟩=some (.slice va vl vc)):=Hd (by rw [cob XR]; rfl);have FIN:=Hd (HJ.out.done HG.out HOK.out);clear RB XR;go_wp2_with fail;exact bodyPost_ret (v:=.agg #[.bool false,.slice ka kl kc,.slice none 0 0,.slice va vl vc]) (by simp [results,Tryz.results218,go_sem,Z0.out,Z1.out,Z2.out,Z3.out]) rfl FIN.out
  ·obtain ⟨f', rfl⟩:∃ f', f=f' + 1:=⟨f - 1,by omega⟩
   have hem:s.toList.isEmpty=false:=iL _ (Nat.pos_of_ne_zero hem0);have l1:=nP s hem0 (k:=8) (by decide);have l2:=kY (aA s 8) 2
   have hstep:dN (f' + 1) s=(aG s 8 :: (dN f' (aA (aA s 8) 2)).1,aG (aA s 8) 2 :: (dN f' (aA (aA s 8) 2)).2.1,(decide (cY s 8≠0) || decide (cY (aA s 8) 2≠0)) || (dN f' (aA (aA s 8) 2)).2.2):=by
    conv=>lhs; unfold dN
    rw [if_neg hem0]
   have NK:Hid (Kj ++ [aG s 8] ++ (dN f' (aA (aA s 8) 2)).1=KT):=Hd (by have:=HK1.out; rw [hstep] at this; simpa using this);have NV:Hid (Cj ++ [aG (aA s 8) 2] ++ (dN f' (aA (aA s 8) 2)).2.1=CT'):=Hd (by have:=HV1.out; rw [hstep] at this; simpa using this);have NB:Hid (((b || decide (cY s 8≠0)) || decide (cY (aA s 8) 2≠0) || (dN f' (aA (aA s 8) 2)).2.2)=bad'):=Hd (by have:=HBD.out; rw [hstep] at this; rw [← this]; simp only [Bool.or_assoc]);have hsf' : (aA (aA s 8) 2).size≤f' := by omega
   have hms:(aA s 8).size≤9223372036854775807:=by omega
   have NX:=Hd (fun w5 h=>iT g s (aA s 8) 8 (aG s 8) w5 b h (Hd rfl) (Hd rfl) _ (Hd rfl));have TX:=Hd (fun w5 h=>iT g (aA s 8) (aA (aA s 8) 2) 2 (aG (aA s 8) 2) w5 (b || decide (cY s 8≠0)) h (Hd rfl) (Hd rfl) _ (Hd rfl));have hvx:0≤aG (aA s 8) 2∧aG (aA s 8) 2≤65535:=lR _;have HL1:Hid (Kj.length≤1000):=Hd (by omega);have HL2:Hid (Cj.length≤1000):=Hd (by omega);have A8:Hid ((aA (aA s 8) 2).size < s.size):=Hd (by omega)
   have A9:Hid ((Kj ++ [aG s 8]).length + (aA (aA s 8) 2).size≤260∧(Cj ++ [aG (aA s 8) 2]).length + (aA (aA s 8) 2).size≤270):=Hd (by simp only [List.length_append,List.length_cons,List.length_nil]; omega);have HSF:=Hd hsf';clear l1 l2 hstep HK1 HV1 HBD hsf' hsf hb1 hb2 hem0 hms;obtain ⟨b1,hb1e⟩:∃ b1,(b || decide (cY s 8≠0))=b1:=⟨_,rfl⟩
   rw [hb1e] at NX TX NB;obtain ⟨b2,hb2e⟩:∃ b2,(b1 || decide (cY (aA s 8) 2≠0))=b2:=⟨_,rfl⟩
   rw [hb2e] at TX NB;clear hb1e hb2e;generalize aA (aA s 8) 2=s' at *;generalize aG (aA s 8) 2=vx at *;generalize aG s 8=kx at *;generalize aA s 8=m at *;have hvw:IntKind.i64.wrap vx=vx:=by rw [IntKind.wrap_i64]; omega
   go_wp2_with fail;refine gS (fun w' => Frm (RF w g r) wr w') 7 (by kernel_rfl) ?_;have hS:=((Frm.refl (RF w g r) wr).drew)
   refine Wsd 0 14 ?vk0 hS ?hk0 ?rk0
   case hk0 =>
    intro w9;go_simp;try (with_reducible rfl)
   simp only [SL];refine Wtd 1 15 ?vk1 hS ?hk1 ?rk1
   case hk1 =>
    intro w9 s9;have cN:=cl ((s9.block _ (zl HB.out) nF).trans HB.out) 1 rfl;go_simp;try (with_reducible rfl)
   simp only [SL];refine Wsd 2 16 ?vk2 hS ?hk2 ?rk2
   case hk2 =>
    intro w9;go_simp;try (with_reducible rfl)
   simp only [SL];refine Wp 3 (fun K HK=>?_);go_simp;go_wp2_with fail;refine (NX.out wr.drew (show RDb wr.drew g s b from HJ.out.rd)).mono ?_;rintro e w5 ⟨rfl,hr5,hf5⟩;have hS5:=hS.trans hf5 (fun i hi=>.inl (.inl hi));clear hS;have hS:=hS5;clear hS5;obtain ⟨v', v6,hap,F6,B6,J6⟩:=ZU HJ.out HG.out HL1.out kx m hr5 ((Frm.refl (fun k=>k=g) wr).drew.trans hf5 (fun i hi=>.inl hi));obtain ⟨qak,qck,hqv,-,-,-⟩:=Rd.own J6.ko;obtain ⟨qlk,hql⟩:∃ ql,(List.map bS (Kj ++ [kx])).length=ql:=⟨_,rfl⟩
   rw [hql] at hqv;subst hqv;clear hql;have HAP:=Hd hap;have F6H:=Hd F6;have y0:=cl B6 1 rfl;have f0:=ufb B6 1;have J6Hk:=Hd J6;clear hap F6 B6 J6 hr5 hf5;refine HK.out _ _ ?_ (fun _=>hS);clear HK K;try simp only [Act.put,SL]
   refine Wp 4 (fun K HK=>?_);go_simp;have hS6:=hS.alloc (.cells #[.int .u64 kx] 30);clear hS;have hS:=hS6;clear hS6;refine HK.out _ _ ?_ (fun _=>hS);clear HK K;try simp only [Act.put,SL]
   refine Wp 5 (fun K HK=>?_);refine dJ (by rfl) 19 (by rfl) (.tmp 15) (.tmp 18) 204 (by rfl) _ _ _ (by rfl) (by rfl) HAP.out ?_;clear hS HAP;have hS:=F6H.out;refine HK.out _ _ ?_ (fun _=>hS);clear HK K;try simp only [Act.put,SL]
   refine Wsd 6 20 ?vk6 hS ?hk6 ?rk6
   case hk6 =>
    intro w9;go_simp;try (with_reducible rfl)
   simp only [SL];refine Wp 7 (fun K HK=>?_);go_simp;refine HK.out _ _ ?_ (fun h=>absurd rfl h);clear HK K;refine jF (by kernel_rfl) ?_;obtain ⟨wq,hwq⟩:∃ wq,v6.setCell ⟨r,1,none⟩ (.slice qak qlk qck)=wq:=⟨_,rfl⟩
   rw [hwq] at J6Hk ⊢;have HB2:=Hd J6Hk.out.box;clear hwq F6H rd0 ltN hem;go_wp2_with fail;refine gS (fun w' => Frm (RF w g r) wq w') 8 (by kernel_rfl) ?_;have hS:=((Frm.refl (RF w g r) wq).drew)
   refine Wsd 0 21 ?vv0 hS ?hv0 ?rv0
   case hv0 =>
    intro w9;go_simp;try (with_reducible rfl)
   simp only [SL];refine Wtd 1 22 ?vv1 hS ?hv1 ?rv1
   case hv1 =>
    intro w9 s9;have cN:=cl ((s9.block _ (zl HB2.out) nF).trans HB2.out) 3 rfl;go_simp;try (with_reducible rfl)
   simp only [SL];refine Wsd 2 23 ?vv2 hS ?hv2 ?rv2
   case hv2 =>
    intro w9;go_simp;try (with_reducible rfl)
   simp only [SL];refine Wp 3 (fun K HK=>?_);go_simp;go_wp2_with fail;refine (TX.out wq.drew (show RDb wq.drew g m b1 from J6Hk.out.rd)).mono ?_;rintro e w5 ⟨rfl,hr5,hf5⟩;have hS5:=hS.trans hf5 (fun i hi=>.inl (.inl hi));clear hS;have hS:=hS5;clear hS5;obtain ⟨v9,v6,hap,F6,B6,J6⟩:=aB0 J6Hk.out HG.out HL2.out vx s' hr5 ((Frm.refl (fun k=>k=g) wq).drew.trans hf5 (fun i hi=>.inl hi));obtain ⟨qav,qcv,hqv,-,-,-⟩:=Rd.own J6.co;obtain ⟨qlv,hql⟩:∃ ql,(List.map fP (Cj ++ [vx])).length=ql:=⟨_,rfl⟩
   rw [hql] at hqv;subst hqv;clear hql;have HAP:=Hd hap;have F6H:=Hd F6;have y0:=cl B6 3 rfl;have f0:=ufb B6 3;have J6Hv:=Hd J6;clear hap F6 B6 J6 hr5 hf5;refine HK.out _ _ ?_ (fun _=>hS);clear HK K;try simp only [Act.put,SL]
   refine Wsd 4 25 ?vv4 hS ?hv4 ?rv4
   case hv4 =>
    intro w9;go_simp;try (with_reducible rfl)
   simp only [SL];refine Wp 5 (fun K HK=>?_);go_simp;have hS6:=hS.alloc (.cells #[.int .i64 vx] 3);clear hS;have hS:=hS6;clear hS6;refine HK.out _ _ ?_ (fun _=>hS);clear HK K;try simp only [Act.put,SL]
   refine Wp 6 (fun K HK=>?_);refine dJ (by rfl) 27 (by rfl) (.tmp 22) (.tmp 26) 48 (by rfl) _ _ _ (by rfl) (by rfl) HAP.out ?_;clear hS HAP;have hS:=F6H.out;refine HK.out _ _ ?_ (fun _=>hS);clear HK K;try simp only [Act.put,SL]
   refine Wsd 7 28 ?vv7 hS ?hv7 ?rv7
   case hv7 =>
    intro w9;go_simp;try (with_reducible rfl)
   simp only [SL];refine Wp 8 (fun K HK=>?_);go_simp;refine HK.out _ _ ?_ (fun h=>absurd rfl h);clear HK K;refine jF (by kernel_rfl) ?_;go_wp2_with fail;go_roundw
   case rel=>exact ⟨_,_,s', b2,_,_,f', J6Hv.out,NK.out,NV.out,NB.out,HSF.out,A9.out.1,A9.out.2⟩
   case measure=>rw [lZ J6Hv.out.rd,lZ HJ.out.rd]; exact A8.out
theorem LM (K:List Int) (a:Option Addr) (c:Nat) (w:World) (h:Rd w a (K.map bS)) (h1:K.length≤1000) (hs:¬ ∀ i (h:i + 1 < K.length),K[i] < K[i + 1]) :
  Calls Tryz.prog 243 #[.slice a K.length c] w fun e w' => e=.returned (.bool false)∧Below w.heap.size w w' := by
 have HR:=Hd h;have HS:=Hd hs;obtain ⟨m,hm⟩:∃ m,K.length=m:=⟨_,rfl⟩
 rw [hm] at h1 ⊢;clear h hs;go_enter Tryz.func243,Tryz.ntmps243;go_wp2_with fail
 go_loopw [3] (fun i wr=>∃ j q:Nat,j≤1000∧i=.int .i64 ((j:Int) + 1)∧wr=w.drewN q∧∀ i (h:i + 1 < K.length),i < j→K[i] < K[i + 1]) (fun i _=>1002 - (intOf i).toNat)
 case atStart=>exact ⟨0,0,by omega,rfl,rfl,fun i h hi=>absurd hi (Nat.not_lt_zero _)⟩
 case round =>
  obtain ⟨j,q,hj,rfl,rfl,hall⟩:=hrel;have HA:=Hd hall;clear hall
  by_cases hlt:j + 1 < m
  ·have hji:(j:Int) + 1 < (m:Int):=by omega
   have hji2:(j:Int) < (m:Int):=by omega
   have hjl:j < (K.map bS).length:=by rw [List.length_map]; omega
   have hjl2:j + 1 < (K.map bS).length:=by rw [List.length_map]; omega
   obtain ⟨b,off,hab,hb,z1⟩:=HR.out.at j hjl;obtain ⟨b2,off2,hab2,_,z2⟩:=HR.out.at (j + 1) hjl2;rw [hab] at hab2
   obtain ⟨rfl,rfl⟩:b2=b∧off2=off:=by
    have:=Option.some.inj hab2;exact ⟨(congrArg Addr.block this).symm,(congrArg Addr.off this).symm⟩
   subst hab;have e1:(K.map bS)[j]=.int .u64 (K[j]'(by omega)):=by rw [List.getElem_map]; rfl
   have e2:(K.map bS)[j + 1]=.int .u64 (K[j + 1]'(by omega)):=by rw [List.getElem_map]; rfl
   rw [e1] at z1;rw [e2] at z2
   have HX:Hid (K[j]'(by omega) < K[j + 1]'(by omega)→∀ i (h:i + 1 < K.length),i < j + 1→K[i] < K[i + 1]):=Hd (fun hx i h hi=>by
    by_cases he:i=j
    ·subst he; exact hx
    ·exact HA.out i h (by omega))
   clear e1 e2 hab2 hb;generalize K[j]'(by omega)=x at *;generalize K[j + 1]'(by omega)=y at *;have hw0:IntKind.i64.wrap ((j:Int) + 1 - 1)=(j:Int):=by rw [IntKind.wrap_i64]; omega
   have hw1:IntKind.i64.wrap (j:Int)=(j:Int):=by rw [IntKind.wrap_i64]; omega
   have ht1:((j:Int) + 1).toNat=j + 1:=by omega
   by_cases hge:y≤x
   ·clear HX HA HS
    go_wp2_with fail
    go_quiet (fail)
    go_wp2_with fail;try rw [Exit.noGoto_ret]
    go_ret;exact ⟨rfl,bG (bG Br _) _⟩
   ·have HY:=Hd (HX.out (by omega))
    clear HX HA HS;go_wp2_with fail
    go_quiet (fail)
    go_wp2_with fail;go_roundw
    case rel=>exact ⟨j + 1,_,by omega,by go_num,rfl,HY.out⟩
    case measure=>simp [intOf]; omega
  ·exact absurd (fun i h=>HA.out i h (by omega)) HS.out
theorem CF (K:List Int) (a:Option Addr) (c:Nat) (w:World) (h:Rd w a (K.map bS)) (h1:K.length≤1000) (v:Bool) (hv:xY K=v) :
  Calls Tryz.prog 243 #[.slice a K.length c] w fun e w' => e=.returned (.bool v)∧Below w.heap.size w w' := by
 cases v with
 | true=>exact rJ K a c w h h1 ((oX K).1 hv)
 | false=>exact LM K a c w h h1 (fun hx=>by rw [(oX K).2 hx] at hv; cases hv)
theorem ME (n:Nod) (ak av ac:Option Addr) (ck cv cc:Nat) (w:World) (h:NodR w n ak av ac ck cv cc) (v:Bool) (hpv:Hid ((kC n && bH n)=v)) :
  Calls Tryz.prog 235 #[aQ n ak av ac ck cv cc] w fun e w' => e=.returned (.bool v)∧Below w.heap.size w w' := by
 obtain ⟨u,hu⟩:∃ u,bH n=u:=⟨_,rfl⟩
 obtain ⟨ri,hri⟩:∃ ri,xY n.K=ri:=⟨_,rfl⟩
 have WH:=Hd (fun w=>iC n ak av ac ck cv cc w h.ok u hu);have RI:=Hd (fun w' (hb:Below w.heap.size w w')=>CF n.K ak ck w' (h.k.below hb) h.ok.k1 ri hri)
 have FV:Hid (∀ i (h:i < n.V.length),¬ n.V[i].size≤40→v=false):=Hd (fun i h hx=>by
  rw [← hpv.out,Bool.and_eq_false_iff]; left
  cases hp:kC n with
  | false=>rfl
  | true=>exact absurd ((dF n).1 hp).2.1 (fun h2=>hx (h2 _ (List.getElem_mem h))))
 have FC:Hid (∀ i (h:i < n.C.length),¬ (2≤n.C[i]∧n.C[i] < 640)→v=false):=Hd (fun i h hx=>by
  rw [← hpv.out,Bool.and_eq_false_iff]; left
  cases hp:kC n with
  | false=>rfl
  | true=>exact absurd ((dF n).1 hp).2.2 (fun h2=>hx (h2 _ (List.getElem_mem h))))
 have FE:Hid ((∀ i (h:i < n.V.length),n.V[i].size≤40)→(∀ i (h:i < n.C.length),2≤n.C[i]∧n.C[i] < 640)→v=(u && ri)):=Hd (fun h1 h2=>by
  have a1:n.V.all (fun v=>decide (v.size≤40))=true:=by
   rw [List.all_eq_true]; intro x hx;obtain ⟨i,hi,rfl⟩:=List.getElem_of_mem hx;exact decide_eq_true (h1 i hi)
  have a2:n.C.all (fun c=>decide (2≤c∧c < 640))=true:=by
   rw [List.all_eq_true]; intro x hx;obtain ⟨i,hi,rfl⟩:=List.getElem_of_mem hx;exact decide_eq_true (h2 i hi)
  rw [← hpv.out,hu];unfold kC;rw [a1,a2,hri]
  cases u <;> cases ri <;> rfl)
 have hv1:=h.ok.v1;have hc1:=h.ok.c1;have HV0:=h.v;have HC0:=h.c;clear h hpv hu hri;obtain ⟨lf,K,V,C⟩:=n;unfold aQ at *
 dsimp only at WH RI hv1 hc1 HV0 HC0 FV FC FE ⊢
 obtain ⟨lk,hlk⟩:∃ lk,K.length=lk:=⟨_,rfl⟩
 obtain ⟨lv,hlv⟩:∃ lv,V.length=lv:=⟨_,rfl⟩
 obtain ⟨lc,hlc⟩:∃ lc,C.length=lc:=⟨_,rfl⟩
 rw [hlk,hlv,hlc] at WH ⊢;rw [hlk] at RI;rw [hlv] at hv1;rw [hlc] at hc1;obtain ⟨W,hW⟩:∃ W,w.alloc (.cells #[.bool lf,.slice ak lk ck,.slice av lv cv,.slice ac lc cc] 206)=W:=⟨_,rfl⟩
 have bel:Below w.heap.size w W:=by rw [← hW]; exact aB _ _
 have XA:W.heap[w.heap.size]?=some (.cells #[.bool lf,.slice ak lk ck,.slice av lv cv,.slice ac lc cc] 206):=by rw [← hW]; exact han w _
 have x0:=cl XA 0 rfl;have x1:=cl XA 1 rfl;have x2:=cl XA 2 rfl;have x3:=cl XA 3 rfl;have HV:=Hd (HV0.below bel);have HC:=Hd (HC0.below bel);have BEL:=Hd bel;have XH:=Hd XA;have HW:=Hd hW;clear bel XA hW HV0 HC0;go_enter Tryz.func235,Tryz.ntmps235;go_upto_region 1 with fail
 rw [HW.out];go_wp2_with fail
 go_loop [10] (fun i=>∃ j:Nat,j≤lv∧i=.int .i64 (j:Int)∧∀ i (h:i < V.length),i < j→V[i].size≤40) (fun i=>lv + 1 - (intOf i).toNat)
 case atStart=>exact ⟨0,Nat.zero_le _,rfl,fun i h hi=>absurd hi (Nat.not_lt_zero _)⟩
 case round =>
  obtain ⟨j,hj,rfl,hall⟩:=hrel;have HA:=Hd hall;clear hall
  by_cases hlt:j < lv
  ·have hji:(j:Int) < (lv:Int):=by omega
   have hjl:j < (V.map Value.string).length:=by rw [List.length_map]; omega
   obtain ⟨b,off,rfl,hb,z⟩:=HV.out.at j hjl;have e1:(V.map Value.string)[j]=.string (V[j]'(by omega)):=by rw [List.getElem_map]
   rw [e1] at z
   have HX:Hid ((V[j]'(by omega)).size≤40→∀ i (h:i < V.length),i < j + 1→V[i].size≤40):=Hd (fun hx i h hi=>by
    by_cases he:i=j
    ·subst he; exact hx
    ·exact HA.out i h (by omega))
   have FVJ:=Hd (FV.out j (by omega));clear e1 hb;generalize V[j]'(by omega)=x at *
   by_cases hz2:(40:Int) < (x.size:Int)
   ·have hvf:v=false:=FVJ.out (by omega)
    subst hvf;clear HX HA FV FC FE FVJ;go_wp2_with fail;try rw [Exit.noGoto_ret]
    go_ret;exact ⟨rfl,BEL.out⟩
   ·have HY:=Hd (HX.out (by omega))
    clear HX FVJ;go_wp2_with fail
    go_round
    case rel=>exact ⟨j + 1,by omega,by go_num,HY.out⟩
    case measure=>simp [intOf]; omega
  ·obtain rfl:j=lv:=by omega
   have hji:¬ (j:Int) < (j:Int):=by omega
   go_wp2_with fail
   go_loop [21] (fun i=>∃ k:Nat,k≤lc∧i=.int .i64 (k:Int)∧∀ i (h:i < C.length),i < k→2≤C[i]∧C[i] < 640) (fun i=>lc + 1 - (intOf i).toNat)
   case atStart=>exact ⟨0,Nat.zero_le _,rfl,fun i h hi=>absurd hi (Nat.not_lt_zero _)⟩
   case round =>
    obtain ⟨k,hk,rfl,hall⟩:=hrel;have HAC:=Hd hall;clear hall
    by_cases hlt2:k < lc
    ·have hki:(k:Int) < (lc:Int):=by omega
     have hkl:k < (C.map fP).length:=by rw [List.length_map]; omega
     obtain ⟨b,off,rfl,hb,z⟩:=HC.out.at k hkl;have e1:(C.map fP)[k]=.int .i64 (C[k]'(by omega)):=by rw [List.getElem_map]; rfl
     rw [e1] at z
     have HX:Hid ((2≤C[k]'(by omega)∧C[k]'(by omega) < 640)→∀ i (h:i < C.length),i < k + 1→2≤C[i]∧C[i] < 640):=Hd (fun hx i h hi=>by
      by_cases he:i=k
      ·subst he; exact hx
      ·exact HAC.out i h (by omega))
     have FCJ:=Hd (FC.out k (by omega));clear e1 hb;generalize C[k]'(by omega)=x at *
     by_cases hz1:x < 2
     ·have hvf:v=false:=FCJ.out (by omega)
      subst hvf;clear HX HA HAC FV FC FE FCJ;go_wp2_with fail;try rw [Exit.noGoto_ret]
      go_ret;exact ⟨rfl,BEL.out⟩
     ·by_cases hz2:640≤x
      ·have hvf:v=false:=FCJ.out (by omega)
       subst hvf;clear HX HA HAC FV FC FE FCJ;go_wp2_with fail;try rw [Exit.noGoto_ret]
       go_ret;exact ⟨rfl,BEL.out⟩
      ·have HY:=Hd (HX.out (by omega))
       clear HX FCJ;go_wp2_with fail
       go_round
       case rel=>exact ⟨k + 1,by omega,by go_num,HY.out⟩
       case measure=>simp [intOf]; omega
    ·obtain rfl:k=lc:=by omega
     have hki:¬ (k:Int) < (k:Int):=by omega
     have hvE:=FE.out (fun i h=>HA.out i h (by omega)) (fun i h=>HAC.out i h (by omega));subst hvE;clear FE FV FC HA HAC
     cases u
     ·go_wp2_with fail
      refine (WH.out _).mono ?_;rintro e w1 ⟨rfl,b1⟩;go_wp2_with fail;go_ret;exact ⟨rfl,chain BEL.out b1⟩
     ·go_wp2_with fail
      refine (WH.out _).mono ?_;rintro e w1 ⟨rfl,b1⟩;have B1:=Hd (chain BEL.out b1)
      have y1:w1.cell? ⟨w.heap.size,1,none⟩=some (.slice ak lk ck):=by
       have X1:w1.heap[w.heap.size]?=_:=(b1.block _ (zl XH.out)).trans XH.out;rw [cob X1]; rfl
      clear b1;go_wp2_with fail;refine (RI.out _ B1.out).mono ?_;rintro e w2 ⟨rfl,b2⟩;go_wp2_with fail;go_ret;exact ⟨aK (by simp),chain B1.out b2⟩
theorem lG (n:Nod) (ak av ac:Option Addr) (ck cv cc:Nat) (w:World) (h:NodR w n ak av ac ck cv cc) (v:Bool) (hv:Hid (bX n=v)) :
  Calls Tryz.prog 219 #[aQ n ak av ac ck cv cc] w fun e w' => e=.returned (.bool v)∧Below w.heap.size w w' := by
 obtain ⟨z,hzz⟩:∃ z,aL n=z:=⟨_,rfl⟩
 obtain ⟨pw,hpw⟩:∃ pw,(kC n && bH n)=pw:=⟨_,rfl⟩
 have PL:=Hd (fun w' (hb:Below w.heap.size w w')=>ME n ak av ac ck cv cc w' (h.below hb) pw (Hd hpw));have SZ:=Hd (fun (hp:pw=true) w' (hb:Below w.heap.size w w')=>nS n ak av ac ck cv cc w' (h.below hb) z (Hd hzz) (by rw [hp,Bool.and_eq_true] at hpw; exact hpw.2));have hv' : (pw && (!n.leaf || decide (0 < n.K.length)) && decide (z≤240))=v:=by rw [← hv.out,← hpw,← hzz]; rfl
 clear h hzz hpw hv;obtain ⟨lf,K,V,C⟩:=n;unfold aQ at *
 dsimp only at PL SZ hv' ⊢
 generalize K.length=lk at *;generalize V.length=lv at *;generalize C.length=lc at *;have b0:Below w.heap.size w (w.alloc (.cells #[.bool lf,.slice ak lk ck,.slice av lv cv,.slice ac lc cc] 206)):=aB _ _;have B0:=Hd b0;subst hv';clear b0
 cases pw
 ·go_enter Tryz.func219,Tryz.ntmps219
  go_wp2_with fail;refine (PL.out _ B0.out).mono ?_;rintro e w1 ⟨rfl,b1⟩;have B1:=Hd (eU b1);clear b1;go_wp2_with fail;go_ret;exact ⟨rfl,B1.out⟩
 ·by_cases h0:lf=true∧¬ 0 < lk
  ·obtain ⟨rfl,h0⟩:=h0
   have h0i:¬ (0:Int) < (lk:Int):=by omega
   have h0d:decide (0 < lk)=false:=by simpa using h0
   go_enter Tryz.func219,Tryz.ntmps219;go_wp2_with fail;refine (PL.out _ B0.out).mono ?_;rintro e w1 ⟨rfl,b1⟩;have X1:=iO b1;have B1:=Hd (eU b1);have y0:=cl X1 0 rfl;have y1:=cl X1 1 rfl;clear X1 b1;go_wp2_with fail;go_ret;exact ⟨aK (by simp [h0d]),B1.out⟩
  ·have hmid:(!lf || decide (0 < lk))=true:=by cases lf <;> simp at h0 ⊢ <;> omega
   have hend:(true && (!lf || decide (0 < lk)) && decide (z≤240))=decide ((z:Int)≤240):=by rw [hmid]; simp; omega
   rw [hend];have hleaf:lf=true→(0:Int) < (lk:Int):=by intro h; subst h; simp at h0; omega
   clear hmid hend h0;obtain ⟨hl0,hl1⟩:True∧True:=⟨trivial,trivial⟩
   cases lf
   ·clear hleaf hl0 hl1
    go_enter Tryz.func219,Tryz.ntmps219;go_wp2_with fail;refine (PL.out _ B0.out).mono ?_;rintro e w1 ⟨rfl,b1⟩;have X1:=iO b1;have B1:=Hd (eU b1);have y0:=cl X1 0 rfl;have y1:=cl X1 1 rfl;have y2:=cl X1 2 rfl;have y3:=cl X1 3 rfl;clear X1 b1;go_wp2_with fail;refine (SZ.out trivial _ B1.out).mono ?_;rintro e w2 ⟨rfl,b2⟩;go_wp2_with fail;go_ret;exact ⟨rfl,chain B1.out b2⟩
   ·have hli:=hleaf rfl
    clear hleaf hl0 hl1;go_enter Tryz.func219,Tryz.ntmps219;go_wp2_with fail;refine (PL.out _ B0.out).mono ?_;rintro e w1 ⟨rfl,b1⟩;have X1:=iO b1;have B1:=Hd (eU b1);have y0:=cl X1 0 rfl;have y1:=cl X1 1 rfl;have y2:=cl X1 2 rfl;have y3:=cl X1 3 rfl;clear X1 b1;go_wp2_with fail;refine (SZ.out trivial _ B1.out).mono ?_;rintro e w2 ⟨rfl,b2⟩;go_wp2_with fail;go_ret;exact ⟨rfl,chain B1.out b2⟩
def ZQ (lo:Nat) (n:Nod) (e:Ending) (w' : World):Prop:=∃ ak av ac ck cv cc,e=.returned (.tuple #[aQ n ak av ac ck cv cc,.int .i64 0])∧NodR w' n ak av ac ck cv cc∧(∀ x,ak=some x→lo≤x.block)∧(∀ x,av=some x→lo≤x.block)∧∀ x,ac=some x→lo≤x.block
def sT (lo:Nat) (n:Nod) (e:Ending) (w' : World):Prop:=∃ ak av ac ck cv cc,e=.returned (.tuple #[aQ n ak av ac ck cv cc,.int .i64 0])∧NodR w' n ak av ac ck cv cc∧(∀ x,ak=some x→lo≤x.block)∧(∀ x,av=some x→lo≤x.block)∧(∀ x,ac=some x→lo≤x.block)∧Unf w' ak∧Unf w' ac
def aCZ (lo:Nat) (o:Option Nod) (e:Ending) (w' : World):Prop :=
 match o with
 | some n=>ZQ lo n e w'
 | none=>e=.returned (.tuple #[.agg #[.bool false,.slice none 0 0,.slice none 0 0,.slice none 0 0],.int .i64 2])
def dZ (lo:Nat) (o:Option Nod) (e:Ending) (w' : World):Prop :=
 match o with
 | some n=>sT lo n e w'
 | none=>e=.returned (.tuple #[.agg #[.bool false,.slice none 0 0,.slice none 0 0,.slice none 0 0],.int .i64 2])
theorem uN (x:ByteArray) (b:UInt8) (h:x≠⟨#[b]⟩):(x.toList == [b])=false:=by
 rw [beq_eq_false_iff_ne];intro e;apply h;apply aF;rw [← toList_data,e]
theorem NP (s:ByteArray) (h:1≤s.size):(s.extract 1 s.size).size + 1=s.size:=by rw [ByteArray.size_extract]; omega
theorem AA (s:ByteArray) (w:World) (h:s.size=0∨240 < s.size) :
  Calls Tryz.prog 199 #[.string s] w fun e w' => dZ w.heap.size none e w'∧Below w.heap.size w w' := by
 have X0:(w.alloc (.cells #[.bool false,.slice none 0 0,.slice none 0 0,.slice none 0 0] 206)).heap[w.heap.size]?=some (.cells #[.bool false,.slice none 0 0,.slice none 0 0,.slice none 0 0] 206):=han _ _;have B0:=Hd ((Below.refl w.heap.size w).alloc (Nat.le_refl _) (.cells #[.bool false,.slice none 0 0,.slice none 0 0,.slice none 0 0] 206))
 rcases h with h | h
 ·have e0:s=⟨#[]⟩:=dG h
  subst e0;go_enter Tryz.func199,Tryz.ntmps199;have FIN:Hid (dZ w.heap.size none (.returned (.tuple #[.agg #[.bool false,.slice none 0 0,.slice none 0 0,.slice none 0 0],.int .i64 2])) (w.alloc (.cells #[.bool false,.slice none 0 0,.slice none 0 0,.slice none 0 0] 206))∧Below w.heap.size w (w.alloc (.cells #[.bool false,.slice none 0 0,.slice none 0 0,.slice none 0 0] 206))):=Hd ⟨rfl,B0.out⟩;clear X0;go_wp2_with fail
  exact bodyPost_ret (v:=.tuple #[.agg #[.bool false,.slice none 0 0,.slice none 0 0,.slice none 0 0],.int .i64 2]) (by simp [results,Tryz.results199,go_sem]) rfl FIN.out
 ·have l1:¬ s=ByteArray.empty:=fun e=>by rw [e] at h; exact absurd h (by decide)
  have l2:(240:Int) < (s.size:Int):=by omega
  go_enter Tryz.func199,Tryz.ntmps199;have FIN:Hid (dZ w.heap.size none (.returned (.tuple #[.agg #[.bool false,.slice none 0 0,.slice none 0 0,.slice none 0 0],.int .i64 2])) (w.alloc (.cells #[.bool false,.slice none 0 0,.slice none 0 0,.slice none 0 0] 206))∧Below w.heap.size w (w.alloc (.cells #[.bool false,.slice none 0 0,.slice none 0 0,.slice none 0 0] 206))):=Hd ⟨rfl,B0.out⟩;clear X0;go_wp2_with fail
  exact bodyPost_ret (v:=.tuple #[.agg #[.bool false,.slice none 0 0,.slice none 0 0,.slice none 0 0],.int .i64 2]) (by simp [results,Tryz.results199,go_sem]) rfl FIN.out
theorem vV (s r0:ByteArray) (w:World) (h1:1≤s.size) (h2:s.size≤240) (hb:s.extract 0 1=⟨#[1]⟩) (hr:s.extract 1 s.size=r0) (n:Nod) (bad v:Bool) (res:Option Nod) (hres:res=if (!bad && v)=true then some n else none) (hv:Hid (bX n=v))
  (RDR:∀ w3,RDb w3 (w.heap.size + 1) r0 false→Calls Tryz.prog 217 #[.pointer (some ⟨w.heap.size + 1,0,none⟩)] w3 fun e w' => lP w3.heap.size n e w'∧RDb w' (w.heap.size + 1) ⟨#[]⟩ bad∧Frm (fun k=>k=w.heap.size + 1) w3 w') :
  Calls Tryz.prog 199 #[.string s] w fun e w' => dZ w.heap.size res e w'∧Below w.heap.size w w' := by
 have RG:=Hd (fun ak av ac ck cv cc w' (h:NodR w' n ak av ac ck cv cc)=>lG n ak av ac ck cv cc w' h v hv);have z1:(w.alloc (.cells #[.bool false,.slice none 0 0,.slice none 0 0,.slice none 0 0] 206)).heap.size=w.heap.size + 1:=by simp
 have z2:((w.alloc (.cells #[.bool false,.slice none 0 0,.slice none 0 0,.slice none 0 0] 206)).alloc (.cells #[.string r0,.bool false] 278)).heap.size=w.heap.size + 1 + 1:=by simp
 obtain ⟨w3,hw3⟩:∃ w3,((w.alloc (.cells #[.bool false,.slice none 0 0,.slice none 0 0,.slice none 0 0] 206)).alloc (.cells #[.string r0,.bool false] 278)).alloc (.cells #[.bool false,.slice none 0 0,.slice none 0 0,.slice none 0 0] 206)=w3:=⟨_,rfl⟩
 have RD0:RDb w3 (w.heap.size + 1) r0 false:=by
  rw [← hw3];unfold RDb;rw [hao _ _ (by rw [z2]; omega),← z1];exact han _ _
 have X0:w3.heap[w.heap.size]?=some (.cells #[.bool false,.slice none 0 0,.slice none 0 0,.slice none 0 0] 206):=by
  rw [← hw3,hao _ _ (by rw [z2]; omega),hao _ _ (by rw [z1]; omega)];exact han _ _
 have X2:w3.heap[w.heap.size + 1 + 1]?=some (.cells #[.bool false,.slice none 0 0,.slice none 0 0,.slice none 0 0] 206):=by
  rw [← hw3,← z2];exact han _ _
 have z3:w3.heap.size=w.heap.size + 3:=by rw [← hw3]; simp
 have B3:Below w.heap.size w w3:=by
  rw [← hw3];exact ((Br.alloc (Nat.le_refl _) _).alloc (by simp) _).alloc (by rw [z2]; omega) _
 have LEAF:=Hd (RDR w3 RD0);have H0:=Hd X0;have H2:=Hd X2;have HB3:=Hd B3;have HW3:=Hd hw3;have HZ3:=Hd z3;have HRES:=Hd hres;have l1:¬ s=ByteArray.empty:=fun e=>by rw [e] at h1; exact absurd h1 (by decide)
 have l2:¬ (240:Int) < (s.size:Int):=by omega
 have l3:(1:Int)≤(s.size:Int):=by omega
 clear z1 z2 RD0 X0 X2 z3 B3 hw3 h1 h2 RDR hres hv;go_enter Tryz.func199,Tryz.ntmps199;go_wp2_with fail;rw [HW3.out];refine LEAF.out.mono ?_;rintro e w1 ⟨⟨ak,av,ac,ck,cv,cc,rfl,hR,q1,q2,q3,u1,u2⟩,hrd,hfr⟩;have HR:=Hd hR;have Q1:=Hd q1;have Q2:=Hd q2;have Q3:=Hd q3;have U1:=Hd ((((u1.setCell ⟨w.heap.size + 1 + 1,0,none⟩ (.bool n.leaf)).setCell ⟨w.heap.size + 1 + 1,1,none⟩ (.slice ak n.K.length ck)).setCell ⟨w.heap.size + 1 + 1,2,none⟩ (.slice av n.V.length cv)).setCell ⟨w.heap.size + 1 + 1,3,none⟩ (.slice ac n.C.length cc))
 have U2:=Hd ((((u2.setCell ⟨w.heap.size + 1 + 1,0,none⟩ (.bool n.leaf)).setCell ⟨w.heap.size + 1 + 1,1,none⟩ (.slice ak n.K.length ck)).setCell ⟨w.heap.size + 1 + 1,2,none⟩ (.slice av n.V.length cv)).setCell ⟨w.heap.size + 1 + 1,3,none⟩ (.slice ac n.C.length cc));have z3:=HZ3.out;have X1:w1.heap[w.heap.size]?=some (.cells #[.bool false,.slice none 0 0,.slice none 0 0,.slice none 0 0] 206):=(hfr.block _ (by omega) (by show ¬ w.heap.size=w.heap.size + 1; omega)).trans H0.out
 have XB:w1.heap[w.heap.size + 1 + 1]?=some (.cells #[.bool false,.slice none 0 0,.slice none 0 0,.slice none 0 0] 206):=(hfr.block _ (by omega) (by show ¬ w.heap.size + 1 + 1=w.heap.size + 1; omega)).trans H2.out;have HB1:Hid (Below w.heap.size w w1):=Hd (HB3.out.trans (hfr.below (fun i hi=>by have hi:i=w.heap.size + 1:=hi; omega) (by omega)));have y0:=cl XB 0 rfl;have y1:=cl XB 1 rfl;have y2:=cl XB 2 rfl;have y3:=cl XB 3 rfl;have f0:=ufb XB 0;have f1:=ufb XB 1;have f2:=ufb XB 2;have f3:=ufb XB 3
 have XW:((((w1.setCell ⟨w.heap.size + 1 + 1,0,none⟩ (.bool n.leaf)).setCell ⟨w.heap.size + 1 + 1,1,none⟩ (.slice ak n.K.length ck)).setCell ⟨w.heap.size + 1 + 1,2,none⟩ (.slice av n.V.length cv)).setCell ⟨w.heap.size + 1 + 1,3,none⟩ (.slice ac n.C.length cc)).heap[w.heap.size + 1 + 1]?=some (.cells #[.bool n.leaf,.slice ak n.K.length ck,.slice av n.V.length cv,.slice ac n.C.length cc] 206):=by
  rw [hss _ _ 3 _ _ _ (hss _ _ 2 _ _ _ (hss _ _ 1 _ _ _ (hss _ _ 0 _ _ _ XB)))]
  rfl
 have keep:∀ q,¬ q=w.heap.size + 1 + 1→((((w1.setCell ⟨w.heap.size + 1 + 1,0,none⟩ (.bool n.leaf)).setCell ⟨w.heap.size + 1 + 1,1,none⟩ (.slice ak n.K.length ck)).setCell ⟨w.heap.size + 1 + 1,2,none⟩ (.slice av n.V.length cv)).setCell ⟨w.heap.size + 1 + 1,3,none⟩ (.slice ac n.C.length cc)).heap[q]?=w1.heap[q]?:=fun q hne=>by
  have hne' : ∀ i,q≠(⟨w.heap.size + 1 + 1,i,none⟩:Addr).block:=fun i=>hne
  rw [Below.heap_setCell _ _ _ _ (hne' 3),Below.heap_setCell _ _ _ _ (hne' 2),Below.heap_setCell _ _ _ _ (hne' 1),Below.heap_setCell _ _ _ _ (hne' 0)]
 have RW:=(keep (w.heap.size + 1) (by omega)).trans hrd;have ZW:=(keep w.heap.size (by omega)).trans X1;have HRW:=Hd (hR.set4 (w.heap.size + 1 + 1) (.bool n.leaf) (.slice ak n.K.length ck) (.slice av n.V.length cv) (.slice ac n.C.length cc) (fun x hx=>by have:=q1 x hx; omega) (fun x hx=>by have:=q2 x hx; omega) (fun x hx=>by have:=q3 x hx; omega))
 have BW:Hid (Below w.heap.size w ((((w1.setCell ⟨w.heap.size + 1 + 1,0,none⟩ (.bool n.leaf)).setCell ⟨w.heap.size + 1 + 1,1,none⟩ (.slice ak n.K.length ck)).setCell ⟨w.heap.size + 1 + 1,2,none⟩ (.slice av n.V.length cv)).setCell ⟨w.heap.size + 1 + 1,3,none⟩ (.slice ac n.C.length cc))):=Hd (((((HB1.out).setCell (by show _≤w.heap.size + 1 + 1; omega) _).setCell (by show _≤w.heap.size + 1 + 1; omega) _).setCell (by show _≤w.heap.size + 1 + 1; omega) _).setCell (by show _≤w.heap.size + 1 + 1; omega) _);simp only [aQ];clear hR q1 q2 q3 u1 u2 hrd hfr X1 XB keep
 go_upto_region 11 with fail
 obtain ⟨wb,hwb⟩:∃ wb,((((w1.setCell ⟨w.heap.size + 1 + 1,0,none⟩ (.bool n.leaf)).setCell ⟨w.heap.size + 1 + 1,1,none⟩ (.slice ak n.K.length ck)).setCell ⟨w.heap.size + 1 + 1,2,none⟩ (.slice av n.V.length cv)).setCell ⟨w.heap.size + 1 + 1,3,none⟩ (.slice ac n.C.length cc))=wb:=⟨_,rfl⟩
 rw [hwb] at XW RW ZW HRW BW U1 U2 ⊢;have XWH:=Hd XW;have ZWH:=Hd ZW;have cR:=cl RW 1 rfl;have c0:=cl XW 0 rfl;have c1:=cl XW 1 rfl;have c2:=cl XW 2 rfl;have c3:=cl XW 3 rfl;clear XW RW z3 hwb y0 y1 y2 y3 f0 f1 f2 f3;have hres:=HRES.out
 cases bad
 ·go_wp2_with fail
  refine (RG.out _ _ _ _ _ _ _ HRW.out).mono ?_;rintro e w2 ⟨rfl,b2⟩;have XB2:=kept XWH.out b2;have XZ2:=kept ZWH.out b2;have hbw:=Hd (chain BW.out b2);have HRW2:=Hd (HRW.out.below b2);have U12:=Hd (U1.out.below b2);have U22:=Hd (U2.out.below b2);have d0:=cl XB2 0 rfl;have d1:=cl XB2 1 rfl;have d2:=cl XB2 2 rfl;have d3:=cl XB2 3 rfl;clear b2 cR c0 c1 c2 c3 XB2 HRW BW
  cases v
  ·rw [if_neg (by decide)] at hres
   subst hres;have g0:=cl XZ2 0 rfl;have g1:=cl XZ2 1 rfl;have g2:=cl XZ2 2 rfl;have g3:=cl XZ2 3 rfl;have k0:=ufb XZ2 0;have k1:=ufb XZ2 1;have k2:=ufb XZ2 2;have k3:=ufb XZ2 3
   have XR:((((w2.setCell ⟨w.heap.size,0,none⟩ (.bool false)).setCell ⟨w.heap.size,1,none⟩ (.slice none 0 0)).setCell ⟨w.heap.size,2,none⟩ (.slice none 0 0)).setCell ⟨w.heap.size,3,none⟩ (.slice none 0 0)).heap[w.heap.size]?=some (.cells #[.bool false,.slice none 0 0,.slice none 0 0,.slice none 0 0] 206):=by
    rw [hss _ _ 3 _ _ _ (hss _ _ 2 _ _ _ (hss _ _ 1 _ _ _ (hss _ _ 0 _ _ _ XZ2)))]
    rfl
   have Z0:Hid (((((w2.setCell ⟨w.heap.size,0,none⟩ (.bool false)).setCell ⟨w.heap.size,1,none⟩ (.slice none 0 0)).setCell ⟨w.heap.size,2,none⟩ (.slice none 0 0)).setCell ⟨w.heap.size,3,none⟩ (.slice none 0 0)).cell? ⟨w.heap.size,0,none⟩=some (.bool false)):=Hd (by rw [cob XR]; rfl)
   have Z1:Hid (((((w2.setCell ⟨w.heap.size,0,none⟩ (.bool false)).setCell ⟨w.heap.size,1,none⟩ (.slice none 0 0)).setCell ⟨w.heap.size,2,none⟩ (.slice none 0 0)).setCell ⟨w.heap.size,3,none⟩ (.slice none 0 0)).cell? ⟨w.heap.size,1,none⟩=some (.slice none 0 0)):=Hd (by rw [cob XR]; rfl)
   have Z2:Hid (((((w2.setCell ⟨w.heap.size,0,none⟩ (.bool false)).setCell ⟨w.heap.size,1,none⟩ (.slice none 0 0)).setCell ⟨w.heap.size,2,none⟩ (.slice none 0 0)).setCell ⟨w.heap.size,3,none⟩ (.slice none 0 0)).cell? ⟨w.heap.size,2,none⟩=some (.slice none 0 0)):=Hd (by rw [cob XR]; rfl)
   have Z3:Hid (((((w2.setCell ⟨w.heap.size,0,none⟩ (.bool false)).setCell ⟨w.heap.size,1,none⟩ (.slice none 0 0)).setCell ⟨w.heap.size,2,none⟩ (.slice none 0 0)).setCell ⟨w.heap.size,3,none⟩ (.slice none 0 0)).cell? ⟨w.heap.size,3,none⟩=some (.slice none 0 0)):=Hd (by rw [cob XR]; rfl)
   have FIN:Hid (dZ w.heap.size none (.returned (.tuple #[.agg #[.bool false,.slice none 0 0,.slice none 0 0,.slice none 0 0],.int .i64 2])) ((((w2.setCell ⟨w.heap.size,0,none⟩ (.bool false)).setCell ⟨w.heap.size,1,none⟩ (.slice none 0 0)).setCell ⟨w.heap.size,2,none⟩ (.slice none 0 0)).setCell ⟨w.heap.size,3,none⟩ (.slice none 0 0))∧Below w.heap.size w ((((w2.setCell ⟨w.heap.size,0,none⟩ (.bool false)).setCell ⟨w.heap.size,1,none⟩ (.slice none 0 0)).setCell ⟨w.heap.size,2,none⟩ (.slice none 0 0)).setCell ⟨w.heap.size,3,none⟩ (.slice none 0 0))):=Hd ⟨rfl,((((hbw.out).setCell (Nat.le_refl _) _).setCell (Nat.le_refl _) _).setCell (Nat.le_refl _) _).setCell (Nat.le_refl _) _⟩
   clear XR;go_wp2_with fail;exact bodyPost_ret (v:=.tuple #[.agg #[.bool false,.slice none 0 0,.slice none 0 0,.slice none 0 0],.int .i64 2]) (by simp [results,Tryz.results199,go_sem,Z0.out,Z1.out,Z2.out,Z3.out]) rfl FIN.out
  ·rw [if_pos (by decide)] at hres
   subst hres;have g0:=cl XZ2 0 rfl;have g1:=cl XZ2 1 rfl;have g2:=cl XZ2 2 rfl;have g3:=cl XZ2 3 rfl;have k0:=ufb XZ2 0;have k1:=ufb XZ2 1;have k2:=ufb XZ2 2;have k3:=ufb XZ2 3
   have XR:((((w2.setCell ⟨w.heap.size,0,none⟩ (.bool n.leaf)).setCell ⟨w.heap.size,1,none⟩ (.slice ak n.K.length ck)).setCell ⟨w.heap.size,2,none⟩ (.slice av n.V.length cv)).setCell ⟨w.heap.size,3,none⟩ (.slice ac n.C.length cc)).heap[w.heap.size]?=some (.cells #[.bool n.leaf,.slice ak n.K.length ck,.slice av n.V.length cv,.slice ac n.C.length cc] 206):=by
    rw [hss _ _ 3 _ _ _ (hss _ _ 2 _ _ _ (hss _ _ 1 _ _ _ (hss _ _ 0 _ _ _ XZ2)))]
    rfl
   have Z0:Hid (((((w2.setCell ⟨w.heap.size,0,none⟩ (.bool n.leaf)).setCell ⟨w.heap.size,1,none⟩ (.slice ak n.K.length ck)).setCell ⟨w.heap.size,2,none⟩ (.slice av n.V.length cv)).setCell ⟨w.heap.size,3,none⟩ (.slice ac n.C.length cc)).cell? ⟨w.heap.size,0,none⟩=some (.bool n.leaf)):=Hd (by rw [cob XR]; rfl)
   have Z1:Hid (((((w2.setCell ⟨w.heap.size,0,none⟩ (.bool n.leaf)).setCell ⟨w.heap.size,1,none⟩ (.slice ak n.K.length ck)).setCell ⟨w.heap.size,2,none⟩ (.slice av n.V.length cv)).setCell ⟨w.heap.size,3,none⟩ (.slice ac n.C.length cc)).cell? ⟨w.heap.size,1,none⟩=some (.slice ak n.K.length ck)):=Hd (by rw [cob XR]; rfl)
   have Z2:Hid (((((w2.setCell ⟨w.heap.size,0,none⟩ (.bool n.leaf)).setCell ⟨w.heap.size,1,none⟩ (.slice ak n.K.length ck)).setCell ⟨w.heap.size,2,none⟩ (.slice av n.V.length cv)).setCell ⟨w.heap.size,3,none⟩ (.slice ac n.C.length cc)).cell? ⟨w.heap.size,2,none⟩=some (.slice av n.V.length cv)):=Hd (by rw [cob XR]; rfl)
   have Z3:Hid (((((w2.setCell ⟨w.heap.size,0,none⟩ (.bool n.leaf)).setCell ⟨w.heap.size,1,none⟩ (.slice ak n.K.length ck)).setCell ⟨w.heap.size,2,none⟩ (.slice av n.V.length cv)).setCell ⟨w.heap.size,3,none⟩ (.slice ac n.C.length cc)).cell? ⟨w.heap.size,3,none⟩=some (.slice ac n.C.length cc)):=Hd (by rw [cob XR]; rfl)
   have FIN:Hid (dZ w.heap.size (some n) (.returned (.tuple #[.agg #[.bool n.leaf,.slice ak n.K.length ck,.slice av n.V.length cv,.slice ac n.C.length cc],.int .i64 0])) ((((w2.setCell ⟨w.heap.size,0,none⟩ (.bool n.leaf)).setCell ⟨w.heap.size,1,none⟩ (.slice ak n.K.length ck)).setCell ⟨w.heap.size,2,none⟩ (.slice av n.V.length cv)).setCell ⟨w.heap.size,3,none⟩ (.slice ac n.C.length cc))∧Below w.heap.size w ((((w2.setCell ⟨w.heap.size,0,none⟩ (.bool n.leaf)).setCell ⟨w.heap.size,1,none⟩ (.slice ak n.K.length ck)).setCell ⟨w.heap.size,2,none⟩ (.slice av n.V.length cv)).setCell ⟨w.heap.size,3,none⟩ (.slice ac n.C.length cc))):=by
    have z3:=HZ3.out;exact Hd ⟨⟨ak,av,ac,ck,cv,cc,rfl,HRW2.out.set4 _ _ _ _ _ (fun x hx=>by have:=Q1.out x hx; omega) (fun x hx=>by have:=Q2.out x hx; omega) (fun x hx=>by have:=Q3.out x hx; omega),fun x hx=>by have:=Q1.out x hx; omega,fun x hx=>by have:=Q2.out x hx; omega,fun x hx=>by have:=Q3.out x hx; omega,(((U12.out.setCell _ _).setCell _ _).setCell _ _).setCell _ _,(((U22.out.setCell _ _).setCell _ _).setCell _ _).setCell _ _⟩,((((hbw.out).setCell (Nat.le_refl _) _).setCell (Nat.le_refl _) _).setCell (Nat.le_refl _) _).setCell (Nat.le_refl _) _⟩
   clear XR;go_wp2_with fail;exact bodyPost_ret (v:=.tuple #[.agg #[.bool n.leaf,.slice ak n.K.length ck,.slice av n.V.length cv,.slice ac n.C.length cc],.int .i64 0]) (by simp [results,Tryz.results199,go_sem,Z0.out,Z1.out,Z2.out,Z3.out]) rfl FIN.out
 ·rw [if_neg (by simp)] at hres
  subst hres;have XZ2:=ZWH.out;clear c0 c1 c2 c3 RG;have g0:=cl XZ2 0 rfl;have g1:=cl XZ2 1 rfl;have g2:=cl XZ2 2 rfl;have g3:=cl XZ2 3 rfl;have k0:=ufb XZ2 0;have k1:=ufb XZ2 1;have k2:=ufb XZ2 2;have k3:=ufb XZ2 3
  have XR:((((wb.setCell ⟨w.heap.size,0,none⟩ (.bool false)).setCell ⟨w.heap.size,1,none⟩ (.slice none 0 0)).setCell ⟨w.heap.size,2,none⟩ (.slice none 0 0)).setCell ⟨w.heap.size,3,none⟩ (.slice none 0 0)).heap[w.heap.size]?=some (.cells #[.bool false,.slice none 0 0,.slice none 0 0,.slice none 0 0] 206):=by
   rw [hss _ _ 3 _ _ _ (hss _ _ 2 _ _ _ (hss _ _ 1 _ _ _ (hss _ _ 0 _ _ _ XZ2)))]
   rfl
  have Z0:Hid (((((wb.setCell ⟨w.heap.size,0,none⟩ (.bool false)).setCell ⟨w.heap.size,1,none⟩ (.slice none 0 0)).setCell ⟨w.heap.size,2,none⟩ (.slice none 0 0)).setCell ⟨w.heap.size,3,none⟩ (.slice none 0 0)).cell? ⟨w.heap.size,0,none⟩=some (.bool false)):=Hd (by rw [cob XR]; rfl)
  have Z1:Hid (((((wb.setCell ⟨w.heap.size,0,none⟩ (.bool false)).setCell ⟨w.heap.size,1,none⟩ (.slice none 0 0)).setCell ⟨w.heap.size,2,none⟩ (.slice none 0 0)).setCell ⟨w.heap.size,3,none⟩ (.slice none 0 0)).cell? ⟨w.heap.size,1,none⟩=some (.slice none 0 0)):=Hd (by rw [cob XR]; rfl)
  have Z2:Hid (((((wb.setCell ⟨w.heap.size,0,none⟩ (.bool false)).setCell ⟨w.heap.size,1,none⟩ (.slice none 0 0)).setCell ⟨w.heap.size,2,none⟩ (.slice none 0 0)).setCell ⟨w.heap.size,3,none⟩ (.slice none 0 0)).cell? ⟨w.heap.size,2,none⟩=some (.slice none 0 0)):=Hd (by rw [cob XR]; rfl)
  have Z3:Hid (((((wb.setCell ⟨w.heap.size,0,none⟩ (.bool false)).setCell ⟨w.heap.size,1,none⟩ (.slice none 0 0)).setCell ⟨w.heap.size,2,none⟩ (.slice none 0 0)).setCell ⟨w.heap.size,3,none⟩ (.slice none 0 0)).cell? ⟨w.heap.size,3,none⟩=some (.slice none 0 0)):=Hd (by rw [cob XR]; rfl)
  have FIN:Hid (dZ w.heap.size none (.returned (.tuple #[.agg #[.bool false,.slice none 0 0,.slice none 0 0,.slice none 0 0],.int .i64 2])) ((((wb.setCell ⟨w.heap.size,0,none⟩ (.bool false)).setCell ⟨w.heap.size,1,none⟩ (.slice none 0 0)).setCell ⟨w.heap.size,2,none⟩ (.slice none 0 0)).setCell ⟨w.heap.size,3,none⟩ (.slice none 0 0))∧Below w.heap.size w ((((wb.setCell ⟨w.heap.size,0,none⟩ (.bool false)).setCell ⟨w.heap.size,1,none⟩ (.slice none 0 0)).setCell ⟨w.heap.size,2,none⟩ (.slice none 0 0)).setCell ⟨w.heap.size,3,none⟩ (.slice none 0 0))):=Hd ⟨rfl,((((BW.out).setCell (Nat.le_refl _) _).setCell (Nat.le_refl _) _).setCell (Nat.le_refl _) _).setCell (Nat.le_refl _) _⟩
  clear XR;go_wp2_with fail;exact bodyPost_ret (v:=.tuple #[.agg #[.bool false,.slice none 0 0,.slice none 0 0,.slice none 0 0],.int .i64 2]) (by simp [results,Tryz.results199,go_sem,Z0.out,Z1.out,Z2.out,Z3.out]) rfl FIN.out
theorem sO (s r0:ByteArray) (w:World) (h1:1≤s.size) (h2:s.size≤240) (hb:s.extract 0 1=⟨#[2]⟩) (hr:s.extract 1 s.size=r0) (n:Nod) (bad v:Bool) (res:Option Nod) (hres:res=if (!bad && v)=true then some n else none) (hv:Hid (bX n=v))
  (RDR:∀ w3,RDb w3 (w.heap.size + 1) r0 false→Calls Tryz.prog 218 #[.pointer (some ⟨w.heap.size + 1,0,none⟩)] w3 fun e w' => lP w3.heap.size n e w'∧RDb w' (w.heap.size + 1) ⟨#[]⟩ bad∧Frm (fun k=>k=w.heap.size + 1) w3 w') :
  Calls Tryz.prog 199 #[.string s] w fun e w' => dZ w.heap.size res e w'∧Below w.heap.size w w' := by
 have RG:=Hd (fun ak av ac ck cv cc w' (h:NodR w' n ak av ac ck cv cc)=>lG n ak av ac ck cv cc w' h v hv);have z1:(w.alloc (.cells #[.bool false,.slice none 0 0,.slice none 0 0,.slice none 0 0] 206)).heap.size=w.heap.size + 1:=by simp
 have z2:((w.alloc (.cells #[.bool false,.slice none 0 0,.slice none 0 0,.slice none 0 0] 206)).alloc (.cells #[.string r0,.bool false] 278)).heap.size=w.heap.size + 1 + 1:=by simp
 obtain ⟨w3,hw3⟩:∃ w3,((w.alloc (.cells #[.bool false,.slice none 0 0,.slice none 0 0,.slice none 0 0] 206)).alloc (.cells #[.string r0,.bool false] 278)).alloc (.cells #[.bool false,.slice none 0 0,.slice none 0 0,.slice none 0 0] 206)=w3:=⟨_,rfl⟩
 have RD0:RDb w3 (w.heap.size + 1) r0 false:=by
  rw [← hw3];unfold RDb;rw [hao _ _ (by rw [z2]; omega),← z1];exact han _ _
 have X0:w3.heap[w.heap.size]?=some (.cells #[.bool false,.slice none 0 0,.slice none 0 0,.slice none 0 0] 206):=by
  rw [← hw3,hao _ _ (by rw [z2]; omega),hao _ _ (by rw [z1]; omega)];exact han _ _
 have X2:w3.heap[w.heap.size + 1 + 1]?=some (.cells #[.bool false,.slice none 0 0,.slice none 0 0,.slice none 0 0] 206):=by
  rw [← hw3,← z2];exact han _ _
 have z3:w3.heap.size=w.heap.size + 3:=by rw [← hw3]; simp
 have B3:Below w.heap.size w w3:=by
  rw [← hw3];exact ((Br.alloc (Nat.le_refl _) _).alloc (by simp) _).alloc (by rw [z2]; omega) _
 have LEAF:=Hd (RDR w3 RD0);have H0:=Hd X0;have H2:=Hd X2;have HB3:=Hd B3;have HW3:=Hd hw3;have HZ3:=Hd z3;have HRES:=Hd hres;have l1:¬ s=ByteArray.empty:=fun e=>by rw [e] at h1; exact absurd h1 (by decide)
 have l2:¬ (240:Int) < (s.size:Int):=by omega
 have l3:(1:Int)≤(s.size:Int):=by omega
 clear z1 z2 RD0 X0 X2 z3 B3 hw3 h1 h2 RDR hres hv;go_enter Tryz.func199,Tryz.ntmps199;go_wp2_with fail;rw [HW3.out];refine LEAF.out.mono ?_;rintro e w1 ⟨⟨ak,av,ac,ck,cv,cc,rfl,hR,q1,q2,q3,u1,u2⟩,hrd,hfr⟩;have HR:=Hd hR;have Q1:=Hd q1;have Q2:=Hd q2;have Q3:=Hd q3;have U1:=Hd ((((u1.setCell ⟨w.heap.size + 1 + 1,0,none⟩ (.bool n.leaf)).setCell ⟨w.heap.size + 1 + 1,1,none⟩ (.slice ak n.K.length ck)).setCell ⟨w.heap.size + 1 + 1,2,none⟩ (.slice av n.V.length cv)).setCell ⟨w.heap.size + 1 + 1,3,none⟩ (.slice ac n.C.length cc))
 have U2:=Hd ((((u2.setCell ⟨w.heap.size + 1 + 1,0,none⟩ (.bool n.leaf)).setCell ⟨w.heap.size + 1 + 1,1,none⟩ (.slice ak n.K.length ck)).setCell ⟨w.heap.size + 1 + 1,2,none⟩ (.slice av n.V.length cv)).setCell ⟨w.heap.size + 1 + 1,3,none⟩ (.slice ac n.C.length cc));have z3:=HZ3.out;have X1:w1.heap[w.heap.size]?=some (.cells #[.bool false,.slice none 0 0,.slice none 0 0,.slice none 0 0] 206):=(hfr.block _ (by omega) (by show ¬ w.heap.size=w.heap.size + 1; omega)).trans H0.out
 have XB:w1.heap[w.heap.size + 1 + 1]?=some (.cells #[.bool false,.slice none 0 0,.slice none 0 0,.slice none 0 0] 206):=(hfr.block _ (by omega) (by show ¬ w.heap.size + 1 + 1=w.heap.size + 1; omega)).trans H2.out;have HB1:Hid (Below w.heap.size w w1):=Hd (HB3.out.trans (hfr.below (fun i hi=>by have hi:i=w.heap.size + 1:=hi; omega) (by omega)));have y0:=cl XB 0 rfl;have y1:=cl XB 1 rfl;have y2:=cl XB 2 rfl;have y3:=cl XB 3 rfl;have f0:=ufb XB 0;have f1:=ufb XB 1;have f2:=ufb XB 2;have f3:=ufb XB 3
 have XW:((((w1.setCell ⟨w.heap.size + 1 + 1,0,none⟩ (.bool n.leaf)).setCell ⟨w.heap.size + 1 + 1,1,none⟩ (.slice ak n.K.length ck)).setCell ⟨w.heap.size + 1 + 1,2,none⟩ (.slice av n.V.length cv)).setCell ⟨w.heap.size + 1 + 1,3,none⟩ (.slice ac n.C.length cc)).heap[w.heap.size + 1 + 1]?=some (.cells #[.bool n.leaf,.slice ak n.K.length ck,.slice av n.V.length cv,.slice ac n.C.length cc] 206):=by
  rw [hss _ _ 3 _ _ _ (hss _ _ 2 _ _ _ (hss _ _ 1 _ _ _ (hss _ _ 0 _ _ _ XB)))]
  rfl
 have keep:∀ q,¬ q=w.heap.size + 1 + 1→((((w1.setCell ⟨w.heap.size + 1 + 1,0,none⟩ (.bool n.leaf)).setCell ⟨w.heap.size + 1 + 1,1,none⟩ (.slice ak n.K.length ck)).setCell ⟨w.heap.size + 1 + 1,2,none⟩ (.slice av n.V.length cv)).setCell ⟨w.heap.size + 1 + 1,3,none⟩ (.slice ac n.C.length cc)).heap[q]?=w1.heap[q]?:=fun q hne=>by
  have hne' : ∀ i,q≠(⟨w.heap.size + 1 + 1,i,none⟩:Addr).block:=fun i=>hne
  rw [Below.heap_setCell _ _ _ _ (hne' 3),Below.heap_setCell _ _ _ _ (hne' 2),Below.heap_setCell _ _ _ _ (hne' 1),Below.heap_setCell _ _ _ _ (hne' 0)]
 have RW:=(keep (w.heap.size + 1) (by omega)).trans hrd;have ZW:=(keep w.heap.size (by omega)).trans X1;have HRW:=Hd (hR.set4 (w.heap.size + 1 + 1) (.bool n.leaf) (.slice ak n.K.length ck) (.slice av n.V.length cv) (.slice ac n.C.length cc) (fun x hx=>by have:=q1 x hx; omega) (fun x hx=>by have:=q2 x hx; omega) (fun x hx=>by have:=q3 x hx; omega))
 have BW:Hid (Below w.heap.size w ((((w1.setCell ⟨w.heap.size + 1 + 1,0,none⟩ (.bool n.leaf)).setCell ⟨w.heap.size + 1 + 1,1,none⟩ (.slice ak n.K.length ck)).setCell ⟨w.heap.size + 1 + 1,2,none⟩ (.slice av n.V.length cv)).setCell ⟨w.heap.size + 1 + 1,3,none⟩ (.slice ac n.C.length cc))):=Hd (((((HB1.out).setCell (by show _≤w.heap.size + 1 + 1; omega) _).setCell (by show _≤w.heap.size + 1 + 1; omega) _).setCell (by show _≤w.heap.size + 1 + 1; omega) _).setCell (by show _≤w.heap.size + 1 + 1; omega) _);simp only [aQ];clear hR q1 q2 q3 u1 u2 hrd hfr X1 XB keep
 go_upto_region 11 with fail
 obtain ⟨wb,hwb⟩:∃ wb,((((w1.setCell ⟨w.heap.size + 1 + 1,0,none⟩ (.bool n.leaf)).setCell ⟨w.heap.size + 1 + 1,1,none⟩ (.slice ak n.K.length ck)).setCell ⟨w.heap.size + 1 + 1,2,none⟩ (.slice av n.V.length cv)).setCell ⟨w.heap.size + 1 + 1,3,none⟩ (.slice ac n.C.length cc))=wb:=⟨_,rfl⟩
 rw [hwb] at XW RW ZW HRW BW U1 U2 ⊢;have XWH:=Hd XW;have ZWH:=Hd ZW;have cR:=cl RW 1 rfl;have c0:=cl XW 0 rfl;have c1:=cl XW 1 rfl;have c2:=cl XW 2 rfl;have c3:=cl XW 3 rfl;clear XW RW z3 hwb y0 y1 y2 y3 f0 f1 f2 f3;have hres:=HRES.out
 cases bad
 ·go_wp2_with fail
  refine (RG.out _ _ _ _ _ _ _ HRW.out).mono ?_;rintro e w2 ⟨rfl,b2⟩;have XB2:=kept XWH.out b2;have XZ2:=kept ZWH.out b2;have hbw:=Hd (chain BW.out b2);have HRW2:=Hd (HRW.out.below b2);have U12:=Hd (U1.out.below b2);have U22:=Hd (U2.out.below b2);have d0:=cl XB2 0 rfl;have d1:=cl XB2 1 rfl;have d2:=cl XB2 2 rfl;have d3:=cl XB2 3 rfl;clear b2 cR c0 c1 c2 c3 XB2 HRW BW
  cases v
  ·rw [if_neg (by decide)] at hres
   subst hres;have g0:=cl XZ2 0 rfl;have g1:=cl XZ2 1 rfl;have g2:=cl XZ2 2 rfl;have g3:=cl XZ2 3 rfl;have k0:=ufb XZ2 0;have k1:=ufb XZ2 1;have k2:=ufb XZ2 2;have k3:=ufb XZ2 3
   have XR:((((w2.setCell ⟨w.heap.size,0,none⟩ (.bool false)).setCell ⟨w.heap.size,1,none⟩ (.slice none 0 0)).setCell ⟨w.heap.size,2,none⟩ (.slice none 0 0)).setCell ⟨w.heap.size,3,none⟩ (.slice none 0 0)).heap[w.heap.size]?=some (.cells #[.bool false,.slice none 0 0,.slice none 0 0,.slice none 0 0] 206):=by
    rw [hss _ _ 3 _ _ _ (hss _ _ 2 _ _ _ (hss _ _ 1 _ _ _ (hss _ _ 0 _ _ _ XZ2)))]
    rfl
   have Z0:Hid (((((w2.setCell ⟨w.heap.size,0,none⟩ (.bool false)).setCell ⟨w.heap.size,1,none⟩ (.slice none 0 0)).setCell ⟨w.heap.size,2,none⟩ (.slice none 0 0)).setCell ⟨w.heap.size,3,none⟩ (.slice none 0 0)).cell? ⟨w.heap.size,0,none⟩=some (.bool false)):=Hd (by rw [cob XR]; rfl)
   have Z1:Hid (((((w2.setCell ⟨w.heap.size,0,none⟩ (.bool false)).setCell ⟨w.heap.size,1,none⟩ (.slice none 0 0)).setCell ⟨w.heap.size,2,none⟩ (.slice none 0 0)).setCell ⟨w.heap.size,3,none⟩ (.slice none 0 0)).cell? ⟨w.heap.size,1,none⟩=some (.slice none 0 0)):=Hd (by rw [cob XR]; rfl)
   have Z2:Hid (((((w2.setCell ⟨w.heap.size,0,none⟩ (.bool false)).setCell ⟨w.heap.size,1,none⟩ (.slice none 0 0)).setCell ⟨w.heap.size,2,none⟩ (.slice none 0 0)).setCell ⟨w.heap.size,3,none⟩ (.slice none 0 0)).cell? ⟨w.heap.size,2,none⟩=some (.slice none 0 0)):=Hd (by rw [cob XR]; rfl)
   have Z3:Hid (((((w2.setCell ⟨w.heap.size,0,none⟩ (.bool false)).setCell ⟨w.heap.size,1,none⟩ (.slice none 0 0)).setCell ⟨w.heap.size,2,none⟩ (.slice none 0 0)).setCell ⟨w.heap.size,3,none⟩ (.slice none 0 0)).cell? ⟨w.heap.size,3,none⟩=some (.slice none 0 0)):=Hd (by rw [cob XR]; rfl)
   have FIN:Hid (dZ w.heap.size none (.returned (.tuple #[.agg #[.bool false,.slice none 0 0,.slice none 0 0,.slice none 0 0],.int .i64 2])) ((((w2.setCell ⟨w.heap.size,0,none⟩ (.bool false)).setCell ⟨w.heap.size,1,none⟩ (.slice none 0 0)).setCell ⟨w.heap.size,2,none⟩ (.slice none 0 0)).setCell ⟨w.heap.size,3,none⟩ (.slice none 0 0))∧Below w.heap.size w ((((w2.setCell ⟨w.heap.size,0,none⟩ (.bool false)).setCell ⟨w.heap.size,1,none⟩ (.slice none 0 0)).setCell ⟨w.heap.size,2,none⟩ (.slice none 0 0)).setCell ⟨w.heap.size,3,none⟩ (.slice none 0 0))):=Hd ⟨rfl,((((hbw.out).setCell (Nat.le_refl _) _).setCell (Nat.le_refl _) _).setCell (Nat.le_refl _) _).setCell (Nat.le_refl _) _⟩
   clear XR;go_wp2_with fail;exact bodyPost_ret (v:=.tuple #[.agg #[.bool false,.slice none 0 0,.slice none 0 0,.slice none 0 0],.int .i64 2]) (by simp [results,Tryz.results199,go_sem,Z0.out,Z1.out,Z2.out,Z3.out]) rfl FIN.out
  ·rw [if_pos (by decide)] at hres
   subst hres;have g0:=cl XZ2 0 rfl;have g1:=cl XZ2 1 rfl;have g2:=cl XZ2 2 rfl;have g3:=cl XZ2 3 rfl;have k0:=ufb XZ2 0;have k1:=ufb XZ2 1;have k2:=ufb XZ2 2;have k3:=ufb XZ2 3
   have XR:((((w2.setCell ⟨w.heap.size,0,none⟩ (.bool n.leaf)).setCell ⟨w.heap.size,1,none⟩ (.slice ak n.K.length ck)).setCell ⟨w.heap.size,2,none⟩ (.slice av n.V.length cv)).setCell ⟨w.heap.size,3,none⟩ (.slice ac n.C.length cc)).heap[w.heap.size]?=some (.cells #[.bool n.leaf,.slice ak n.K.length ck,.slice av n.V.length cv,.slice ac n.C.length cc] 206):=by
    rw [hss _ _ 3 _ _ _ (hss _ _ 2 _ _ _ (hss _ _ 1 _ _ _ (hss _ _ 0 _ _ _ XZ2)))]
    rfl
   have Z0:Hid (((((w2.setCell ⟨w.heap.size,0,none⟩ (.bool n.leaf)).setCell ⟨w.heap.size,1,none⟩ (.slice ak n.K.length ck)).setCell ⟨w.heap.size,2,none⟩ (.slice av n.V.length cv)).setCell ⟨w.heap.size,3,none⟩ (.slice ac n.C.length cc)).cell? ⟨w.heap.size,0,none⟩=some (.bool n.leaf)):=Hd (by rw [cob XR]; rfl)
   have Z1:Hid (((((w2.setCell ⟨w.heap.size,0,none⟩ (.bool n.leaf)).setCell ⟨w.heap.size,1,none⟩ (.slice ak n.K.length ck)).setCell ⟨w.heap.size,2,none⟩ (.slice av n.V.length cv)).setCell ⟨w.heap.size,3,none⟩ (.slice ac n.C.length cc)).cell? ⟨w.heap.size,1,none⟩=some (.slice ak n.K.length ck)):=Hd (by rw [cob XR]; rfl)
   have Z2:Hid (((((w2.setCell ⟨w.heap.size,0,none⟩ (.bool n.leaf)).setCell ⟨w.heap.size,1,none⟩ (.slice ak n.K.length ck)).setCell ⟨w.heap.size,2,none⟩ (.slice av n.V.length cv)).setCell ⟨w.heap.size,3,none⟩ (.slice ac n.C.length cc)).cell? ⟨w.heap.size,2,none⟩=some (.slice av n.V.length cv)):=Hd (by rw [cob XR]; rfl)
   have Z3:Hid (((((w2.setCell ⟨w.heap.size,0,none⟩ (.bool n.leaf)).setCell ⟨w.heap.size,1,none⟩ (.slice ak n.K.length ck)).setCell ⟨w.heap.size,2,none⟩ (.slice av n.V.length cv)).setCell ⟨w.heap.size,3,none⟩ (.slice ac n.C.length cc)).cell? ⟨w.heap.size,3,none⟩=some (.slice ac n.C.length cc)):=Hd (by rw [cob XR]; rfl)
   have FIN:Hid (dZ w.heap.size (some n) (.returned (.tuple #[.agg #[.bool n.leaf,.slice ak n.K.length ck,.slice av n.V.length cv,.slice ac n.C.length cc],.int .i64 0])) ((((w2.setCell ⟨w.heap.size,0,none⟩ (.bool n.leaf)).setCell ⟨w.heap.size,1,none⟩ (.slice ak n.K.length ck)).setCell ⟨w.heap.size,2,none⟩ (.slice av n.V.length cv)).setCell ⟨w.heap.size,3,none⟩ (.slice ac n.C.length cc))∧Below w.heap.size w ((((w2.setCell ⟨w.heap.size,0,none⟩ (.bool n.leaf)).setCell ⟨w.heap.size,1,none⟩ (.slice ak n.K.length ck)).setCell ⟨w.heap.size,2,none⟩ (.slice av n.V.length cv)).setCell ⟨w.heap.size,3,none⟩ (.slice ac n.C.length cc))):=by
    have z3:=HZ3.out;exact Hd ⟨⟨ak,av,ac,ck,cv,cc,rfl,HRW2.out.set4 _ _ _ _ _ (fun x hx=>by have:=Q1.out x hx; omega) (fun x hx=>by have:=Q2.out x hx; omega) (fun x hx=>by have:=Q3.out x hx; omega),fun x hx=>by have:=Q1.out x hx; omega,fun x hx=>by have:=Q2.out x hx; omega,fun x hx=>by have:=Q3.out x hx; omega,(((U12.out.setCell _ _).setCell _ _).setCell _ _).setCell _ _,(((U22.out.setCell _ _).setCell _ _).setCell _ _).setCell _ _⟩,((((hbw.out).setCell (Nat.le_refl _) _).setCell (Nat.le_refl _) _).setCell (Nat.le_refl _) _).setCell (Nat.le_refl _) _⟩
   clear XR;go_wp2_with fail;exact bodyPost_ret (v:=.tuple #[.agg #[.bool n.leaf,.slice ak n.K.length ck,.slice av n.V.length cv,.slice ac n.C.length cc],.int .i64 0]) (by simp [results,Tryz.results199,go_sem,Z0.out,Z1.out,Z2.out,Z3.out]) rfl FIN.out
 ·rw [if_neg (by simp)] at hres
  subst hres;have XZ2:=ZWH.out;clear c0 c1 c2 c3 RG;have g0:=cl XZ2 0 rfl;have g1:=cl XZ2 1 rfl;have g2:=cl XZ2 2 rfl;have g3:=cl XZ2 3 rfl;have k0:=ufb XZ2 0;have k1:=ufb XZ2 1;have k2:=ufb XZ2 2;have k3:=ufb XZ2 3
  have XR:((((wb.setCell ⟨w.heap.size,0,none⟩ (.bool false)).setCell ⟨w.heap.size,1,none⟩ (.slice none 0 0)).setCell ⟨w.heap.size,2,none⟩ (.slice none 0 0)).setCell ⟨w.heap.size,3,none⟩ (.slice none 0 0)).heap[w.heap.size]?=some (.cells #[.bool false,.slice none 0 0,.slice none 0 0,.slice none 0 0] 206):=by
   rw [hss _ _ 3 _ _ _ (hss _ _ 2 _ _ _ (hss _ _ 1 _ _ _ (hss _ _ 0 _ _ _ XZ2)))]
   rfl
  have Z0:Hid (((((wb.setCell ⟨w.heap.size,0,none⟩ (.bool false)).setCell ⟨w.heap.size,1,none⟩ (.slice none 0 0)).setCell ⟨w.heap.size,2,none⟩ (.slice none 0 0)).setCell ⟨w.heap.size,3,none⟩ (.slice none 0 0)).cell? ⟨w.heap.size,0,none⟩=some (.bool false)):=Hd (by rw [cob XR]; rfl)
  have Z1:Hid (((((wb.setCell ⟨w.heap.size,0,none⟩ (.bool false)).setCell ⟨w.heap.size,1,none⟩ (.slice none 0 0)).setCell ⟨w.heap.size,2,none⟩ (.slice none 0 0)).setCell ⟨w.heap.size,3,none⟩ (.slice none 0 0)).cell? ⟨w.heap.size,1,none⟩=some (.slice none 0 0)):=Hd (by rw [cob XR]; rfl)
  have Z2:Hid (((((wb.setCell ⟨w.heap.size,0,none⟩ (.bool false)).setCell ⟨w.heap.size,1,none⟩ (.slice none 0 0)).setCell ⟨w.heap.size,2,none⟩ (.slice none 0 0)).setCell ⟨w.heap.size,3,none⟩ (.slice none 0 0)).cell? ⟨w.heap.size,2,none⟩=some (.slice none 0 0)):=Hd (by rw [cob XR]; rfl)
  have Z3:Hid (((((wb.setCell ⟨w.heap.size,0,none⟩ (.bool false)).setCell ⟨w.heap.size,1,none⟩ (.slice none 0 0)).setCell ⟨w.heap.size,2,none⟩ (.slice none 0 0)).setCell ⟨w.heap.size,3,none⟩ (.slice none 0 0)).cell? ⟨w.heap.size,3,none⟩=some (.slice none 0 0)):=Hd (by rw [cob XR]; rfl)
  have FIN:Hid (dZ w.heap.size none (.returned (.tuple #[.agg #[.bool false,.slice none 0 0,.slice none 0 0,.slice none 0 0],.int .i64 2])) ((((wb.setCell ⟨w.heap.size,0,none⟩ (.bool false)).setCell ⟨w.heap.size,1,none⟩ (.slice none 0 0)).setCell ⟨w.heap.size,2,none⟩ (.slice none 0 0)).setCell ⟨w.heap.size,3,none⟩ (.slice none 0 0))∧Below w.heap.size w ((((wb.setCell ⟨w.heap.size,0,none⟩ (.bool false)).setCell ⟨w.heap.size,1,none⟩ (.slice none 0 0)).setCell ⟨w.heap.size,2,none⟩ (.slice none 0 0)).setCell ⟨w.heap.size,3,none⟩ (.slice none 0 0))):=Hd ⟨rfl,((((BW.out).setCell (Nat.le_refl _) _).setCell (Nat.le_refl _) _).setCell (Nat.le_refl _) _).setCell (Nat.le_refl _) _⟩
  clear XR;go_wp2_with fail;exact bodyPost_ret (v:=.tuple #[.agg #[.bool false,.slice none 0 0,.slice none 0 0,.slice none 0 0],.int .i64 2]) (by simp [results,Tryz.results199,go_sem,Z0.out,Z1.out,Z2.out,Z3.out]) rfl FIN.out
theorem vU (s:ByteArray) (w:World) (h1:1≤s.size) (h2:s.size≤240) (n1:s.extract 0 1≠⟨#[1]⟩) (n2:s.extract 0 1≠⟨#[2]⟩) :
  Calls Tryz.prog 199 #[.string s] w fun e w' => dZ w.heap.size none e w'∧Below w.heap.size w w' := by
 obtain ⟨r0,hr⟩:∃ r0,s.extract 1 s.size=r0:=⟨_,rfl⟩
 obtain ⟨x,hx⟩:∃ x,s.extract 0 1=x:=⟨_,rfl⟩
 rw [hx] at n1 n2;have z1:(w.alloc (.cells #[.bool false,.slice none 0 0,.slice none 0 0,.slice none 0 0] 206)).heap.size=w.heap.size + 1:=by simp
 have z2:((w.alloc (.cells #[.bool false,.slice none 0 0,.slice none 0 0,.slice none 0 0] 206)).alloc (.cells #[.string r0,.bool false] 278)).heap.size=w.heap.size + 1 + 1:=by simp
 obtain ⟨w3,hw3⟩:∃ w3,((w.alloc (.cells #[.bool false,.slice none 0 0,.slice none 0 0,.slice none 0 0] 206)).alloc (.cells #[.string r0,.bool false] 278)).alloc (.cells #[.bool false,.slice none 0 0,.slice none 0 0,.slice none 0 0] 206)=w3:=⟨_,rfl⟩
 have RD0:RDb w3 (w.heap.size + 1) r0 false:=by
  rw [← hw3];unfold RDb;rw [hao _ _ (by rw [z2]; omega),← z1];exact han _ _
 have X0:w3.heap[w.heap.size]?=some (.cells #[.bool false,.slice none 0 0,.slice none 0 0,.slice none 0 0] 206):=by
  rw [← hw3,hao _ _ (by rw [z2]; omega),hao _ _ (by rw [z1]; omega)];exact han _ _
 have X2:w3.heap[w.heap.size + 1 + 1]?=some (.cells #[.bool false,.slice none 0 0,.slice none 0 0,.slice none 0 0] 206):=by
  rw [← hw3,← z2];exact han _ _
 have z3:w3.heap.size=w.heap.size + 3:=by rw [← hw3]; simp
 have B3:Below w.heap.size w w3:=by
  rw [← hw3];exact ((Br.alloc (Nat.le_refl _) _).alloc (by simp) _).alloc (by rw [z2]; omega) _
 have l1:¬ s=ByteArray.empty:=fun e=>by rw [e] at h1; exact absurd h1 (by decide)
 have l2:¬ (240:Int) < (s.size:Int):=by omega
 have l3:(1:Int)≤(s.size:Int):=by omega
 have n1' : (x.toList == [1])=false:=uN x 1 n1;have n2' : (x.toList == [2])=false:=uN x 2 n2;have XZ2:=X0;have HB3:=Hd B3;clear z1 z2 RD0 X0 X2 z3 B3 h1 h2 n1 n2;go_enter Tryz.func199,Tryz.ntmps199;go_upto_region 6 with fail
 try rw [hw3]
 have g0:=cl XZ2 0 rfl;have g1:=cl XZ2 1 rfl;have g2:=cl XZ2 2 rfl;have g3:=cl XZ2 3 rfl;have k0:=ufb XZ2 0;have k1:=ufb XZ2 1;have k2:=ufb XZ2 2;have k3:=ufb XZ2 3
 have XR:((((w3.setCell ⟨w.heap.size,0,none⟩ (.bool false)).setCell ⟨w.heap.size,1,none⟩ (.slice none 0 0)).setCell ⟨w.heap.size,2,none⟩ (.slice none 0 0)).setCell ⟨w.heap.size,3,none⟩ (.slice none 0 0)).heap[w.heap.size]?=some (.cells #[.bool false,.slice none 0 0,.slice none 0 0,.slice none 0 0] 206):=by
  rw [hss _ _ 3 _ _ _ (hss _ _ 2 _ _ _ (hss _ _ 1 _ _ _ (hss _ _ 0 _ _ _ XZ2)))]
  rfl
 have Z0:Hid (((((w3.setCell ⟨w.heap.size,0,none⟩ (.bool false)).setCell ⟨w.heap.size,1,none⟩ (.slice none 0 0)).setCell ⟨w.heap.size,2,none⟩ (.slice none 0 0)).setCell ⟨w.heap.size,3,none⟩ (.slice none 0 0)).cell? ⟨w.heap.size,0,none⟩=some (.bool false)):=Hd (by rw [cob XR]; rfl)
 have Z1:Hid (((((w3.setCell ⟨w.heap.size,0,none⟩ (.bool false)).setCell ⟨w.heap.size,1,none⟩ (.slice none 0 0)).setCell ⟨w.heap.size,2,none⟩ (.slice none 0 0)).setCell ⟨w.heap.size,3,none⟩ (.slice none 0 0)).cell? ⟨w.heap.size,1,none⟩=some (.slice none 0 0)):=Hd (by rw [cob XR]; rfl)
 have Z2:Hid (((((w3.setCell ⟨w.heap.size,0,none⟩ (.bool false)).setCell ⟨w.heap.size,1,none⟩ (.slice none 0 0)).setCell ⟨w.heap.size,2,none⟩ (.slice none 0 0)).setCell ⟨w.heap.size,3,none⟩ (.slice none 0 0)).cell? ⟨w.heap.size,2,none⟩=some (.slice none 0 0)):=Hd (by rw [cob XR]; rfl)
 have Z3:Hid (((((w3.setCell ⟨w.heap.size,0,none⟩ (.bool false)).setCell ⟨w.heap.size,1,none⟩ (.slice none 0 0)).setCell ⟨w.heap.size,2,none⟩ (.slice none 0 0)).setCell ⟨w.heap.size,3,none⟩ (.slice none 0 0)).cell? ⟨w.heap.size,3,none⟩=some (.slice none 0 0)):=Hd (by rw [cob XR]; rfl)
 have FIN:Hid (dZ w.heap.size none (.returned (.tuple #[.agg #[.bool false,.slice none 0 0,.slice none 0 0,.slice none 0 0],.int .i64 2])) ((((w3.setCell ⟨w.heap.size,0,none⟩ (.bool false)).setCell ⟨w.heap.size,1,none⟩ (.slice none 0 0)).setCell ⟨w.heap.size,2,none⟩ (.slice none 0 0)).setCell ⟨w.heap.size,3,none⟩ (.slice none 0 0))∧Below w.heap.size w ((((w3.setCell ⟨w.heap.size,0,none⟩ (.bool false)).setCell ⟨w.heap.size,1,none⟩ (.slice none 0 0)).setCell ⟨w.heap.size,2,none⟩ (.slice none 0 0)).setCell ⟨w.heap.size,3,none⟩ (.slice none 0 0))):=Hd ⟨rfl,((((HB3.out).setCell (Nat.le_refl _) _).setCell (Nat.le_refl _) _).setCell (Nat.le_refl _) _).setCell (Nat.le_refl _) _⟩
 clear XR;go_wp2_with fail;exact bodyPost_ret (v:=.tuple #[.agg #[.bool false,.slice none 0 0,.slice none 0 0,.slice none 0 0],.int .i64 2]) (by simp [results,Tryz.results199,go_sem,Z0.out,Z1.out,Z2.out,Z3.out]) rfl FIN.out
theorem AB (s:ByteArray) (w:World):Calls Tryz.prog 199 #[.string s] w fun e w' => dZ w.heap.size (vW s) e w'∧Below w.heap.size w w' := by
 unfold vW
 by_cases h:s.size=0∨240 < s.size
 ·rw [if_pos h]; exact AA s w h
 ·rw [if_neg h]
  have h1:1≤s.size:=by omega
  have h2:s.size≤240:=by omega
  have hez:=NP s h1;unfold rdN
  by_cases e1:s.extract 0 1=⟨#[1]⟩
  ·rw [if_pos e1]
   refine vV s _ w h1 h2 e1 rfl _ _ _ _ rfl (Hd rfl) (fun w3 hrd=>?_);have:=LL (w.heap.size + 1) (s.extract 1 s.size) false s.size w3 hrd (by omega) (by omega) (bD s.size (s.extract 1 s.size)).1 (bD s.size (s.extract 1 s.size)).2.1 (bD s.size (s.extract 1 s.size)).2.2 (Hd rfl);rw [Bool.false_or] at this;exact this
  ·rw [if_neg e1]
   by_cases e2:s.extract 0 1=⟨#[2]⟩
   ·rw [if_pos e2]
    refine sO s _ w h1 h2 e2 rfl _ _ _ _ rfl (Hd rfl) (fun w3 hrd=>?_);have hle:=kY (s.extract 1 s.size) 2;have:=yE (w.heap.size + 1) (s.extract 1 s.size) false s.size w3 hrd (by omega) (by omega) (dN s.size (aA (s.extract 1 s.size) 2)).1 (dN s.size (aA (s.extract 1 s.size) 2)).2.1 (dN s.size (aA (s.extract 1 s.size) 2)).2.2 _ (Hd rfl) (Hd rfl);rw [Bool.false_or] at this;exact this
   ·rw [if_neg e2]
    exact vU s w h1 h2 e1 e2
end Go.Proofs.YtblbiihpfjjhhaaGreatDoor
