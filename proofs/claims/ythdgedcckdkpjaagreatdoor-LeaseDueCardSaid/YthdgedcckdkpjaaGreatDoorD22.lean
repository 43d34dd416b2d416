import Derived.Test.YthdgedcckdkpjaaGreatDoorD21
import Derived.Maps.AppendAt
import Derived.RangeFuncCalls
import Derived.RegionIn
namespace Go.Proofs.YthdgedcckdkpjaaGreatDoor
open Go Go.RowKit
set_option maxRecDepth 20000
set_option maxHeartbeats 12800000
set_option linter.unusedVariables false
set_option linter.unusedSimpArgs false
theorem TxS.append {w0 w w':World}{R:List Nat}{t d s n:Nat}{E:List Ent}(h:TxS w0 R w t d s n E){v v':Value}(hR:∀ k,v.ownBlock=some k->k∈R/\k≠t/\w0.heap.size<=k)(hg:w.grownBy w' v.ownBlock)(hat:v'.ownBlock=v.ownBlock\/v'.ownBlock=some w.heap.size)(hlt:∀ k,v'.ownBlock=some k->k<w'.heap.size) :
  TxS w0 (v'.ownBlock.toList++R) w' t d s n E/\∀ k∈R,v.ownBlock≠some k->w'.heap[k]?=w.heap[k]?:=by
 obtain⟨F,hF,hnF,hFl⟩:=h.said;have hl:=h.lt;have hf:Frm (fun k=>v.ownBlock=some k) w w':=(Frm.refl _ w).grown hg fun k e=>.inl e
 have hF':=hF.frm hf fun k hk=>⟨hnF k (hR k hk).1,(hR k hk).2.1,(hR k hk).2.2⟩
 refine⟨hF'.hide fun k hk=>?_,fun k hk hn=>hf.block k (hl.1 k hk) hn⟩
 rcases List.mem_append.1 hk with hk|hk
 ·have hk':v'.ownBlock=some k:=by simpa using hk
  refine⟨hlt k hk',fun hx=>?_⟩;have h9:=hF.lt.1 k hx
  rcases hat with e|e
  ·rw[e] at hk';exact hnF k (hR k hk').1 hx
  ·rw[e] at hk';injection hk' with hk';omega
 ·exact⟨Nat.lt_of_lt_of_le (hl.1 k hk) hf.size,hnF k hk⟩
def tG (p:Int × bG):List Value:=[.int .i64 p.1,.int .i64 p.2.pa,.int .i64 p.2.ob,.int .i64 p.2.ow,.int .i64 p.2.ri,.int .i64 p.2.ba,.int .i64 p.2.de,.int .i64 p.2.ex,.int .i64 p.2.cu,.bool p.2.rv]
def mM (L:List (Int × bG)):List Value:=(L.map tG).flatten
theorem GO (L:List (Int × bG))(x:Int × bG):mM (L++[x])=mM L++tG x:=by simp[mM]
theorem AP:∀ (L:List (Int × bG)) (i:Nat) (x:Int × bG) (q:Nat),L[i]?=some x->q<10->(mM L)[i*10+q]?=(tG x)[q]?
 | [],i,x,q,h,_=>by simp at h
 | y::L,0,x,q,h,hq=>by
  have e:y=x:=by simpa using h
  subst e;unfold mM;rw[List.map_cons,List.flatten_cons,Nat.zero_mul,Nat.zero_add,List.getElem?_append_left (by simpa[tG] using hq)]
 | y::L,i+1,x,q,h,hq=>by
  have h1:=AP L i x q (by simpa using h) hq;unfold mM at h1 |-;rw[List.map_cons,List.flatten_cons,List.getElem?_append_right (by simp[tG];omega),<-h1]
  congr 1
  simp[tG];omega
theorem jF {w w':World}{B:Nat}{e:TypeId}{z:Nat}{v:Value}{n:Nat}{xs:List Value}(h:w.ownsRow B e z v n xs)(hk:∀ k,v.ownBlock=some k->w'.heap[k]?=w.heap[k]?):w'.ownsRow B e z v n xs:=by
 refine⟨h.1,?_⟩
 rcases h.2 with hx|⟨g,cap,cur,hv,hbg,hh,r⟩
 ·exact .inl hx
 ·exact .inr ⟨g,cap,cur,hv,hbg,(hk g (by rw[hv];rfl)).trans hh,r⟩
def RowC (w:World)(v:Value)(L:List (Int × bG)):Prop:=w.ownsRow 0 65 10 v L.length (mM L)
theorem RowC.shape {w:World}{v:Value}{L:List (Int × bG)}(h:RowC w v L):∃ a c,v=.slice a L.length c/\L.length<=c/\c<=maxLen:=bK h
theorem RowC.kept {w w':World}{v:Value}{L:List (Int × bG)}(h:RowC w v L)(hk:∀ k,v.ownBlock=some k->w'.heap[k]?=w.heap[k]?):RowC w' v L:=by
 refine⟨h.1,?_⟩
 rcases h.2 with hx|⟨g,cap,cur,hv,hbg,hh,r⟩
 ·exact .inl hx
 ·exact .inr ⟨g,cap,cur,hv,hbg,(hk g (by rw[hv];rfl)).trans hh,r⟩
theorem RowC.below {w w':World}{v:Value}{L:List (Int × bG)}(h:RowC w v L)(hb:Below w.heap.size w w'):RowC w' v L:=h.kept fun k hk=>hb.block k (World.ownsRow.lt h k hk).2
theorem RowC.at {w:World}{a:Option Addr}{m c:Nat}{L:List (Int × bG)}(h:RowC w (.slice a m c) L){j:Nat}{p:Int × bG}(hp:L[j]?=some p):∃ g,a=some ⟨g,0,none⟩/\w.cell? ⟨g,j*10,none⟩=some (.int .i64 p.1)/\w.cell? ⟨g,j*10+1,none⟩=some (.int .i64 p.2.pa)/\w.cell? ⟨g,j*10+2,none⟩=some (.int .i64 p.2.ob)/\w.cell? ⟨g,j*10+3,none⟩=some (.int .i64 p.2.ow)/\w.cell? ⟨g,j*10+4,none⟩=some (.int .i64 p.2.ri)/\w.cell? ⟨g,j*10+5,none⟩=some (.int .i64 p.2.ba)/\w.cell? ⟨g,j*10+6,none⟩=some (.int .i64 p.2.de)/\w.cell? ⟨g,j*10+7,none⟩=some (.int .i64 p.2.ex)/\w.cell? ⟨g,j*10+8,none⟩=some (.int .i64 p.2.cu)/\w.cell? ⟨g,j*10+9,none⟩=some (.bool p.2.rv):=by
 have hj:j<L.length:=(List.getElem?_eq_some_iff.1 hp).1;have hr:=fun q hq=>AP L j p q hp hq
 rcases h.2 with⟨_,h0⟩|⟨g,cap,cur,hv,_,hh,_⟩
 ·omega
 ·injection hv with h1 h2 h3
  subst h1;have hc:∀ q,q<10->w.cell? ⟨g,j*10+q,none⟩=(tG p)[q]?:=fun q hq=>(World.ownsRow.cellAt (h2 ▸ h3 ▸ h) (j*10+q) (by omega)).trans (hr q hq)
  exact⟨g,rfl,hc 0 (by decide),hc 1 (by decide),hc 2 (by decide),hc 3 (by decide),hc 4 (by decide),hc 5 (by decide),hc 6 (by decide),hc 7 (by decide),hc 8 (by decide),hc 9 (by decide)⟩
theorem YL:∃ i z,Tryz.prog.info? 65=some i/\i.zero=some z/\i.size=10/\i.bytes=80/\z.cells.size=10:=by
 have h:(Tryz.prog.info? 65).bind (fun i=>i.zero.map fun z=>(i.size,i.bytes,z.cells.size))=some (10,80,10):=by kernel_rfl
 cases hq:Tryz.prog.info? 65 with
 | none=>rw[hq] at h;cases h
 | some i=>
  rw[hq] at h
  cases hz:i.zero with
  | none=>simp[hz] at h
  | some z=>simp[hz] at h;exact⟨i,z,rfl,hz,h.1,h.2.1,h.2.2⟩
theorem JV {α:Type}{Z:List α}{m:Nat}{x:α}{rest:List α}(h:Z.drop m=x::rest):m<Z.length/\Z[m]?=some x/\Z.drop (m+1)=rest/\Z.take (m+1)=Z.take m++[x]:=by
 have hm:m<Z.length:=by
  rcases Nat.lt_or_ge m Z.length with hl|hl
  ·exact hl
  ·rw[List.drop_eq_nil_iff.2 hl] at h;cases h
 rw[List.drop_eq_getElem_cons hm] at h;injection h with h1 h2;have h3:Z[m]?=some x:=by rw[List.getElem?_eq_getElem hm,h1]
 exact⟨hm,h3,h2,by rw[List.take_add_one,h3];rfl⟩
def ChainE (E:List Ent):Int->List (Int × bG)->Prop
 | _,[]=>False
 | id,p::L=>p.1=id/\EQ E id p.2/\((p.2.pa=0/\L=[])\/(p.2.pa≠0/\ChainE E p.2.pa L))
theorem ChainE.drop {E:List Ent}{id:Int}{L:List (Int × bG)}{j:Nat}(h:ChainE E id (L.drop j)):∃ c,L[j]?=some (id,c)/\EQ E id c/\((c.pa=0/\L.length=j+1)\/(c.pa≠0/\ChainE E c.pa (L.drop (j+1))/\j+1<L.length)):=by
 cases hd:L.drop j with
 | nil=>rw[hd] at h;exact h.elim
 | cons p M=>
  rw[hd] at h;obtain⟨h1,h2,h3⟩:=h;obtain⟨g1,g2,g3,_⟩:=JV hd;obtain⟨p1,p2⟩:=p;simp only at h1 h2 h3;subst h1;refine⟨p2,g2,h2,h3.imp (fun x=>⟨x.1,?_⟩) fun x=>⟨x.1,by rw[g3];exact x.2,?_⟩⟩
  ·have:=x.2
   rw[<-g3] at this;have:=List.drop_eq_nil_iff.1 this;omega
  ·rcases Nat.lt_or_ge (j+1) L.length with hl|hl
   ·exact hl
   ·have hx:=x.2
    rw[<-g3,List.drop_eq_nil_iff.2 hl] at hx;exact hx.elim
theorem ZU {w0 w:World}{R:List Nat}{t d s n:Nat}{E:List Ent}{id:Int}{L:List (Int × bG)}(h:TxS w0 R w t d s n E)(hE:E.length<=600)(hc:ChainE E id L)(hl:L.length<=9) :
  () 39 #[t,id] w fun e w'=>∃ v,e=.returned (.tuple #[v,(0:Int)])/\RowC w' v L/\FreshB w0 R t v/\TxS w0 (v.ownBlock.toList++R) w' t d s n E/\KeptT R t w w':=by
 have hlt:=h.lt;have H0:=Hd (And.intro h (And.intro hlt h.from.size));have HE:=Hd hE;have HL:=Hd hl
 have hc0:Hid (0<L.length/\ChainE E id (L.drop 0)):=Hd (by
  cases L with
  | nil=>exact hc.elim
  | cons p M=>exact⟨by simp,hc⟩)
 clear h hE hc hl hlt;go_enter Tryz.func39,Tryz.ntmps39;go_wp2_with fail
 go_loopw [1,6,9] (fun a v k wr=>∃ (j:Nat) (i:Int),a=.int .i64 i/\k=.int .i64 (j:Int)/\j<L.length/\Hid (ChainE E i (L.drop j))/\Hid (wr.ownsRow 0 65 10 v j (mM (L.take j)))/\Hid (TxS w0 (v.ownBlock.toList++R) wr t d s n E/\KeptT R t w wr/\FreshB w0 R t v)) (fun _ _ k _=>9-(intOf k).toNat)
 case atStart=>exact⟨0,id,rfl,rfl,hc0.1,Hd hc0.2,Hd (World.ownsRow_nil _ _ _ _),Hd ⟨H0.1,KeptT.refl _ _ _,fun q hq=>by cases hq⟩⟩
 case round=>
  obtain⟨j,i,rfl,rfl,hj,HC,OW,HT⟩:=hrel;obtain⟨c,hjc,hg,hnx⟩:=HC.drop;have hj9:(j:Int)<9:=by have:=HL.o;omega
  have e4:IntKind.i64.wrap ((j:Int)+1)=((j+1:Nat):Int):=by rw[show(j:Int)+1=((j+1:Nat):Int) by omega];exact IntWalk.i64_in _ (by have:=HL.o;omega)
  obtain⟨va,vc,rfl,hv1,hv2⟩:=bK OW.o;have GE:=Hd (rF HT.1 HE hg);have HJ:=Hd (And.intro hj (And.intro hjc hnx));have HV:=Hd (And.intro hv1 hv2);clear hj hjc hg hnx hv1 hv2;go_wp2_with fail;refine GE.mono ?_;rintro e w2 ⟨rfl,h1,h2⟩;obtain⟨bx,hbx⟩:∃ b,w2.heap.size=b:=⟨_,rfl⟩
  obtain⟨x1,hx1⟩:∃ x,w2.alloc (.cells #[.int .i64 i,c.pa,c.ob,c.ow,c.ri,c.ba,c.de,c.ex,c.cu,c.rv] 65)=x:=⟨_,rfl⟩
  obtain⟨a1,a2,a3,a4,a5,a6,a7⟩:=h1.box (.cells #[.int .i64 i,c.pa,c.ob,c.ow,c.ri,c.ba,c.de,c.ex,c.cu,c.rv] 65);rw[hx1] at a1 a2 a3 a5;rw[hbx] at a1 a3 a4 a5 a6 a7;have X1:=Hd (And.intro hx1 hbx)
  have OW2:Hid (x1.ownsRow 0 65 10 (.slice va j vc) j (mM (L.take j))):=Hd (jF OW.o fun k hk=>by
   have hkm:k∈(Value.slice va j vc).ownBlock.toList++R:=List.mem_append_left _ (by rw[hk];simp);have hkt:k≠t:=(HT.2.2 k hk).2.1;exact(a2 k hkm hkt).trans (h2 k hkm hkt))
  obtain⟨⟨y0,y1,y2,y3,y4,y5,y6,y7,y8,y9⟩,_⟩:=dC a3;have sz2:=h1.lt;have HA:=Hd (And.intro a1 (And.intro (h2.trans a2) (And.intro a3 (And.intro a4 (And.intro a5 (And.intro a6 a7))))));clear h1 h2 GE a1 a2 a3 a4 a5 a6 a7 hx1 hbx sz2;obtain⟨ic,zc,hi,hz0,hz1,hz2,hz3⟩:=YL;go_upto_region 7 with fail
  rw[X1.1,X1.2]
  go_wp2_with (at_builtin;go_loud (refine wpList_append_own_at _ rfl (.tmp 20) (.tmp 22) 69 rfl 0 65 ic zc 10 80 Tryz.underlying69 hi hz0 hz1 hz2 hz3 (by decide) _ _ _ rfl (OW2.alloc _) ⟨x1.heap.size,0,none⟩ 1 1 (tG (i,c)) rfl rfl ?c1 ?c2 ?c3 ?c4 ?c5 ?_))
  case c1=>
   intro k u hk;obtain⟨⟨g0,g1,g2,g3,g4,g5,g6,g7,g8,g9⟩,_⟩:=dC (han x1 (.cells #[.int .i64 i,c.pa,c.ob,c.ow,c.ri,c.ba,c.de,c.ex,c.cu,c.rv] 65))
   match k,hk with
   | 0,hk=>injection hk with hk;subst hk;exact g0
   | 1,hk=>injection hk with hk;subst hk;exact g1
   | 2,hk=>injection hk with hk;subst hk;exact g2
   | 3,hk=>injection hk with hk;subst hk;exact g3
   | 4,hk=>injection hk with hk;subst hk;exact g4
   | 5,hk=>injection hk with hk;subst hk;exact g5
   | 6,hk=>injection hk with hk;subst hk;exact g6
   | 7,hk=>injection hk with hk;subst hk;exact g7
   | 8,hk=>injection hk with hk;subst hk;exact g8
   | 9,hk=>injection hk with hk;subst hk;exact g9
   | k+10,hk=>simp[tG] at hk
  case c2=>
   intro u hu;simp only[tG,List.mem_cons,List.not_mem_nil,or_false] at hu
   rcases hu with rfl|rfl|rfl|rfl|rfl|rfl|rfl|rfl|rfl|rfl <;> rfl
  case c3=>have:=HL.o;have:=HJ.1;unfold maxLen;omega
  case c4=>have:=HL.o;have:=HJ.1;omega
  case c5=>exact Nat.zero_le _
  intro v' w9 hown' hgrow hnil hat;rw[show mM (L.take j)++tG (i,c)=mM (L.take (j+1)) by rw[<-GO,List.take_add_one,HJ.2.1];rfl] at hown';have b1:=HA.1.box (.cells #[.int .i64 i,c.pa,c.ob,c.ow,c.ri,c.ba,c.de,c.ex,c.cu,c.rv] 65);have hmem:∀ k,(Value.slice va j vc).ownBlock=some k->k∈(Value.slice va j vc).ownBlock.toList++R:=fun k hk=>List.mem_append_left _ (by rw[hk];simp)
  obtain⟨T9,K9⟩:=TxS.append (v:=.slice va j vc) (v':=v') b1.1 (fun k hk=>⟨List.mem_cons_of_mem _ (List.mem_cons_of_mem _ (hmem k hk)),(HT.2.2 k hk).2⟩) hgrow (hat.imp (fun e=>e) fun e=>e.trans (congrArg some b1.2.2.2.2.1.symm)) fun k hk=>(hown'.lt k hk).2
  have nb:(Value.slice va j vc).ownBlock≠some bx:=fun e=>HA.2.2.2.2.2.2 bx (hmem bx e) rfl
  have m9:=(K9 bx (by simp) nb).trans ((b1.2.1 bx (by simp) HA.2.2.2.1).trans HA.2.2.1);obtain⟨⟨z0,z1,z2,z3,z4,z5,z6,z7,z8,z9⟩,_⟩:=dC m9
  have FR9:FreshB w0 R t v':=fun q hq=>by
   rcases hat with e|e
   ·rw[e] at hq;exact HT.2.2 q hq
   ·rw[e] at hq
    injection hq with hq;have l1:=b1.1.lt;have l0:=b1.1.from.size;have l3:=b1.2.2.2.2.1;refine⟨fun hx=>?_,fun hx=>?_,by omega⟩
    ·have:=l1.1 q (by simp[hx]);omega
    ·have:=l1.2;omega
  have KR9:KeptT R t w w9:=fun k hk hn=>by
   have hk2:k∈(Value.slice va j vc).ownBlock.toList++R:=List.mem_append_right _ hk;exact(K9 k (by simp[hk]) (fun e=>(HT.2.2 k e).1 hk)).trans ((b1.2.1 k (by simp[hk]) hn).trans ((HA.2.1 k hk2 hn).trans (HT.2.1 k hk hn)))
  have TS9:TxS w0 (v'.ownBlock.toList++R) w9 t d s n E:=T9.sub fun k hk=>by
   rcases List.mem_append.1 hk with hk|hk
   ·exact List.mem_append_left _ hk
   ·exact List.mem_append_right _ (by simp[hk])
  obtain⟨wa,wc,rfl,hw1,hw2⟩:=bK hown';have OW9:=Hd hown';have F9:=Hd (And.intro TS9 (And.intro KR9 FR9));have HNX:=Hd HJ.2.2;clear hown' hgrow hnil hat b1 hmem T9 K9 nb m9 FR9 KR9 TS9 hw1 hw2 y0 y1 y2 y3 y4 y5 y6 y7 y8 y9 hi hz0 hz1 hz2 hz3
  by_cases hp:c.pa=0
  ·have hLj:j+1=L.length:=by rcases HNX.o with hx|hx;(· exact hx.2.symm);(· exact absurd hp hx.1)
   have FIN:Hid (∃ v,Ending.returned (.tuple #[wa (j+1) wc,(0:Int)])=.returned (.tuple #[v,(0:Int)])/\RowC w9 v L/\FreshB w0 R t v/\TxS w0 (v.ownBlock.toList++R) w9 t d s n E/\KeptT R t w w9):=Hd ⟨_,rfl,by
    have:=OW9.o;rw[List.take_of_length_le (by omega)] at this;unfold RowC;rw[<-hLj];exact this,F9.2.2,F9.1,F9.2.1⟩
   clear hLj;go_wp2_with fail;go_ret2;exact FIN.o
  ·have hx:=HNX.resolve_left fun hx=>hp hx.1
   have HX:=Hd hx.2;have hp':(c.pa==0)=false:=by simpa using hp
   clear hx hp;go_wp2_with fail;go_roundw
   case rel=>exact⟨j+1,c.pa,rfl,rfl,HX.2,Hd HX.1,OW9,F9⟩
   case measure=>have:=HX.2;have:=HL.o;simp[intOf];omega
def kL (L:List (Int × bG))(j:Nat):Bool:=match L[j]? with
 | some p=>p.2.rv || (match j with|0=>false|m+1=>match L[m]? with|some q=>decide (q.1<=p.2.cu)|none=>false)
 | none=>false
def xV (L:List (Int × bG)):Bool:=(List.range L.length).any (kL L)
theorem aBE {L:List (Int × bG)}{p:Int × bG}(h:L[0]?=some p):kL L 0=p.2.rv:=by unfold kL;rw[h];simp
theorem LO {L:List (Int × bG)}{m:Nat}{p q:Int × bG}(h:L[m+1]?=some p)(hq:L[m]?=some q):kL L (m+1)=(p.2.rv || decide (q.1<=p.2.cu)):=by unfold kL;rw[h];simp[hq]
theorem WG {L:List (Int × bG)}{j:Nat}{p:Int × bG}(h:L[j]?=some p)(hr:p.2.rv=true):kL L j=true:=by unfold kL;rw[h];simp[hr]
theorem AU {L:List (Int × bG)}{j:Nat}(hj:j<L.length)(h:kL L j=true):xV L=true:=by
 unfold xV;rw[List.any_eq_true];exact⟨j,List.mem_range.2 hj,h⟩
theorem aBD {L:List (Int × bG)}(h:∀ j,j<L.length->kL L j=false):xV L=false:=by
 unfold xV;rw[List.any_eq_false];intro j hj;rw[h j (List.mem_range.1 hj)]
 decide
theorem GX (w:World)(a:Option Addr)(vc:Nat)(L:List (Int × bG))(b:Bool)(hr:RowC w (.slice a L.length vc) L)(hl:L.length<=9)(hb:xV L=b) :
  () 43 #[a L.length vc] w fun e w'=>e=.returned (.bool b)/\Below w.heap.size w w':=by
 have HV:=Hd hb;have HR:=Hd hr;have HL:=Hd hl;clear hb hr hl;go_enter Tryz.func43,Tryz.ntmps43;go_wp2_with fail
 go_loopw [7] (fun k wr=>∃ j:Nat,k=.int .i64 (j:Int)/\j<=L.length/\(∀ i,i<j->kL L i=false)/\Hid (Below w.heap.size w wr)) (fun k _=>10-(intOf k).toNat)
 case atStart=>exact⟨0,rfl,Nat.zero_le _,fun i hi=>by omega,Hd Br⟩
 case round=>
  obtain⟨j,rfl,hj,hno,HB⟩:=hrel
  by_cases hlt:j<L.length
  ·have hli:(j:Int)<(L.length:Int):=by omega
   have e4:IntKind.i64.wrap ((j:Int)+1)=((j+1:Nat):Int):=by rw[show(j:Int)+1=((j+1:Nat):Int) by omega];exact IntWalk.i64_in _ (by have:=HL.o;omega)
   clear hj;obtain⟨p,hp⟩:∃ p,L[j]?=some p:=⟨_,List.getElem?_eq_getElem hlt⟩
   obtain⟨g,rfl,k0,k1,k2,k3,k4,k5,k6,k7,k8,k9⟩:=(HR.below HB.o).at hp;obtain⟨x1,hx1⟩:∃ x,wr.alloc (.cells #[.int .i64 p.1,.int .i64 p.2.pa,.int .i64 p.2.ob,.int .i64 p.2.ow,.int .i64 p.2.ri,.int .i64 p.2.ba,.int .i64 p.2.de,.int .i64 p.2.ex,.int .i64 p.2.cu,.bool p.2.rv] 65)=x:=⟨_,rfl⟩
   obtain⟨bx,hbx⟩:∃ b,wr.heap.size=b:=⟨_,rfl⟩
   have b1:Below wr.heap.size wr x1:=by rw[<-hx1];exact aB _ _
   have m1:x1.heap[bx]?=some (.cells #[.int .i64 p.1,.int .i64 p.2.pa,.int .i64 p.2.ob,.int .i64 p.2.ow,.int .i64 p.2.ri,.int .i64 p.2.ba,.int .i64 p.2.de,.int .i64 p.2.ex,.int .i64 p.2.cu,.bool p.2.rv] 65):=by rw[<-hx1,<-hbx];exact han wr _
   obtain⟨⟨c0,c1,c2,c3,c4,c5,c6,c7,c8,c9⟩,_⟩:=dC m1;have X1:=Hd (And.intro hx1 hbx);have HB1:=Hd (chain HB b1);obtain⟨rv,hrv⟩:∃ rv,p.2.rv=rv:=⟨_,rfl⟩
   rw[hrv] at X1 k9 c9
   cases rv
   ·by_cases hj0:j=0
    ·subst hj0
     have HY:Hid (0+1<=L.length/\∀ i,i<0+1->kL L i=false):=Hd ⟨hlt,fun i hi=>by
      rcases Nat.lt_or_ge i (0) with hi'|hi'
      ·exact hno i hi'
      ·obtain rfl:i=0:=by omega
       exact(aBE hp).trans hrv⟩
     clear hlt hp hno hx1 hbx b1 m1 hrv;go_upto_region 4 with fail
     rw[X1.1,X1.2]
     go_quiet (fail)
     go_wp2_with fail;go_roundw
     case rel=>exact⟨_,rfl,HY.1,HY.2,Hd (chain HB1 (bO Br _))⟩
     case measure=>have:=HY.1;have:=HL.o;first|(simp[intOf];done)|(simp[intOf];omega)
    ·obtain⟨m,hm⟩:∃ m,j=m+1:=⟨j-1,by omega⟩
     obtain⟨q,hq⟩:∃ q,L[m]?=some q:=⟨_,List.getElem?_eq_getElem (by omega)⟩
     obtain⟨g',hg',m0,m1,m2,m3,m4,m5,m6,m7,m8,m9⟩:=(HR.below HB1.o).at hq;injection hg' with hg';injection hg' with hg';subst hg';have e5:IntKind.i64.wrap ((j:Int)-1)=(m:Int):=by rw[show(j:Int)-1=(m:Int) by omega];exact IntWalk.i64_in _ (by have:=HL.o;omega)
     have e6:0<j:=by omega
     have e7:(m:Int)<(L.length:Int):=by omega
     by_cases hle:q.1<=p.2.cu
     ·have HY:=Hd (AU hlt (by subst hm;rw[LO hp hq,hrv];simpa using hle))
      clear hlt hp hno hx1 hbx b1 m1 hrv hq hm hj0;go_upto_region 4 with fail
      rw[X1.1,X1.2]
      go_quiet (fail)
      go_wp2_with fail;go_ret;exact⟨congrArg (fun z=>Ending.returned (.bool z)) (HY.symm.trans HV.o),chain HB1 (bO Br _)⟩
     ·have HY:Hid (j+1<=L.length/\∀ i,i<j+1->kL L i=false):=Hd ⟨hlt,fun i hi=>by
       rcases Nat.lt_or_ge i (j) with hi'|hi'
       ·exact hno i hi'
       ·obtain rfl:i=j:=by omega
        exact(by subst hm;rw[LO hp hq,hrv];simpa using hle)⟩
      clear hlt hp hno hx1 hbx b1 m1 hrv hq hm hj0;go_upto_region 4 with fail
      rw[X1.1,X1.2]
      go_quiet (fail)
      go_wp2_with fail;go_roundw
      case rel=>exact⟨_,rfl,HY.1,HY.2,Hd (chain HB1 (bO Br _))⟩
      case measure=>have:=HY.1;have:=HL.o;first|(simp[intOf];done)|(simp[intOf];omega)
   ·have HY:=Hd (AU hlt (WG hp hrv))
    clear hlt hp hno hx1 hbx b1 m1 hrv;go_upto_region 4 with fail
    rw[X1.1,X1.2]
    go_quiet (fail)
    go_wp2_with fail;go_ret;exact⟨congrArg (fun z=>Ending.returned (.bool z)) (HY.symm.trans HV.o),chain HB1 (bO Br _)⟩
  ·obtain rfl:j=L.length:=by omega
   have hli:¬ ((L.length:Nat):Int)<(L.length:Int):=by omega
   have HN:=Hd (aBD hno);clear hno hlt hj;go_wp2_with fail;go_ret;exact⟨congrArg (fun z=>Ending.returned (.bool z)) (HN.symm.trans HV.o),HB.o⟩
def yQ (f:Int)(p:Int × bG):Int:=if p.2.ex≠0/\(f=0\/p.2.ex<f) then p.2.ex else f
def iS (L:List (Int × bG)):Int:=L.foldl yQ 0
theorem JQ (L:List (Int × bG))(p:Int × bG):iS (L++[p])=yQ (iS L) p:=by simp[iS]
theorem lU {L:List (Int × bG)}{j:Nat}{p:Int × bG}(hp:L[j]?=some p):iS (L.take (j+1))=yQ (iS (L.take j)) p:=by rw[List.take_add_one,hp,<-JQ];rfl
theorem aCL (w:World)(a:Option Addr)(vc:Nat)(L:List (Int × bG))(x:Int)(hr:RowC w (.slice a L.length vc) L)(hl:L.length<=9)(hb:iS L=x) :
  () 40 #[a L.length vc] w fun e w'=>e=.returned (.int .i64 x)/\Below w.heap.size w w':=by
 have HV:=Hd hb;have HR:=Hd hr;have HL:=Hd hl;clear hb hr hl;go_enter Tryz.func40,Tryz.ntmps40;go_wp2_with fail
 go_loopw [3,8] (fun f k wr=>∃ (j:Nat) (v:Int),k=.int .i64 (j:Int)/\f=.int .i64 v/\j<=L.length/\v=iS (L.take j)/\Hid (Below w.heap.size w wr)) (fun _ k _=>10-(intOf k).toNat)
 case atStart=>exact⟨0,0,rfl,rfl,Nat.zero_le _,by simp[iS],Hd Br⟩
 case round=>
  obtain⟨j,v,rfl,rfl,hj,hf,HB⟩:=hrel
  by_cases hlt:j<L.length
  ·have hli:(j:Int)<(L.length:Int):=by omega
   have e4:IntKind.i64.wrap ((j:Int)+1)=((j+1:Nat):Int):=by rw[show(j:Int)+1=((j+1:Nat):Int) by omega];exact IntWalk.i64_in _ (by have:=HL.o;omega)
   clear hj;obtain⟨p,hp⟩:∃ p,L[j]?=some p:=⟨_,List.getElem?_eq_getElem hlt⟩
   obtain⟨g,rfl,k0,k1,k2,k3,k4,k5,k6,k7,k8,k9⟩:=(HR.below HB.o).at hp;obtain⟨x1,hx1⟩:∃ x,wr.alloc (.cells #[.int .i64 p.1,.int .i64 p.2.pa,.int .i64 p.2.ob,.int .i64 p.2.ow,.int .i64 p.2.ri,.int .i64 p.2.ba,.int .i64 p.2.de,.int .i64 p.2.ex,.int .i64 p.2.cu,.bool p.2.rv] 65)=x:=⟨_,rfl⟩
   obtain⟨bx,hbx⟩:∃ b,wr.heap.size=b:=⟨_,rfl⟩
   have b1:Below wr.heap.size wr x1:=by rw[<-hx1];exact aB _ _
   have m1:x1.heap[bx]?=some (.cells #[.int .i64 p.1,.int .i64 p.2.pa,.int .i64 p.2.ob,.int .i64 p.2.ow,.int .i64 p.2.ri,.int .i64 p.2.ba,.int .i64 p.2.de,.int .i64 p.2.ex,.int .i64 p.2.cu,.bool p.2.rv] 65):=by rw[<-hx1,<-hbx];exact han wr _
   obtain⟨⟨c0,c1,c2,c3,c4,c5,c6,c7,c8,c9⟩,_⟩:=dC m1;have X1:=Hd (And.intro hx1 hbx);have HB1:=Hd (chain HB b1)
   by_cases h0:p.2.ex=0
   ·have HY:Hid (j+1<=L.length/\v=iS (L.take (j+1))):=Hd ⟨hlt,by rw[lU hp,<-hf];unfold yQ;rw[if_neg (fun x=>x.1 h0)]⟩
    clear hlt hp hf hx1 hbx b1 m1;have h0':(p.2.ex==0)=true:=by simpa using h0
    have h0b:(p.2.ex != 0)=false:=by simpa using h0
    clear h0;go_upto_region 5 with fail
    rw[X1.1,X1.2];go_wp2_with fail;go_roundw
    case rel=>exact⟨_,_,rfl,rfl,HY.1,HY.2,HB1⟩
    case measure=>have:=HY.1;have:=HL.o;first|(simp[intOf];done)|(simp[intOf];omega)
   ·have h0':(p.2.ex==0)=false:=by simpa using h0
    by_cases hv:v=0
    ·have HY:Hid (j+1<=L.length/\p.2.ex=iS (L.take (j+1))):=Hd ⟨hlt,by rw[lU hp,<-hf];unfold yQ;rw[if_pos ⟨h0,.inl hv⟩]⟩
     clear hlt hp hf hx1 hbx b1 m1;have h0b:(p.2.ex != 0)=true:=by simpa using h0
     go_upto_region 5 with fail
     rw[X1.1,X1.2];go_wp2_with fail;go_roundw
     case rel=>exact⟨_,_,rfl,rfl,HY.1,HY.2,HB1⟩
     case measure=>have:=HY.1;have:=HL.o;first|(simp[intOf];done)|(simp[intOf];omega)
    ·have hv':(v==0)=false:=by simpa using hv
     by_cases hx:p.2.ex<v
     ·have HY:Hid (j+1<=L.length/\p.2.ex=iS (L.take (j+1))):=Hd ⟨hlt,by rw[lU hp,<-hf];unfold yQ;rw[if_pos ⟨h0,.inr hx⟩]⟩
      clear hlt hp hf hx1 hbx b1 m1;have h0b:(p.2.ex != 0)=true:=by simpa using h0
      go_upto_region 5 with fail
      rw[X1.1,X1.2];go_wp2_with fail;go_roundw
      case rel=>exact⟨_,_,rfl,rfl,HY.1,HY.2,HB1⟩
      case measure=>have:=HY.1;have:=HL.o;first|(simp[intOf];done)|(simp[intOf];omega)
     ·have HY:Hid (j+1<=L.length/\v=iS (L.take (j+1))):=Hd ⟨hlt,by rw[lU hp,<-hf];unfold yQ;rw[if_neg (fun x=>x.2.elim hv hx)]⟩
      clear hlt hp hf hx1 hbx b1 m1;have h0b:(p.2.ex != 0)=true:=by simpa using h0
      go_upto_region 5 with fail
      rw[X1.1,X1.2];go_wp2_with fail;go_roundw
      case rel=>exact⟨_,_,rfl,rfl,HY.1,HY.2,HB1⟩
      case measure=>have:=HY.1;have:=HL.o;first|(simp[intOf];done)|(simp[intOf];omega)
  ·obtain rfl:j=L.length:=by omega
   have hli:¬ ((L.length:Nat):Int)<(L.length:Int):=by omega
   rw[List.take_length] at hf;have HN:=Hd hf;clear hf hlt hj;go_wp2_with fail;go_ret;exact⟨congrArg (fun z=>Ending.returned (.int .i64 z)) (HN.trans HV.o),HB.o⟩
def stV (L:List (Int × bG))(now:Int):Int:=if xV L=true then 10 else if iS L≠0/\iS L<=now then 11 else 0
theorem OP {w0 w:World}{R:List Nat}{t d s n:Nat}{E:List Ent}{bt bi bn:Nat}{id now x:Int}{L:List (Int × bG)}(h:TxS w0 R w t d s n E)(hb:w.heap[bt]?=some (.cells #[t] 24))(hi:w.heap[bi]?=some (.cells #[id] 3))(hn:w.heap[bn]?=some (.cells #[now] 3))(hm:(bt∈R/\bt≠t/\w0.heap.size<=bt)/\(bi∈R/\bi≠t/\w0.heap.size<=bi)/\(bn∈R/\bn≠t/\w0.heap.size<=bn))(hE:E.length<=600)(hc:ChainE E id L)(hl:L.length<=9)(hx:stV L now=x) :
  () 42 #[bt,bi,bn] w fun e w'=>e=.returned x/\TxS w0 R w' t d s n E/\KeptT R t w w':=by
 have CH:=Hd (ZU h hE hc hl);have c0:=(aD hb).1;have c1:=(aD hi).1;have HN:=Hd hn;have HM:=Hd hm;have HL:=Hd hl;obtain⟨r,hr⟩:∃ r,xV L=r:=⟨_,rfl⟩
 obtain⟨y,hy⟩:∃ y,iS L=y:=⟨_,rfl⟩
 have HX:Hid ((if r=true then 10 else if y≠0/\y<=now then 11 else 0)=x):=Hd (by rw[<-hr,<-hy];exact hx);have HRY:=Hd (And.intro hr hy);clear h hb hi hn hm hE hc hl hx hr hy;go_enter Tryz.func42,Tryz.ntmps42;go_wp2_with fail;refine CH.mono ?_;rintro e w2 ⟨v,rfl,h1,h2,h3,h4⟩;obtain⟨va,vc,rfl,_,_⟩:=h1.shape;have RE:=Hd (GX w2 va vc L r h1 HL HRY.1);have F2:=Hd (And.intro h1 (And.intro h3 h4));clear h1 h2 h3 h4 CH c0 c1;go_wp2_with fail;refine RE.mono ?_;rintro e w3 ⟨rfl,b3⟩
 have F3:=Hd (And.intro (F2.1.below b3) (And.intro ((F2.2.1.below b3).sub (R':=R) fun k hk=>List.mem_append_right _ hk) (F2.2.2.trans ((F2.2.1.sub (R':=R) fun k hk=>List.mem_append_right _ hk).kept b3))));clear b3 F2 RE
 cases r
 ·have EN:=Hd (aCL w3 va vc L y F3.1 HL HRY.2)
  go_wp2_with fail;refine EN.mono ?_;rintro e w4 ⟨rfl,b4⟩;have F4:=Hd (And.intro (F3.2.1.below b4) (F3.2.2.trans (F3.2.1.kept b4)));have c2:=(aD ((F4.2 bn HM.2.2.1 HM.2.2.2.1).trans HN.o)).1;clear b4 F3 EN
  by_cases h0:y=0
  ·have h0':(y==0)=true:=by simpa using h0
   have h0b:(y != 0)=false:=by simpa using h0
   have HX2:=Hd (show(0:Int)=x by have:=HX.o;rw[if_neg (by decide),if_neg (fun q=>q.1 h0)] at this;exact this);clear HX;go_wp2_with fail;go_ret;exact⟨congrArg (fun z=>Ending.returned (.int .i64 z)) HX2.o,F4.o⟩
  ·have h0':(y==0)=false:=by simpa using h0
   have h0b:(y != 0)=true:=by simpa using h0
   by_cases hle:y<=now
   ·have HX2:=Hd (show(11:Int)=x by have:=HX.o;rw[if_neg (by decide),if_pos ⟨h0,hle⟩] at this;exact this)
    clear HX;go_wp2_with fail;go_ret;exact⟨congrArg (fun z=>Ending.returned (.int .i64 z)) HX2.o,F4.o⟩
   ·have HX2:=Hd (show(0:Int)=x by have:=HX.o;rw[if_neg (by decide),if_neg (fun q=>hle q.2)] at this;exact this)
    clear HX;go_wp2_with fail;go_ret;exact⟨congrArg (fun z=>Ending.returned (.int .i64 z)) HX2.o,F4.o⟩
 ·have HX2:=Hd (show(10:Int)=x by have:=HX.o;rw[if_pos rfl] at this;exact this)
  clear HX;go_wp2_with fail;go_ret;exact⟨congrArg (fun z=>Ending.returned (.int .i64 z)) HX2.o,F3.2⟩
theorem TJ {w0 w:World}{R:List Nat}{t d s n:Nat}{E:List Ent}{id now:Int}{L:List (Int × bG)}(h:TxS w0 R w t d s n E)(hE:E.length<=600)(hc:ChainE E id L)(hl:L.length<=9) :
  () 14 #[t,id,now] w fun e w'=>e=.returned (.int .i64 (stV L now))/\TxS w0 R w' t d s n E/\KeptT R t w w':=
 aCV h fun R' wa b0 b1 b2 hT g0 g1 g2 gm=>OP hT g0 g1 g2 gm hE hc hl rfl
section
variable {P:Program} {ops:Array Oper} {Q:Exit->Act->World->Prop} {md:Region.Mode} {S:World->Prop}
end
def aCP (e:Ent):Array Value:=#[.int .u64 e.1,.string e.2]
def GK (w0:World)(F:Nat->Prop)(t bt bf:Nat)(k:Nat):Prop:=F k\/k=t\/k=bt\/k=bf\/k<w0.heap.size
theorem aEM {α:Type}{P:Program}{fn:Func}{tmps:Array Value}(hres:fn.results=#[]){w0 W w w1:World}{C C' G H F:Nat->Prop}{t d s n:Nat}{E:List Ent}{J Jx:List α->(Nat->Prop)->World->Prop}{Ys:List α}
  (hJ:∀ s D A B,J s D A->OnC D A B->J s D B)(hJx:∀ s D A B,Jx s D A->OnC D A B->Jx s D B)(hU:Under W C G H w1 C' w)(hT:TxF w0 F w t d s n E)(hTW:TxF w0 F W t d s n E)(Ds:List Nat)(hm:Marks w Ds)(hD:∀ D∈Ds,W.heap.size<=D/\¬ C' D)(hJJ:J Ys C' w\/∃ pre,pre <+: Ys/\Jx pre C' w){z:Nat}(hz:W.heap.size=z) :
  LeavesInM Fence.wide 0 P fn tmps (fun e W'=>(∃ v,e=.returned v)/\TxF w0 F W' t d s n E/\∃ C',Own1 (fun k=>C k\/G k) W C' W'/\(∀ k,C' k->C k\/z<=k)/\(J Ys C' W'\/∃ pre,pre <+: Ys/\Jx pre C' W')) (Ds.map mkD) .returning w:=by
 subst hz;refine jW Ds w hm fun w' hf=>⟨_,results_none hres _ _ _,⟨_,rfl⟩,hT.frm hf fun k hk=>?_,C',⟨hU.fr.trans hf fun k hk=>.inr (hD k hk).1,fun k hk=>(hU.cn k hk).imp .inl id⟩,hU.cn,?_⟩
 ·have h1:=(hD k hk).1
  have h2:=hTW.lt;have h3:=hTW.from.size;exact⟨fun e=>by have:=h2.1 k e;omega,by omega,by omega⟩
 ·have ho:OnC C' w w':=.of_frm hf fun k hk hd=>(hD k hd).2 hk
  rcases hJJ with h|⟨pre,hp,h⟩
  ·exact .inl (hJ _ _ _ _ h ho)
  ·exact .inr ⟨pre,hp,hJx _ _ _ _ h ho⟩
def MS (g:Nat)(u w:World):Prop:=w.heap[g]?=u.heap[g]?
def kyM (bf:Nat)(ob:Value)(w:World):Nat:=match ob with
 | .bool true=>match w.cell? ⟨bf,0,none⟩ with
  | some (.int _ x)=>1+(18446744073709551616-x).toNat
  | _=>1
 | _=>0
theorem OV {q:Int}{E:List Ent}(hS:kB E){x:Ent}{rest:List Ent}(h:bB q E=x::rest):q<=x.1/\x∈E/\bB (x.1+1) E=rest/\∀ e∈rest,x.1<e.1:=by
 have hs:kB (x::rest):=by rw[<-h];exact List.Pairwise.filter _ hS
 have hx:x∈bB q E:=by rw[h];exact List.mem_cons_self ..
 obtain⟨hx1,hx2⟩:=List.mem_filter.1 hx;have hq:q<=x.1:=by simpa using hx2
 obtain⟨p1,p2⟩:=List.pairwise_cons.1 hs;refine⟨hq,hx1,?_,p1⟩
 have h2:bB (x.1+1) (bB q E)=bB (x.1+1) E:=by
  unfold bB;rw[List.filter_filter];refine List.filter_congr fun e he=>?_
  rw[<-Bool.decide_and,decide_eq_decide];omega
 rw[<-h2,h];unfold bB;rw[List.filter_cons_of_neg (by simp;omega)];exact List.filter_eq_self.2 fun e he=>by have:=p1 e he;simp;omega
theorem SW {α:Type}{Z:List α}{m:Nat}{x:α}{rest:List α}(h:Z.drop m=x::rest):m<Z.length/\Z[m]?=some x/\Z.drop (m+1)=rest/\Z.take (m+1)=Z.take m++[x]:=by
 have hl:m<Z.length:=by
  refine Nat.lt_of_not_le fun hx=>?_
  rw[List.drop_eq_nil_of_le hx] at h
  cases h
 rw[List.drop_eq_getElem_cons hl] at h;injection h with h1 h2;have hz:Z[m]?=some x:=by rw[List.getElem?_eq_getElem hl,h1]
 exact⟨hl,hz,h2,by rw[List.take_add_one,hz];rfl⟩
theorem wR {w0 w:World}{F:Nat->Prop}{t d s n bt bf:Nat}{fr:Int}{E:List Ent}(h:TxF w0 F w t d s n E)(hE:E.length<=600)(hS:kB E)(hK:∀ e∈E,0<=e.1/\e.1<=18446744073709551615)(hfr:0<=fr/\fr<=18446744073709551615)
  (h1:w.heap[bt]?=some (.cells #[t] 24))(h2:w.heap[bf]?=some (.cells #[.int .u64 fr] 82))(hn:¬ F bt/\¬ F bf/\bt≠t/\bf≠t/\bt≠bf)(hl:w0.heap.size<=bt/\w0.heap.size<=bf) :
  zJ Tryz.prog 91 #[bt,bf] aCP (GK w0 F t bt bf) (fun W=>TxF w0 F W t d s n E) (bB fr E) w:=by
 intro l J Jx W C hW hJ hJx hlt hltx hCG hR h0;have hTW:=h.below hW;have lb1:bt<w.heap.size:=(zl h1);have lb2:bf<w.heap.size:=(zl h2);have k1:=(hW.block bt lb1).trans h1;have k2:=(hW.block bf lb2).trans h2;have sW:=hW.size;obtain⟨G,hG⟩:∃ G,G=GK w0 F t bt bf:=⟨_,rfl⟩
 obtain⟨H,hH⟩:∃ H:Nat->Prop,H=fun k=>k=bt:=⟨_,rfl⟩
 rw[<-hG] at hCG |-;have gG:∀ k,G k ↔ F k\/k=t\/k=bt\/k=bf\/k<w0.heap.size:=fun k=>by rw[hG];exact Iff.rfl
 have gH:∀ k,H k ↔ k=bt:=fun k=>by rw[hH]
 have lW:=hTW.lt
 have hU:Under W C G H W C W:=by
  refine⟨Frm.refl _ _,fun k hk=>.inl hk,hCG,fun k hk hh=>hCG k hk ((gG k).2 (.inr (.inr (.inl ((gH k).1 hh))))),fun k hk=>⟨by rw[(gH k).1 hk];omega,rfl⟩,Nat.le_refl _,fun k hk=>?_,Nat.le_refl _⟩
  rcases(gG k).1 hk with h|rfl|rfl|rfl|h
  ·exact lW.1 k h
  ·exact lW.2.1
  ·omega
  ·omega
  ·have:=hTW.from.size;omega
 obtain⟨Ys,hYs⟩:∃ Ys,bB fr E=Ys:=⟨_,rfl⟩
 rw[hYs] at hR |-;have HGG:=Hd (And.intro gG gH);have HTW:=Hd hTW;have HU:=Hd hU;have HN:=Hd (And.intro hn hl);have K1:=Hd k1;have HI:Hid (bB fr E=Ys.drop 0/\0<=fr/\fr<=18446744073709551615):=Hd ⟨hYs,hfr⟩;have K2:=Hd k2;have H0:=Hd h0;have HSK:=Hd (And.intro hS (And.intro hK hE));clear h hS hK h1 h2 hn hl lb1 lb2 k1 k2 hG hH gG gH lW hU hTW hYs hW sW hfr hE;refine(callsIn_wide (n:=0)).1 (callsIn_of_wp_marks (F:=Fence.wide) (n:=0) Tryz.func91 rfl trivial (wpIn_wide.2 ?_) rfl)
 simp only[Tryz.ntmps91,List.size_toArray,List.length_cons,List.length_nil,Nat.reduceAdd,Nat.reduceSub,Array.replicate_succ,Array.replicate_zero,List.push_toArray,List.append_toArray,List.nil_append,List.cons_append];go_wp2_with fail
 go_loopw [4] (fun ob wr=>∃ (m:Nat) (C1:Nat->Prop) (q:Int) (b:Bool),ob=.bool b/\m<=Ys.length/\Hid (Under W C G H W C1 wr)/\Hid (TxF w0 F wr t d s n E)/\Hid (wr.heap[bf]?=some (.cells #[.int .u64 q] 82))/\Hid (J (Ys.take m) C1 wr)/\Hid ((b=true/\bB q E=Ys.drop m/\0<=q/\q<=18446744073709551615)\/(b=false/\m=Ys.length))) (fun ob wr=>kyM bf ob wr)
 case atStart=>exact⟨0,C,fr,true,rfl,Nat.zero_le _,HU,HTW,K2,H0,Hd (.inl ⟨rfl,HI.o⟩)⟩
 case round=>
  obtain⟨m,C1,q,b,rfl,hm,HUr,HTr,HF,HJr,HQ⟩:=hrel
  rcases HQ.o with⟨rfl,hsc,hq0,hq1⟩|⟨rfl,rfl⟩
  ·have c1:=(aD (((HUr.hk bt ((HGG.2 bt).2 rfl)).2).trans K1.o)).1
   have c2:=(aD HF.o).1;have HM:Hid (kyM bf (.bool true) wr=1+(18446744073709551616-q).toNat):=Hd (by simp only[kyM,c2]);have HSC:=Hd (And.intro hsc (And.intro hq0 hq1))
   rcases hdr:Ys.drop m with _|⟨x,rest⟩
   ·have SC:=Hd (VU (key:=q) (most:=1) HTr HSK.2.2 [] (by rw[hsc,hdr];rfl))
    have HDR:=Hd hdr;clear hsc hq0 hq1 hdr HQ;go_upto_region 2 with fail
    go_wp2_with fail;refine SC.mono ?_;rintro e w2 ⟨v,rfl,hT2,hrow,hv,hf2⟩;obtain⟨va,vc,rfl⟩:=hrow.shape
    have U2:Under W C G H W C1 w2:=HUr.step hf2 fun k hk=>⟨.inl ((HGG.1 k).2 (hk.imp id .inl)),fun hh=>by
     have e:=(HGG.2 k).1 hh
     rcases hk with hk|hk
     ·exact HN.1.1 (e ▸ hk)
     ·exact HN.1.2.2.1 (e ▸ hk)⟩
    have J2:=hJ _ _ _ _ HJr (HUr.on hf2 fun k hk hc=>HUr.cg k hc ((HGG.1 k).2 (hk.imp id .inl)));have HU2:=Hd U2;have HJ2:=Hd J2;have HT2:=Hd hT2;clear c1 c2 hrow hv hf2 U2 J2 hT2 SC HJr HUr HTr HF;go_upto_region 3 with fail
    refine(wpIn_wide (n:=0)).1 (wpIn_mono (Q:=pX _) (wpIn_wide.2 ?_) tS);refine wp_region_held_drew (S:=fun _=>True) (by kernel_rfl) trivial (fun hS=>?_);refine Hu 0 10 hS ?_;simp only[SL];refine Hu 1 11 hS ?_;simp only[SL];refine Hu 2 12 hS ?_;simp only[SL];refine Hu 3 13 hS ?_;simp only[SL];refine Hn 4 14 hS ?_;simp only[SL];refine Hn 5 15 hS ?_;simp only[SL];refine Hn 6 16 hS ?_;simp only[SL];refine Hn 7 17 hS ?_;simp only[SL];refine Hn 8 18 hS ?_;simp only[SL];refine Hn 9 19 hS ?_;simp only[SL];refine Hn 10 20 hS ?_;simp only[SL];refine Hn 11 21 hS ?_
    simp only[SL];refine Hn 12 22 hS ?_;simp only[SL];refine Hn 13 23 hS ?_;simp only[SL];refine Hn 14 24 hS ?_;simp only[SL];refine Hu 15 25 hS ?_;simp only[SL];refine wpAnyH_done (by kernel_rfl) ?_ _;simp only[pX];go_wp2_with fail;refine aEM (P:=Tryz.prog) rfl hJ hJx (HU2.step (D:=fun _=>False) (Frm.of_below Br.drew) fun _ h=>h.elim) (HT2.below Br.drew) HTW.o [] (Marks.nil _) (fun D hD=>by cases hD) (.inl ?_) rfl;have hj:=hJ _ _ _ _ HJ2 (.of_frm (G:=fun _=>False) (Frm.of_below (Below.refl _ w2).drew) fun _ _ h=>h)
    rwa [List.take_of_length_le (List.drop_eq_nil_iff.1 HDR.o)] at hj
   ·obtain⟨dl,dz,dr,dt⟩:=SW hdr
    obtain⟨n1,n2,n3,n4⟩:=OV HSK.1 (hsc.trans hdr);have SC:=Hd (VU (key:=q) (most:=1) HTr HSK.2.2 [x] (by rw[hsc,hdr];rfl));obtain⟨xk,xv⟩:=x;have hxk:=HSK.2.1 _ n2;have HX:Hid (m+1<=Ys.length/\q<=xk/\(0<=xk/\xk<=18446744073709551615)/\bB (xk+1) E=rest/\(∀ e∈rest,xk<e.1)/\Ys.drop (m+1)=rest/\Ys.take (m+1)=Ys.take m++[(xk,xv)]):=Hd ⟨dl,n1,hxk,n3,n4,dr,dt⟩;clear hsc hq0 hq1 hdr HQ dl dz dr dt n1 n2 n3 n4 hxk;go_upto_region 2 with fail
    go_wp2_with fail;refine SC.mono ?_;rintro e w2 ⟨v,rfl,hT2,hrow,hv,hf2⟩;obtain⟨va,vc,rfl⟩:=hrow.shape;obtain⟨g,rfl,hg1,hg2,hg3⟩:=hrow.at (j:=0) (e:=(xk,xv)) rfl;simp only[Nat.zero_mul,Nat.zero_add] at hg2 hg3;have hgv:=hv g rfl
    have U2:Under W C G H W C1 w2:=HUr.step hf2 fun k hk=>⟨.inl ((HGG.1 k).2 (hk.imp id .inl)),fun hh=>by
     have e:=(HGG.2 k).1 hh
     rcases hk with hk|hk
     ·exact HN.1.1 (e ▸ hk)
     ·exact HN.1.2.2.1 (e ▸ hk)⟩
    have J2:=hJ _ _ _ _ HJr (HUr.on hf2 fun k hk hc=>HUr.cg k hc ((HGG.1 k).2 (hk.imp id .inl)));have F2:=(hf2.block bf (zl HF.o) (fun e=>e.elim HN.1.2.1 HN.1.2.2.2.1)).trans HF.o;have HGC:Hid (¬ C1 g/\bf<wr.heap.size):=Hd ⟨fun hc=>by have:=hlt _ _ _ HJr g hc;omega,(zl HF.o)⟩;obtain⟨wd,hwd⟩:∃ wd,w2.drew=wd:=⟨_,rfl⟩
    have bd:Below w2.heap.size w2 wd:=by rw[<-hwd];exact Br.drew
    have HUd:=Hd (U2.step (D:=fun _=>False) (Frm.of_below bd) fun _ h=>h.elim);have HTd:=Hd (hT2.below bd);have hJd:=hJ _ _ _ _ J2 (.of_frm (G:=fun _=>False) (Frm.of_below bd) fun _ _ h=>h);have HFd:=Hd ((bd.block bf (by have:=HGC.2;have:=hf2.size;omega)).trans F2);have HG2:Hid (wd.cell? ⟨g,0,none⟩=some (.int .u64 xk)/\wd.cell? ⟨g,1,none⟩=some (.string xv)/\g<wd.heap.size):=Hd ⟨(jZ (bd.block g hg1)).trans hg2,(jZ (bd.block g hg1)).trans hg3,Nat.lt_of_lt_of_le hg1 bd.size⟩;have hSd:MS g wd wd:=rfl
    obtain⟨fn2,tmps2,assign2,body2,hyl,hRR⟩:=hR _ (xk,xv) C1 wd (by rw[<-HX.2.2.2.2.2.2];exact List.take_prefix _ _) hJd;have HYL:=Hd hyl;have HRR:=Hd hRR;clear c1 c2 hrow hv hf2 U2 J2 hT2 SC HJr HUr HTr HF F2 hg1 hg2 hg3 hgv hJd hyl hRR;go_upto_region 3 with fail
    refine(wpIn_wide (n:=0)).1 (wpIn_mono (Q:=pX _) (LQ (S:=MS g wd) (by kernel_rfl) ?_) tS);rw[hwd];clear hwd bd;refine eS (i:=0) 10 (v:=?vy0) rfl rfl (by kernel_rfl) (by kernel_rfl) (by kernel_rfl) (fun _ _ _ h=>h) hSd (by rfl) ?hy0 ?ry0
    case hy0=>
     intro w9 s9;clear s9;go_simp;try (with_reducible rfl)
    simp only[SL];refine eS (i:=1) 11 (v:=?vy1) rfl rfl (by kernel_rfl) (by kernel_rfl) (by kernel_rfl) (fun _ _ _ h=>h) hSd (by rfl) ?hy1 ?ry1
    case hy1=>
     intro w9 s9;clear s9;go_simp;try (with_reducible rfl)
    simp only[SL];refine eS (i:=2) 12 (v:=?vy2) rfl rfl (by kernel_rfl) (by kernel_rfl) (by kernel_rfl) (fun _ _ _ h=>h) hSd (by rfl) ?hy2 ?ry2
    case hy2=>
     intro w9 s9;clear s9;go_simp;try (with_reducible rfl)
    simp only[SL];refine eS (i:=3) 13 (v:=?vy3) rfl rfl (by kernel_rfl) (by kernel_rfl) (by kernel_rfl) (fun _ _ _ h=>h) hSd (by rfl) ?hy3 ?ry3
    case hy3=>
     intro w9 s9;clear s9;go_simp;try (with_reducible rfl)
    simp only[SL];refine eS (i:=4) 14 (v:=?vy4) rfl rfl (by kernel_rfl) (by kernel_rfl) (by kernel_rfl) (fun _ _ _ h=>h) hSd (by rfl) ?hy4 ?ry4
    case hy4=>
     intro w9 s9;clear s9;go_simp;try (with_reducible rfl)
    simp only[SL];refine eS (i:=5) 15 (v:=?vy5) rfl rfl (by kernel_rfl) (by kernel_rfl) (by kernel_rfl) (fun _ _ _ h=>h) hSd (by rfl) ?hy5 ?ry5
    case hy5=>
     intro w9 s9;clear s9;go_simp;try (with_reducible rfl)
    simp only[SL];refine eS (i:=6) 16 (v:=?vy6) rfl rfl (by kernel_rfl) (by kernel_rfl) (by kernel_rfl) (fun _ _ _ h=>h) hSd (by rfl) ?hy6 ?ry6
    case hy6=>
     intro w9 s9;clear s9;go_simp;try (with_reducible rfl)
    simp only[SL];refine eS (i:=7) 17 (v:=?vy7) rfl rfl (by kernel_rfl) (by kernel_rfl) (by kernel_rfl) (fun _ _ _ h=>h) hSd (by rfl) ?hy7 ?ry7
    case hy7=>
     intro w9 s9;clear s9;go_simp;try (with_reducible rfl)
    simp only[SL];refine eS (i:=8) 18 (v:=?vy8) rfl rfl (by kernel_rfl) (by kernel_rfl) (by kernel_rfl) (fun _ _ _ h=>h) hSd (by rfl) ?hy8 ?ry8
    case hy8=>
     intro w9 s9;have k9:=(jZ (i:=0) s9).trans HG2.1;clear s9;go_simp;try (with_reducible rfl)
    simp only[SL];refine eS (i:=9) 19 (v:=?vy9) rfl rfl (by kernel_rfl) (by kernel_rfl) (by kernel_rfl) (fun _ _ _ h=>h) hSd (by rfl) ?hy9 ?ry9
    case hy9=>
     intro w9 s9;clear s9;go_simp;try (with_reducible rfl)
    simp only[SL];refine eS (i:=10) 20 (v:=?vy10) rfl rfl (by kernel_rfl) (by kernel_rfl) (by kernel_rfl) (fun _ _ _ h=>h) hSd (by rfl) ?hy10 ?ry10
    case hy10=>
     intro w9 s9;clear s9;go_simp;try (with_reducible rfl)
    simp only[SL];refine eS (i:=11) 21 (v:=?vy11) rfl rfl (by kernel_rfl) (by kernel_rfl) (by kernel_rfl) (fun _ _ _ h=>h) hSd (by rfl) ?hy11 ?ry11
    case hy11=>
     intro w9 s9;clear s9;go_simp;try (with_reducible rfl)
    simp only[SL];refine eS (i:=12) 22 (v:=?vy12) rfl rfl (by kernel_rfl) (by kernel_rfl) (by kernel_rfl) (fun _ _ _ h=>h) hSd (by rfl) ?hy12 ?ry12
    case hy12=>
     intro w9 s9;have k9:=(jZ (i:=1) s9).trans HG2.2.1;clear s9;go_simp;try (with_reducible rfl)
    simp only[SL];refine rN (i:=13) rfl (by kernel_rfl) (by rfl) (fun K hK=>?_);have HK:=Hd hK;clear hK;have hyl:=HYL.o;unfold aCP at hyl;go_simp;refine⟨rfl,HRR.mono ?_⟩;rintro e w8 ⟨C8,ho8,(⟨rfl,hj8⟩|⟨rfl,hj8⟩)⟩
    ·have U8:=HUd.round ho8
     have T8:=HTd.frm ho8.1 fun k hk=>⟨fun e=>HUd.cg k hk ((HGG.1 k).2 (.inl e)),fun e=>HUd.cg k hk ((HGG.1 k).2 (.inr (.inl e))),Nat.le_of_not_lt fun e=>HUd.cg k hk ((HGG.1 k).2 (.inr (.inr (.inr (.inr e)))))⟩
     rw[<-HX.2.2.2.2.2.2] at hj8;have S8:MS g wd w8:=ho8.1.block g HG2.2.2 HGC.1;have F8:=(ho8.1.block bf (zl HFd.o) (fun hc=>HUd.cg bf hc ((HGG.1 bf).2 (.inr (.inr (.inr (.inl rfl))))))).trans HFd.o;have HS8:=Hd S8;have HF8:=Hd F8;have HU8:=Hd U8;have HT8:=Hd T8;have HJ8:=Hd hj8;refine HK _ _ S8 ?_;clear HK K hyl HYL HRR hSd HUd HTd U8 T8 ho8 hj8 S8 F8;try simp only[Act.put,SL]
     refine rN (i:=14) rfl (by kernel_rfl) (by rfl) (fun K hK=>?_);have HK:=Hd hK;clear hK;go_simp;refine HK _ _ HS8 ?_;clear HK K;try simp only[Act.put,SL]
     refine rN (i:=15) rfl (by kernel_rfl) (by rfl) (fun K hK=>?_);have HK:=Hd hK;clear hK;go_simp;refine HK _ _ HS8 ?_;clear HK K;try simp only[Act.put,SL]
     refine MM (by kernel_rfl) ?_ _;simp only[pX];have k9:=(jZ (i:=0) HS8.o).trans HG2.1;obtain⟨f9,f8⟩:=aD HF8.o;obtain⟨q',hq'⟩:∃ q',pY xk=q':=⟨_,rfl⟩
     obtain⟨b',hb'⟩:∃ b',jH xk=b':=⟨_,rfl⟩
     have NX:=Hd (fun w=>by have:=XX xk w HX.2.2.1.1 HX.2.2.1.2;unfold EP at this;rw[hq',hb'] at this;exact this);have HQB:=Hd (And.intro hq' hb');clear hq' hb';go_wp2_with fail;refine(NX _).mono ?_;rintro e w9 ⟨rfl,rfl⟩;obtain⟨wz,hwz⟩:∃ wz,w8.setCell ⟨bf,0,none⟩ (.int .u64 q')=wz:=⟨_,rfl⟩
     have fz:Frm (fun k=>k=bf) w8 wz:=by rw[<-hwz];exact eT _
     have Uz:=Hd (HU8.step fz fun k hk=>⟨.inl ((HGG.1 k).2 (.inr (.inr (.inr (.inl hk))))),fun hh=>HN.1.2.2.2.2 (((HGG.2 k).1 hh).symm.trans hk)⟩);have Tz:=Hd (HT8.frm fz fun k hk=>by subst hk;exact⟨HN.1.2.1,HN.1.2.2.2.1,HN.2.2⟩);have Jz:=Hd (hJ _ _ _ _ HJ8 (HU8.on fz fun k hk hc=>HU8.cg k hc ((HGG.1 k).2 (.inr (.inr (.inr (.inl hk)))))));have fzc:wz.heap[bf]?=some (.cells #[.int .u64 q'] 82):=by rw[<-hwz,hss _ _ 0 _ _ _ HF8.o];rfl
     have FZ:=Hd fzc;have HWZ:=Hd hwz
     have QZ:Hid (((b'=true/\bB q' E=Ys.drop (m+1)/\0<=q'/\q'<=18446744073709551615)\/(b'=false/\m+1=Ys.length))/\kyM bf (.bool b') wz<kyM bf (.bool true) wr):=Hd (by
      obtain⟨y1,y2,y3,y4,y5,y6,y7⟩:=HX.o;obtain⟨z1,z2⟩:=HQB.o;rw[HM.o];have cz:=(aD fzc).1
      by_cases hx:xk<lK
      ·have e1:pY xk=xk+1:=by unfold pY;rw[if_pos hx]
       have e2:jH xk=true:=by unfold jH;simp[hx]
       unfold lK at hx;rw[e1] at z1;rw[e2] at z2;subst z1 z2;refine⟨.inl ⟨rfl,by rw[y4,y6],by omega,by omega⟩,?_⟩;simp only[kyM,cz];omega
      ·have e2:jH xk=false:=by unfold jH;simp[hx]
       rw[e2] at z2;subst z2;refine⟨.inr ⟨rfl,?_⟩,?_⟩
       ·have hr:rest=[]:=by
         cases hrr:rest with
         | nil=>rfl
         | cons e r=>
          exfalso
          have h5:=y5 e (by rw[hrr];exact List.mem_cons_self ..)
          have h6:e∈E:=by
           have:e∈bB (xk+1) E:=by rw[y4,hrr];exact List.mem_cons_self ..
           exact(List.mem_filter.1 this).1
          have h7:=(HSK.2.1 e h6).2;unfold lK at hx;omega
        rw[hr] at y6;have:=List.drop_eq_nil_iff.1 y6;omega
       ·simp only[kyM]
        omega)
     clear NX fz fzc HQB HM HU8 HT8 HJ8 HF8 HS8 hwz;have hwz:=HWZ.o;go_wp2_with fail;refine⟨⟨m+1,C8,q',b',rfl,HX.1,Uz,Tz,FZ,Jz,Hd QZ.1⟩,?_⟩;exact QZ.2
    ·have U8:=HUd.round ho8
     have T8:=HTd.frm ho8.1 fun k hk=>⟨fun e=>HUd.cg k hk ((HGG.1 k).2 (.inl e)),fun e=>HUd.cg k hk ((HGG.1 k).2 (.inr (.inl e))),Nat.le_of_not_lt fun e=>HUd.cg k hk ((HGG.1 k).2 (.inr (.inr (.inr (.inr e)))))⟩
     rw[<-HX.2.2.2.2.2.2] at hj8;have S8:MS g wd w8:=ho8.1.block g HG2.2.2 HGC.1;have F8:=(ho8.1.block bf (zl HFd.o) (fun hc=>HUd.cg bf hc ((HGG.1 bf).2 (.inr (.inr (.inr (.inl rfl))))))).trans HFd.o;have HS8:=Hd S8;have HF8:=Hd F8;have HU8:=Hd U8;have HT8:=Hd T8;have HJ8:=Hd hj8;refine HK _ _ S8 ?_;clear HK K hyl HYL HRR hSd HUd HTd U8 T8 ho8 hj8 S8 F8;try simp only[Act.put,SL]
     refine rN (i:=14) rfl (by kernel_rfl) (by rfl) (fun K hK=>?_);have HK:=Hd hK;clear hK;go_simp;refine HK _ _ HS8 ?_;clear HK K;try simp only[Act.put,SL]
     refine rN (i:=15) rfl (by kernel_rfl) (by rfl) (fun K hK=>?_);have HK:=Hd hK;clear hK;go_simp;refine HK _ _ HS8 ?_;clear HK K;try simp only[Act.put,SL]
     refine MM (by kernel_rfl) ?_ _;simp only[pX];go_wp2_with fail;exact aEM (P:=Tryz.prog) rfl hJ hJx HU8 HT8 HTW.o [] (Marks.nil _) (fun D hD=>by cases hD) (.inr ⟨_,List.take_prefix _ _,HJ8.o⟩) rfl
  ·clear HQ
   go_wp2_with fail;refine aEM (P:=Tryz.prog) rfl hJ hJx HUr HTr HTW.o [] (Marks.nil _) (fun D hD=>by cases hD) (.inl ?_) rfl;have:=HJr.o;rwa [List.take_of_length_le (Nat.le_refl _)] at this
theorem jL {w w':World}{a:Nat}{o:Obj}(h:w.alloc o=w')(ha:w.heap.size=a):w'.heap.size=a+1/\w'.heap[a]?=some o/\Below w.heap.size w w':=by
 subst h ha;exact⟨by simp,han _ _,aB _ _⟩
def IB {α:Type}(J:List α->(Nat->Prop)->World->Prop)(Y:List (Nat × Obj))(pre:List α)(D:Nat->Prop)(W:World):Prop:=∃ C2:Nat->Prop,(∀ k,D k ↔ C2 k\/k∈Y.map (·.1))/\J pre C2 W/\∀ p∈Y,W.heap[p.1]?=some p.2/\¬ C2 p.1
theorem IB.on {α:Type}{J:List α->(Nat->Prop)->World->Prop}(hJ:∀ s D A B,J s D A->OnC D A B->J s D B){Y:List (Nat × Obj)}(s:List α)(D:Nat->Prop)(A B:World)(h:IB J Y s D A)(ho:OnC D A B):IB J Y s D B:=by
 obtain⟨C2,h1,h2,h3⟩:=h;exact⟨C2,h1,hJ _ _ _ _ h2 (ho.mono fun k hk=>(h1 k).2 (.inl hk)),fun p hp=>⟨(ho.block p.1 (zl (h3 p hp).1) ((h1 _).2 (.inr (List.mem_map.2 ⟨p,hp,rfl⟩)))).trans (h3 p hp).1,(h3 p hp).2⟩⟩
theorem IB.lt {α:Type}{J:List α->(Nat->Prop)->World->Prop}(hl:∀ s D A,J s D A->∀ k,D k->k<A.heap.size){Y:List (Nat × Obj)}(s:List α)(D:Nat->Prop)(A:World)(h:IB J Y s D A)(k:Nat)(hk:D k):k<A.heap.size:=by
 obtain⟨C2,h1,h2,h3⟩:=h
 rcases(h1 k).1 hk with h5|h5
 ·exact hl _ _ _ h2 k h5
 ·obtain⟨p,hp,rfl⟩:=List.mem_map.1 h5
  exact(zl (h3 p hp).1)
theorem IB.next {α:Type}{J':List α->(Nat->Prop)->World->Prop}{Y:List (Nat × Obj)}{s:List α}{D C2 C3:Nat->Prop}{w w':World}(h1:∀ k,D k ↔ C2 k\/k∈Y.map (·.1))(hy:∀ p∈Y,w.heap[p.1]?=some p.2/\¬ C2 p.1)(ho:Own1 C2 w C3 w')(hj:J' s C3 w'):∃ D',Own1 D w D' w'/\IB J' Y s D' w':=by
 refine⟨fun k=>C3 k\/k∈Y.map (·.1),⟨ho.1.mono fun k hk=>(h1 k).2 (.inl hk),fun k hk=>?_⟩,C3,fun _=>Iff.rfl,hj,fun p hp=>⟨(ho.1.block p.1 (zl (hy p hp).1) (hy p hp).2).trans (hy p hp).1,fun h=>?_⟩⟩
 ·rcases hk with hk|hk
  ·exact(ho.2 k hk).imp (fun h=>(h1 k).2 (.inl h)) id
  ·exact .inl ((h1 _).2 (.inr hk))
 ·rcases ho.2 _ h with h|h
  ·exact(hy p hp).2 h
  ·have:=(zl (hy p hp).1);omega
theorem IB.same {α:Type}{J:List α->(Nat->Prop)->World->Prop}{Y:List (Nat × Obj)}{s:List α}{D C2:Nat->Prop}{w:World}(h1:∀ k,D k ↔ C2 k\/k∈Y.map (·.1))(hy:∀ p∈Y,w.heap[p.1]?=some p.2/\¬ C2 p.1)(hj:J s C2 w):IB J Y s D w:=⟨C2,h1,hj,hy⟩
theorem aEN {α:Type}{P:Program}{fn:Func}{tmps:Array Value}(hres:fn.results=#[]){w0 W w:World}{C C' G F:Nat->Prop}{t d s n:Nat}{E:List Ent}{J Jx:List α->(Nat->Prop)->World->Prop}{Ys:List α}
  (hJ:∀ s D A B,J s D A->OnC D A B->J s D B)(hJx:∀ s D A B,Jx s D A->OnC D A B->Jx s D B)(hfr:Frm (fun k=>C k\/G k) W w)(hcn:∀ k,C' k->C k\/W.heap.size<=k)(hT:TxF w0 F w t d s n E)(hTW:TxF w0 F W t d s n E)(Ds:List Nat)(hm:Marks w Ds)(hD:∀ D∈Ds,W.heap.size<=D/\¬ C' D)(hJJ:J Ys C' w\/∃ pre,pre <+: Ys/\Jx pre C' w){z:Nat}(hz:W.heap.size=z) :
  LeavesInM Fence.wide 0 P fn tmps (fun e W'=>(∃ v,e=.returned v)/\TxF w0 F W' t d s n E/\∃ C',Own1 (fun k=>C k\/G k) W C' W'/\(∀ k,C' k->C k\/z<=k)/\(J Ys C' W'\/∃ pre,pre <+: Ys/\Jx pre C' W')) (Ds.map mkD) .returning w:=by
 subst hz;refine jW Ds w hm fun w' hf=>⟨_,results_none hres _ _ _,⟨_,rfl⟩,hT.frm hf fun k hk=>?_,C',⟨hfr.trans hf fun k hk=>.inr (hD k hk).1,fun k hk=>(hcn k hk).imp .inl id⟩,hcn,?_⟩
 ·have h1:=(hD k hk).1
  have h2:=hTW.lt;have h3:=hTW.from.size;exact⟨fun e=>by have:=h2.1 k e;omega,by omega,by omega⟩
 ·have ho:OnC C' w w':=.of_frm hf fun k hk hd=>(hD k hd).2 hk
  rcases hJJ with h|⟨pre,hp,h⟩
  ·exact .inl (hJ _ _ _ _ h ho)
  ·exact .inr ⟨pre,hp,hJx _ _ _ _ h ho⟩
theorem UO {α:Type}{p:α->Bool}:∀ (K:List α) {e:α},e∈K.takeWhile p->p e=true
 | [],e,h=>by simp at h
 | x::K,e,h=>by
  cases hx:p x with
  | false=>rw[List.takeWhile_cons_of_neg (by simp[hx])] at h;cases h
  | true=>
   rw[List.takeWhile_cons_of_pos hx] at h
   rcases List.mem_cons.1 h with rfl|h
   ·exact hx
   ·exact UO K h
theorem LG {α:Type}{p:α->Bool}{K pre:List α}{x:α}(h:(pre++[x]) <+: K)(hp:pre <+: K.takeWhile p):(p x=true->(pre++[x]) <+: K.takeWhile p)/\(p x=false->K.takeWhile p=pre):=by
 obtain⟨r,rfl⟩:=h
 have hall:∀ e∈pre,p e=true:=fun e he=>by
  have:=hp.subset he;exact UO _ this
 rw[List.append_assoc,List.takeWhile_append_of_pos hall];refine⟨fun hx=>?_,fun hx=>?_⟩
 ·rw[List.singleton_append,List.takeWhile_cons_of_pos hx]
  exact⟨r.takeWhile p,by simp⟩
 ·rw[List.singleton_append,List.takeWhile_cons_of_neg (by simp[hx]),List.append_nil]
theorem wS (w:World)(t:Nat)(fr:Int) :
  () 53 #[t,.int .u64 fr] w fun e w'=>e=.returned (.func (.func 91) #[] #[.pointer (some ⟨w.heap.size,0,none⟩),.pointer (some ⟨w.heap.size+1,0,none⟩)])/\w'.heap[w.heap.size]?=some (.cells #[t] 24)/\w'.heap[w.heap.size+1]?=some (.cells #[.int .u64 fr] 82)/\Below w.heap.size w w'/\w'.heap.size=w.heap.size+2:=by
 obtain⟨x0,hx0⟩:∃ x,w.alloc (.cells #[t] 24)=x:=⟨_,rfl⟩
 obtain⟨x1,hx1⟩:∃ x,x0.alloc (.cells #[.int .u64 fr] 82)=x:=⟨_,rfl⟩
 obtain⟨s0,m0,b0⟩:=jL hx0 rfl;obtain⟨s1,m1,b1⟩:=jL hx1 s0;have FIN:Hid (x1.heap[w.heap.size]?=some (.cells #[t] 24)/\x1.heap[w.heap.size+1]?=some (.cells #[.int .u64 fr] 82)/\Below w.heap.size w x1/\x1.heap.size=w.heap.size+2):=Hd ⟨(b1.block _ (by omega)).trans m0,m1,b0.trans (b1.mono (by omega)),s1⟩;have S0:=Hd s0;clear s0 m0 b0 s1 m1 b1;go_enter Tryz.func53,Tryz.ntmps53;go_wp2_with fail;go_ret;rw[S0.o];exact⟨rfl,FIN.o⟩
structure BoxN (w:World)(t:Nat)(kd fi fr:Int)(b1 b2 b3 b4:Nat):Prop where
 k:w.heap[b1]?=some (.cells #[.int .i64 kd] 3)
 f:w.heap[b2]?=some (.cells #[.int .i64 fi] 3)
 r:w.heap[b3]?=some (.cells #[.int .i64 fr] 3)
 t:w.heap[b4]?=some (.cells #[.pointer (some ⟨t,0,none⟩)] 24)
theorem BoxN.lt {w:World}{t:Nat}{kd fi fr:Int}{b1 b2 b3 b4:Nat}(h:BoxN w t kd fi fr b1 b2 b3 b4):b1<w.heap.size/\b2<w.heap.size/\b3<w.heap.size/\b4<w.heap.size:=⟨(zl h.k),(zl h.f),(zl h.r),(zl h.t)⟩
theorem BoxN.below {w w':World}{t:Nat}{kd fi fr:Int}{b1 b2 b3 b4:Nat}(h:BoxN w t kd fi fr b1 b2 b3 b4)(hb:Below w.heap.size w w'):BoxN w' t kd fi fr b1 b2 b3 b4:=by
 obtain⟨l1,l2,l3,l4⟩:=h.lt;exact⟨(hb.block _ l1).trans h.k,(hb.block _ l2).trans h.f,(hb.block _ l3).trans h.r,(hb.block _ l4).trans h.t⟩
theorem QV (w:World)(t:Nat)(kd fi fr:Int) :
  () 72 #[t,kd,fi,fr] w fun e w'=>e=.returned (.func (.func 105) #[] #[.pointer (some ⟨w.heap.size+1,0,none⟩),.pointer (some ⟨w.heap.size+2,0,none⟩),.pointer (some ⟨w.heap.size+3,0,none⟩),.pointer (some ⟨w.heap.size,0,none⟩)])/\BoxN w' t kd fi fr (w.heap.size+1) (w.heap.size+2) (w.heap.size+3) w.heap.size/\Below w.heap.size w w'/\w'.heap.size=w.heap.size+4:=by
 obtain⟨x0,hx0⟩:∃ x,w.alloc (.cells #[t] 24)=x:=⟨_,rfl⟩
 obtain⟨x1,hx1⟩:∃ x,x0.alloc (.cells #[kd] 3)=x:=⟨_,rfl⟩
 obtain⟨x2,hx2⟩:∃ x,x1.alloc (.cells #[fi] 3)=x:=⟨_,rfl⟩
 obtain⟨x3,hx3⟩:∃ x,x2.alloc (.cells #[fr] 3)=x:=⟨_,rfl⟩
 obtain⟨s0,m0,b0⟩:=jL hx0 rfl;obtain⟨s1,m1,b1⟩:=jL hx1 s0;obtain⟨s2,m2,b2⟩:=jL hx2 s1;obtain⟨s3,m3,b3⟩:=jL hx3 s2
 have FIN:Hid (BoxN x3 t kd fi fr (w.heap.size+1) (w.heap.size+2) (w.heap.size+3) w.heap.size/\Below w.heap.size w x3/\x3.heap.size=w.heap.size+4):=Hd
  ⟨⟨(b3.block _ (by omega)).trans ((b2.block _ (by omega)).trans m1),(b3.block _ (by omega)).trans m2,m3,(b3.block _ (by omega)).trans ((b2.block _ (by omega)).trans ((b1.block _ (by omega)).trans m0))⟩,((b0.trans (b1.mono (by omega))).trans (b2.mono (by omega))).trans (b3.mono (by omega)),s3⟩
 have S0:=Hd (And.intro s0 (And.intro s1 s2));clear s0 m0 b0 s1 m1 b1 s2 m2 b2 s3 m3 b3;go_enter Tryz.func72,Tryz.ntmps72;go_wp2_with fail;go_ret;rw[S0.1,S0.2.1,S0.2.2];exact⟨rfl,FIN.o⟩
def aFW (e:Ent):Array Value:=#[.int .i64 (spB e.1),.string e.2]
def GN (w0:World)(F:Nat->Prop)(t b1 b2 b3 b4:Nat)(k:Nat):Prop:=F k\/k=t\/k=b1\/k=b2\/k=b3\/k=b4\/k<w0.heap.size
section
attribute [local go_sem] Oper.semAt_some
theorem QU {w0 w:World}{F:Nat->Prop}{t d s n b1 b2 b3 b4:Nat}{kd fi fr bg:Int}{E:List Ent}(h:TxF w0 F w t d s n E)(hE:E.length<=600)(hS:kB E)(hK:∀ e∈E,0<=e.1/\e.1<=18446744073709551615)(hb:BoxN w t kd fi fr b1 b2 b3 b4)
  (hn:(¬ F b1/\b1≠t/\w0.heap.size<=b1)/\(¬ F b2/\b2≠t/\w0.heap.size<=b2))(hko:bS kd fi fr=true)(hbg:aE kd fi fr=bg) :
  zJ Tryz.prog 105 #[b1,b2,b3,b4] aFW (GN w0 F t b1 b2 b3 b4) (fun W=>TxF w0 F W t d s n E) ((bB bg E).takeWhile fun e=>mT e.1 kd fi) w:=by
 intro l J Jx W C hW hJ hJx hlt hltx hCG hR h0;have hTW:=h.below hW;have hbW:=hb.below hW;have lW:=hTW.lt;have lb:=hbW.lt;obtain⟨y,hy⟩:∃ y,W.heap.size=y:=⟨_,rfl⟩
 obtain⟨W1,hW1⟩:∃ W1,W.alloc (.cells #[.func (.yield l) #[] #[]] 146)=W1:=⟨_,rfl⟩
 obtain⟨s1,m1,bW1⟩:=jL hW1 hy;have hbW1:=hbW.below bW1;have hT1:=hTW.below bW1;have hbgr:=cG kd fi fr;rw[hbg] at hbgr;have KEY:=Hd (fun w=>by have:=nZ kd fi fr w;rw[hko,hbg] at this;exact this);have c1:=(aD hbW1.k).1;have c2:=(aD hbW1.f).1;have c3:=(aD hbW1.r).1;have c4:=(aD hbW1.t).1;obtain⟨Ks,hKs⟩:∃ Ks,bB bg E=Ks:=⟨_,rfl⟩
 obtain⟨Ys,hYs⟩:∃ Ys,Ks.takeWhile (fun e=>mT e.1 kd fi)=Ys:=⟨_,rfl⟩
 rw[hKs,hYs] at hR |-;have HYS:=Hd (And.intro hKs hYs);have HN:=Hd hn;have HSK:=Hd (And.intro hS (And.intro hK (And.intro hE hbgr)));have HBW:=Hd hbW1;have HT1:=Hd hT1;have HTW:=Hd hTW;have HLB:=Hd (And.intro lW lb);have HM1:=Hd (And.intro s1 (And.intro m1 bW1));have HSZ:=Hd hy;have J1:=Hd (hJ _ _ _ _ h0 (.of_frm (G:=fun _=>False) (Frm.of_below bW1) fun _ _ h=>h));have HC0:Hid (∀ k,C k->k<y):=Hd fun k hk=>by have:=hlt _ _ _ h0 k hk;omega
 have HCG:=Hd hCG;clear h hE hS hK hb hn hko hbg hTW hbW lW lb s1 m1 bW1 hbW1 hT1 hbgr hKs hYs hW h0 hCG;refine(callsIn_wide (n:=0)).1 (callsIn_of_wp_marks (F:=Fence.wide) (n:=0) Tryz.func105 rfl trivial (wpIn_wide.2 ?_) rfl);simp only[Tryz.ntmps105,List.size_toArray,List.length_cons,List.length_nil,Nat.reduceAdd,Nat.reduceSub,Array.replicate_succ,Array.replicate_zero,List.push_toArray,List.append_toArray,List.nil_append,List.cons_append];rw[hy];clear hy;go_upto_region 1 with fail
 try rw[hW1]
 clear hW1;go_wp2_with fail;refine(KEY _).mono ?_;rintro e w2 ⟨rfl,rfl⟩;clear KEY c1 c2 c3;go_wp2_with fail;refine(wS _ t bg).mono ?_;rintro e w3 ⟨rfl,m2,m3,q3,s3⟩;rw[HM1.1] at m2 m3 q3 s3 |-;clear c4;go_wp2_with fail;have hm1:=HM1.o;have hT3:=HT1.below (by rw[hm1.1];exact q3);have hbN:=HBW.below (by rw[hm1.1];exact q3);have my:w3.heap[y]?=some (.cells #[.func (.yield l) #[] #[]] 146):=(q3.block y (by omega)).trans hm1.2.1;have lF:=hT3.lt;have lW:=HLB.1;have lb:=HLB.2;have hSZ:=HSZ.o;have hnn:=HN.o
 have hit:=wR hT3 HSK.2.2.1 HSK.1 HSK.2.1 HSK.2.2.2 m2 m3 ⟨fun h=>by have:=lW.1 _ h;omega,fun h=>by have:=lW.1 _ h;omega,by omega,by omega,by omega⟩ ⟨by have:=HTW.from.size;omega,by have:=HTW.from.size;omega⟩;rw[HYS.1] at hit;obtain⟨Y,hY⟩:∃ Y:List (Nat × Obj),Y=[(y,.cells #[.func (.yield l) #[] #[]] 146),(b1,.cells #[kd] 3),(b2,.cells #[fi] 3)]:=⟨_,rfl⟩
 have gY:∀ k,k∈Y.map (·.1) ↔ k=y\/k=b1\/k=b2:=fun k=>by rw[hY];simp
 have yY:(y,Obj.cells #[.func (.yield l) #[] #[]] 146)∈Y:=by rw[hY];simp
 have yK:(b1,Obj.cells #[kd] 3)∈Y:=by rw[hY];simp
 have yF:(b2,Obj.cells #[fi] 3)∈Y:=by rw[hY];simp
 have hJ3:=hJ _ _ _ _ J1 (.of_frm (G:=fun _=>False) (Frm.of_below (by rw[hm1.1];exact q3)) fun _ _ h=>h)
 have hnC:∀ k,k=y\/k=b1\/k=b2->¬ C k:=fun k hk hc=>by
  rcases hk with rfl|rfl|rfl
  ·have:=HC0 _ hc;omega
  ·exact HCG _ hc (.inr (.inr (.inl rfl)))
  ·exact HCG _ hc (.inr (.inr (.inr (.inl rfl))))
 have hY3:∀ p∈Y,w3.heap[p.1]?=some p.2/\¬ C p.1:=fun p hp=>by
  refine⟨?_,hnC _ ((gY _).1 (List.mem_map.2 ⟨p,hp,rfl⟩))⟩;rw[hY] at hp;simp only[List.mem_cons,List.not_mem_nil,or_false] at hp
  rcases hp with rfl|rfl|rfl
  ·exact my
  ·exact hbN.k
  ·exact hbN.f
 clear hY;have f13:Frm (fun _=>False) W w3:=(Frm.of_below (hm1.2.2)).trans (G:=fun _=>False) (Frm.of_below (by rw[hm1.1];exact q3)) fun _ h=>h.elim
 have AFT:∀ (D:Nat) (C' C2:Nat->Prop) (Wz:World),w3.heap.size<=D->(∀ k,C' k ↔ C2 k\/k∈Y.map (·.1))->(∀ p∈Y,Wz.heap[p.1]?=some p.2/\¬ C2 p.1)->Frm (fun k=>(C k\/k∈Y.map (·.1))\/GK w0 F t (y+1) (y+1+1) k) w3 Wz->(∀ k,C' k->(C k\/k∈Y.map (·.1))\/w3.heap.size<=k)->¬ C' D->Wz.heap[D]?=some (.deferred (some []))->Frm (fun k=>C k\/GN w0 F t b1 b2 b3 b4 k) W Wz/\(∀ k,C2 k->C k\/W.heap.size<=k)/\Marks Wz [D]/\∀ D'∈[D],W.heap.size<=D'/\¬ C2 D':=by
  intro D C' C2 Wz hDz hDi hy2 hfr hC' hnD hdef;refine⟨(f13.mono fun _ h=>h.elim).trans hfr fun k hk=>?_,fun k hk=>?_,(Marks.nil Wz).cons (by simp) hdef,fun D' hD'=>?_⟩
  ·rcases hk with(hk|hk)|hk
   ·exact .inl (.inl hk)
   ·rcases(gY k).1 hk with rfl|rfl|rfl
    ·exact .inr (by omega)
    ·exact .inl (.inr (.inr (.inr (.inl rfl))))
    ·exact .inl (.inr (.inr (.inr (.inr (.inl rfl)))))
   ·rcases hk with hk|rfl|rfl|rfl|hk
    ·exact .inl (.inr (.inl hk))
    ·exact .inl (.inr (.inr (.inl rfl)))
    ·exact .inr (by omega)
    ·exact .inr (by omega)
    ·exact .inl (.inr (.inr (.inr (.inr (.inr (.inr (.inr hk)))))))
  ·rcases hC' k ((hDi k).2 (.inl hk)) with(h1|h1)|h1
   ·exact .inl h1
   ·obtain⟨p,hp,rfl⟩:=List.mem_map.1 h1
    exact absurd hk (hy2 p hp).2
   ·exact .inr (by omega)
  ·obtain rfl:=List.mem_singleton.1 hD'
   exact⟨by omega,fun hx=>hnD ((hDi _).2 (.inl hx))⟩
 refine(wpIn_wide (n:=0)).1 (tK rfl (enters_of Tryz.func91 (by kernel_rfl) rfl) hit (fun Wz lz o hz hv=>?_) (fun k hk=>?_) (by intro _;rfl) (fun k=>C k\/k∈Y.map (·.1)) (fun k hk hg=>?_) (fun pre D Wz=>pre <+: Ys/\IB J Y pre D Wz) (fun c pre D Wz=>c=.ret/\((pre <+: Ys/\IB Jx Y pre D Wz)\/IB J Y Ys D Wz)) (fun s D A B hh ho=>⟨hh.1,IB.on hJ s D A B hh.2 ho⟩) (fun c s D A B hh ho=>⟨hh.1,hh.2.imp (fun g=>⟨g.1,IB.on hJx s D A B g.2 ho⟩) (fun g=>IB.on hJ _ D A B g ho)⟩) (fun s D A hh=>IB.lt hlt s D A hh.2) (fun c s D A hh=>hh.2.elim (fun g=>IB.lt hltx s D A g.2) (fun g=>IB.lt hlt _ D A g)) ⟨List.nil_prefix,C,fun _=>Iff.rfl,hJ3,hY3⟩ ?_ ?_ ?_)
 ·exact hv.frm (cQ Wz lz o) fun k hk=>by subst hk;exact⟨fun e=>by have:=lF.1 _ e;omega,by omega,by have:=hT3.from.size;omega⟩
 ·rcases hk with hk|rfl|rfl|rfl|hk
  ·exact lF.1 _ hk
  ·exact lF.2.1
  ·omega
  ·omega
  ·have:=hT3.from.size;omega
 ·have h1:¬ F y/\y≠t/\w0.heap.size<=y:=⟨fun e=>by have:=lW.1 _ e;omega,by omega,by have:=HTW.from.size;omega⟩
  rcases hk with hk|hk
  ·rcases hg with hg|rfl|rfl|rfl|hg
   ·exact HCG _ hk (.inl hg)
   ·exact HCG _ hk (.inr (.inl rfl))
   ·have:=HC0 _ hk;omega
   ·have:=HC0 _ hk;omega
   ·exact HCG _ hk (.inr (.inr (.inr (.inr (.inr (.inr hg))))))
  ·rcases(gY k).1 hk with rfl|rfl|rfl
   ·rcases hg with hg|hg|hg|hg|hg
    ·exact h1.1 hg
    ·exact h1.2.1 hg
    ·omega
    ·omega
    ·omega
   ·rcases hg with hg|hg|hg|hg|hg
    ·exact hnn.1.1 hg
    ·exact hnn.1.2.1 hg
    ·omega
    ·omega
    ·omega
   ·rcases hg with hg|hg|hg|hg|hg
    ·exact hnn.2.1 hg
    ·exact hnn.2.2.1 hg
    ·omega
    ·omega
    ·omega
 ·intro l' pre x D Wz hpre hI hD hz hnl hll
  obtain⟨xk,xv⟩:=x
  have hxE:(xk,xv)∈E:=by
   have h1:(xk,xv)∈Ks:=hpre.subset (by simp);rw[<-HYS.1] at h1;exact(List.mem_filter.1 h1).1
  have hxr:=HSK.2.1 _ hxE;have hTW2:=LG (p:=fun e:Ent=>mT e.1 kd fi) hpre (by rw[HYS.2];exact hI.1);rw[HYS.2] at hTW2;unfold aCP;gi_wp2;refine⟨Br,fun Wb hfb hIb=>?_⟩;obtain⟨C2,hDi,hjb,hyY⟩:IB J Y pre D Wb:=by first|exact hIb.2|exact hIb
  have k1:=(aD (hyY _ yK).1).1;have k2:=(aD (hyY _ yF).1).1;have k0:=(aD (hyY _ yY).1).1;have SP:=Hd (qS xk Wb hxr.1 hxr.2);obtain⟨ib,hib⟩:∃ ib,mT xk kd fi=ib:=⟨_,rfl⟩
  have IK:=Hd (by have:=aEE xk kd fi Wb hxr.1 hxr.2;rw[hib] at this;exact this);have HXR:=Hd hxr;have HT2:=Hd hTW2;have HIB:=Hd hib;clear hxr hTW2 hib hxE
  cases ib
  ·gi_wp2_with fail
   refine⟨trivial,rfl,?_⟩;refine(CallsIn.inRound l' (callsIn_wide.2 SP.o)).mono ?_;rintro e w8 ⟨rfl,rfl⟩
   gi_wp2_with fail
   refine⟨trivial,rfl,?_⟩;refine(CallsIn.inRound l' (callsIn_wide.2 IK.o)).mono ?_;rintro e w8 ⟨rfl,rfl⟩
   gi_wp2_with fail
   refine⟨fun _ h=>(by cases h),?_⟩
   gi_wp2_with fail
   have e1:=HT2.2 HIB.o;exact⟨D,Own1.refl _ _,rfl,.inr (by rw[e1];exact IB.same hDi hyY hjb)⟩
  ·have hp2:=HT2.1 HIB.o
   obtain⟨fn2,tmps2,assign2,body2,hyl2,hRR2⟩:=hR pre (xk,xv) C2 Wb hp2 hjb;unfold aFW at hyl2
   gi_wp2_with fail
   refine⟨trivial,rfl,?_⟩;refine(CallsIn.inRound l' (callsIn_wide.2 SP.o)).mono ?_;rintro e w8 ⟨rfl,rfl⟩
   gi_wp2_with fail
   refine⟨trivial,rfl,?_⟩;refine(CallsIn.inRound l' (callsIn_wide.2 IK.o)).mono ?_;rintro e w8 ⟨rfl,rfl⟩
   gi_wp2_with fail
   refine⟨rfl,?_⟩;refine hRR2.mono ?_;rintro e w8 ⟨C8,ho8,(⟨rfl,hj8⟩|⟨rfl,hj8⟩)⟩
   ·gi_wp2
    obtain⟨D',hD1,hD2⟩:=IB.next hDi hyY ho8 hj8;exact⟨D',hD1,hp2,hD2⟩
   ·gi_wp2
    obtain⟨D',hD1,hD2⟩:=IB.next hDi hyY ho8 hj8;exact⟨D',hD1,rfl,.inl ⟨hp2,hD2⟩⟩
 ·intro D C' Wz hDz hI hV hfr hC' hnD hdef
  obtain⟨hpY,C2,hDi,hj2,hy2⟩:=hI;obtain⟨g1,g2,g3,g4⟩:=AFT D C' C2 Wz hDz hDi hy2 hfr hC' hnD hdef
  have hYK:Ys=Ks:=by
   have h1:Ys <+: Ks:=by rw[<-HYS.2];exact List.takeWhile_prefix _
   exact h1.eq_of_length (Nat.le_antisymm h1.length_le hpY.length_le)
  have HJ9:Hid (J Ys C2 Wz):=Hd (hYK ▸ hj2);clear hit hfr hC' hDi hYK hj2 hpY;go_wp2_with fail;exact aEN (P:=Tryz.prog) (Ys:=Ys) rfl hJ hJx g1 g2 hV HTW.o [D] g3 g4 (.inl HJ9.o) HSZ.o
 ·rintro D c pre C' Wz hDz hpre ⟨rfl,hI⟩ hV hfr hC' hnD hdef
  refine wpIn_wide.2 ?_
  rcases hI with⟨hpY,C2,hDi,hj2,hy2⟩|⟨C2,hDi,hj2,hy2⟩
  ·obtain⟨g1,g2,g3,g4⟩:=AFT D C' C2 Wz hDz hDi hy2 hfr hC' hnD hdef
   go_wp2_with fail;exact aEN (P:=Tryz.prog) (Ys:=Ys) rfl hJ hJx g1 g2 hV HTW.o [D] g3 g4 (.inr ⟨pre,hpY,hj2⟩) HSZ.o
  ·obtain⟨g1,g2,g3,g4⟩:=AFT D C' C2 Wz hDz hDi hy2 hfr hC' hnD hdef
   go_wp2_with fail;exact aEN (P:=Tryz.prog) (Ys:=Ys) rfl hJ hJx g1 g2 hV HTW.o [D] g3 g4 (.inl hj2) HSZ.o
end
theorem AV {P:Program}{fn:Func}{p q:Tmp}{ty tz:TypeId}(h:fn.results=#[.cell p ty,.cell q tz])(tmps:Array Value)(w:World)(a b:Option Addr)(v u:Value)
  (hp:tmps.getD p undef=.pointer a)(hq:tmps.getD q undef=.pointer b)
  (h1:((asAddr (.pointer a)).run P w).andThen (fun a w₁=>(loadVar ty a).run P w₁)=.ok v w)(h2:((asAddr (.pointer b)).run P w).andThen (fun a w₁=>(loadVar tz a).run P w₁)=.ok u w) :
  (results fn tmps).run P w=.ok (.tuple #[v,u]) w:=by
 have e:(results fn tmps).run P w=(((asAddr (tmps.getD p undef)).run P w).andThen fun a w₁=>(loadVar ty a).run P w₁).andThen fun v w₂=>(((asAddr (tmps.getD q undef)).run P w₂).andThen fun a w₁=>(loadVar tz a).run P w₁).andThen fun u w₃=>.ok (.tuple #[v,u]) w₃:=by
  simp only[results,h];simp[Sem.run_bind,Result.andThen];generalize Sem.run P (asAddr (tmps[p]?.getD undef)) w=r
  cases r with
  | ok a w1=>
   dsimp only
   generalize Sem.run P (loadVar ty a) w1=r2
   cases r2 with
   | ok v1 w2=>
    dsimp only
    generalize Sem.run P (asAddr (tmps[q]?.getD undef)) w2=r3
    cases r3 with
    | ok b w3=>
     dsimp only
    | halt x w1=>rfl
   | halt x w1=>rfl
  | halt x w1=>rfl
 rw[e,hp,h1]
 show(((asAddr (tmps.getD q undef)).run P w).andThen fun a w₁=>(loadVar tz a).run P w₁).andThen _=_
 rw[hq,h2]
 rfl
theorem YB {ty:TypeId}{d:TypeDesc}(hd:(match d with|.struct _|.array _ _=>true|_=>false)=false)(hu:Tryz.prog.underlying ty=some d){w:World}{g:Nat}{v:Value}(h:w.cell? ⟨g,0,none⟩=some v) :
  ((asAddr (.pointer (some ⟨g,0,none⟩))).run Tryz.prog w).andThen (fun a w₁=>(loadVar ty a).run Tryz.prog w₁)=.ok v w:=by
 have hagg:(isAgg ty).run Tryz.prog w=.ok false w:=by
  unfold isAgg;rw[Sem.run_bind,run_underlying hu w]
  cases d <;> first|rfl|(simp at hd)
 simp[asAddr,loadVar,Sem.run_bind,hagg,Result.andThen,h]
theorem tso {w0 w W4 Wz:World}{F G:Nat->Prop}{R Cb Rb:List Nat}{t d s n D:Nat}{E:List Ent}
  (hl:(∀ k∈R,k<w.heap.size)/\t<w.heap.size)(f0:Below w0.heap.size w0 w)(hnF:∀ k∈R,¬ F k)(hFl:∀ k,F k->k<w.heap.size)
  (q:Below w.heap.size w W4)(hCb:∀ k∈Cb,w.heap.size<=k/\k<W4.heap.size)(hRb:∀ k∈Rb,Wz.heap[k]?=w.heap[k]?)
  (hV:TxF w0 F Wz t d s n E)(hfr:Frm (fun k=>(k∈Cb\/k∈Rb)\/G k) W4 Wz)(hG:∀ k,G k->F k\/k=t\/k<w0.heap.size\/w.heap.size<=k)
  (hD:W4.heap.size<=D)(hdef:D<Wz.heap.size):TxS w0 (D::(Cb++R)) Wz t d s n E/\KeptT R t w Wz:=by
 have qs:=q.size;have hz:=hfr.size;refine⟨hV.hide fun k hk=>?_,fun k hk hn=>?_⟩
 ·rcases List.mem_cons.1 hk with rfl|hk
  ·exact⟨hdef,fun e=>by have:=hFl _ e;omega⟩
  ·rcases List.mem_append.1 hk with hk|hk
   ·have:=hCb k hk
    exact⟨by omega,fun e=>by have:=hFl _ e;omega⟩
   ·exact⟨by have:=hl.1 k hk;omega,hnF k hk⟩
 ·have hkw:=hl.1 k hk
  by_cases hkb:k∈Rb
  ·exact hRb k hkb
  ·by_cases hk0:k<w0.heap.size
   ·exact(hV.from.block k hk0).trans (f0.block k hk0).symm
   ·refine(hfr.block k (by omega) ?_).trans (q.block k hkw)
    rintro((h|h)|h)
    ·have:=hCb k h;omega
    ·exact hkb h
    ·rcases hG k h with h|h|h|h
     ·exact hnF k hk h
     ·exact hn h
     ·exact hk0 h
     ·omega
theorem rX {P:Program}{fn:Func}{p q:Tmp}{ty tz:TypeId}(h:fn.results=#[.cell p ty,.cell q tz])(tmps:Array Value)(w:World)(g:Nat)(t:TypeId)(cs:Array Value)(fr:Nat × Nat)(d:TypeDesc)(b:Option Addr)(u:Value)
  (hp:tmps.getD p undef=.pointer (some ⟨g,0,none⟩))(hg:w.heap[g]?=some (.cells cs t fr))(hu:P.underlying ty=some d)(hd:(match d with|.struct _|.array _ _=>true|_=>false)=true)(hi:(P.info? ty).map (·.size)=some cs.size)
  (hq:tmps.getD q undef=.pointer b)(h2:((asAddr (.pointer b)).run P w).andThen (fun a w₁=>(loadVar tz a).run P w₁)=.ok u w) :
  (results fn tmps).run P w=.ok (.tuple #[.agg cs,u]) w:=
 AV h tmps w (some ⟨g,0,none⟩) b (.agg cs) u hp hq (by simp[asAddr,run_loadVar_row w g t ty cs fr d hg hu hd hi,Result.andThen]) h2
def NmI (n0 nf:Nat)(f:ByteArray)(os:List dU)(pre:List Ent)(D:Nat->Prop)(W:World):Prop:=(∀ k,D k ↔ k∈[n0,n0+1,nf]\/k∈([]:List Nat))/\W.heap[n0]?=some (.cells #[(0:Int),.string ⟨#[]⟩,(0:Int),(0:Int)] 54)/\W.heap[n0+1]?=some (.cells #[(0:Int)] 26)/\W.heap[nf]?=some (.cells #[f] 9)/\∀ (j:Nat) (q:dU),j<pre.length->os[j]?=some q->q.nm≠f
theorem NmI.on {n0 nf:Nat}{f:ByteArray}{os:List dU}(pre:List Ent)(D:Nat->Prop)(A B:World)(h:NmI n0 nf f os pre D A)(ho:OnC D A B):NmI n0 nf f os pre D B:=by
 obtain⟨h1,h2,h3,h4,h5⟩:=h;have lt:∀ {k:Nat} {o:Obj},A.heap[k]?=some o->k<A.heap.size:=fun h=>(zl h)
 exact⟨h1,(ho.block _ (lt h2) ((h1 _).2 (by simp))).trans h2,(ho.block _ (lt h3) ((h1 _).2 (by simp))).trans h3,(ho.block _ (lt h4) ((h1 _).2 (by simp))).trans h4,h5⟩
theorem NmI.lt {n0 nf:Nat}{f:ByteArray}{os:List dU}(pre:List Ent)(D:Nat->Prop)(A:World)(h:NmI n0 nf f os pre D A)(k:Nat)(hk:D k):k<A.heap.size:=by
 obtain⟨h1,h2,h3,h4,h5⟩:=h;have hk':=(h1 k).1 hk;simp only[List.mem_cons,List.not_mem_nil,or_false] at hk'
 rcases hk' with rfl|rfl|rfl
 ·exact(zl h2)
 ·exact(zl h3)
 ·exact(zl h4)
section
attribute [local go_sem] Oper.semAt_some
end
theorem aC5 {w0 w:World}{R:List Nat}{t d s:Nat}{E:List Ent}{pa ob oi ri ba de ex li ha hb v id:Int}{nm X:ByteArray}(h:TxS w0 R w t d s 640 E)(hE:E.length<=290)(hn:NumE E 10376293541461622785 v)(hv:v<16777215)(hid:v+1=id)(hq:ha<li)(hhb:ha+1=hb)(hl:0<=ha/\li<=1000)(hc:fV id ⟨pa,ob,oi,ri,ba,de,ex,0,false⟩)(ho:gX oi ⟨nm,li,hb⟩)(hX:Str (aK id 3)=X) :
  () 34 #[t,.agg #[(0:Int),pa,ob,(0:Int),ri,ba,de,ex,(0:Int),false],.agg #[oi,nm,li,ha]] w fun e w'=>e=.returned (.tuple #[id,(0:Int)])/\TxS w0 R w' t d s 640 (qP E id ⟨pa,ob,oi,ri,ba,de,ex,0,false⟩ oi ⟨nm,li,hb⟩)/\KeptT R t w w':=by
 obtain⟨a1,a2,a3,a4,a5,a6,a7⟩:=h.box (.cells #[(0:Int),pa,ob,(0:Int),ri,ba,de,ex,(0:Int),false] 65);obtain⟨bc,hbc⟩:∃ b,w.heap.size=b:=⟨_,rfl⟩
 obtain⟨x1,hx1⟩:∃ x,w.alloc (.cells #[(0:Int),pa,ob,(0:Int),ri,ba,de,ex,(0:Int),false] 65)=x:=⟨_,rfl⟩
 rw[hx1] at a1 a2 a3 a5;rw[hbc] at a1 a3 a4 a5 a6 a7;obtain⟨b1,b2,b3,b4,b5,b6,b7⟩:=a1.box (.cells #[oi,nm,li,ha] 54);obtain⟨bo,hbo⟩:∃ b,x1.heap.size=b:=⟨_,rfl⟩
 obtain⟨x2,hx2⟩:∃ x,x1.alloc (.cells #[oi,nm,li,ha] 54)=x:=⟨_,rfl⟩
 rw[hx2] at b1 b2 b3 b5;rw[hbo] at b1 b3 b4 b5 b6 b7;have mc:=(b2 bc (by simp) a4).trans a3;have NU:=Hd (MN b1 (show E.length<=600 by omega) (m:=1) ⟨by decide,by decide⟩ hn hv hid);have HX:=Hd (And.intro hx1 (And.intro hbc (And.intro hx2 (show bc+1=bo from a5.symm.trans hbo))));have HK:=Hd (a2.trans (b2.sub (R':=R) fun k hk=>by simp[hk]));have HB:=Hd (And.intro mc (And.intro b3 (And.intro a4 (And.intro b4 (And.intro a6 (And.intro b6 (show bo≠bc from fun e=>b7 bc (by simp) e.symm)))))));have e1:¬ li<=ha:=by omega
 have e2:IntKind.i64.wrap (ha+1)=hb:=by rw[hhb];exact IntWalk.i64_in _ (by omega)
 obtain⟨⟨y0,y1,y2,y3⟩,_⟩:=fQ b3;have hrid:=ED hc;have HN:Hid (E.length<=290/\(0<=id/\id<=16777215)/\Str (aK id 3)=X):=Hd ⟨hE,by omega,hX⟩;have HC:=Hd (And.intro hc ho);have HRK:=Hd (show(∀ k∈R,k≠bc)/\∀ k∈R,k≠bo from⟨a7,fun k hk=>b7 k (by simp[hk])⟩);clear h hE hn hv hid hq hhb hl hc ho hX a1 a2 a3 a4 a5 a6 a7 b1 b2 b3 b4 b5 b6 b7 mc hx1 hx2 hrid hbc hbo;go_enter Tryz.func34,Tryz.ntmps34;go_upto_region 1 with fail
 rw[HX.1,HX.2.1,HX.2.2.1,HX.2.2.2];go_wp2_with fail;refine NU.mono ?_;rintro e w3 ⟨rfl,h1,h2⟩;have m3:=(h2 bc (by simp) HB.2.2.1).trans HB.1;have m4:=(h2 bo (by simp) HB.2.2.2.1).trans HB.2.1;have T3:=Hd (And.intro h1 (And.intro (HK.trans (h2.sub (R':=R) fun k hk=>by simp[hk])) (And.intro m3 m4)));clear h1 h2 NU y0 y1 y2 y3;obtain⟨⟨y0,y1,y2,y3⟩,_⟩:=fQ m4;obtain⟨⟨c0,c1,c2,c3,c4,c5,c6,c7,c8,c9⟩,f0,f1,f2,f3,f4,f5,f6,f7,f8,f9⟩:=dC m3;clear m3 m4;go_upto_region 6 with fail
 go_cut [] from 10 (fun wx=>Hid (TxS w0 (bo::bc::R) wx t d s 640 E/\KeptT R t w wx/\wx.heap[bc]?=some (.cells #[id,pa,ob,oi,ri,ba,de,ex,(0:Int),false] 65)/\wx.heap[bo]?=some (.cells #[oi,nm,li,ha] 54)))
 case first=>
  have SA:Hid (∀ wx:World,(wx.heap=((w3.setCell ⟨bc,0,none⟩ (.int .i64 id)).setCell ⟨bc,3,none⟩ (.int .i64 oi)).heap\/wx.heap=((w3.setCell ⟨bc,3,none⟩ (.int .i64 oi)).setCell ⟨bc,0,none⟩ (.int .i64 id)).heap)->Frm (fun k=>k=bc) w3 wx->Hid (TxS w0 (bo::bc::R) wx t d s 640 E/\KeptT R t w wx/\wx.heap[bc]?=some (.cells #[id,pa,ob,oi,ri,ba,de,ex,(0:Int),false] 65)/\wx.heap[bo]?=some (.cells #[oi,nm,li,ha] 54))):=Hd fun wx hw f=>Hd ⟨T3.1.turn (k:=bc) (by simp) HB.2.2.1 HB.2.2.2.2.1 f,fun k hk hn=>(f.block k (T3.1.lt.1 k (by simp[hk])) (HRK.1 k hk)).trans (T3.2.1 k hk hn),by
   rcases hw with e|e
   ·rw[e,hss _ _ 3 _ _ _ (hss _ _ 0 _ _ _ T3.2.2.1)];rfl
   ·rw[e,hss _ _ 0 _ _ _ (hss _ _ 3 _ _ _ T3.2.2.1)];rfl,(f.block bo (T3.1.lt.1 bo (by simp)) HB.2.2.2.2.2.2).trans T3.2.2.2⟩
  have m4:=T3.2.2.2;have m3:=T3.2.2.1;have nbc:=HB.2.2.2.2.2.2;obtain⟨⟨p0,_⟩,_⟩:=fQ (show(w3.setCell ⟨bc,0,none⟩ (.int .i64 id)).heap[bo]?=some (.cells #[oi,nm,li,ha] 54) from(heap_setCell_other _ _ _ _ nbc).trans m4)
  obtain⟨⟨r0,r1,r2,r3,r4,r5,r6,r7,r8,r9⟩,s0,s1,s2,s3,s4,s5,s6,s7,s8,s9⟩:=dC (show(w3.setCell ⟨bc,0,none⟩ (.int .i64 id)).heap[bc]?=some (.cells #[id,pa,ob,(0:Int),ri,ba,de,ex,(0:Int),false] 65) by rw[hss _ _ 0 _ _ _ m3];rfl)
  obtain⟨⟨u0,u1,u2,u3,u4,u5,u6,u7,u8,u9⟩,v0,v1,v2,v3,v4,v5,v6,v7,v8,v9⟩:=dC (show(w3.setCell ⟨bc,3,none⟩ (.int .i64 oi)).heap[bc]?=some (.cells #[(0:Int),pa,ob,oi,ri,ba,de,ex,(0:Int),false] 65) by rw[hss _ _ 3 _ _ _ m3];rfl);clear m3 m4
  go_region
  all_goals
   go_wp2_with fail
   go_meet
   first|exact SA _ (.inl rfl) (((Frm.refl (fun k=>k=bc) w3).setCell _ _ (.inl rfl)).setCell _ _ (.inl rfl)).drew|exact SA _ (.inr rfl) (((Frm.refl (fun k=>k=bc) w3).setCell _ _ (.inl rfl)).setCell _ _ (.inl rfl)).drew
 case rest=>
  have HW:=hcut;clear hcut T3 HK y0 y1 y2 y3 c0 c1 c2 c3 c4 c5 c6 c7 c8 c9 f0 f1 f2 f3 f4 f5 f6 f7 f8 f9;have m4:=HW.2.2.2;obtain⟨⟨y0,y1,y2,y3⟩,f0,f1,f2,f3⟩:=fQ m4;obtain⟨wy,hwy⟩:∃ wy,wc.setCell ⟨bo,3,none⟩ (.int .i64 hb)=wy:=⟨_,rfl⟩
  have f7:Frm (fun k=>k=bo) wc wy:=by rw[<-hwy];exact(Frm.refl _ wc).setCell _ _ (.inl rfl)
  have o7:wy.heap[bo]?=some (.cells #[oi,nm,li,hb] 54):=by rw[<-hwy,hss _ _ 3 _ _ _ m4];rfl
  have t7:=HW.1.turn (k:=bo) (by simp) HB.2.2.2.1 HB.2.2.2.2.2.1 f7;have c7:=(f7.block bc (HW.1.lt.1 bc (by simp)) (Ne.symm HB.2.2.2.2.2.2)).trans HW.2.2.1;have k7:KeptT R t w wy:=fun k hk hn=>(f7.block k (HW.1.lt.1 k (by simp[hk])) (HRK.2 k hk)).trans (HW.2.1 k hk hn)
  have HY:=Hd hwy;have T7:=Hd (And.intro t7 (And.intro k7 (And.intro c7 o7)));have GV:=Hd (DZ t7 (show E.length<=300 by have:=HN.1;omega) (m:=1) rfl HN.2.1 HN.2.2);clear m4 f7 o7 t7 c7 k7 hwy HW;go_upto_region 8 with fail
  rw[HY.o];clear y0 y1 y2 y3 f0 f1 f2 f3;go_wp2_with fail;refine GV.mono ?_;rintro e w8 ⟨rfl,h1,h2⟩;have mc:=(h2 bc (by simp) HB.2.2.1).trans T7.2.2.1;have mo:=(h2 bo (by simp) HB.2.2.2.1).trans T7.2.2.2;have PC:=Hd (ZP (c:=⟨pa,ob,oi,ri,ba,de,ex,0,false⟩) h1 (show(aY (aE 9 0 1) X E).length<=300 by have:=bM (aE 9 0 1) X E;have:=HN.1;omega) HC.1 rfl (rfl:aE 1 0 id=aE 1 0 id));have T8:=Hd (And.intro (T7.2.1.trans (h2.sub (R':=R) fun k hk=>by simp[hk])) (And.intro mc mo))
  obtain⟨⟨c0,c1,c2,c3,c4,c5,c6,c7,c8,c9⟩,_⟩:=dC mc;clear h1 h2 mc mo GV;go_wp2_with fail;refine PC.mono ?_;rintro e w9 ⟨rfl,h1,h2⟩;have mc:=(h2 bc (by simp) HB.2.2.1).trans T8.2.1;have mo:=(h2 bo (by simp) HB.2.2.2.1).trans T8.2.2
  have PO:=Hd (DR (p:=⟨nm,li,hb⟩) h1 (show(aY (aE 1 0 id) (dH ⟨pa,ob,oi,ri,ba,de,ex,0,false⟩) (aY (aE 9 0 1) X E)).length<=300 by have l1:=bM (aE 9 0 1) X E;have l2:=bM (aE 1 0 id) (dH ⟨pa,ob,oi,ri,ba,de,ex,0,false⟩) (aY (aE 9 0 1) X E);have l3:=bM (aE 3 0 oi) (fZ ⟨nm,li,hb⟩) (aY (aE 1 0 id) (dH ⟨pa,ob,oi,ri,ba,de,ex,0,false⟩) (aY (aE 9 0 1) X E));have l4:=bM (aE 5 ex id) ⟨#[]⟩ (aY (aE 3 0 oi) (fZ ⟨nm,li,hb⟩) (aY (aE 1 0 id) (dH ⟨pa,ob,oi,ri,ba,de,ex,0,false⟩) (aY (aE 9 0 1) X E)));have:=HN.1;omega) HC.2 rfl (rfl:aE 3 0 oi=aE 3 0 oi))
  have T9:=Hd (And.intro (T8.1.trans (h2.sub (R':=R) fun k hk=>by simp[hk])) (And.intro mc mo));obtain⟨⟨y0,y1,y2,y3⟩,_⟩:=fQ mo;clear h1 h2 mc mo PC c0 c1 c2 c3 c4 c5 c6 c7 c8 c9;go_wp2_with fail;refine PO.mono ?_;rintro e wb ⟨rfl,h1,h2⟩;have mc:=(h2 bc (by simp) HB.2.2.1).trans T9.2.1;have TB:=Hd (And.intro h1 (And.intro (T9.1.trans (h2.sub (R':=R) fun k hk=>by simp[hk])) mc));obtain⟨⟨c0,c1,c2,c3,c4,c5,c6,c7,c8,c9⟩,_⟩:=dC mc;clear h1 h2 mc PO y0 y1 y2 y3
  by_cases hx0:ex=0
  ·have hx1:(ex==0)=true:=by simpa using hx0
   have hx2:(ex != 0)=false:=by simpa using hx0
   obtain⟨wz,hwz⟩:∃ wz,wb=wz:=⟨_,rfl⟩
   subst hwz;have TZ:=Hd TB.1;have KZ:=Hd TB.2.1
   by_cases hp0:pa=0
   ·have hp1:(pa==0)=true:=by simpa using hp0
    have hp2:(pa != 0)=false:=by simpa using hp0
    have FIN:Hid (TxS w0 R wb t d s 640 (qP E id ⟨pa,ob,oi,ri,ba,de,ex,0,false⟩ oi ⟨nm,li,hb⟩)/\KeptT R t w wb):=Hd ⟨by
     unfold qP;simp only[if_pos hp0,HN.2.2,if_pos hx0];exact TZ.sub fun k hk=>by simp[hk],KZ.o⟩
    clear hp0 hx0;go_wp2_with fail;go_ret2;exact⟨rfl,FIN.o⟩
   ·have hp1:(pa==0)=false:=by simpa using hp0
    have hp2:(pa != 0)=true:=by simpa using hp0
    have HP0:=Hd (And.intro hp0 hx0);clear hp0 hx0;go_wp2_with fail;refine(jY 2 pa id _ _ rfl).mono ?_;rintro e w9 ⟨rfl,rfl⟩
    have PU:=Hd (pR (key:=aE 2 pa id) (val:=⟨#[]⟩) TZ (by have l1:=bM (aE 9 0 1) X E;have l2:=bM (aE 1 0 id) (dH ⟨pa,ob,oi,ri,ba,de,ex,0,false⟩) (aY (aE 9 0 1) X E);have l3:=bM (aE 3 0 oi) (fZ ⟨nm,li,hb⟩) (aY (aE 1 0 id) (dH ⟨pa,ob,oi,ri,ba,de,ex,0,false⟩) (aY (aE 9 0 1) X E));have l4:=bM (aE 5 ex id) ⟨#[]⟩ (aY (aE 3 0 oi) (fZ ⟨nm,li,hb⟩) (aY (aE 1 0 id) (dH ⟨pa,ob,oi,ri,ba,de,ex,0,false⟩) (aY (aE 9 0 1) X E)));have:=HN.1;omega) (cG _ _ _) (by decide))
    go_wp2_with fail;refine PU.mono ?_;rintro e w10 ⟨rfl,h1,h2⟩
    have FIN:Hid (TxS w0 R w10 t d s 640 (qP E id ⟨pa,ob,oi,ri,ba,de,ex,0,false⟩ oi ⟨nm,li,hb⟩)/\KeptT R t w w10):=Hd ⟨by
     unfold qP;simp only[if_neg HP0.1,HN.2.2,if_pos HP0.2];exact h1.sub fun k hk=>by simp[hk],KZ.trans (h2.sub fun k hk=>by simp[hk])⟩
    clear h1 h2 PU;go_wp2_with fail;go_ret2;exact⟨rfl,FIN.o⟩
  ·have hx1:(ex==0)=false:=by simpa using hx0
   have hx2:(ex != 0)=true:=by simpa using hx0
   have HX0:=Hd hx0;clear hx0;go_wp2_with fail;refine(jY 5 ex id _ _ rfl).mono ?_;rintro e wk ⟨rfl,rfl⟩
   have PU:=Hd (pR (key:=aE 5 ex id) (val:=⟨#[]⟩) TB.1 (by have l1:=bM (aE 9 0 1) X E;have l2:=bM (aE 1 0 id) (dH ⟨pa,ob,oi,ri,ba,de,ex,0,false⟩) (aY (aE 9 0 1) X E);have l3:=bM (aE 3 0 oi) (fZ ⟨nm,li,hb⟩) (aY (aE 1 0 id) (dH ⟨pa,ob,oi,ri,ba,de,ex,0,false⟩) (aY (aE 9 0 1) X E));have l4:=bM (aE 5 ex id) ⟨#[]⟩ (aY (aE 3 0 oi) (fZ ⟨nm,li,hb⟩) (aY (aE 1 0 id) (dH ⟨pa,ob,oi,ri,ba,de,ex,0,false⟩) (aY (aE 9 0 1) X E)));have:=HN.1;omega) (cG _ _ _) (by decide))
   go_wp2_with fail;refine PU.mono ?_;rintro e wz ⟨rfl,h1,h2⟩;have mc:=(h2 bc (by simp) HB.2.2.1).trans TB.2.2;have TZ:=Hd h1;have KZ:=Hd (TB.2.1.trans (h2.sub (R':=R) fun k hk=>by simp[hk]));clear c0 c1 c2 c3 c4 c5 c6 c7 c8 c9;obtain⟨⟨c0,c1,c2,c3,c4,c5,c6,c7,c8,c9⟩,_⟩:=dC mc;have hx0:=HX0.o;clear h1 h2 mc PU
   by_cases hp0:pa=0
   ·have hp1:(pa==0)=true:=by simpa using hp0
    have hp2:(pa != 0)=false:=by simpa using hp0
    have FIN:Hid (TxS w0 R wz t d s 640 (qP E id ⟨pa,ob,oi,ri,ba,de,ex,0,false⟩ oi ⟨nm,li,hb⟩)/\KeptT R t w wz):=Hd ⟨by
     unfold qP;simp only[if_pos hp0,HN.2.2,if_neg hx0];exact TZ.sub fun k hk=>by simp[hk],KZ.o⟩
    clear hp0 hx0;go_wp2_with fail;go_ret2;exact⟨rfl,FIN.o⟩
   ·have hp1:(pa==0)=false:=by simpa using hp0
    have hp2:(pa != 0)=true:=by simpa using hp0
    have HP0:=Hd (And.intro hp0 hx0);clear hp0 hx0;go_wp2_with fail;refine(jY 2 pa id _ _ rfl).mono ?_;rintro e w9 ⟨rfl,rfl⟩
    have PU:=Hd (pR (key:=aE 2 pa id) (val:=⟨#[]⟩) TZ (by have l1:=bM (aE 9 0 1) X E;have l2:=bM (aE 1 0 id) (dH ⟨pa,ob,oi,ri,ba,de,ex,0,false⟩) (aY (aE 9 0 1) X E);have l3:=bM (aE 3 0 oi) (fZ ⟨nm,li,hb⟩) (aY (aE 1 0 id) (dH ⟨pa,ob,oi,ri,ba,de,ex,0,false⟩) (aY (aE 9 0 1) X E));have l4:=bM (aE 5 ex id) ⟨#[]⟩ (aY (aE 3 0 oi) (fZ ⟨nm,li,hb⟩) (aY (aE 1 0 id) (dH ⟨pa,ob,oi,ri,ba,de,ex,0,false⟩) (aY (aE 9 0 1) X E)));have:=HN.1;omega) (cG _ _ _) (by decide))
    go_wp2_with fail;refine PU.mono ?_;rintro e w10 ⟨rfl,h1,h2⟩
    have FIN:Hid (TxS w0 R w10 t d s 640 (qP E id ⟨pa,ob,oi,ri,ba,de,ex,0,false⟩ oi ⟨nm,li,hb⟩)/\KeptT R t w w10):=Hd ⟨by
     unfold qP;simp only[if_neg HP0.1,HN.2.2,if_neg HP0.2];exact h1.sub fun k hk=>by simp[hk],KZ.trans (h2.sub fun k hk=>by simp[hk])⟩
    clear h1 h2 PU;go_wp2_with fail;go_ret2;exact⟨rfl,FIN.o⟩
theorem CpE.num1 {E:List Ent}{cs:List (Option bG)}{os:List dU}{ls:List Int}{m:Nat}(h:CpE E cs os ls m):NumE E 10376293541461622785 (cs.length:Int):=by
 have h1:cP 10376293541461622785 E=if cs.length=0 then none else some (Str (aK (cs.length:Int) 3)):=h.n1
 have:=h.cl
 by_cases e:cs.length=0
 ·rw[if_pos e] at h1
  exact .inl ⟨(MI h1).2,by omega⟩
 ·rw[if_neg e] at h1
  exact .inr ⟨(gL h1).2,(gL h1).1,by omega,by omega⟩
theorem CpE.num2 {E:List Ent}{cs:List (Option bG)}{os:List dU}{ls:List Int}{m:Nat}(h:CpE E cs os ls m):NumE E 10376293541461622786 (os.length:Int):=by
 have h1:cP 10376293541461622786 E=if os.length=0 then none else some (Str (aK (os.length:Int) 3)):=h.n2
 have:=h.ol
 by_cases e:os.length=0
 ·rw[if_pos e] at h1
  exact .inl ⟨(MI h1).2,by omega⟩
 ·rw[if_neg e] at h1
  exact .inr ⟨(gL h1).2,(gL h1).1,by omega,by omega⟩
theorem CpE.getO {E:List Ent}{cs:List (Option bG)}{os:List dU}{ls:List Int}{m:Nat}(h:CpE E cs os ls m){i:Nat}{o:dU}(ho:os[i]?=some o):aFB E ((i:Int)+1) o:=by
 have hi:=(List.getElem?_eq_some_iff.1 ho).1;have:=h.ol;refine⟨?_,h.ownOk i o ho⟩;rw[h.own _ (by omega) (by omega)];unfold pV;rw[if_pos (by omega),show((i:Int)+1-1).toNat=i by omega,ho]
 rfl
theorem CpE.getC {E:List Ent}{cs:List (Option bG)}{os:List dU}{ls:List Int}{m:Nat}(h:CpE E cs os ls m){i:Nat}{c:bG}(hc:cs[i]?=some (some c)):EQ E ((i:Int)+1) c:=by
 have hi:=(List.getElem?_eq_some_iff.1 hc).1;have:=h.cl;refine⟨?_,h.capOk i c hc⟩;rw[h.cap _ (by omega) (by omega)];unfold kA;rw[show((i:Int)+1-1).toNat=i by omega,hc]
 rfl
theorem YA {w0 w:World}{R:List Nat}{t d s:Nat}{E:List Ent}{bo br bb be bt bw:Nat}{ob ri ba ex ow v id:Int}{p:dU}(h:TxS w0 R w t d s 640 E)(hbo:w.heap[bo]?=some (.cells #[ob] 3))(hbr:w.heap[br]?=some (.cells #[ri] 3))(hbb:w.heap[bb]?=some (.cells #[ba] 3))(hbe:w.heap[be]?=some (.cells #[ex] 3))(ht:w.heap[bt]?=some (.cells #[t] 24))(hw:w.heap[bw]?=some (.cells #[ow] 3))(hm:(bo∈R/\bo≠t/\w0.heap.size<=bo)/\(br∈R/\br≠t/\w0.heap.size<=br)/\(bb∈R/\bb≠t/\w0.heap.size<=bb)/\(be∈R/\be≠t/\w0.heap.size<=be)/\(bt∈R/\bt≠t/\w0.heap.size<=bt)/\(bw∈R/\bw≠t/\w0.heap.size<=bw))(hE:E.length<=290)(hob:1<=ob/\ob<=16777215)(hmay:(oG ri ri&&(inB 0 4294967295 ba&&inB 0 268435455 ex))=true)
  (hg:aFB E ow p)(hq:p.ha<p.li)(hv:NumE E 10376293541461622785 v)(hv1:v<16777215)(hid:v+1=id)(hc:fV id ⟨0,ob,ow,ri,ba,1,ex,0,false⟩) :
  () 30 #[bo,br,bb,be,bt,bw] w fun e' w'=>e'=.returned (.tuple #[id,(0:Int)])/\TxS w0 R w' t d s 640 (qP E id ⟨0,ob,ow,ri,ba,1,ex,0,false⟩ ow ⟨p.nm,p.li,p.ha+1⟩)/\KeptT R t w w':=by
 have ID:=Hd (fun w=>KF ob true w (by unfold inB;simp;omega));have MY:=Hd (fun w=>aC2 ri ba ex true w hmay);have OW:=Hd (TM h (show E.length<=600 by omega) hg);have ho:=kO.1 hg.2;have AD:=Hd (fun(R':List Nat) (wx:World) (hx:TxS w0 R' wx t d s 640 E)=>aC5 (pa:=0) (ob:=ob) (oi:=ow) (ri:=ri) (ba:=ba) (de:=1) (ex:=ex) (nm:=p.nm) (li:=p.li) (ha:=p.ha) hx hE hv hv1 hid hq rfl ⟨ho.2.2.2.2.1,ho.2.2.2.1.2⟩ hc (kO.2 ⟨ho.1,ho.2.1,ho.2.2.1,ho.2.2.2.1,by show 0<=p.ha+1;omega,by show p.ha+1<=p.li;omega⟩) rfl)
 have HB:=Hd (And.intro hbo (And.intro hbr (And.intro hbb (And.intro hbe (And.intro ht hw)))));have HM:=Hd hm;have c0:=(aD hbo).1;have c1:=(aD hbr).1;have c2:=(aD hbb).1;have c3:=(aD hbe).1;have c4:=(aD ht).1;have c5:=(aD hw).1;obtain⟨nm,li,ha⟩:=p;clear h hbo hbr hbb hbe ht hw hm hE hob hmay hg hq hv hv1 hid hc ho;go_enter Tryz.func30,Tryz.ntmps30;go_wp2_with fail;refine(ID _).mono ?_;rintro e w1 ⟨rfl,rfl⟩;go_wp2_with fail;refine(MY _).mono ?_;rintro e w1 ⟨rfl,rfl⟩;go_wp2_with fail;refine OW.mono ?_;rintro e w3 ⟨rfl,h1,h2⟩
 obtain⟨a1,a2,a3,a4,a5,a6,a7⟩:=h1.box (.cells #[ow,nm,.int .i64 li,.int .i64 ha] 54);obtain⟨x1,hx1⟩:∃ x,w3.alloc (.cells #[ow,nm,.int .i64 li,.int .i64 ha] 54)=x:=⟨_,rfl⟩
 rw[hx1] at a1 a2 a3 a5;have K1:=Hd (h2.trans a2);clear c0 c1 c2 c3 c4 c5;have c0:=(aD ((K1 bo HM.1.1 HM.1.2.1).trans HB.1)).1;have c1:=(aD ((K1 br HM.2.1.1 HM.2.1.2.1).trans HB.2.1)).1;have c2:=(aD ((K1 bb HM.2.2.1.1 HM.2.2.1.2.1).trans HB.2.2.1)).1;have c3:=(aD ((K1 be HM.2.2.2.1.1 HM.2.2.2.1.2.1).trans HB.2.2.2.1)).1;have c4:=(aD ((K1 bt HM.2.2.2.2.1.1 HM.2.2.2.2.1.2.1).trans HB.2.2.2.2.1)).1;obtain⟨⟨y0,y1,y2,y3⟩,_⟩:=fQ a3;have AX:=Hd (AD _ _ a1);have X1:=Hd hx1
 clear h1 h2 a1 a2 a3 a4 a5 a6 a7 hx1 OW;go_upto_region 4 with fail
 rw[X1.o];go_wp2_with fail;refine AX.mono ?_;rintro e w4 ⟨rfl,h1,h2⟩;have FIN:=Hd (And.intro (h1.sub (R':=R) fun k hk=>by simp[hk]) (K1.trans (h2.sub (R':=R) fun k hk=>by simp[hk])));clear h1 h2 AX c0 c1 c2 c3 c4 y0 y1 y2 y3;go_wp2_with fail;go_ret2;exact⟨rfl,FIN.o⟩
theorem ZR {w0 w:World}{R:List Nat}{t d s:Nat}{E:List Ent}{ow ob ri ba ex:Int}{os:List dU}{cs:List (Option bG)}{ls:List Int}{m:Nat}{oi:Nat}{p:dU}(h:TxS w0 R w t d s 640 E)(hc:CpE E cs os ls m)(hm:m<=280)(hl:cs.length<90)(hp:os[oi]?=some p)(how:(oi:Int)+1=ow)(hq:p.ha<p.li)(hob:1<=ob/\ob<=16777215)(hri:0<=ri/\ri<=65535)(hba:0<=ba/\ba<=4294967295)(hex:0<=ex/\ex<=268435455) :
  () 11 #[t,ow,ob,ri,ba,ex] w fun e' w'=>∃ E',e'=.returned (.tuple #[.int .i64 ((cs.length:Int)+1),(0:Int)])/\TxS w0 R w' t d s 640 E'/\KeptT R t w w'/\CpE E' (cs++[some ⟨0,ob,ow,ri,ba,1,ex,0,false⟩]) (os.set oi ⟨p.nm,p.li,p.ha+1⟩) (ls++[ex]) (m+5):=by
 have ho:=kO.1 (hc.ownOk oi p hp);have hi:=(List.getElem?_eq_some_iff.1 hp).1;have hol:=hc.ol;have hok:fV ((cs.length:Int)+1) ⟨0,ob,ow,ri,ba,1,ex,0,false⟩:=gO.2 ⟨by omega,(by decide:(0:Int)<=0/\(0:Int)<=16777215),by show(0:Int)≠_;omega,hob,by show 1<=ow/\ow<=16777215;omega,hri,hba,(by decide:(1:Int)<=1/\(1:Int)<=8),⟨fun _=>rfl,fun _=>rfl⟩,hex,(by decide:(0:Int)<=0/\(0:Int)<=16777215)⟩
 have hoo:gX ((oi:Int)+1) ⟨p.nm,p.li,p.ha+1⟩:=kO.2 ⟨ho.1,ho.2.1,ho.2.2.1,ho.2.2.2.1,by show 0<=p.ha+1;omega,by show p.ha+1<=p.li;omega⟩;have hE:=hc.len
 have hmay:(oG ri ri&&(inB 0 4294967295 ba&&inB 0 268435455 ex))=true:=by
  rw[Bool.and_eq_true,Bool.and_eq_true];exact⟨nU.2 hri,iL.2 hba,iL.2 hex⟩
 have hg:=hc.getO hp;rw[how] at hg;have hmm:=hc.mint (c:=⟨0,ob,ow,ri,ba,1,ex,0,false⟩) (o:=⟨p.nm,p.li,p.ha+1⟩) (oi:=oi) hl hok hi hoo;rw[how] at hmm;refine(aC1 h (.inl ⟨rfl,rfl⟩) fun R' wa b0 b1 b2 b3 b4 b5 hT g0 g1 g2 g3 g4 g5 gm=>YA hT g2 g3 g4 g5 g0 g1 ⟨gm.2.2.1,gm.2.2.2.1,gm.2.2.2.2.1,gm.2.2.2.2.2,gm.1,gm.2.1⟩ (by omega) hob hmay hg hq hc.num1 (by omega) rfl hok).mono ?_;rintro e' w' ⟨rfl,h1,h2⟩;exact⟨_,rfl,h1,h2,hmm⟩
