import Derived.Test.YthdgedcckdkpjaaGreatDoorD24
import Derived.Deep.CutBlock
namespace Go.Proofs.YthdgedcckdkpjaaGreatDoor
open Go Go.RowKit
set_option maxRecDepth 20000
set_option maxHeartbeats 12800000
set_option linter.unusedVariables false
set_option linter.unusedSimpArgs false
def qK (ls:List Int)(q r:Nat):Nat:=(fM ls q).length+(atE ((q:Int)+1) 0 (ls.take r)).length
theorem aEW (ls:List Int)(q:Nat):qK ls q 0=(fM ls q).length:=by unfold qK;simp[atE]
theorem aEV (ls:List Int)(q:Nat):qK ls q ls.length=(fM ls (q+1)).length:=by
 unfold qK;rw[List.take_length,gD,List.length_append,List.length_map]
theorem TO {ls:List Int}{q r:Nat}{x:Int}(h:ls[r]?=some x):qK ls q (r+1)=qK ls q r+if x=(q:Int)+1 then 1 else 0:=by
 unfold qK;rw[qN,qN,List.take_add_one,h,Option.toList_some,List.countP_append,List.countP_singleton]
 by_cases e:x=(q:Int)+1
 ·rw[if_pos e,if_pos (by simpa using e)];omega
 ·rw[if_neg e,if_neg (by simpa using e)];omega
theorem aAA (a:Int):∀ (ls:List Int) (j r:Nat),ls[r]?=some a->(atE a j ls)[(atE a j (ls.take r)).length]?=some (((j+r:Nat):Int)+1)
 | [],j,r,h=>by simp at h
 | x::l,j,0,h=>by
  have e:x=a:=by simpa using h
  rw[lE,if_pos e]
  rfl
 | x::l,j,r+1,h=>by
  have ih:=aAA a l (j+1) r (by simpa using h);rw[show j+1+r=j+(r+1) by omega] at ih;rw[List.take_succ_cons,lE,lE]
  by_cases e:x=a
  ·rw[if_pos e,if_pos e,List.length_cons,List.getElem?_cons_succ];exact ih
  ·rw[if_neg e,if_neg e];exact ih
theorem xB (ls:List Int)(n:Nat):∀ k,fM ls n <+: fM ls (n+k)
 | 0=>List.prefix_refl _
 | k+1=>by
  refine(xB ls n k).trans ?_;rw[show n+(k+1)=n+k+1 by omega,gD];exact List.prefix_append _ _
theorem aEO {ls:List Int}{q r P:Nat}(h:ls[r]?=some ((q:Int)+1))(hP:q+1<=P):((fM ls P).map (·.2))[qK ls q r]?=some ((r:Int)+1):=by
 have hp:=xB ls (q+1) (P-(q+1));rw[show q+1+(P-(q+1))=P by omega] at hp;obtain⟨t,ht⟩:=hp;have h1:=aAA ((q:Int)+1) ls 0 r h;rw[Nat.zero_add] at h1;have hlt:=(List.getElem?_eq_some_iff.1 h1).1;rw[<-ht,List.map_append,List.getElem?_append_left,gD,List.map_append,List.getElem?_append_right]
 ·unfold qK
  rw[List.length_map,Nat.add_sub_cancel_left,List.map_map,show((fun x:Int × Int=>x.2) ∘ fun i:Int=>((q:Int)+1,i))=id from rfl,List.map_id];exact h1
 ·rw[List.length_map];unfold qK;omega
 ·rw[List.length_map,gD,List.length_append,List.length_map];unfold qK;omega
def LrS (w0 w:World)(t d s:Nat)(li:Int)(xs ls:List Int)(m:Nat)(v:Value)(ys:List Int):Prop:=
 ∃ E,RowS w0 [] 3 w t d s E v (ys.map fun(x:Int)=>Value.int .i64 x)/\CpE E (xs.map fun x=>some (kZ x)) [⟨⟨#[120]⟩,li,(xs.length:Int)⟩] ls m
section
variable {w0 w w':World} {t d s m m':Nat} {li:Int} {xs ls ys xs' ls':List Int} {v:Value}
theorem LrS.le (h:LrS w0 w t d s li xs ls m v ys):LeS w0 (v.ownBlock.toList++[]) w t d s li xs ls m:=by
 obtain⟨E,h1,h2⟩:=h;exact⟨E,h1.tx,h2⟩
theorem LrS.from (h:LrS w0 w t d s li xs ls m v ys):Below w0.heap.size w0 w:=h.le.from
theorem LrS.step (h:LrS w0 w t d s li xs ls m v ys)(h1:LeS w0 (v.ownBlock.toList++[]) w' t d s li xs' ls' m')(k:KeptT (v.ownBlock.toList++[]) t w w'):LrS w0 w' t d s li xs' ls' m' v ys:=by
 obtain⟨E,g1,g2⟩:=h;obtain⟨E',e1,e2⟩:=h1;exact⟨E',g1.txn e1 k,e2⟩
theorem LrS.nil (h:LeS w0 [] w t d s li xs ls m):LrS w0 w t d s li xs ls m (.slice none 0 0) []:=by
 obtain⟨E,e1,e2⟩:=h;exact⟨E,RowS.nil e1,e2⟩
theorem LrS.row (h:LrS w0 w t d s li xs ls m v ys):RowZ w v ys:=by
 obtain⟨E,h1,h2⟩:=h;have:=h1.row;rw[List.length_map] at this;exact this
theorem LrS.app (h:LrS w0 w t d s li xs ls m v ys)(x:Int)(hn:ys.length<=100000):∃ v' w',(Builtin.append_ #[22,22] 22 #[v,.slice (some ⟨w.heap.size,0,none⟩) 1 1]).run Tryz.prog (w.alloc (.cells #[x] 3))=.ok v' w'/\LrS w0 w' t d s li xs ls m v' (ys++[x]):=by
 obtain⟨E,h1,h2⟩:=h;obtain⟨i,z,hi,hz,hs,hb,hc⟩:=CQ;obtain⟨v',w',g1,g2,g3⟩:=h1.app (ty:=22) (by_:=8) (by decide) Tryz.underlying22 hi hz hs hb hc (.int .i64 x) rfl (by rw[List.length_map];exact hn);refine⟨v',w',g1,E,?_,h2⟩;rw[List.map_append];exact g2
theorem LrS.set {g n c:Nat}(h:LrS w0 w t d s li xs ls m (.slice (some ⟨g,0,none⟩) n c) ys)(hn:ys.length=n)(j:Nat)(x:Int):LrS w0 (w.setCell ⟨g,j,none⟩ (.int .i64 x)) t d s li xs ls m (.slice (some ⟨g,0,none⟩) n c) (ys.set j x):=by
 obtain⟨E,h1,h2⟩:=h;have hr:=h1.row;have hob:=h1.ob g rfl;rw[List.length_map,hn] at hr;have st:=(World.ownsRow.stored hr j (.int .i64 x)).1;have fr:Frm (fun k=>k=g) w (w.setCell ⟨g,j,none⟩ (.int .i64 x)):=(Frm.refl _ _).setCell _ _ (.inl rfl);refine⟨E,⟨h1.tx.turn (k:=g) (by simp[Value.ownBlock]) hob.2.1 hob.1 fr,?_,h1.ob⟩,h2⟩;rw[List.map_set,List.length_set,List.length_map,hn];exact st
theorem LrS.frozen {g n c:Nat}(h:LrS w0 w t d s li xs ls m (.slice (some ⟨g,0,none⟩) n c) ys)(hn:ys.length=n)(j:Nat):w.frozen? ⟨g,j,none⟩=false:=by
 obtain⟨E,h1,h2⟩:=h;have hr:=h1.row;rw[List.length_map,hn] at hr;exact World.ownsRow.frozenAt hr j
end
def InZ (xs:List Int)(n:Nat):Prop:=xs.length=n/\∀ x∈xs,0<=x/\x<=40
theorem InZ.snoc {xs:List Int}{j:Nat}{v:Int}(h:InZ xs j)(hv:0<=v/\v<=40):InZ (xs++[v]) (j+1):=by
 refine⟨by rw[List.length_append,h.1];rfl,fun x hx=>?_⟩
 rcases List.mem_append.1 hx with hx|hx
 ·exact h.2 x hx
 ·rw[List.mem_singleton] at hx;subst hx;exact hv
theorem InZ.set {xs:List Int}{n j:Nat}{v:Int}(h:InZ xs n)(hv:0<=v/\v<=40):InZ (xs.set j v) n:=by
 refine⟨by rw[List.length_set,h.1],fun x hx=>?_⟩
 rcases List.mem_or_eq_of_mem_set hx with hx|hx
 ·exact h.2 x hx
 ·subst hx;exact hv
theorem InZ.nn {xs:List Int}{n:Nat}(h:InZ xs n)(j:Nat):0<=xs.getD j 0:=by
 rw[List.getD_eq_getElem?_getD]
 cases hj:xs[j]? with
 | none=>decide
 | some k=>exact(h.2 k (List.mem_of_getElem? hj)).1
theorem SR (ls:List Int)(n:Nat):((fM ls n).map (·.2)).length<=ls.length:=by
 rw[List.length_map,xC];exact List.countP_le_length
theorem leaseDue_law (a:Option Addr)(len cap:Nat)(zs:List Int)(b:Option Addr)(len2 cap2:Nat)(zs2:List Int)(a1 a2:Int)(w:World)(hk:IsInts .i64 w a len cap zs)(hk2:IsInts .i64 w b len2 cap2 zs2)(v1:(Lit.int .i64 a1).wf=true)(v2:(Lit.int .i64 a2).wf=true) :
  () 6 #[a len cap,b len2 cap2,a1,a2] w fun e w'=>e=.returned (.bool true)/\Below w.heap.size w w':=by
 have CELLS:=Hd (CS hk);have CELLT:=Hd (CS hk2);have HR1:=Hd (rT a1 v1);obtain⟨P,hP⟩:=pT a2 50 (by decide);have hPl:=hP.1;obtain⟨nw,hnw⟩:∃ x:Int,(P:Int)=x:=⟨_,rfl⟩
 have PN:=Hd (fun w=>lN a2 50 P w hP (rT a2 v2) (by decide) (q:=50) rfl hnw);have HPN:=Hd (And.intro hPl hnw)
 have hlenL:(len:Int)<=9223372036854775807:=by
  rcases hk with⟨_,rfl,_,_⟩|⟨_,_,h1,h2,_⟩
  ·decide
  ·unfold maxLen at h2;omega
 have hlenM:(len2:Int)<=9223372036854775807:=by
  rcases hk2 with⟨_,rfl,_,_⟩|⟨_,_,h1,h2,_⟩
  ·decide
  ·unfold maxLen at h2;omega
 clear hk hk2 v1 v2 hP hPl hnw;go_enter Tryz.func6,Tryz.ntmps6;try simp only[List.append_eq,List.cons_append,List.nil_append]
 go_wp2_with fail;refine(uM _).mono ?_;rintro e w1 ⟨rfl,b1⟩;have B1:=Hd b1;clear b1;go_wp2_with fail;refine(wP _).mono ?_;rintro e w2 ⟨t,d,s,rfl,h1⟩;have sn:=BL ⟨t,0,none⟩;have ST:=Hd (YD (li:=100) h1 (by decide));clear h1;go_wp2_with fail;refine ST.mono ?_;rintro e w3 ⟨rfl,h1⟩;have HT0:=Hd (LrS.nil h1);clear h1 ST
 go_upto_block 0 with fail
 go_cut [13] (fun v wc=>∃ (n:Nat) (va:Option Addr) (vc:Nat) (xs:List Int),v=.slice va n vc/\n<=30/\Hid (InZ xs n)/\Hid (∃ m,m<=2+5*n/\LrS w1 wc t d s 100 xs xs m (.slice va n vc) xs))
 case first=>
  go_wp2_with fail
  go_loopw [13,14] (fun v i wr=>∃ (j:Nat) (va:Option Addr) (vc:Nat) (xs:List Int),v=.slice va j vc/\i=.int .i64 (j:Int)/\j<=len/\j<=30/\Hid (InZ xs j)/\Hid (∃ m,m<=2+5*j/\LrS w1 wr t d s 100 xs xs m (.slice va j vc) xs)) (fun _ i _=>31-(intOf i).toNat)
  case atStart=>exact⟨0,none,0,[],rfl,rfl,Nat.zero_le _,Nat.zero_le _,Hd ⟨rfl,fun x hx=>by cases hx⟩,Hd ⟨2,by omega,HT0.o⟩⟩
  case round=>
   obtain⟨j,va,vc,xs,rfl,rfl,hj1,hj2,HX,HT⟩:=hrel
   by_cases hjl:j<len
   ·have hjli:(j:Int)<(len:Int):=by omega
    by_cases hlt:j<30
    ·have hli:(j:Int)<30:=by omega
     obtain⟨x,z,hax,hzv,hz,CELL⟩:=CELLS j hjl;subst hax;have HJL:Hid (j+1<=len/\j+1<=30):=Hd ⟨by omega,by omega⟩;obtain⟨p,hp⟩:=pT z 31 (by decide);have hpl:=hp.1;obtain⟨k,hpz⟩:∃ pz:Int,(p:Int)=pz:=⟨_,rfl⟩
     have PK:=Hd (fun w=>lN z 31 p w hp hz (by decide) (q:=31) rfl hpz);obtain⟨m,hm,hT⟩:=HT.o;have hxl:=HX.1;have HM:=Hd hm;have H0:=Hd hT;obtain⟨n,hn⟩:∃ n:Int,((j+1:Nat):Int)=n:=⟨_,rfl⟩
     have HN:=Hd hn;have e4:IntKind.i64.wrap ((j:Int)+1)=n:=by rw[show(j:Int)+1=n by omega];exact IntWalk.i64_in _ (by omega)
     have MT:=Hd (aB6 hT.le (x:=k) (by omega) (by omega) (by omega) (by omega) (id:=n) (by omega));have HK:=Hd (show 0<=k/\k<=40 by omega);have ca:=CELL wr (chain B1 hT.from);clear hj1 hj2 hlt hjl hzv hp hpl hpz hT hxl hm hz HT hn;go_wp2_with fail;refine(PK _).mono ?_;rintro e w4 ⟨rfl,rfl⟩;go_wp2_with fail;refine MT.mono ?_;rintro e w5 ⟨rfl,h1,h2⟩;have h5:=H0.step h1 h2;have ca5:=CELL w5 (chain B1 h5.from);obtain⟨v',w6,hap,h6⟩:=h5.app k (by rw[HX.1];have:=HJL.o;omega);obtain⟨va2,vc2,hsh,_,_⟩:=h6.row.shape
     rw[List.length_append,HX.1] at hsh;have HSH:Hid (InZ (xs++[k]) (j+1)):=Hd (HX.snoc HK.o);have hsh:v'=.slice va2 (j+1) vc2:=hsh;subst hsh;have H6:=Hd h6;clear h1 h2 h5 h6 ca MT H0;go_wp2_with fail;refine(PK _).mono ?_;rintro e w7 ⟨rfl,rfl⟩
     go_wp2_with (at_builtin;refine uU rfl (.tmp 66) (.tmp 72) 22 rfl _ _ _ rfl rfl hap ?_)
     clear hap ca5;try go_wp2_with fail
     go_roundw
     case rel=>exact⟨j+1,va2,vc2,xs++[k],rfl,by rw[HN.o],HJL.1,HJL.2,HSH,Hd ⟨_,by have:=HM.o;omega,H6.o⟩⟩
     case measure=>have:=HJL.o;have:=HN.o;simp[intOf];omega
    ·have hli:¬ (j:Int)<30:=by omega
     go_wp2_with fail
     go_meet
     exact⟨j,va,vc,xs,rfl,hj2,HX,HT⟩
   ·have hjli:¬ (j:Int)<(len:Int):=by omega
    go_wp2_with fail
    go_meet
    exact⟨j,va,vc,xs,rfl,hj2,HX,HT⟩
 case rest=>
  obtain⟨n,va,vc,xs,rfl,hn,HX,HT⟩:=hcut;have HN:=Hd hn;clear HT0 hn CELLS
  go_upto_block 2 with fail
  go_cut [] (fun wc=>∃ xs,Hid (InZ xs n)/\Hid (∃ m,m<=220/\LrS w1 wc t d s 100 xs xs m (.slice va n vc) xs))
  case first=>
   go_wp2_with fail
   go_loopw [17] (fun i wr=>∃ (q:Nat) (xs:List Int),i=.int .i64 (q:Int)/\q<=len2/\q<=n/\Hid (InZ xs n)/\Hid (∃ m,m<=2+5*n+2*q/\LrS w1 wr t d s 100 xs xs m (.slice va n vc) xs)) (fun i _=>n-(intOf i).toNat)
   case atStart=>exact⟨0,xs,rfl,Nat.zero_le _,Nat.zero_le _,HX,HT⟩
   case round=>
    clear HX HT;obtain⟨q,xs,rfl,hq1,hq2,HX,HT⟩:=hrel
    by_cases hql:q<len2
    ·have hqi:(q:Int)<(len2:Int):=by omega
     by_cases hqn:q<n
     ·have hqni:(q:Int)<(n:Int):=by omega
      obtain⟨x,z,hax,hzv,hz,CELL⟩:=CELLT q hql;subst hax;have HQ:Hid (q+1<=len2/\q+1<=n):=Hd ⟨by omega,by omega⟩;obtain⟨p,hp⟩:=pT z 41 (by decide);have hpl:=hp.1;obtain⟨k,hpz⟩:∃ pz:Int,(p:Int)=pz:=⟨_,rfl⟩
      have PK:=Hd (fun w=>lN z 41 p w hp hz (by decide) (q:=41) rfl hpz);obtain⟨m,hm,hT⟩:=HT.o;have hxl:=HX.1;have HM:=Hd hm;have H0:=Hd hT;obtain⟨id,hid⟩:∃ id:Int,((q+1:Nat):Int)=id:=⟨_,rfl⟩
      have HID:=Hd hid;have e4:IntKind.i64.wrap ((q:Int)+1)=id:=by rw[show(q:Int)+1=id by omega];exact IntWalk.i64_in _ (by have:=HN.o;omega)
      have RN:=Hd (YE (i:=q) (x:=k) (id:=id) hT.le (by have:=HN.o;omega) (by omega) (HX.nn q) (by omega) (by omega));have HK:=Hd (show 0<=k/\k<=40 by omega);have ca:=CELL wr (chain B1 hT.from);obtain⟨g,hg,_⟩:=hT.row.at (j:=q) (x:=xs.getD q 0) (by rw[List.getD_eq_getElem?_getD,List.getElem?_eq_getElem (by omega)];rfl);subst hg;clear hq1 hq2 hql hqn hzv hp hpl hpz hT hxl hm hz HT hid;go_wp2_with fail;refine(PK _).mono ?_;rintro e w4 ⟨rfl,rfl⟩;go_wp2_with fail;refine RN.mono ?_;rintro e w5 ⟨rfl,h1,h2⟩;have h5:=H0.step h1 h2
      obtain⟨g',hg',cg⟩:=h5.row.at (j:=q) (x:=xs.getD q 0) (by rw[List.getD_eq_getElem?_getD,List.getElem?_eq_getElem (by rw[HX.1];exact HQ.2)];rfl);have hgg:g=g':=by injection hg' with e;injection e
      subst hgg;have fz:=h5.frozen HX.1 q;have H6:=Hd (h5.set HX.1 q k);have HX2:=Hd (HX.set (j:=q) HK.o);clear h1 h2 h5 hg' RN ca H0;go_wp2_with fail;go_roundw
      case rel=>exact⟨q+1,_,by rw[HID.o],HQ.1,HQ.2,HX2,Hd ⟨_,by have:=HM.o;omega,H6.o⟩⟩
      case measure=>have:=HQ.o;have:=HID.o;simp[intOf];omega
     ·have hqni:¬ (q:Int)<(n:Int):=by omega
      go_wp2_with fail
      go_meet
      exact⟨xs,HX,let ⟨m,h1,h2⟩:=HT.o;Hd ⟨m,by have:=HN.o;omega,h2⟩⟩
    ·have hqi:¬ (q:Int)<(len2:Int):=by omega
     go_wp2_with fail
     go_meet
     exact⟨xs,HX,let ⟨m,h1,h2⟩:=HT.o;Hd ⟨m,by have:=HN.o;omega,h2⟩⟩
  case rest=>
   clear HX HT;obtain⟨xs,HX,HT⟩:=hcut;clear CELLT
   go_upto_if 103 with fail
   go_cut [] (fun wc=>∃ (ls xs:List Int),Hid (InZ ls n)/\Hid (∃ m,m<=220/\LrS w1 wc t d s 100 xs ls m (.slice va n vc) ls))
   case first=>
    by_cases hn0:n=0
    ·subst hn0
     go_wp2_with fail
     go_meet
     exact⟨xs,xs,HX,HT⟩
    ·have hni:(0:Int)<(n:Int):=by omega
     have hnn:0<n:=by omega
     obtain⟨m,hm,hT⟩:=HT.o;have HM:=Hd hm;have H0:=Hd hT;obtain⟨r,hp⟩:=pT a1 n (by omega);have hr:=hp.1;obtain⟨rz,hrz⟩:∃ rz:Int,(r:Int)=rz:=⟨_,rfl⟩
     obtain⟨id,hid⟩:∃ id:Int,rz+1=id:=⟨_,rfl⟩
     have e4:IntKind.i64.wrap (rz+1)=id:=by rw[hid];exact IntWalk.i64_in _ (by have:=HN.o;omega)
     have PK:=Hd (fun w=>lN a1 n r w hp HR1 (by have:=HN.o;omega) (q:=(n:Int)) rfl hrz);have FG:=Hd (RK hT.le (by omega) (i:=r) (id:=id) (by rw[HX.1];exact hr) (by omega));obtain⟨g,hg,_⟩:=hT.row.at (j:=r) (x:=xs.getD r 0) (by rw[List.getD_eq_getElem?_getD,List.getElem?_eq_getElem (by rw[HX.1];exact hr)];rfl);subst hg;subst hrz;have hrl:r<n:=hr;have HRL:=Hd hrl;clear hn0 hp hr hid hT hm HT hnn;go_wp2_with fail;refine(PK _).mono ?_;rintro e w4 ⟨rfl,rfl⟩;go_wp2_with fail;refine FG.mono ?_;rintro e w5 ⟨rfl,h1,h2⟩
     have h5:=H0.step h1 h2;obtain⟨g',hg',cg⟩:=h5.row.at (j:=r) (x:=xs.getD r 0) (by rw[List.getD_eq_getElem?_getD,List.getElem?_eq_getElem (by rw[HX.1];exact HRL.o)];rfl);have hgg:g=g':=by injection hg' with e;injection e
     subst hgg;have fz:=h5.frozen HX.1 r;have H6:=Hd (h5.set HX.1 r 0);have HX2:=Hd (HX.set (j:=r) (v:=0) (by decide));clear h1 h2 h5 hg' FG H0;go_wp2_with fail
     go_meet
     exact⟨_,xs,HX2,Hd ⟨_,HM.o,H6.o⟩⟩
   case rest=>
    clear HX HT;obtain⟨ls,xs,HX,HT⟩:=hcut;obtain⟨m,hm,hT⟩:=HT.o;have HM:=Hd hm;have H0:=Hd hT;have DU:=Hd (YF (n:=P) (now:=nw) (mo:=1000) hT.le (by omega) HPN.2 (by have:=HPN.1;omega) (by decide));clear hm hT HT;go_wp2_with fail;refine(PN _).mono ?_;rintro e w4 ⟨rfl,rfl⟩;go_wp2_with fail;refine DU.mono ?_;rintro e w5 ⟨dv,rfl,hz,hfr,h1,hk5⟩;have DS:=Hd (YF (n:=P) (now:=nw) (mo:=2) h1 (by have:=HM.o;omega) HPN.2 (by have:=HPN.1;omega) (by decide));obtain⟨D,hD⟩:∃ D,(fM ls P).map (·.2)=D:=⟨_,rfl⟩
    have hDl:=SR ls P;have DAT:=Hd (fun(q r:Nat) (h:ls[r]?=some ((q:Int)+1)) (hq:q+1<=P)=>(aEO h hq));have HDE:=Hd (show(fM ls P).length=D.length by rw[<-hD,List.length_map]);rw[hD] at hDl DAT;rw[List.take_of_length_le (by rw[hD];have:=HX.1;have:=HN.o;show _<=1000;omega),hD] at hz;obtain⟨da,dc,rfl,_,_⟩:=hz.shape;have HDZ:=Hd hz;have HFR:=Hd hfr;have H5:=Hd h1;have HA5:=Hd (H0.row.kept fun k hk=>hk5 k (by simp[hk]) ((let ⟨E,g1,_⟩:=H0.o;g1.ob k hk).2.1))
    have HAO:=Hd (fun k (hk:(Value.slice va n vc).ownBlock=some k)=>(let ⟨E,g1,_⟩:=H0.o;(g1.ob k hk).2.1));have HDL:=Hd (show D.length<=30 by have:=HX.1;have:=HN.o;omega);clear hz hfr h1 hk5 DU H0 hDl;go_wp2_with fail;refine DS.mono ?_;rintro e w6 ⟨sv,rfl,hz,hfr,h1,hk6⟩;rw[hD,show(2:Int).toNat=2 from rfl] at hz;obtain⟨S,hS⟩:∃ S,D.take 2=S:=⟨_,rfl⟩
    rw[hS] at hz;obtain⟨sa,sc,rfl,_,_⟩:=hz.shape;have SROW:=Hd hz;have DROW:=Hd (HDZ.kept fun k hk=>hk6 k (by simp[hk]) (HFR k hk).2.1);have AROW:=Hd (HA5.kept fun k hk=>hk6 k (by simp[hk]) (HAO k hk));have FIN:=Hd (chain B1 h1.from);have HS:=Hd hS;have hsl:S.length=min 2 D.length:=by rw[<-hS,List.length_take]
    have HSL:=Hd hsl;clear hz hfr h1 hk6 DS HDZ HA5 HFR H5 hS hsl hD HAO;go_wp2_with fail
    go_loopw [24,25] (fun k e wr=>∃ q:Nat,e=.int .i64 ((q:Int)+1)/\q<=P/\k=.int .i64 ((fM ls q).length:Int)/\wr=w6) (fun _ e _=>60-(intOf e).toNat)
    case atStart=>exact⟨0,rfl,Nat.zero_le _,rfl,rfl⟩
    case round=>
     obtain⟨q,rfl,hq,rfl,hw6⟩:=hrel;obtain rfl:w6=wr:=hw6.symm
     by_cases hqP:q<P
     ·have hqi:(q:Int)+1<=nw:=by have:=HPN.2;omega
      have HQ:=Hd hqP;obtain⟨en,hen⟩:∃ x:Int,(q:Int)+1=x:=⟨_,rfl⟩
      have HEN:=Hd hen;have e5:IntKind.i64.wrap (en+1)=((q+1:Nat):Int)+1:=by rw[show en+1=((q+1:Nat):Int)+1 by omega];exact IntWalk.i64_in _ (by have:=HPN.1;omega)
      rw[hen] at hqi |-;clear hq hqP hen;go_wp2_with fail
      go_loopw [24,26] (fun k i wr=>∃ r:Nat,i=.int .i64 (r:Int)/\r<=n/\k=.int .i64 (qK ls q r:Int)/\wr=w6) (fun _ i _=>n-(intOf i).toNat)
      case atStart=>exact⟨0,rfl,Nat.zero_le _,by rw[aEW],rfl⟩
      case round=>
       obtain⟨r,rfl,hr,rfl,hw6⟩:=hrel;obtain rfl:w6=wr:=hw6.symm
       by_cases hrn:r<n
       ·have hri:(r:Int)<(n:Int):=by omega
        have HR:=Hd hrn;obtain⟨x,hx⟩:∃ x,ls[r]?=some x:=⟨_,List.getElem?_eq_getElem (by rw[HX.1];exact hrn)⟩
        obtain⟨g,rfl,cg⟩:=AROW.at hx;obtain⟨rn,hrn1⟩:∃ y:Int,(r:Int)+1=y:=⟨_,rfl⟩
        have HRN:=Hd hrn1;have e6:IntKind.i64.wrap ((r:Int)+1)=rn:=by rw[hrn1];exact IntWalk.i64_in _ (by have:=HN.o;omega)
        have hcs:=TO (q:=q) hx;obtain⟨K,hK⟩:∃ K,qK ls q r=K:=⟨_,rfl⟩
        rw[hK] at hcs |-
        by_cases hxe:x=en
        ·have hxb:(x==en)=true:=by simpa using hxe
         have hxb2:(x != en)=false:=by simpa using hxe
         have hdk:=DAT q r (by rw[hx,hxe,HEN.o]) HQ.o;rw[hK] at hdk;have hKD:=(List.getElem?_eq_some_iff.1 hdk).1;have hKi:¬ (D.length:Int)<=(K:Int):=by omega
         obtain⟨gd,rfl,cd⟩:=DROW.at hdk;rw[if_pos (by rw[hxe,HEN.o])] at hcs;have HCS:=Hd hcs;have e7:IntKind.i64.wrap ((K:Int)+1)=((K+1:Nat):Int):=by rw[show(K:Int)+1=((K+1:Nat):Int) by omega];exact IntWalk.i64_in _ (by have:=HDL.o;omega)
         rw[hrn1] at cd
         by_cases hK2:K<2
         ·have hK2i:(K:Int)<2:=by omega
          have hsk:S[K]?=some rn:=by rw[<-HS.o,List.getElem?_take,if_pos hK2,hdk,hrn1]
          have hKS:=(List.getElem?_eq_some_iff.1 hsk).1;have hKSi:¬ (S.length:Int)<=(K:Int):=by omega
          obtain⟨gs,rfl,cs⟩:=SROW.at hsk;clear hx hrn hr hcs hK hdk hsk hrn1 hK2 hxe;go_wp2_with fail;go_roundw
          case rel=>exact⟨r+1,by rw[<-HRN.o];rfl,HR.o,by rw[HCS.o];first|rfl|simp,by first|rfl|trivial⟩
          case measure=>have:=HR.o;have:=HRN.o;simp[intOf];omega
         ·have hK2i:¬ (K:Int)<2:=by omega
          clear hx hrn hr hcs hK hdk hrn1 hK2 hxe;go_wp2_with fail;go_roundw
          case rel=>exact⟨r+1,by rw[<-HRN.o];rfl,HR.o,by rw[HCS.o];first|rfl|simp,by first|rfl|trivial⟩
          case measure=>have:=HR.o;have:=HRN.o;simp[intOf];omega
        ·have hxb:(x==en)=false:=by simpa using hxe
         have hxb2:(x != en)=true:=by simpa using hxe
         rw[if_neg (by rw[HEN.o];exact hxe)] at hcs;have HCS:=Hd hcs;clear hx hrn hr hcs hK hrn1;go_wp2_with fail;go_roundw
         case rel=>exact⟨r+1,by rw[<-HRN.o];rfl,HR.o,by rw[HCS.o];first|rfl|simp,by first|rfl|trivial⟩
         case measure=>have:=HR.o;have:=HRN.o;simp[intOf];omega
       ·have hri:¬ (r:Int)<(n:Int):=by omega
        have ern:r=n:=by omega
        subst ern;have HC:=Hd (show qK ls q r=(fM ls (q+1)).length by rw[<-aEV,HX.1]);clear hrn hr;go_wp2_with fail;go_roundw
        case rel=>exact⟨q+1,rfl,HQ.o,by rw[HC.o],by first|rfl|trivial⟩
        case measure=>have:=HQ.o;have:=HPN.1;have:=HEN.o;simp[intOf];omega
     ·have hqi:¬ (q:Int)+1<=nw:=by have:=HPN.2;omega
      have eq:q=P:=by omega
      subst eq;have hE:(((fM ls q).length:Nat):Int)=(D.length:Int):=by rw[HDE.o]
      rw[hE];have hmin:min (D.length:Int) 2=(S.length:Int):=by have:=HSL.o;omega
      have hsl2:(S.length:Int)=min (D.length:Int) 2:=hmin.symm;clear hq hqP hE hmin;go_wp2_with fail;go_ret;exact⟨by simp[hsl2],FIN.o⟩
