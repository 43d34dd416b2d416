import Derived.Test.YthdgedcckdkpjaaGreatDoorF24
import Derived.Deep.CutBlock
namespace Go.Proofs.YthdgedcckdkpjaaGreatDoor
open Go Go.RowKit
set_option maxRecDepth 20000
set_option maxHeartbeats 12800000
set_option linter.unusedVariables false
set_option linter.unusedSimpArgs false
def EndsP (zs:List Int)(k:Nat)(xs:List Int)(j:Nat):Prop:=xs.length=j/\∀ i,i<j->∃ m:Nat,MQ (zs.getD i 0) k m/\xs.getD i 0=(m:Int)+1
theorem EndsP.nil (zs:List Int)(k:Nat):EndsP zs k [] 0:=⟨rfl,fun i hi=>by omega⟩
theorem EndsP.snoc {zs:List Int}{k:Nat}{xs:List Int}{j m:Nat}{v:Int}(h:EndsP zs k xs j)(hp:MQ (zs.getD j 0) k m)(hv:(m:Int)+1=v):EndsP zs k (xs++[v]) (j+1):=by
 refine⟨by rw[List.length_append,h.1];rfl,fun i hi=>?_⟩
 by_cases e:i=j
 ·subst e
  refine⟨m,hp,?_⟩;rw[List.getD_eq_getElem?_getD,List.getElem?_append_right (by rw[h.1];exact Nat.le_refl _),h.1,Nat.sub_self];exact hv.symm
 ·obtain⟨m',h1,h2⟩:=h.2 i (by omega)
  refine⟨m',h1,?_⟩;rw[List.getD_eq_getElem?_getD,List.getElem?_append_left (by rw[h.1];omega),<-List.getD_eq_getElem?_getD];exact h2
theorem EndsP.rng {zs:List Int}{k:Nat}{xs:List Int}{j:Nat}(h:EndsP zs k xs j):∀ x∈xs,1<=x/\x<=k:=fun x hx=>by
 obtain⟨i,hi⟩:=List.mem_iff_getElem?.1 hx;have hl:=(List.getElem?_eq_some_iff.1 hi).1;obtain⟨m,h1,h2⟩:=h.2 i (by rw[<-h.1];exact hl);rw[List.getD_eq_getElem?_getD,hi] at h2;have:=h1.1;simp at h2;omega
theorem JC {xs:List Int}{n:Nat}(hr:∀ x∈xs,1<=x/\x<=n){r:Nat}(h:r<xs.length):((jU (xs.set r 0) n).map (·.2)).length+1=xs.length/\((r:Int)+1) ∉ ((jU (xs.set r 0) n).map (·.2)):=by
 constructor
 ·rw[List.length_map,wP]
  induction xs generalizing r with
  | nil=>simp at h
  | cons x xs ih=>
   have all:∀ (l:List Int),(∀ x∈l,1<=x/\x<=n)->l.countP (fun x=>decide (1<=x)&&decide (x<=(n:Int)))=l.length:=fun l hl=>List.countP_eq_length.2 fun x hx=>by
    have:=hl x hx;simp only[Bool.and_eq_true,decide_eq_true_eq];exact this
   cases r with
   | zero=>
    rw[List.set_cons_zero,List.countP_cons_of_neg (by simp),all xs fun x hx=>hr x (by simp[hx])]
    rfl
   | succ r=>
    have hx:=hr x (by simp);rw[List.set_cons_succ,List.countP_cons_of_pos (by simp only[Bool.and_eq_true,decide_eq_true_eq];exact hx)];have:=ih (fun x hx=>hr x (by simp[hx])) (r:=r) (by simpa using h);rw[List.length_cons];omega
 ·have hc:=rK (xs.set r 0) r n
  rw[List.getElem?_set_self h] at hc;simp only[Option.any_some] at hc;rw[if_neg (by simp)] at hc;exact List.count_eq_zero.1 hc
theorem leaseForgets_law (a:Option Addr)(len cap:Nat)(zs:List Int)(a1:Int)(w:World)(hk:IsInts .i64 w a len cap zs)(v1:(Lit.int .i64 a1).wf=true) :
  Calls Tryz.prog 5 #[.slice a len cap,.int .i64 a1] w fun e w'=>e=.returned (.bool true)/\Below w.heap.size w w':=by
 have CELLS:=Hd (YG hk);have R1:=Hd (CG a1 v1)
 have hlenL:(len:Int)<=9223372036854775807:=by
  rcases hk with⟨_,rfl,_,_⟩|⟨_,_,h1,h2,_⟩
  ·decide
  ·unfold maxLen at h2;omega
 clear hk v1;go_enter Tryz.func5,Tryz.ntmps5;try simp only[List.append_eq,List.cons_append,List.nil_append]
 go_wp2_with fail;refine(uB _).mono ?_;rintro e w1 ⟨rfl,b1⟩;have B1:=Hd b1;clear b1;go_wp2_with fail;refine(wD _).mono ?_;rintro e w2 ⟨t,d,s,rfl,h1⟩;have sn:=AV ⟨t,0,none⟩;have ST:=Hd (XY (li:=50) h1 (by decide));clear h1;go_wp2_with fail;refine ST.mono ?_;rintro e w3 ⟨rfl,h1⟩;have HT0:=Hd h1;clear h1 ST
 go_upto_block 0 with fail
 go_cut [9] (fun nv wc=>∃ (j:Nat) (xs:List Int),nv=.int .i64 (j:Int)/\j<=len/\j<=10/\Hid (EndsP zs 20 xs j)/\Hid (∃ m,m<=2+5*j/\LeS w1 [] wc t d s 50 xs xs m))
 case first=>
  go_wp2_with fail
  go_loopw [9,10] (fun nv i wr=>∃ (j:Nat) (xs:List Int),nv=.int .i64 (j:Int)/\i=.int .i64 (j:Int)/\j<=len/\j<=10/\Hid (EndsP zs 20 xs j)/\Hid (∃ m,m<=2+5*j/\LeS w1 [] wr t d s 50 xs xs m)) (fun _ i _=>11-(intOf i).toNat)
  case atStart=>exact⟨0,[],rfl,rfl,Nat.zero_le _,Nat.zero_le _,Hd (EndsP.nil _ _),Hd ⟨2,by omega,HT0.o⟩⟩
  case round=>
   obtain⟨j,xs,rfl,rfl,hj1,hj2,HX,HT⟩:=hrel
   by_cases hjl:j<len
   ·have hjli:(j:Int)<(len:Int):=by omega
    by_cases hlt:j<10
    ·have hli:(j:Int)<10:=by omega
     obtain⟨x,z,hax,hzv,hz,CELL⟩:=CELLS j hjl;subst hax;have e4:IntKind.i64.wrap ((j:Int)+1)=((j+1:Nat):Int):=by rw[show(j:Int)+1=((j+1:Nat):Int) by omega];exact IntWalk.i64_in _ (by omega)
     have HJL:Hid (j+1<=len/\j+1<=10):=Hd ⟨by omega,by omega⟩;obtain⟨p,hp⟩:=AW z 20 (by decide);have hpl:=hp.1;obtain⟨pz,hpz⟩:∃ pz:Int,(p:Int)=pz:=⟨_,rfl⟩
     obtain⟨v,hv⟩:∃ v:Int,pz+1=v:=⟨_,rfl⟩
     have ev:IntKind.i64.wrap (1+pz)=v:=by rw[show 1+pz=v by omega];exact IntWalk.i64_in _ (by omega)
     have PK:=Hd (fun w=>oG z 20 p w hp hz (by decide) (q:=20) rfl hpz);obtain⟨m,hm,hT⟩:=HT.o;have hxl:=HX.1;have HM:=Hd hm;have MT:=Hd (aB0 hT (x:=v) (by omega) (by omega) (by omega) (by omega) (id:=((j+1:Nat):Int)) (by omega));have HX2:=Hd (HX.snoc (m:=p) (v:=v) (by rw[hzv];exact hp) (by omega));have ca:=CELL wr (chain B1 hT.from);clear hj1 hj2 hjl hlt hzv hp hpl hpz hv hT hxl hm hz HX HT;go_wp2_with fail;refine(PK _).mono ?_;rintro e w4 ⟨rfl,rfl⟩;go_wp2_with fail;refine MT.mono ?_;rintro e w5 ⟨rfl,h1,_⟩
     have T5:=Hd h1;clear h1 ca MT PK;go_wp2_with fail;go_roundw
     case rel=>exact⟨j+1,_,rfl,rfl,HJL.1,HJL.2,HX2,Hd ⟨_,by have:=HM.o;omega,T5.o⟩⟩
     case measure=>have:=HJL.o;simp[intOf];omega
    ·have hli:¬ (j:Int)<10:=by omega
     go_wp2_with fail
     go_meet
     exact⟨j,xs,rfl,hj1,hj2,HX,HT⟩
   ·have hjli:¬ (j:Int)<(len:Int):=by omega
    go_wp2_with fail
    go_meet
    exact⟨j,xs,rfl,hj1,hj2,HX,HT⟩
 case rest=>
  obtain⟨j,xs,rfl,hjl,hj2,HX,HT⟩:=hcut;have HJ:=Hd (And.intro hjl hj2);obtain⟨m,hm,hT⟩:=HT.o;have HM:=Hd hm;have H3:=Hd hT;clear hT hm HT hjl hj2
  by_cases h0:j=0
  ·subst h0
   have hx:xs=[]:=List.length_eq_zero_iff.1 HX.1;subst hx;have FN:=Hd (tP H3 (by have:=HM.o;omega));go_wp2_with fail;refine FN.mono ?_;rintro e w4 ⟨rfl,b4⟩;have FIN:=Hd (chain B1 b4);clear b4;go_wp2_with fail;go_ret;exact⟨rfl,FIN.o⟩
  ·have hji:¬ (j:Int)=0:=by omega
   have hjb:((j:Int)==0)=false:=by simpa using hji
   obtain⟨r,hp⟩:=AW a1 j (by omega);have hr:=hp.1;obtain⟨rz,hrz⟩:∃ rz:Int,(r:Int)=rz:=⟨_,rfl⟩
   obtain⟨k,hk⟩:∃ k:Int,rz+1=k:=⟨_,rfl⟩
   have hj:=HJ.2;have ek:IntKind.i64.wrap (1+rz)=k:=by rw[show 1+rz=k by omega];exact IntWalk.i64_in _ (by omega)
   have ek1:IntKind.i64.wrap (k-1)=(r:Int):=by rw[show k-1=(r:Int) by omega];exact IntWalk.i64_in _ (by omega)
   have ej1:IntKind.i64.wrap ((j:Int)-1)=((j-1:Nat):Int):=by rw[show(j:Int)-1=((j-1:Nat):Int) by omega];exact IntWalk.i64_in _ (by omega)
   have PK:=Hd (fun w=>oG a1 j r w hp R1 (by omega) (q:=(j:Int)) rfl hrz);have HK:=Hd (And.intro (show(r:Int)+1=k by omega) (show r<xs.length by rw[HX.1];exact hr));clear h0 hp hr hrz hk hj;go_wp2_with fail;refine(PK _).mono ?_;rintro e w4 ⟨rfl,rfl⟩;have F1:=Hd (wF H3 (by have:=HM.o;have:=HJ.o;omega) HK.2 HK.1);clear PK;go_wp2_with fail;refine F1.mono ?_;rintro e w5 ⟨rfl,h1,_⟩;have F2:=Hd (wF h1 (by have:=HM.o;have:=HJ.o;omega) HK.2 HK.1);clear h1 F1;go_wp2_with fail;refine F2.mono ?_
   rintro e w6 ⟨rfl,h1,_⟩;rw[List.set_set] at h1;have DU:=Hd (aD4 (n:=100) (now:=100) (mo:=100) h1 (by have:=HM.o;have:=HJ.o;omega) rfl (by decide) (by decide));have FL:=Hd (JC (n:=100) (fun x hx=>by have:=HX.rng x hx;omega) HK.2);clear h1 F2;go_wp2_with fail;refine DU.mono ?_;rintro e w7 ⟨v,rfl,hz,_,h1,_⟩;rw[List.take_of_length_le (by have:=FL.1;have:=HX.1;have:=HJ.o;show _<=100;omega)] at hz;obtain⟨L,hL⟩:∃ L,(jU (xs.set r 0) 100).map (·.2)=L:=⟨_,rfl⟩
   have HL:=FL.o;rw[hL] at hz HL;obtain⟨va,vc,rfl,hv1,hv2⟩:=hz.shape;have ROW:=Hd hz;have HLL:=Hd (And.intro HL.1 HL.2);have H7:=Hd h1;have hL9:L.length<=10:=by have:=HL.1;have:=HX.1;have:=HJ.o;omega
   have hLj:L.length=j-1:=by have:=HL.1;have:=HX.1;omega
   have HL9:=Hd (And.intro hL9 hLj);clear hz hL HL h1 DU FL hv1 hv2 hL9 hLj;go_wp2_with fail
   go_loopw [18] (fun i wr=>∃ (q:Nat),i=.int .i64 (q:Int)/\q<=L.length/\wr=w7) (fun i _=>L.length-(intOf i).toNat)
   case atStart=>exact⟨0,rfl,Nat.zero_le _,rfl⟩
   case round=>
    obtain⟨q,rfl,hq,rfl⟩:=hrel
    by_cases hql:q<L.length
    ·have hqi:(q:Int)<(L.length:Int):=by omega
     obtain⟨y,hy⟩:∃ y,L[q]?=some y:=⟨_,List.getElem?_eq_getElem hql⟩
     obtain⟨g,rfl,cg⟩:=ROW.at hy;have hne:¬ y=k:=fun e=>HLL.2 (by rw[HK.1,<-e];exact List.mem_of_getElem? hy)
     have hneb:(y==k)=false:=by simpa using hne
     have e4:IntKind.i64.wrap ((q:Int)+1)=((q+1:Nat):Int):=by rw[show(q:Int)+1=((q+1:Nat):Int) by omega];exact IntWalk.i64_in _ (by have:=HL9.o;omega)
     have HQ:=Hd hql;clear hy hql hq;go_wp2_with fail;go_roundw
     case rel=>exact⟨q+1,rfl,HQ.o,by first|rfl|trivial⟩
     case measure=>have:=HQ.o;simp[intOf];omega
    ·have hqi:¬ (q:Int)<(L.length:Int):=by omega
     obtain⟨pm,hpm,hpx⟩:=HX.2 r (by rw[<-HX.1];exact HK.2);have hpl:=hpm.1;obtain⟨pz,hpz⟩:∃ pz:Int,(pm:Int)=pz:=⟨_,rfl⟩
     obtain⟨vv,hvv⟩:∃ v:Int,pz+1=v:=⟨_,rfl⟩
     have ev:IntKind.i64.wrap (1+pz)=vv:=by rw[show 1+pz=vv by omega];exact IntWalk.i64_in _ (by omega)
     obtain⟨x,z,hax,hzv,hzr,CELL⟩:=CELLS r (by have:=HK.2;have:=HX.1;have:=HJ.o;omega);subst hax;have hrl:r<len:=by have:=HK.2;have:=HX.1;have:=HJ.o;omega
     have PK:=Hd (fun w=>oG z 20 pm w (by rw[<-hzv];exact hpm) hzr (by decide) (q:=20) rfl hpz);have EN:=Hd (aB1 H7 (by have:=HM.o;have:=HJ.o;omega) HK.2 HK.1 (x:=vv) (by rw[hpx];omega));have HV:=Hd (show xs.getD r 0=vv/\1<=vv/\vv<=20 by rw[hpx];omega);have eL:(L.length:Int)=((j-1:Nat):Int):=by rw[HL9.2]
     clear hql hq hpm hpx hpl hpz hvv hzv hzr ROW;go_wp2_with fail;refine EN.mono ?_;rintro e w8 ⟨rfl,h1,_⟩;have ca:=CELL w8 (chain B1 h1.from);have SA:=Hd (XX h1 (now:=100) (x:=11) (by have:=HM.o;have:=HJ.o;omega) HK.2 HK.1 (by rw[HV.1,if_pos];have:=HV.o;omega));clear h1 EN;go_wp2_with fail;refine(PK _).mono ?_;rintro e w9 ⟨rfl,rfl⟩;go_wp2_with fail;refine SA.mono ?_;rintro e w9 ⟨rfl,h1,_⟩;have FIN:=Hd (chain B1 h1.from);clear h1 SA;go_wp2_with fail;go_ret;exact⟨rfl,FIN.o⟩
