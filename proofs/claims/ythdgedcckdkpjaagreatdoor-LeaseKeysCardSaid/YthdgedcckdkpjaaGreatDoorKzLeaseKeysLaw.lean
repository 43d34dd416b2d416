import Derived.Test.YthdgedcckdkpjaaGreatDoorK24
import Derived.Deep.CutBlock
namespace Go.Proofs.YthdgedcckdkpjaaGreatDoor
open Go Go.RowKit
set_option maxRecDepth 20000
set_option maxHeartbeats 12800000
set_option linter.unusedVariables false
set_option linter.unusedSimpArgs false
def InR (xs:List Int)(j:Nat)(k:Int):Prop:=xs.length=j/\∀ x∈xs,1<=x/\x<=k
theorem InR.snoc {xs:List Int}{j:Nat}{k v:Int}(h:InR xs j k)(hv:1<=v/\v<=k):InR (xs++[v]) (j+1) k:=by
 refine⟨by rw[List.length_append,h.1];rfl,fun x hx=>?_⟩
 rcases List.mem_append.1 hx with hx|hx
 ·exact h.2 x hx
 ·rw[List.mem_singleton] at hx;subst hx;exact hv
theorem YU (ls:List Int)(n:Nat):((kX ls n).map (·.2)).length<=ls.length:=by
 rw[List.length_map,wU];exact List.countP_le_length
theorem JS {L:List Int}{p:Nat}{y n:Int}(h:L[p]?=some y):(L.take (p+1)).count n=(L.take p).count n+if y=n then 1 else 0:=by
 rw[List.take_add_one,h];simp only[Option.toList_some,List.count_append,List.count_singleton,beq_iff_eq]
theorem leaseKeys_law (a:Option Addr)(len cap:Nat)(zs:List Int)(a2:Option Addr)(len2 cap2:Nat)(zs2:List Int)(w:World)(hk:IsInts .i64 w a len cap zs)(hk2:IsInts .i64 w a2 len2 cap2 zs2) :
  Calls Tryz.prog 4 #[.slice a len cap,.slice a2 len2 cap2] w fun e w'=>e=.returned (.bool true)/\Below w.heap.size w w':=by
 have CELLS:=Hd (CN hk);have CELLT:=Hd (CN hk2)
 have hlenL:(len:Int)<=9223372036854775807:=by
  rcases hk with⟨_,rfl,_,_⟩|⟨_,_,h1,h2,_⟩
  ·decide
  ·unfold maxLen at h2;omega
 have hlenM:(len2:Int)<=9223372036854775807:=by
  rcases hk2 with⟨_,rfl,_,_⟩|⟨_,_,h1,h2,_⟩
  ·decide
  ·unfold maxLen at h2;omega
 clear hk hk2;go_enter Tryz.func4,Tryz.ntmps4;try simp only[List.append_eq,List.cons_append,List.nil_append]
 go_wp2_with fail;refine(uG _).mono ?_;rintro e w1 ⟨rfl,b1⟩;have B1:=Hd b1;clear b1;go_wp2_with fail;refine(wI _).mono ?_;rintro e w2 ⟨t,d,s,rfl,h1⟩;have sn:=BE ⟨t,0,none⟩;have ST:=Hd (XT (li:=50) h1 (by decide));clear h1;go_wp2_with fail;refine ST.mono ?_;rintro e w3 ⟨rfl,h1⟩;have HT0:=Hd h1;clear h1 ST;go_wp2_with fail
 go_loopw [9] (fun i wr=>∃ (j:Nat) (xs:List Int),i=.int .i64 (j:Int)/\j<=len/\j<=12/\Hid (InR xs j 50)/\Hid (∃ m,m<=2+7*j/\LeS w1 [] wr t d s 50 xs xs m)) (fun i _=>13-(intOf i).toNat)
 case atStart=>exact⟨0,[],rfl,Nat.zero_le _,Nat.zero_le _,Hd ⟨rfl,fun x hx=>by cases hx⟩,Hd ⟨2,by omega,HT0.o⟩⟩
 case round=>
  obtain⟨j,xs,rfl,hj1,hj2,HX,HT⟩:=hrel
  by_cases hjl:j<len
  ·have hjli:(j:Int)<(len:Int):=by omega
   by_cases hlt:j<12
   ·have hli:(j:Int)<12:=by omega
    obtain⟨x,z,hax,hzv,hz,CELL⟩:=CELLS j hjl;subst hax;have HJL:Hid (j+1<=len/\j+1<=12):=Hd ⟨by omega,by omega⟩;obtain⟨p,hp⟩:=BF z 50 (by decide);have hpl:=hp.1;obtain⟨pz,hpz⟩:∃ pz:Int,(p:Int)=pz:=⟨_,rfl⟩
    obtain⟨v,hv⟩:∃ v:Int,pz+1=v:=⟨_,rfl⟩
    have ev:IntKind.i64.wrap (1+pz)=v:=by rw[show 1+pz=v by omega];exact IntWalk.i64_in _ (by omega)
    have PK:=Hd (fun w=>tH z 50 p w hp hz (by decide) (q:=50) rfl hpz);obtain⟨m,hm,hT⟩:=HT.o;have hxl:=HX.1;have HM:=Hd hm;obtain⟨n,hn⟩:∃ n:Int,((j+1:Nat):Int)=n:=⟨_,rfl⟩
    have HN:=Hd hn;have e4:IntKind.i64.wrap ((j:Int)+1)=n:=by rw[show(j:Int)+1=n by omega];exact IntWalk.i64_in _ (by omega)
    have MT:=Hd (aBY hT (x:=v) (by omega) (by omega) (by omega) (by omega) (id:=n) (by omega));have HV:=Hd (show 1<=v/\v<=50 by omega);have ca:=CELL wr (chain B1 hT.from);clear hj1 hj2 hlt hzv hp hpl hpz hv hT hxl hm hz HT hn;go_wp2_with fail;refine(PK _).mono ?_;rintro e w4 ⟨rfl,rfl⟩;go_wp2_with fail;refine MT.mono ?_;rintro e w5 ⟨rfl,h1,_⟩;have T5:=Hd h1;clear h1 ca MT PK hjl
    go_upto_if 58 with fail
    go_cut [11] (fun bv wc=>∃ u:Int,bv=.int .i64 u/\Hid (1<=u/\u<=50)/\Hid (∃ m,m<=9+7*j/\LeS w1 [] wc t d s 50 (xs++[u]) (xs++[u]) m))
    case first=>
     by_cases hj3:j<len2
     ·have hj3i:(j:Int)<(len2:Int):=by omega
      obtain⟨x2,z2,hax2,hzv2,hz2,CELL2⟩:=CELLT j hj3;subst hax2;obtain⟨p2,hp2⟩:=BF z2 50 (by decide);have hpl2:=hp2.1;obtain⟨pz2,hpz2⟩:∃ pz:Int,(p2:Int)=pz:=⟨_,rfl⟩
      obtain⟨u,hu⟩:∃ v:Int,pz2+1=v:=⟨_,rfl⟩
      have eu:IntKind.i64.wrap (1+pz2)=u:=by rw[show 1+pz2=u by omega];exact IntWalk.i64_in _ (by omega)
      have PK2:=Hd (fun w=>tH z2 50 p2 w hp2 hz2 (by decide) (q:=50) rfl hpz2);have hxl:=HX.1;have RN:=Hd (XV (i:=j) (x:=u) (id:=n) T5 (by have:=HM.o;have:=HJL.o;omega) (by rw[List.length_append,hxl];simp) (by rw[List.getD_eq_getElem?_getD,List.getElem?_append_right (by omega),hxl,Nat.sub_self];have:=HV.o;simp;omega) (by have:=HN.o;omega) (by omega));have HU:=Hd (show 1<=u/\u<=50 by omega);have HXL:=Hd hxl;have ca2:=CELL2 w5 (chain B1 T5.from);clear hj3 hzv2 hp2 hpl2 hpz2 hu hz2 hxl;go_wp2_with fail
      refine(PK2 _).mono ?_;rintro e w6 ⟨rfl,rfl⟩;go_wp2_with fail;refine RN.mono ?_;rintro e w6 ⟨rfl,h1,_⟩
      have hset:∀ (a b:Int),(xs++[a]).set j b=xs++[b]:=fun a b=>by
       rw[List.set_append_right _ _ (by rw[HXL.o];exact Nat.le_refl _),HXL.o,Nat.sub_self]
       rfl
      rw[hset] at h1;have T6:=Hd h1;clear h1 RN hset ca2;go_wp2_with fail
      go_meet
      exact⟨u,rfl,HU,Hd ⟨_,by have:=HM.o;omega,T6.o⟩⟩
     ·have hj3i:¬ (j:Int)<(len2:Int):=by omega
      clear hj3;go_wp2_with fail
      go_meet
      exact⟨v,rfl,HV,Hd ⟨_,by have:=HM.o;omega,T5.o⟩⟩
    case rest=>
     obtain⟨u,rfl,HU,HT⟩:=hcut;have HX2:=Hd (HX.snoc HU.o);obtain⟨ys,hys⟩:∃ ys,xs++[u]=ys:=⟨_,rfl⟩
     have hyj:ys[j]?=some u:=by rw[<-hys,List.getElem?_append_right (by rw[HX.1];exact Nat.le_refl _),HX.1,Nat.sub_self];rfl
     have HYJ:=Hd hyj;have HT':=HT.o;have HX3:=HX2.o;rw[hys] at HT' HX3;have HT2:=Hd HT';have HX4:=Hd HX3;clear HT T5 HX HX2 hyj hys HT' HX3;go_wp2_with fail
     go_loopw [14] (fun nw wr=>∃ q:Nat,nw=.int .i64 (q:Int)/\q<=52/\Hid (∃ m,m<=9+7*j/\LeS w1 [] wr t d s 50 ys ys m)) (fun nw _=>53-(intOf nw).toNat)
     case atStart=>exact⟨0,rfl,by omega,HT2⟩
     case round=>
      obtain⟨q,rfl,hq,HT⟩:=hrel;obtain⟨m2,hm2,hT⟩:=HT.o;have HM2:=Hd hm2;have HT3:=Hd hT;clear hm2 hT HT
      by_cases hq1:q<=51
      ·have hqi:(q:Int)<=51:=by omega
       have HQ:=Hd hq1;have e5:IntKind.i64.wrap ((q:Int)+1)=((q+1:Nat):Int):=by rw[show(q:Int)+1=((q+1:Nat):Int) by omega];exact IntWalk.i64_in _ (by omega)
       have DU:=Hd (aD3 (n:=q) (now:=(q:Int)) (mo:=100) HT3 (by have:=HM2.o;have:=HJL.o;omega) rfl (by omega) (by decide));have hle:=YU ys q;have hct:=rP ys j q;rw[HYJ.o] at hct;simp only[Option.any_some,Bool.and_eq_true,decide_eq_true_eq] at hct;rw[show(j:Int)+1=n by have:=HN.o;omega] at hct;have HLE:=Hd (And.intro hle hct);clear hq hq1 HT3 hle hct;go_wp2_with fail;refine DU.mono ?_;rintro e w7 ⟨rv,rfl,hz,_,h1,_⟩
       rw[List.take_of_length_le (by have:=HLE.1;have:=HX4.1;have:=HJL.o;show _<=100;omega)] at hz;obtain⟨L,hL⟩:∃ L,(kX ys q).map (·.2)=L:=⟨_,rfl⟩
       have hct:=HLE.o;rw[hL] at hz hct;obtain⟨va,vc,rfl,hv1,hv2⟩:=hz.shape;have ROW:=Hd hz;have HCT:=Hd hct;have HL9:=Hd (show L.length<=20 by have:=hct.1;have:=HX4.1;have:=HJL.o;omega);have T7:=Hd (h1.sub (R':=[]) fun k hk=>by cases hk);clear hz hL h1 hct hv1 hv2 DU HLE;go_wp2_with fail
       go_loopw [17,18] (fun th k wr=>∃ p:Nat,k=.int .i64 (p:Int)/\p<=L.length/\th=.int .i64 (((L.take p).count n:Nat):Int)/\wr=w7) (fun _ k _=>L.length-(intOf k).toNat)
       case atStart=>exact⟨0,rfl,Nat.zero_le _,rfl,rfl⟩
       case round=>
        obtain⟨p,rfl,hp,rfl,rfl⟩:=hrel
        by_cases hpl:p<L.length
        ·have hpi:(p:Int)<(L.length:Int):=by omega
         obtain⟨y,hy⟩:∃ y,L[p]?=some y:=⟨_,List.getElem?_eq_getElem hpl⟩
         obtain⟨g,rfl,cg⟩:=ROW.at hy;have e6:IntKind.i64.wrap ((p:Int)+1)=((p+1:Nat):Int):=by rw[show(p:Int)+1=((p+1:Nat):Int) by omega];exact IntWalk.i64_in _ (by have:=HL9.o;omega)
         have hct:=JS (n:=n) hy;obtain⟨c,hc⟩:∃ c:Nat,(L.take p).count n=c:=⟨_,rfl⟩
         have hcl:c<=20:=by
          rw[<-hc];have h1:=List.count_le_length (a:=n) (l:=L.take p);have h2:=List.length_take_le p L;have:=HL9.o;omega
         rw[hc] at hct |-;have HP:=Hd hpl
         by_cases hyn:y=n
         ·have hyb:(y==n)=true:=by simpa using hyn
          rw[if_pos hyn] at hct;have HC:=Hd hct;have e7:IntKind.i64.wrap ((c:Int)+1)=((c+1:Nat):Int):=by rw[show(c:Int)+1=((c+1:Nat):Int) by omega];exact IntWalk.i64_in _ (by omega)
          clear hy hpl hp hct hc hcl hyn;go_wp2_with fail;go_roundw
          case rel=>exact⟨p+1,rfl,HP.o,(by rw[HC.o];first|rfl|simp),by first|rfl|trivial⟩
          case measure=>have:=HP.o;simp[intOf];omega
         ·have hyb:(y==n)=false:=by simpa using hyn
          rw[if_neg hyn,Nat.add_zero] at hct;have HC:=Hd hct;have HYN:=Hd hyn;clear hy hpl hp hct hc hcl;go_wp2_with fail;go_roundw
          case rel=>exact⟨p+1,rfl,HP.o,(by rw[HC.o];first|rfl|simp),by first|rfl|trivial⟩
          case measure=>have:=HP.o;simp[intOf];omega
        ·have hpi:¬ (p:Int)<(L.length:Int):=by omega
         have hct:=HCT.2;rw[List.take_of_length_le (by omega),hct];clear hct hpl hp ROW
         by_cases hu:u<=(q:Int)
         ·rw[if_pos ⟨HU.1,hu⟩]
          go_wp2_with fail;go_roundw
          case rel=>exact⟨q+1,rfl,by have:=HQ.o;omega,Hd ⟨_,HM2.o,T7.o⟩⟩
          case measure=>have:=HQ.o;simp[intOf];omega
         ·rw[if_neg (fun h=>hu h.2)]
          go_wp2_with fail;go_roundw
          case rel=>exact⟨q+1,rfl,by have:=HQ.o;omega,Hd ⟨_,HM2.o,T7.o⟩⟩
          case measure=>have:=HQ.o;simp[intOf];omega
      ·have hqi:¬ (q:Int)<=51:=by omega
       clear hq hq1;go_wp2_with fail;go_roundw
       case rel=>exact⟨j+1,ys,by rw[HN.o],HJL.1,HJL.2,HX4,Hd ⟨_,by have:=HM2.o;omega,HT3.o⟩⟩
       case measure=>have:=HJL.o;have:=HN.o;simp[intOf];omega
   ·have hli:¬ (j:Int)<12:=by omega
    have FIN:=Hd (show Below w1.heap.size w1 wr from by obtain⟨m,hm,hT⟩:=HT.o;exact hT.from);clear hlt hjl HT;go_wp2_with fail;go_ret;exact⟨rfl,chain B1 FIN.o⟩
  ·have hjli:¬ (j:Int)<(len:Int):=by omega
   have FIN:=Hd (show Below w1.heap.size w1 wr from by obtain⟨m,hm,hT⟩:=HT.o;exact hT.from);clear hjl HT;go_wp2_with fail;go_ret;exact⟨rfl,chain B1 FIN.o⟩
