import Derived.Test.YthdgedcckdkpjaaGreatDoorE24
import Derived.Deep.CutBlock
namespace Go.Proofs.YthdgedcckdkpjaaGreatDoor
open Go Go.RowKit
set_option maxRecDepth 20000
set_option maxHeartbeats 12800000
set_option linter.unusedVariables false
set_option linter.unusedSimpArgs false
def yO (i:Nat)(k:Int):aX:=⟨(i:Int),1,1,1,0,(i:Int)+1,k,0,false⟩
def csG (ks:List Int):List (Option aX):=(List.range ks.length).map fun i=>some (yO i (ks.getD i 0))
theorem MN (ks:List Int):(csG ks).length=ks.length:=by unfold csG;rw[List.length_map,List.length_range]
theorem rZ {ks:List Int}{i:Nat}(h:i<ks.length):(csG ks)[i]?=some (some (yO i (ks.getD i 0))):=by
 unfold csG;rw[List.getElem?_map,List.getElem?_range h]
 rfl
theorem SM (ks:List Int)(k:Int)(i:Nat)(h:i<ks.length):(ks++[k]).getD i 0=ks.getD i 0:=by
 rw[List.getD_eq_getElem?_getD,List.getD_eq_getElem?_getD,List.getElem?_append_left h]
theorem SN (ks:List Int)(k:Int):(ks++[k]).getD ks.length 0=k:=by
 rw[List.getD_eq_getElem?_getD,List.getElem?_append_right (Nat.le_refl _),Nat.sub_self];rfl
theorem ZN (ks:List Int)(k:Int):csG (ks++[k])=csG ks++[some (yO ks.length k)]:=by
 unfold csG;rw[List.length_append,List.length_singleton,List.range_succ,List.map_append]
 congr 1
 ·refine List.map_congr_left fun i hi=>?_
  rw[SM ks k i (List.mem_range.1 hi)]
 ·rw[List.map_singleton,SN]
def LG (ks:List Int):Nat->List (Int × aX)
 | 0=>[(1,yO 0 (ks.getD 0 0))]
 | i+1=>((i:Int)+2,yO (i+1) (ks.getD (i+1) 0))::LG ks i
theorem uK (ks:List Int):∀ i,(LG ks i).length=i+1
 | 0=>rfl
 | i+1=>by show(LG ks i).length+1=_;rw[uK ks i]
theorem qU (ks:List Int):∀ (i:Nat) (p:Int × aX),p∈LG ks i->(p.2.rv=false/\p.2.cu=0/\1<=p.1)/\∃ j,j<=i/\p.2.ex=ks.getD j 0
 | 0,p,h=>by
  have e:p=(1,yO 0 (ks.getD 0 0)):=by simpa[LG] using h
  subst e;exact⟨⟨rfl,rfl,Int.le_refl 1⟩,0,Nat.le_refl _,rfl⟩
 | i+1,p,h=>by
  rcases List.mem_cons.1 h with rfl|h
  ·exact⟨⟨rfl,rfl,by show 1<=(i:Int)+2;omega⟩,i+1,Nat.le_refl _,rfl⟩
  ·obtain⟨h1,j,h2,h3⟩:=qU ks i p h
   exact⟨h1,j,by omega,h3⟩
theorem tQ {ks:List Int}(h:∀ k∈ks,0<=k/\k<=60)(j:Nat):0<=ks.getD j 0:=by
 rw[List.getD_eq_getElem?_getD]
 cases hj:ks[j]? with
 | none=>decide
 | some k=>exact(h k (List.mem_of_getElem? hj)).1
theorem sD {ks:List Int}(h:∀ k∈ks,0<=k/\k<=60):∀ i,i<ks.length->eZ (LG ks i)=(ks.take (i+1)).foldl jM 0
 | 0,hi=>by
  cases ks with
  | nil=>simp at hi
  | cons k r=>rfl
 | i+1,hi=>by
  have ih:=sD h i (by omega)
  show eZ (((i:Int)+2,yO (i+1) (ks.getD (i+1) 0))::LG ks i)=_
  rw[uA _ _ (tQ h (i+1)) fun q hq=>by obtain⟨_,j,_,e⟩:=qU ks i q hq;rw[e];exact tQ h j,ih,List.take_add_one (i:=i+1),List.getElem?_eq_getElem hi,Option.toList_some,List.foldl_append]
  show jM _ (ks.getD (i+1) 0)=jM _ ks[i+1]
  rw[List.getD_eq_getElem?_getD,List.getElem?_eq_getElem hi]
  rfl
theorem mU {E:List Ent}{ks ls:List Int}{os:List dP}{m:Nat}(h:CpE E (csG ks) os ls m):∀ i,i<ks.length->ChainE E ((i:Int)+1) (LG ks i)
 | 0,hi=>⟨rfl,h.getC (rZ hi),.inl ⟨rfl,rfl⟩⟩
 | i+1,hi=>by
  have ih:=mU h i (by omega);have hg:=h.getC (rZ hi);rw[show((i+1:Nat):Int)+1=(i:Int)+2 by omega] at hg |-;refine⟨rfl,hg,.inr ⟨by show((i+1:Nat):Int)≠0;omega,?_⟩⟩
  show ChainE E ((i+1:Nat):Int) (LG ks i)
  rw[show((i+1:Nat):Int)=(i:Int)+1 by omega];exact ih
def DqS (w0:World)(R:List Nat)(w:World)(t d s:Nat)(ks:List Int)(m:Nat):Prop:=
 ∃ E,TxS w0 R w t d s 640 E/\CpE E (csG ks) [⟨⟨#[120]⟩,100,(ks.length:Int)⟩] ks m
section
variable {w0 w:World} {R:List Nat} {t d s m:Nat} {ks:List Int}
theorem DqS.from (h:DqS w0 R w t d s ks m):Below w0.heap.size w0 w:=by
 obtain⟨E,h1,_⟩:=h;exact h1.from
theorem ZH (h:TxS w0 R w t d s 640 []) :
  Calls Tryz.prog 9 #[.pointer (some ⟨t,0,none⟩),.string ⟨#[120]⟩,.int .i64 100] w fun e w'=>e=.returned (.tuple #[.int .i64 1,.int .i64 0])/\DqS w0 R w' t d s [] 2:=by
 refine(ZO (f:=⟨#[120]⟩) h (by decide) (by decide +kernel) (by decide +kernel) (by decide)).mono ?_;rintro e w' ⟨rfl,h1,_,h2⟩;exact⟨rfl,_,h1,h2⟩
theorem aCJ {k:Int}(h:DqS w0 R w t d s [] m)(hm:m<=280)(hk2:0<=k/\k<=60) :
  Calls Tryz.prog 11 #[.pointer (some ⟨t,0,none⟩),.int .i64 1,.int .i64 1,.int .i64 1,.int .i64 0,.int .i64 k] w fun e w'=>e=.returned (.tuple #[.int .i64 1,.int .i64 0])/\DqS w0 R w' t d s [k] (m+5)/\KeptT R t w w':=by
 obtain⟨E,h1,h2⟩:=h;refine(ZS (oi:=0) (ow:=1) (ob:=1) (ri:=1) (ba:=0) (ex:=k) h1 h2 hm (by decide) rfl rfl (by decide) (by decide) (by decide) (by decide) (by omega)).mono ?_;rintro e w' ⟨E',rfl,g1,g2,g3⟩;exact⟨rfl,⟨E',g1,g3⟩,g2⟩
theorem aF4 {now:Int}(hk:∀ k∈ks,0<=k/\k<=60)(i:Nat)(hn:now=0):stV (LG ks i) now=0:=by
 rw[xC fun p hp=>(qU ks i p hp).1,if_neg];have:=CQ (LG ks i) fun q hq=>by obtain⟨_,j,_,e⟩:=qU ks i q hq;rw[e];exact tQ hk j
 omega
theorem TJ (h:DqS w0 R w t d s ks m)(hk:∀ k∈ks,0<=k/\k<=60)(hm:m<=280)(hn:1<=ks.length/\ks.length<=7){k pa id:Int}(hk2:0<=k/\k<=60)(hpa:(ks.length:Int)=pa)(hid:(ks.length:Int)+1=id) :
  Calls Tryz.prog 12 #[.pointer (some ⟨t,0,none⟩),.int .i64 pa,.int .i64 1,.int .i64 1,.int .i64 0,.int .i64 k,.int .i64 0] w fun e w'=>e=.returned (.tuple #[.int .i64 id,.int .i64 0])/\DqS w0 R w' t d s (ks++[k]) (m+5)/\KeptT R t w w':=by
 obtain⟨E,h1,h2⟩:=h;have hch:=mU h2 (ks.length-1) (by omega);have hpp:((ks.length-1:Nat):Int)+1=pa:=by omega
 rw[hpp] at hch;refine(aCY (oi:=0) (ow:=1) (i:=ks.length-1) (ri:=1) (ba:=0) (ex:=k) (now:=0) (de:=pa+1) (id:=id) h1 h2 hm (by rw[MN];omega) rfl rfl (by show(ks.length:Int)<100;omega) (rZ (by omega)) hpp hch (by rw[uK];omega) (aF4 hk _ rfl) (show iQ 1 1=true by decide +kernel) (by show((ks.length-1:Nat):Int)+1<8;omega) (by show((ks.length-1:Nat):Int)+1+1=_;omega) (by decide) (by decide) (by omega) (by rw[MN];exact hid)).mono ?_;rintro e w' ⟨E',rfl,g1,g2,g3⟩;refine⟨rfl,⟨E',g1,?_⟩,g2⟩
 rw[ZN,List.length_append];have e1:yO ks.length k=⟨pa,1,1,1,0,pa+1,k,0,false⟩:=by unfold yO;rw[hpa]
 rw[e1];exact g3
theorem aCK (h:DqS w0 R w t d s ks m)(hk:∀ k∈ks,0<=k/\k<=60)(hm:m<=280){id x:Int}(hn:1<=ks.length/\ks.length<=8)(hid:(ks.length:Int)=id)(hx:ks.foldl jM 0=x) :
  Calls Tryz.prog 13 #[.pointer (some ⟨t,0,none⟩),.int .i64 id] w fun e w'=>e=.returned (.tuple #[.int .i64 x,.int .i64 0])/\DqS w0 R w' t d s ks m/\KeptT R t w w':=by
 obtain⟨E,h1,h2⟩:=h;have hE:=h2.len;have hch:=mU h2 (ks.length-1) (by omega);rw[show((ks.length-1:Nat):Int)+1=id by omega] at hch;have he:=sD hk (ks.length-1) (by omega);rw[show ks.length-1+1=ks.length by omega,List.take_length,hx] at he;have EN:=ZV h1 (by omega) hch (by rw[uK];omega);rw[he] at EN;refine EN.mono ?_;rintro e w' ⟨rfl,g1,g2⟩;exact⟨rfl,⟨_,g1,h2⟩,g2⟩
theorem uD (h:DqS w0 R w t d s ks m)(hk:∀ k∈ks,0<=k/\k<=60)(hm:m<=280){id now lz x:Int}(hn:1<=ks.length/\ks.length<=8)(hid:(ks.length:Int)=id)(hz:ks.foldl jM 0=lz)(hx:(if lz≠0/\lz<=now then 11 else 0)=x) :
  Calls Tryz.prog 14 #[.pointer (some ⟨t,0,none⟩),.int .i64 id,.int .i64 now] w fun e w'=>e=.returned (.int .i64 x)/\DqS w0 R w' t d s ks m/\KeptT R t w w':=by
 obtain⟨E,h1,h2⟩:=h;have hE:=h2.len;have hch:=mU h2 (ks.length-1) (by omega);rw[show((ks.length-1:Nat):Int)+1=id by omega] at hch;have he:=sD hk (ks.length-1) (by omega);rw[show ks.length-1+1=ks.length by omega,List.take_length,hz] at he;have ST:=qO (now:=now) h1 (by omega) hch (by rw[uK];omega);rw[xC fun p hp=>(qU ks _ p hp).1,he,hx] at ST;refine ST.mono ?_;rintro e w' ⟨rfl,g1,g2⟩;exact⟨rfl,⟨_,g1,h2⟩,g2⟩
theorem jI (h:DqS w0 R w t d s ks m)(hk:∀ k∈ks,0<=k/\k<=60)(hm:m<=280){id now lz x ex y:Int}(hn:1<=ks.length/\ks.length<=8)(hid:(ks.length:Int)=id)(hz:ks.foldl jM 0=lz)(hx:(if lz≠0/\lz<=now then 11 else 0)=x)(hy:(if x≠0 then x else if jN ex now=true then 0 else 1)=y) :
  Calls Tryz.prog 15 #[.pointer (some ⟨t,0,none⟩),.int .i64 id,.int .i64 ex,.int .i64 now] w fun e w'=>e=.returned (.int .i64 y)/\Below w0.heap.size w0 w':=by
 obtain⟨E,h1,h2⟩:=h;have hE:=h2.len;have hch:=mU h2 (ks.length-1) (by omega);have hg:=h2.getC (rZ (i:=ks.length-1) (ks:=ks) (by omega));rw[show((ks.length-1:Nat):Int)+1=id by omega] at hch hg;have he:=sD hk (ks.length-1) (by omega);rw[show ks.length-1+1=ks.length by omega,List.take_length,hz] at he;have hst:stV (LG ks (ks.length-1)) now=x:=by rw[xC fun p hp=>(qU ks _ p hp).1,he,hx]
 refine(RN (ex:=ex) h1 (by omega) hch (by rw[uK];omega) hg hst).mono ?_;rintro e w' ⟨h3,_⟩
 rcases h3 with⟨e1,rfl,g1⟩|⟨e1,e2,rfl,g1⟩|⟨e1,e2,rfl,g1⟩
 ·rw[if_pos e1] at hy;rw[<-hy];exact⟨rfl,g1.from⟩
 ·rw[if_neg (fun h=>h e1),if_neg (by rw[e2];decide)] at hy;rw[<-hy];exact⟨rfl,g1.from⟩
 ·rw[if_neg (fun h=>h e1),if_pos e2] at hy;rw[<-hy];exact⟨rfl,g1.from⟩
end
theorem leaseEnds_law (a:Option Addr)(len cap:Nat)(zs:List Int)(a1 a2:Int)(w:World)(hk:IsInts .i64 w a len cap zs)(v1:(Lit.int .i64 a1).wf=true)(v2:(Lit.int .i64 a2).wf=true) :
  Calls Tryz.prog 3 #[.slice a len cap,.int .i64 a1,.int .i64 a2] w fun e w'=>e=.returned (.bool true)/\Below w.heap.size w w':=by
 have CELLS:=Hd (YL hk);obtain⟨p1,hp1⟩:=tB a1 50 (by decide);obtain⟨p2,hp2⟩:=tB a2 60 (by decide);have q1:=hp1.1;have q2:=hp2.1;obtain⟨nw,hnw⟩:∃ x:Int,(p1:Int)=x:=⟨_,rfl⟩
 obtain⟨rn,hrn⟩:∃ x:Int,(p2:Int)=x:=⟨_,rfl⟩
 have PN:=Hd (fun w=>oC a1 50 p1 w hp1 (rH a1 v1) (by decide) (q:=50) rfl hnw);have PR:=Hd (fun w=>oC a2 60 p2 w hp2 (rH a2 v2) (by decide) (q:=60) rfl hrn);have HNR:=Hd (show(0<=nw/\nw<50)/\0<=rn/\rn<60 by omega)
 have hlenL:(len:Int)<=9223372036854775807:=by
  rcases hk with⟨_,rfl,_,_⟩|⟨_,_,h1,h2,_⟩
  ·decide
  ·unfold maxLen at h2;omega
 clear hk v1 v2 hp1 hp2 q1 q2 hnw hrn;go_enter Tryz.func3,Tryz.ntmps3;try simp only[List.append_eq,List.cons_append,List.nil_append]
 go_wp2_with fail;refine(tZ _).mono ?_;rintro e w1 ⟨rfl,b1⟩;have B1:=Hd b1;clear b1;go_wp2_with fail;refine(wE _).mono ?_;rintro e w2 ⟨t,d,s,rfl,h1⟩;have sn:=AT ⟨t,0,none⟩;have ST:=Hd (ZH h1);clear h1;go_wp2_with fail;refine ST.mono ?_;rintro e w3 ⟨rfl,h1⟩;have HT0:=Hd h1;clear h1 ST;go_wp2_with fail;refine(PN _).mono ?_;rintro e w4 ⟨rfl,rfl⟩;clear PN
 go_upto_block 0 with fail
 go_cut [11,12] (fun lv nv wc=>∃ (j:Nat) (ks:List Int) (lz:Int),nv=.int .i64 (j:Int)/\lv=.int .i64 lz/\j<=8/\Hid (ks.length=j/\ks.foldl jM 0=lz/\0<=lz/\lz<=60)/\Hid (∀ k∈ks,0<=k/\k<=60)/\Hid (∃ m,m<=2+5*j/\DqS w1 [] wc t d s ks m))
 case first=>
  go_wp2_with fail
  go_loopw [11,12,13] (fun lv nv i wr=>∃ (j:Nat) (ks:List Int) (lz:Int),i=.int .i64 (j:Int)/\nv=.int .i64 (j:Int)/\lv=.int .i64 lz/\j<=len/\j<=8/\Hid (ks.length=j/\ks.foldl jM 0=lz/\0<=lz/\lz<=60)/\Hid (∀ k∈ks,0<=k/\k<=60)/\Hid (∃ m,m<=2+5*j/\DqS w1 [] wr t d s ks m)) (fun _ _ i _=>9-(intOf i).toNat)
  case atStart=>exact⟨0,[],0,rfl,rfl,rfl,Nat.zero_le _,Nat.zero_le _,Hd ⟨rfl,rfl,by decide,by decide⟩,Hd (fun k hk=>by cases hk),Hd ⟨2,by decide,HT0.o⟩⟩
  case round=>
   obtain⟨j,ks,lz,rfl,rfl,rfl,hj1,hj2,HN,HK,HT⟩:=hrel
   by_cases hjl:j<len
   ·have hjli:(j:Int)<(len:Int):=by omega
    by_cases hlt:j<8
    ·have hli:(j:Int)<8:=by omega
     obtain⟨x,z,hax,hzv,hz,CELL⟩:=CELLS j hjl;subst hax;have HJL:Hid (j+1<=len/\j+1<=8):=Hd ⟨by omega,by omega⟩;have e4:IntKind.i64.wrap ((j:Int)+1)=((j+1:Nat):Int):=by rw[show(j:Int)+1=((j+1:Nat):Int) by omega];exact IntWalk.i64_in _ (by omega)
     obtain⟨p,hp⟩:=tB z 41 (by decide);have hpl:=hp.1;obtain⟨k,hpz⟩:∃ pz:Int,(p:Int)=pz:=⟨_,rfl⟩
     have PK:=Hd (fun w=>oC z 41 p w hp hz (by decide) (q:=41) rfl hpz);have HKK:=Hd (show 0<=k/\k<=60 by omega);obtain⟨m,hm,hT⟩:=HT.o;have HM:=Hd hm;have ca:=CELL wr (chain B1 hT.from);have H0:=Hd hT
     have HKS:=Hd (show ∀ q∈ks++[k],0<=q/\q<=60 from fun q hq=>by
      rcases List.mem_append.1 hq with hq|hq
      ·exact HK q hq
      ·rw[List.mem_singleton] at hq;subst hq;exact HKK.o)
     have HL2:=Hd (show(ks++[k]).length=j+1 by rw[List.length_append,HN.1];rfl);obtain⟨id,hid⟩:∃ id:Int,((j+1:Nat):Int)=id:=⟨_,rfl⟩
     have HID:=Hd hid;rw[hid] at e4;clear hj1 hj2 hjl hlt hzv hp hpl hpz hT hm hz HT hid;go_wp2_with fail;refine(PK _).mono ?_;rintro e w5 ⟨rfl,rfl⟩;clear PK ca
     go_upto_if 52 with fail
     go_cut [15,16] (fun mv fv wc=>mv=.int .i64 id/\fv=.int .i64 0/\Hid (DqS w1 [] wc t d s (ks++[k]) (m+5)))
     case first=>
      by_cases h0:j=0
      ·subst h0
       have hk0:ks=[]:=List.length_eq_zero_iff.1 HN.1;subst hk0;have hi1:id=1:=HID.symm;subst hi1;have MT:=Hd (aCJ H0 (by have:=HM.o;omega) HKK.o);go_wp2_with fail;refine MT.mono ?_;rintro e w6 ⟨rfl,h1,_⟩;have T6:=Hd h1;clear h1 MT;go_wp2_with fail
       go_meet
       exact⟨rfl,rfl,T6⟩
      ·have hj0:¬ (j:Int)=0:=by omega
       have hj0b:((j:Int)==0)=false:=by simpa using hj0
       have DR:=Hd (TJ H0 HK (by have:=HM.o;have:=HJL.o;omega) (by have:=HN.o;have:=HJL.o;omega) (k:=k) (pa:=(j:Int)) (id:=id) HKK (by have:=HN.o;omega) (by have:=HN.o;have:=HID.o;omega));clear h0;go_wp2_with fail;refine DR.mono ?_;rintro e w6 ⟨rfl,h1,_⟩;have T6:=Hd h1;clear h1 DR;go_wp2_with fail
       go_meet
       exact⟨rfl,rfl,T6⟩
     case rest=>
      obtain⟨rfl,rfl,T6⟩:=hcut;clear H0
      rcases(show k=0\/(0<k/\lz=0)\/(0<k/\¬ lz=0/\k<lz)\/(0<k/\¬ lz=0/\¬ k<lz) by have:=HKK.o;omega) with h|⟨h,h'⟩|⟨h,h',h''⟩|⟨h,h',h''⟩
      all_goals
       have HH:Hid (jM lz k=if 0<k/\(lz=0\/k<lz) then k else lz):=Hd (by have:=HKK.o;unfold jM;split <;> split <;> omega);have HF:=Hd (show(ks++[k]).foldl jM 0=if 0<k/\(lz=0\/k<lz) then k else lz by rw[List.foldl_append,HN.2.1];exact HH.o)
       first
        | rw[if_pos (by omega)] at HF
        | rw[if_neg (by omega)] at HF
       try have hlb:(lz==0)=false:=by simpa using h'
       go_wp2_with fail;go_roundw
       case rel=>exact⟨j+1,ks++[k],_,by rw[HID.o],by rw[HID.o],rfl,HJL.1,HJL.2,Hd ⟨HL2.o,HF.o,by have:=HKK.o;have:=HN.o;omega⟩,HKS,Hd ⟨_,by have:=HM.o;omega,T6.o⟩⟩
       case measure=>have:=HJL.o;have:=HID.o;simp[intOf];omega
    ·have hli:¬ (j:Int)<8:=by omega
     go_wp2_with fail
     go_meet
     exact⟨j,ks,lz,rfl,rfl,hj2,HN,HK,HT⟩
   ·have hjli:¬ (j:Int)<(len:Int):=by omega
    go_wp2_with fail
    go_meet
    exact⟨j,ks,lz,rfl,rfl,hj2,HN,HK,HT⟩
 case rest=>
  obtain⟨j,ks,lz,rfl,rfl,hj2,HN,HK,HT⟩:=hcut;obtain⟨m,hm,hT⟩:=HT.o;have HM:=Hd hm;have H0:=Hd hT;have HJ:=Hd hj2;clear hm hT HT hj2 CELLS HT0
  by_cases h0:j=0
  ·subst h0
   have FIN:=Hd (chain B1 H0.from);go_wp2_with fail;go_ret;exact⟨rfl,FIN.o⟩
  ·have hj0:¬ (j:Int)=0:=by omega
   have hj0b:((j:Int)==0)=false:=by simpa using hj0
   have HJ0:=Hd (show 1<=ks.length/\ks.length<=8/\m<=280/\(ks.length:Int)=(j:Int) by have:=HN.o;have:=HM.o;have:=HJ.o;omega);have EN:=Hd (aCK H0 HK HJ0.2.2.1 (id:=(j:Int)) (x:=lz) ⟨HJ0.1,HJ0.2.1⟩ HJ0.2.2.2 HN.2.1);clear h0 H0;go_wp2_with fail;refine EN.mono ?_;rintro e w5 ⟨rfl,h1,_⟩;have H5:=Hd h1;clear h1 EN
   by_cases hl0:lz=0
   ·subst hl0
    have HX:=Hd (show(if(0:Int)≠0/\(0:Int)<=nw then 11 else 0)=(0:Int) by rw[if_neg (by simp)]);have SA:=Hd (uD H5 HK HJ0.2.2.1 (id:=(j:Int)) (now:=nw) (lz:=0) (x:=0) ⟨HJ0.1,HJ0.2.1⟩ HJ0.2.2.2 HN.2.1 HX.o);go_wp2_with fail;refine SA.mono ?_;rintro e w6 ⟨rfl,h1,_⟩;have H6:=Hd h1;clear h1 SA;go_wp2_with fail;refine(PR _).mono ?_;rintro e w7 ⟨rfl,rfl⟩
    rcases(show rn=0\/(¬ rn=0/\nw<rn)\/(¬ rn=0/\¬ nw<rn) by omega) with rfl|⟨hr,h'⟩|⟨hr,h'⟩
    rotate_left
    ·have hrb:(rn==0)=false:=by simpa using hr
     have HY:=Hd (show(if jN rn nw=true then(0:Int) else 1)=0 by rw[if_pos];unfold jN;simp only[Bool.or_eq_true,Bool.and_eq_true,decide_eq_true_eq];have:=HNR.o;omega);have RW:=Hd (jI (ex:=rn) H6 HK HJ0.2.2.1 ⟨HJ0.1,HJ0.2.1⟩ HJ0.2.2.2 HN.2.1 HX ((if_neg (by decide)).trans HY.o));go_wp2_with fail;refine RW.mono ?_;rintro e w8 ⟨rfl,b8⟩;have FIN:=Hd (chain B1 b8);clear b8 RW;go_wp2_with fail;go_ret;exact⟨rfl,FIN.o⟩
    ·have hrb:(rn==0)=false:=by simpa using hr
     have hrd:decide (nw<rn)=false:=decide_eq_false h';have HY:=Hd (show(if jN rn nw=true then(0:Int) else 1)=1 by rw[if_neg];unfold jN;simp only[Bool.or_eq_true,Bool.and_eq_true,decide_eq_true_eq];have:=HNR.o;omega);have RW:=Hd (jI (ex:=rn) H6 HK HJ0.2.2.1 ⟨HJ0.1,HJ0.2.1⟩ HJ0.2.2.2 HN.2.1 HX ((if_neg (by decide)).trans HY.o));go_wp2_with fail;refine RW.mono ?_;rintro e w8 ⟨rfl,b8⟩;have FIN:=Hd (chain B1 b8);clear b8 RW;go_wp2_with fail;go_ret;exact⟨rfl,FIN.o⟩
    ·have HY:=Hd (show(if jN 0 nw=true then(0:Int) else 1)=0 by rw[if_pos];unfold jN;simp)
     have RW:=Hd (jI (ex:=0) H6 HK HJ0.2.2.1 ⟨HJ0.1,HJ0.2.1⟩ HJ0.2.2.2 HN.2.1 HX ((if_neg (by decide)).trans HY.o));go_wp2_with fail;refine RW.mono ?_;rintro e w8 ⟨rfl,b8⟩;have FIN:=Hd (chain B1 b8);clear b8 RW;go_wp2_with fail;go_ret;exact⟨rfl,FIN.o⟩
   ·have hlb:(lz==0)=false:=by simpa using hl0
    have hlb2:(lz != 0)=true:=by simpa using hl0
    by_cases hov:lz<=nw
    ·have HX:=Hd (show(if lz≠0/\lz<=nw then 11 else 0)=(11:Int) by rw[if_pos ⟨hl0,hov⟩])
     clear hl0;have SA:=Hd (uD H5 HK HJ0.2.2.1 (id:=(j:Int)) (now:=nw) (lz:=lz) (x:=11) ⟨HJ0.1,HJ0.2.1⟩ HJ0.2.2.2 HN.2.1 HX.o);go_wp2_with fail;refine SA.mono ?_;rintro e w6 ⟨rfl,h1,_⟩;have H6:=Hd h1;clear h1 SA;go_wp2_with fail;refine(PR _).mono ?_;rintro e w7 ⟨rfl,rfl⟩;have RW:=Hd (jI H6 HK HJ0.2.2.1 (id:=(j:Int)) (now:=nw) (lz:=lz) (x:=11) (ex:=rn) (y:=11) ⟨HJ0.1,HJ0.2.1⟩ HJ0.2.2.2 HN.2.1 HX (by rw[if_pos (by decide)]));go_wp2_with fail;refine RW.mono ?_
     rintro e w8 ⟨rfl,b8⟩;have FIN:=Hd (chain B1 b8);clear b8 RW;go_wp2_with fail;go_ret;exact⟨rfl,FIN.o⟩
    ·have HX:=Hd (show(if lz≠0/\lz<=nw then 11 else 0)=(0:Int) by rw[if_neg (fun h=>hov h.2)])
     clear hl0;have SA:=Hd (uD H5 HK HJ0.2.2.1 (id:=(j:Int)) (now:=nw) (lz:=lz) (x:=0) ⟨HJ0.1,HJ0.2.1⟩ HJ0.2.2.2 HN.2.1 HX.o);go_wp2_with fail;refine SA.mono ?_;rintro e w6 ⟨rfl,h1,_⟩;have H6:=Hd h1;clear h1 SA;go_wp2_with fail;refine(PR _).mono ?_;rintro e w7 ⟨rfl,rfl⟩
     rcases(show rn=0\/(¬ rn=0/\nw<rn)\/(¬ rn=0/\¬ nw<rn) by omega) with rfl|⟨hr,h'⟩|⟨hr,h'⟩
     rotate_left
     ·have hrb:(rn==0)=false:=by simpa using hr
      have HY:=Hd (show(if jN rn nw=true then(0:Int) else 1)=0 by rw[if_pos];unfold jN;simp only[Bool.or_eq_true,Bool.and_eq_true,decide_eq_true_eq];have:=HNR.o;omega);have RW:=Hd (jI (ex:=rn) H6 HK HJ0.2.2.1 ⟨HJ0.1,HJ0.2.1⟩ HJ0.2.2.2 HN.2.1 HX ((if_neg (by decide)).trans HY.o));go_wp2_with fail;refine RW.mono ?_;rintro e w8 ⟨rfl,b8⟩;have FIN:=Hd (chain B1 b8);clear b8 RW;go_wp2_with fail;go_ret;exact⟨rfl,FIN.o⟩
     ·have hrb:(rn==0)=false:=by simpa using hr
      have hrd:decide (nw<rn)=false:=decide_eq_false h';have HY:=Hd (show(if jN rn nw=true then(0:Int) else 1)=1 by rw[if_neg];unfold jN;simp only[Bool.or_eq_true,Bool.and_eq_true,decide_eq_true_eq];have:=HNR.o;omega);have RW:=Hd (jI (ex:=rn) H6 HK HJ0.2.2.1 ⟨HJ0.1,HJ0.2.1⟩ HJ0.2.2.2 HN.2.1 HX ((if_neg (by decide)).trans HY.o));go_wp2_with fail;refine RW.mono ?_;rintro e w8 ⟨rfl,b8⟩;have FIN:=Hd (chain B1 b8);clear b8 RW;go_wp2_with fail;go_ret;exact⟨rfl,FIN.o⟩
     ·have HY:=Hd (show(if jN 0 nw=true then(0:Int) else 1)=0 by rw[if_pos];unfold jN;simp)
      have RW:=Hd (jI (ex:=0) H6 HK HJ0.2.2.1 ⟨HJ0.1,HJ0.2.1⟩ HJ0.2.2.2 HN.2.1 HX ((if_neg (by decide)).trans HY.o));go_wp2_with fail;refine RW.mono ?_;rintro e w8 ⟨rfl,b8⟩;have FIN:=Hd (chain B1 b8);clear b8 RW;go_wp2_with fail;go_ret;exact⟨rfl,FIN.o⟩
