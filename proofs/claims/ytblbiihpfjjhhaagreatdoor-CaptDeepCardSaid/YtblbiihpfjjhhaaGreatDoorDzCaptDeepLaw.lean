/-
 CaptDeepLaw.
-/
import Derived.Test.YtblbiihpfjjhhaaGreatDoorD21
import Derived.Deep.DeepCutAuto
namespace Go.Proofs.YtblbiihpfjjhhaaGreatDoor
open Go Go.RowKit
set_option maxRecDepth 20000
set_option maxHeartbeats 12800000
set_option linter.unusedVariables false
set_option linter.unusedSimpArgs false
def sU (i:Nat) (k:Int):aL:=⟨(i:Int),77,1,15,0,(i:Int) + 1,k,0,false⟩
def csD (ks:List Int):List (Option aL):=(List.range ks.length).map fun i=>some (sU i (ks.getD i 0))
theorem JF (ks:List Int):(csD ks).length=ks.length:=by unfold csD; rw [List.length_map,List.length_range]
theorem oL {ks:List Int} {i:Nat} (h:i < ks.length):(csD ks)[i]?=some (some (sU i (ks.getD i 0))):=by
 unfold csD;rw [List.getElem?_map,List.getElem?_range h]
 rfl
theorem NW (ks:List Int) (k:Int) (i:Nat) (h:i < ks.length):(ks ++ [k]).getD i 0=ks.getD i 0:=by
 rw [List.getD_eq_getElem?_getD,List.getD_eq_getElem?_getD,List.getElem?_append_left h]
theorem uO (ks:List Int) (k:Int):(ks ++ [k]).getD ks.length 0=k:=by
 rw [List.getD_eq_getElem?_getD,List.getElem?_append_right (Nat.le_refl _),Nat.sub_self]; rfl
theorem UR (ks:List Int) (k:Int):csD (ks ++ [k])=csD ks ++ [some (sU ks.length k)]:=by
 unfold csD;rw [List.length_append,List.length_singleton,List.range_succ,List.map_append]
 congr 1
 ·refine List.map_congr_left fun i hi=>?_
  rw [NW ks k i (List.mem_range.1 hi)]
 ·rw [List.map_singleton,uO]
def LD (ks:List Int):Nat→List (Int × aL)
 | 0=>[(1,sU 0 (ks.getD 0 0))]
 | i + 1=>((i:Int) + 2,sU (i + 1) (ks.getD (i + 1) 0)) :: LD ks i
theorem wP (ks:List Int):∀ i,(LD ks i).length=i + 1
 | 0=>rfl
 | i + 1=>by show (LD ks i).length + 1=_; rw [wP ks i]
theorem wO (ks:List Int):∀ (i:Nat) (p:Int × aL),p∈LD ks i→(p.2.rv=false∧p.2.cu=0∧1≤p.1)∧∃ j,j≤i∧p.2.ex=ks.getD j 0
 | 0,p,h=>by
  have e:p=(1,sU 0 (ks.getD 0 0)):=by simpa [LD] using h
  subst e;exact ⟨⟨rfl,rfl,Int.le_refl 1⟩,0,Nat.le_refl _,rfl⟩
 | i + 1,p,h=>by
  rcases List.mem_cons.1 h with rfl | h
  ·exact ⟨⟨rfl,rfl,by show 1≤(i:Int) + 2; omega⟩,i + 1,Nat.le_refl _,rfl⟩
  ·obtain ⟨h1,j,h2,h3⟩:=wO ks i p h
   exact ⟨h1,j,by omega,h3⟩
theorem sF {ks:List Int} (h:∀ k∈ks,0≤k∧k≤60) (j:Nat):0≤ks.getD j 0:=by
 rw [List.getD_eq_getElem?_getD]
 cases hj:ks[j]? with
 | none=>decide
 | some k=>exact (h k (List.mem_of_getElem? hj)).1
theorem JR {ks:List Int} (h:∀ k∈ks,0≤k∧k≤60):∀ i,i < ks.length→dV (LD ks i)=(ks.take (i + 1)).foldl fW 0
 | 0,hi=>by
  cases ks with
  | nil=>simp at hi
  | cons k r=>rfl
 | i + 1,hi=>by
  have ih:=JR h i (by omega)
  show dV (((i:Int) + 2,sU (i + 1) (ks.getD (i + 1) 0)) :: LD ks i)=_
  rw [sO _ _ (sF h (i + 1)) fun q hq=>by obtain ⟨_,j,_,e⟩:=wO ks i q hq; rw [e]; exact sF h j,ih,List.take_add_one (i:=i + 1),List.getElem?_eq_getElem hi,Option.toList_some,List.foldl_append]
  show fW _ (ks.getD (i + 1) 0)=fW _ ks[i + 1]
  rw [List.getD_eq_getElem?_getD,List.getElem?_eq_getElem hi]
  rfl
theorem oQ {E:List Ent} {ks ls:List Int} {os:List bJ} {m:Nat} (h:CpE E (csD ks) os ls m):∀ i,i < ks.length→ChainE E ((i:Int) + 1) (LD ks i)
 | 0,hi=>⟨rfl,h.getC (oL hi),.inl ⟨rfl,rfl⟩⟩
 | i + 1,hi=>by
  have ih:=oQ h i (by omega);have hg:=h.getC (oL hi);rw [show ((i + 1:Nat):Int) + 1=(i:Int) + 2 by omega] at hg ⊢;refine ⟨rfl,hg,.inr ⟨by show ((i + 1:Nat):Int)≠0; omega,?_⟩⟩
  show ChainE E ((i + 1:Nat):Int) (LD ks i)
  rw [show ((i + 1:Nat):Int)=(i:Int) + 1 by omega];exact ih
def DpS (w0:World) (R:List Nat) (w:World) (t d s:Nat) (ks:List Int) (m:Nat):Prop :=
 ∃ E,TxS w0 R w t d s 640 E∧CpE E (csD ks) [⟨⟨#[120]⟩,50,(ks.length:Int)⟩] ks m
section
variable {w0 w:World} {R:List Nat} {t d s m:Nat} {ks:List Int}
theorem DpS.from (h:DpS w0 R w t d s ks m):Below w0.heap.size w0 w:=by
 obtain ⟨E,h1,_⟩:=h;exact h1.from
theorem UO (h:TxS w0 R w t d s 640 []) :
  Calls Tryz.prog 24 #[.pointer (some ⟨t,0,none⟩),.string ⟨#[120]⟩,.int .i64 50] w fun e w' => e=.returned (.tuple #[.int .i64 1,.int .i64 0])∧DpS w0 R w' t d s [] 2:=by
 refine (JG (f:=⟨#[120]⟩) h CpE.nil (by decide) (by decide) (by decide) (by decide +kernel) (by decide +kernel) (by decide) (fun j q hq=>by simp at hq)).mono ?_;rintro e w' ⟨rfl,h1,_,h2⟩;exact ⟨rfl,_,h1,h2⟩
theorem ZC (h:DpS w0 R w t d s [] 2) :
  Calls Tryz.prog 26 #[.pointer (some ⟨t,0,none⟩),.int .i64 1,.int .i64 77,.int .i64 15,.int .i64 0,.int .i64 0] w fun e w' => e=.returned (.tuple #[.int .i64 1,.int .i64 0])∧DpS w0 R w' t d s [0] 7:=by
 obtain ⟨E,h1,h2⟩:=h;refine (AI (oi:=0) (ow:=1) (ob:=77) (ri:=15) (ba:=0) (ex:=0) h1 h2 (by decide) (by decide) rfl rfl (by decide) (by decide) (by decide) (by decide) (by decide)).mono ?_;rintro e w' ⟨E', rfl,g1,g2,g3⟩;exact ⟨rfl,E', g1,g3⟩
theorem aAM {now:Int} (hk:∀ k∈ks,0≤k∧k≤60) (i:Nat) (hn:now=0):stV (LD ks i) now=0:=by
 rw [WK fun p hp=>(wO ks i p hp).1,if_neg];have:=zX (LD ks i) fun q hq=>by obtain ⟨_,j,_,e⟩:=wO ks i q hq; rw [e]; exact sF hk j
 omega
theorem OH (h:DpS w0 R w t d s ks m) (hk:∀ k∈ks,0≤k∧k≤60) (hm:m≤280) (hn:1≤ks.length∧ks.length≤7) {k pa id:Int} (hk2:0≤k∧k≤60) (hpa:(ks.length:Int)=pa) (hid:(ks.length:Int) + 1=id) :
  Calls Tryz.prog 28 #[.pointer (some ⟨t,0,none⟩),.int .i64 pa,.int .i64 1,.int .i64 15,.int .i64 0,.int .i64 k,.int .i64 0] w fun e w' => e=.returned (.tuple #[.int .i64 id,.int .i64 0])∧DpS w0 R w' t d s (ks ++ [k]) (m + 5)∧KeptT R t w w' := by
 obtain ⟨E,h1,h2⟩:=h;have hch:=oQ h2 (ks.length - 1) (by omega);have hpp:((ks.length - 1:Nat):Int) + 1=pa:=by omega
 rw [hpp] at hch;refine (JK (oi:=0) (ow:=1) (i:=ks.length - 1) (ri:=15) (ba:=0) (ex:=k) (now:=0) (de:=pa + 1) (id:=id) h1 h2 hm (by rw [JF]; omega) rfl rfl (by show (ks.length:Int) < 50; omega) (oL (by omega)) hpp hch (by rw [wP]; omega) (aAM hk _ rfl) (show eZ 15 15=true by decide +kernel) (by show ((ks.length - 1:Nat):Int) + 1 < 8; omega) (by show ((ks.length - 1:Nat):Int) + 1 + 1=_; omega) (by decide) (by decide) (by omega) (by rw [JF]; exact hid)).mono ?_;rintro e w' ⟨E', rfl,g1,g2,g3⟩;refine ⟨rfl,⟨E', g1,?_⟩,g2⟩
 rw [UR,List.length_append];have e1:sU ks.length k=⟨pa,77,1,15,0,pa + 1,k,0,false⟩:=by unfold sU; rw [hpa]
 rw [e1];exact g3
theorem ZD (h:DpS w0 R w t d s ks m) (hk:∀ k∈ks,0≤k∧k≤60) (hm:m≤280) (hn:ks.length=8) {k:Int} (hk2:0≤k∧k≤60) :
  Calls Tryz.prog 28 #[.pointer (some ⟨t,0,none⟩),.int .i64 8,.int .i64 1,.int .i64 15,.int .i64 0,.int .i64 k,.int .i64 0] w fun e w' => e=.returned (.tuple #[.int .i64 0,.int .i64 9])∧DpS w0 R w' t d s ks m∧KeptT R t w w' := by
 obtain ⟨E,h1,h2⟩:=h;have hch:=oQ h2 7 (by omega);refine (AM (oi:=0) (ow:=1) (i:=7) (pa:=8) (ri:=15) (ba:=0) (ex:=k) (now:=0) (x:=9) h1 h2 (by omega) rfl rfl (oL (by omega)) rfl hch (by rw [wP]; decide) (aAM hk _ rfl) (by show (if eZ 15 15=true then (if (8:Int)≤8 then (9:Int) else 0) else 7)=9; rw [if_pos (show eZ 15 15=true by decide +kernel)]; rfl) (by decide) (by decide) (by decide) (by omega)).mono ?_;rintro e w' ⟨rfl,g1,g2⟩;exact ⟨rfl,⟨_,g1,h2⟩,g2⟩
theorem aBO (h:DpS w0 R w t d s ks m) (hm:m≤280) {id pa k:Int} (hn:1≤ks.length) (hid:(ks.length:Int)=id) (hpa:pa + 1=id) (hk:ks.getD (ks.length - 1) 0=k) :
  Calls Tryz.prog 29 #[.pointer (some ⟨t,0,none⟩),.int .i64 id] w fun e w' => e=.returned (.tuple #[.agg #[.int .i64 id,.int .i64 pa,.int .i64 77,.int .i64 1,.int .i64 15,.int .i64 0,.int .i64 id,.int .i64 k,.int .i64 0,.bool false],.int .i64 0])∧DpS w0 R w' t d s ks m∧KeptT R t w w' := by
 obtain ⟨E,h1,h2⟩:=h;have hE:=h2.len;have hg:=h2.getC (oL (i:=ks.length - 1) (ks:=ks) (by omega));rw [hk] at hg
 have e1:sU (ks.length - 1) k=⟨pa,77,1,15,0,id,k,0,false⟩:=by
  unfold sU;rw [show ((ks.length - 1:Nat):Int)=pa by omega,hpa]
 rw [e1,show ((ks.length - 1:Nat):Int) + 1=id by omega] at hg;refine (pD h1 (by omega) hg).mono ?_;rintro e w' ⟨rfl,g1,g2⟩;exact ⟨rfl,⟨_,g1,h2⟩,g2⟩
theorem qJ (h:DpS w0 R w t d s ks m) (hk:∀ k∈ks,0≤k∧k≤60) (hm:m≤280) {id x:Int} (hn:1≤ks.length∧ks.length≤8) (hid:(ks.length:Int)=id) (hx:ks.foldl fW 0=x) :
  Calls Tryz.prog 30 #[.pointer (some ⟨t,0,none⟩),.int .i64 id] w fun e w' => e=.returned (.tuple #[.int .i64 x,.int .i64 0])∧DpS w0 R w' t d s ks m∧KeptT R t w w' := by
 obtain ⟨E,h1,h2⟩:=h;have hE:=h2.len;have hch:=oQ h2 (ks.length - 1) (by omega);rw [show ((ks.length - 1:Nat):Int) + 1=id by omega] at hch;have he:=JR hk (ks.length - 1) (by omega);rw [show ks.length - 1 + 1=ks.length by omega,List.take_length,hx] at he;have EN:=VE h1 (by omega) hch (by rw [wP]; omega);rw [he] at EN;refine EN.mono ?_;rintro e w' ⟨rfl,g1,g2⟩;exact ⟨rfl,⟨_,g1,h2⟩,g2⟩
theorem DpS.box (h:DpS w0 R w t d s ks m) (o:Obj):DpS w0 (w.heap.size :: R) (w.alloc o) t d s ks m∧(w.alloc o).heap[w.heap.size]?=some o∧w.heap.size≠t:=by
 obtain ⟨E,h1,h2⟩:=h;obtain ⟨a1,a2,a3,a4,a5,a6,a7⟩:=h1.box o;exact ⟨⟨E,a1,h2⟩,a3,a4⟩
theorem DpS.sub {R' : List Nat} (h:DpS w0 R w t d s ks m) (hs:∀ k∈R', k∈R):DpS w0 R' w t d s ks m:=by
 obtain ⟨E,h1,h2⟩:=h;exact ⟨E,h1.sub hs,h2⟩
end
theorem captDeep_law (a:Option Addr) (len cap:Nat) (zs:List Int) (w:World) (hk:IsInts .i64 w a len cap zs) :
  Calls Tryz.prog 5 #[.slice a len cap] w fun e w' => e=.returned (.bool true)∧Below w.heap.size w w' := by
 have CELLS:=Hd (TN hk)
 have hlenL:(len:Int)≤9223372036854775807:=by
  rcases hk with ⟨_,rfl,_,_⟩ | ⟨_,_,h1,h2,_⟩
  ·decide
  ·unfold maxLen at h2; omega
 clear hk;go_enter Tryz.func5,Tryz.ntmps5;try simp only [List.append_eq,List.cons_append,List.nil_append]
 go_wp2_with fail;refine (sM _).mono ?_;rintro e w1 ⟨rfl,b1⟩;have B1:=Hd b1;clear b1;go_wp2_with fail;refine (uJ _).mono ?_;rintro e w2 ⟨t,d,s,rfl,h1⟩;have sn:=yP ⟨t,0,none⟩;have ST:=Hd (UO h1);clear h1;go_wp2_with fail;refine ST.out.mono ?_;rintro e w3 ⟨rfl,h1⟩;have MT:=Hd (ZC h1);clear h1 ST;go_wp2_with fail;refine MT.out.mono ?_;rintro e w4 ⟨rfl,h1⟩;have HT0:=Hd h1;clear h1 MT;go_wp2_with fail
 go_loopw [7,9,10] (fun nv lv i wr=>∃ (j:Nat) (ks:List Int) (n lz:Int),i=.int .i64 (j:Int)∧nv=.int .i64 n∧lv=.int .i64 lz∧j≤len∧j≤12∧Hid ((ks.length:Int)=n∧ks.length=min j 7 + 1∧ks.foldl fW 0=lz∧0≤lz∧lz≤60)∧Hid (∀ k∈ks,0≤k∧k≤60)∧Hid (∃ m,m≤2 + 5 * ks.length∧DpS w1 [] wr t d s ks m)) (fun _ _ i _=>13 - (intOf i).toNat)
 case atStart=>exact ⟨0,[0],1,0,rfl,rfl,rfl,Nat.zero_le _,Nat.zero_le _,Hd ⟨rfl,rfl,rfl,by decide,by decide⟩,Hd (fun k hk=>by rw [List.mem_singleton] at hk; subst hk; decide),Hd ⟨7,by decide,HT0.out⟩⟩
 case round =>
  obtain ⟨j,ks,n,lz,rfl,rfl,rfl,hj1,hj2,HN,HK,HT⟩:=hrel
  by_cases hjl:j < len
  ·have hjli:(j:Int) < (len:Int):=by omega
   by_cases hlt:j < 12
   ·have hli:(j:Int) < 12:=by omega
    obtain ⟨x,z,hax,hzv,hz,CELL⟩:=CELLS.out j hjl;subst hax;have HJL:Hid (j + 1≤len∧j + 1≤12):=Hd ⟨by omega,by omega⟩;have e4:IntKind.i64.wrap ((j:Int) + 1)=((j + 1:Nat):Int):=by rw [show (j:Int) + 1=((j + 1:Nat):Int) by omega]; exact IntWalk.i64_in _ (by omega)
    obtain ⟨p,hp⟩:=SF z 61 (by decide);have hpl:=hp.1;obtain ⟨k,hpz⟩:∃ pz:Int,(p:Int)=pz:=⟨_,rfl⟩
    have PK:=Hd (fun w=>CZ z 61 p w hp hz (by decide) (q:=61) rfl hpz);have HKK:=Hd (show 0≤k∧k≤60 by omega);obtain ⟨m,hm,hT⟩:=HT.out;have HM:=Hd hm;have hxl:=HN.out;have ca:=CELL.out wr (chain B1.out hT.from)
    by_cases h7:j < 7
    ·have h7i:¬ 7≤(j:Int):=by omega
     obtain ⟨id,hid⟩:∃ id:Int,n + 1=id:=⟨_,rfl⟩
     have DR:=Hd (OH hT HK.out (by omega) (by omega) (k:=k) (pa:=n) (id:=id) HKK.out (by omega) (by omega));have HID:=Hd (show n + 1=id∧id=(j:Int) + 2∧(ks.length:Int) + 1=id by omega);have e5:IntKind.i64.wrap ((j:Int) + 2)=id:=by rw [show (j:Int) + 2=id by omega]; exact IntWalk.i64_in _ (by omega)
     have HKS:=Hd (show ∀ q∈ks ++ [k],0≤q∧q≤60 from fun q hq=>by
      rcases List.mem_append.1 hq with hq | hq
      ·exact HK.out q hq
      ·rw [List.mem_singleton] at hq; subst hq; exact HKK.out)
     have HL2:=Hd (show (ks ++ [k]).length=ks.length + 1∧ks.length=j + 1 by rw [List.length_append]; exact ⟨rfl,by omega⟩);have H7:=Hd h7;clear hj1 hj2 hjl hlt hzv hp hpl hpz hT hm hz HT hxl hid h7;go_wp2_with fail;refine (PK.out _).mono ?_;rintro e w5 ⟨rfl,rfl⟩;go_wp2_with fail;refine DR.out.mono ?_;rintro e w6 ⟨rfl,h1,_⟩;have GT:=Hd (aBO h1 (by have:=HM.out; have:=HL2.out; have:=H7.out; omega) (id:=id) (pa:=n) (k:=k) (by have:=HL2.out; omega) (by have:=HL2.out; have:=HID.out; omega) HID.out.1 (by rw [HL2.out.1,Nat.add_sub_cancel]; exact uO ks k))
     clear h1 DR ca;go_wp2_with fail;refine GT.out.mono ?_;rintro e w7 ⟨rfl,h1,_⟩;obtain ⟨a1,a2,a3⟩:=h1.box (.cells #[.int .i64 id,.int .i64 n,.int .i64 77,.int .i64 1,.int .i64 15,.int .i64 0,.int .i64 id,.int .i64 k,.int .i64 0,.bool false] 53);obtain ⟨x1,hx1⟩:∃ x,w7.alloc (.cells #[.int .i64 id,.int .i64 n,.int .i64 77,.int .i64 1,.int .i64 15,.int .i64 0,.int .i64 id,.int .i64 k,.int .i64 0,.bool false] 53)=x:=⟨_,rfl⟩
     obtain ⟨bx,hbx⟩:∃ b,w7.heap.size=b:=⟨_,rfl⟩
     rw [hx1,hbx] at a1 a2;rw [hbx] at a3;have X1:=Hd (And.intro hx1 hbx);have A2:=Hd (And.intro a2 a3);have A1:=Hd a1;clear h1 GT a1 a2 a3 hx1 hbx;go_upto_region 19 with fail
     rw [X1.out.1];try rw [X1.out.2]
     by_cases hk0:k=0
     ·subst hk0
      have HF:=Hd (show (ks ++ [0]).foldl fW 0=lz∧0≤lz∧lz≤60 by
       have h1:=HN.out;have h2:=HKK.out;rw [List.foldl_append,h1.2.2.1]
       show fW lz 0=lz∧_
       unfold fW
       split <;> omega)
      have EN:=Hd (qJ A1.out HKS.out (by have:=HM.out; have:=HL2.out; have:=H7.out; omega) (id:=id) (x:=lz) (by have:=HL2.out; have:=H7.out; omega) (by have:=HL2.out; have:=HID.out; omega) HF.out.1);go_wp2_with fail;refine EN.out.mono ?_;rintro e w8 ⟨rfl,h1,h2⟩;obtain ⟨⟨y0,y1,y2,y3,y4,y5,y6,y7,y8,y9⟩,_⟩:=bV ((h2 bx (by simp) A2.out.2).trans A2.out.1);have T8:=Hd (h1.sub (R' := []) fun q hq=>by cases hq);clear h1 h2 EN;go_wp2_with fail;go_roundw
      case rel=>exact ⟨j + 1,ks ++ [0],id,lz,rfl,rfl,rfl,HJL.out.1,HJL.out.2,Hd ⟨by have:=HL2.out; have:=HID.out; omega,by have:=HL2.out; have:=H7.out; omega,HF.out.1,HF.out.2⟩,HKS,Hd ⟨_,by have:=HM.out; have:=HL2.out; omega,T8.out⟩⟩
      case measure=>have:=HJL.out; simp [intOf]; omega
     ·have hk1:0 < k:=by have:=HKK.out; omega
      by_cases hl0:lz=0
      ·subst hl0
       have HF:=Hd (show (ks ++ [k]).foldl fW 0=k∧0≤k∧k≤60 by
        have h1:=HN.out;have h2:=HKK.out;rw [List.foldl_append,h1.2.2.1]
        show fW 0 k=k∧_
        unfold fW
        split <;> omega)
       have EN:=Hd (qJ A1.out HKS.out (by have:=HM.out; have:=HL2.out; have:=H7.out; omega) (id:=id) (x:=k) (by have:=HL2.out; have:=H7.out; omega) (by have:=HL2.out; have:=HID.out; omega) HF.out.1);clear hk0;go_wp2_with fail;refine EN.out.mono ?_;rintro e w8 ⟨rfl,h1,h2⟩;obtain ⟨⟨y0,y1,y2,y3,y4,y5,y6,y7,y8,y9⟩,_⟩:=bV ((h2 bx (by simp) A2.out.2).trans A2.out.1);have T8:=Hd (h1.sub (R' := []) fun q hq=>by cases hq);clear h1 h2 EN;go_wp2_with fail;go_roundw
       case rel=>exact ⟨j + 1,ks ++ [k],id,k,rfl,rfl,rfl,HJL.out.1,HJL.out.2,Hd ⟨by have:=HL2.out; have:=HID.out; omega,by have:=HL2.out; have:=H7.out; omega,HF.out.1,HF.out.2⟩,HKS,Hd ⟨_,by have:=HM.out; have:=HL2.out; omega,T8.out⟩⟩
       case measure=>have:=HJL.out; simp [intOf]; omega
      ·have hlb:(lz == 0)=false:=by simpa using hl0
       by_cases hkl:k < lz
       ·skip
        have HF:=Hd (show (ks ++ [k]).foldl fW 0=k∧0≤k∧k≤60 by
         have h1:=HN.out;have h2:=HKK.out;rw [List.foldl_append,h1.2.2.1]
         show fW lz k=k∧_
         unfold fW
         split <;> omega)
        have EN:=Hd (qJ A1.out HKS.out (by have:=HM.out; have:=HL2.out; have:=H7.out; omega) (id:=id) (x:=k) (by have:=HL2.out; have:=H7.out; omega) (by have:=HL2.out; have:=HID.out; omega) HF.out.1);clear hk0 hl0;go_wp2_with fail;refine EN.out.mono ?_;rintro e w8 ⟨rfl,h1,h2⟩;obtain ⟨⟨y0,y1,y2,y3,y4,y5,y6,y7,y8,y9⟩,_⟩:=bV ((h2 bx (by simp) A2.out.2).trans A2.out.1);have T8:=Hd (h1.sub (R' := []) fun q hq=>by cases hq);clear h1 h2 EN;go_wp2_with fail;go_roundw
        case rel=>exact ⟨j + 1,ks ++ [k],id,k,rfl,rfl,rfl,HJL.out.1,HJL.out.2,Hd ⟨by have:=HL2.out; have:=HID.out; omega,by have:=HL2.out; have:=H7.out; omega,HF.out.1,HF.out.2⟩,HKS,Hd ⟨_,by have:=HM.out; have:=HL2.out; omega,T8.out⟩⟩
        case measure=>have:=HJL.out; simp [intOf]; omega
       ·skip
        have HF:=Hd (show (ks ++ [k]).foldl fW 0=lz∧0≤lz∧lz≤60 by
         have h1:=HN.out;have h2:=HKK.out;rw [List.foldl_append,h1.2.2.1]
         show fW lz k=lz∧_
         unfold fW
         split <;> omega)
        have EN:=Hd (qJ A1.out HKS.out (by have:=HM.out; have:=HL2.out; have:=H7.out; omega) (id:=id) (x:=lz) (by have:=HL2.out; have:=H7.out; omega) (by have:=HL2.out; have:=HID.out; omega) HF.out.1);clear hk0 hl0;go_wp2_with fail;refine EN.out.mono ?_;rintro e w8 ⟨rfl,h1,h2⟩;obtain ⟨⟨y0,y1,y2,y3,y4,y5,y6,y7,y8,y9⟩,_⟩:=bV ((h2 bx (by simp) A2.out.2).trans A2.out.1);have T8:=Hd (h1.sub (R' := []) fun q hq=>by cases hq);clear h1 h2 EN;go_wp2_with fail;go_roundw
        case rel=>exact ⟨j + 1,ks ++ [k],id,lz,rfl,rfl,rfl,HJL.out.1,HJL.out.2,Hd ⟨by have:=HL2.out; have:=HID.out; omega,by have:=HL2.out; have:=H7.out; omega,HF.out.1,HF.out.2⟩,HKS,Hd ⟨_,by have:=HM.out; have:=HL2.out; omega,T8.out⟩⟩
        case measure=>have:=HJL.out; simp [intOf]; omega
    ·have h7i:7≤(j:Int):=by omega
     have en:n=8:=by omega
     subst en;have DU:=Hd (ZD hT HK.out (by omega) (by omega) (k:=k) HKK.out);have HN2:=Hd (show (ks.length:Int)=8∧ks.length=min (j + 1) 7 + 1∧ks.foldl fW 0=lz∧0≤lz∧lz≤60 by omega);clear hj1 hj2 hjl hlt hzv hp hpl hpz hT hm hz HT hxl h7;go_wp2_with fail;refine (PK.out _).mono ?_;rintro e w5 ⟨rfl,rfl⟩;go_wp2_with fail;refine DU.out.mono ?_;rintro e w6 ⟨rfl,h1,_⟩;have T6:=Hd h1;clear h1 DU ca PK;go_wp2_with fail;go_roundw
     case rel=>exact ⟨j + 1,ks,8,lz,rfl,rfl,rfl,HJL.out.1,HJL.out.2,HN2,HK,Hd ⟨_,HM.out,T6.out⟩⟩
     case measure=>have:=HJL.out; simp [intOf]; omega
   ·have hli:¬ (j:Int) < 12:=by omega
    have FIN:=Hd (show Below w1.heap.size w1 wr from by obtain ⟨m,hm,hT⟩:=HT.out; exact hT.from);clear hlt hjl HT;go_wp2_with fail;go_ret;exact ⟨rfl,chain B1.out FIN.out⟩
  ·have hjli:¬ (j:Int) < (len:Int):=by omega
   have FIN:=Hd (show Below w1.heap.size w1 wr from by obtain ⟨m,hm,hT⟩:=HT.out; exact hT.from);clear hjl HT;go_wp2_with fail;go_ret;exact ⟨rfl,chain B1.out FIN.out⟩
end Go.Proofs.YtblbiihpfjjhhaaGreatDoor
