import Derived.Test.YtknikcihgijmlaaGreatDoorM10
import Derived.Test.YtknikcihgijmlaaGreatDoorM11
import Derived.Test.YtknikcihgijmlaaGreatDoorM12
namespace Go.Proofs.YtknikcihgijmlaaGreatDoor
open Go.RowKit
set_option maxRecDepth 20000
set_option maxHeartbeats 12800000
set_option linter.unusedVariables false
set_option linter.unusedSimpArgs false
theorem aD4 {l:List Int}(hn:l.Nodup)(hb:∀ x∈l,2<=x/\x<640):l.length<=640:=by
 have h1:(l.map Int.toNat).Nodup:=by
  refine List.pairwise_map.2 (hn.imp_of_mem fun{a b} ha hb' hne e=>?_);have h3:=hb a ha;have h4:=hb b hb';exact hne (by omega)
 have h2:=tO 640 (l.map Int.toNat) h1 (fun x hx=>by
  obtain⟨y,hy,rfl⟩:=List.mem_map.1 hx;have:=hb y hy;omega)
 simpa using h2
def lT (st:ShS)(size:Nat):Nat->Nat
 | 0=>0
 | k+1=>lT st size k+(if 2<=k/\gI st.h.used (k:Int)=true then 1 else 0)
def mF (st:ShS)(size:Nat):Nat:=lT st size size
def fC:HdS:=⟨1,0,Str (List.replicate 80 0)⟩
theorem nX:aES fC:=⟨by decide,by decide,by decide,by decide,by show(Str (List.replicate 80 0)).size=80;decide⟩
def Born (w:World)(d:Nat)(dk:DkS)(st:ShS)(F:Nat->Prop)(w':World)(v:Value):Prop:=∃ s FS FD',v=.pointer (some ⟨s,0,none⟩)/\DS w' d s dk st FD' FS/\Frm F w w'/\(∀ k,FD' k->F k\/w.heap.size<=k)/\∀ k,FS k->w.heap.size<=k
theorem Born.of {w w1 w2:World}{d:Nat}{dk:DkS}{st:ShS}{F:Nat->Prop}{v:Value}(h:DkPost w d dk F w1)(b:Below w1.heap.size w1 w2)(ho:KH w2 d st w1 v):Born w d dk st F w2 v:=by
 obtain⟨FD',h1,h2,h3⟩:=h;obtain⟨s,FS,rfl,hs,hn⟩:=ho;refine⟨s,FS,FD',rfl,⟨h1.below b,hs,fun k hk hx=>?_⟩,h2.trans (Frm.of_below (F:=F) b) (fun i hi=>.inl hi),h3,fun k hk=>Nat.le_trans h2.size (hn k hk)⟩;have:=h1.lt k hk;have:=hn k hx;omega
def aC0 (w:World)(d:Nat)(F:Nat->Prop)(r:DkS × Int)(e:Ending)(w':World):Prop:=
 (r.2=0->∃ v,e=.returned (.tuple #[v,(0:Int)])/\Born w d r.1 (ShS.new fC) F w' v)/\(r.2≠0->e=.returned (.tuple #[.pointer none,.int .i64 r.2])/\DkPost w d r.1 F w')
theorem SG (w:World)(d:Nat)(dk:DkS)(F:Nat->Prop)(hd:Dk w d dk F) :
  () 25 #[d] w fun e w'=>aC0 w d F (fV dk fC) e w':=by
 have BN:=Hd (fun w=>aBL 640 w (by decide) (by decide));have hn:aBM 640=80:=by decide
 rw[hn] at BN;obtain⟨T,hT⟩:∃ T,Str (List.replicate 80 0)=T:=⟨_,rfl⟩
 rw[hT] at BN;have WRH:=Hd (fun w' FD' (h':Dk w' d dk FD')=>xG w' d dk FD' h' fC nX.g0 (by have:=nX.g1;omega) nX.r0 (by have:=nX.r1;omega) (by have:=nX.u;omega));have OPN:=Hd (fun w'=>aBH w' d fC nX);have hH:fC=⟨1,0,T⟩:=by rw[<-hT];rfl
 obtain⟨⟨dk2,q⟩,hq⟩:∃ r,fV dk fC=r:=⟨_,rfl⟩
 rw[hq] at WRH |-;unfold hdV at WRH OPN;have hg:fC.gen=1:=rfl;have hr:fC.root=0:=rfl;have hu:fC.used=T:=hT;rw[hg,hr,hu] at WRH OPN;have HD:=Hd hd;clear hd hn hT hH hq hg hr hu;go_enter Tryz.func25,Tryz.ntmps25;go_wp2_with fail;refine(BN _).mono ?_;rintro e w1 ⟨rfl,b1⟩;have B1:=Hd b1;clear b1;go_upto_region 2 with fail
 obtain⟨w2,hw2⟩:∃ w2,w1.alloc (.cells #[(1:Int),(0:Int),.string T] 113)=w2:=⟨_,rfl⟩
 rw[hw2];have b2:Below w1.heap.size w1 w2:=by rw[<-hw2];exact aB _ _
 have X2:w2.heap[w1.heap.size]?=some (.cells #[(1:Int),(0:Int),.string T] 113):=by rw[<-hw2];exact han _ _
 have B2:=Hd (chain B1 b2);have HD2:=Hd (HD.below B2.o)
 have HL:¬ F w1.heap.size:=fun hx=>by
  have:=HD.lt _ hx;have:=B1.size;omega
 have LY:=(zl X2);have XH:=Hd X2;have y0:=cl X2 0 rfl;have y1:=cl X2 1 rfl;have y2:=cl X2 2 rfl;clear b2 hw2 X2 HD;go_wp2_with fail;refine(WRH _ F HD2.o).mono ?_;rintro e w3 ⟨rfl,hp⟩;obtain⟨FD3,h3,f3,n3⟩:=hp;have P3:Hid (DkPost w d dk2 F w3):=Hd ⟨FD3,h3,(Frm.of_below (F:=F) B2.o).trans f3 (fun i hi=>.inl hi),fun k hk=>(n3 k hk).imp id (fun h=>Nat.le_trans B2.size h)⟩;have X3:=(f3.block _ LY HL).trans XH.o;have z0:=cl X3 0 rfl;have z1:=cl X3 1 rfl;have z2:=cl X3 2 rfl;clear h3 f3 n3 X3 y0 y1 y2 XH HL LY
 by_cases h0:q=0
 ·subst h0
  go_wp2_with fail;refine(OPN _).mono ?_;rintro e w4 ⟨v,rfl,ho,b4⟩;have BB:=Hd (Born.of P3 b4 ho);clear ho b4;go_wp2_with fail;go_ret2;exact⟨fun _=>⟨_,rfl,BB.o⟩,fun h=>absurd rfl h⟩
 ·have h1:(q==0)=false:=by simpa using h0
  have h2:(q != 0)=true:=by simpa using h0
  go_wp2_with fail;go_ret2;exact⟨fun h=>absurd h h0,fun _=>⟨rfl,P3.o⟩⟩

theorem BL (st:DkS)(n:Nat):(st.loosened n).up=st.up:=by unfold DkS.loosened;split <;> rfl
theorem uT (st:DkS)(n:Nat):(st.loosened n).fuse=st.fuse:=by unfold DkS.loosened;split <;> rfl
theorem zE (st:DkS)(n:Nat)(s:List UInt8):(st.wrote n s).up=st.up:=by
 show(DkS.loosened _ n).up=_
 rw[BL]
theorem EK (st:DkS)(n:Nat)(s:List UInt8):(st.wrote n s).fuse=if 0<st.fuse then st.fuse-1 else st.fuse:=by
 show(DkS.loosened _ n).fuse=_
 rw[uT]
theorem ZX (st:DkS)(n:Nat)(s:List UInt8):(st.wrote n s).S=st.S.set n s:=by
 show(DkS.loosened _ n).S.set n s=_
 rw[tQ]
theorem sL (st:DkS)(n:Nat)(s:List UInt8)(hu:st.up=true)(hn:n<st.S.length)(hs:s.length=256)(hf:st.fuse≠0):st.write (n:Int) s=(st.wrote n s,0):=by
 unfold DkS.write;rw[if_neg (by rw[hu];simp),if_neg (by rw[hs];simp;omega),if_neg hf]
 rfl
theorem QC (st:DkS)(n:Nat)(hu:st.up=true)(hn:n<st.S.length):st.read (n:Int)=(st.S[n],0):=by
 unfold DkS.read;rw[if_neg (by rw[hu];simp),if_neg (by simp;omega),Int.toNat_natCast,List.getD_eq_getElem?_getD,List.getElem?_eq_getElem hn]
 rfl
def DkL (w0 w:World)(d:Nat)(st:DkS):Prop:=∃ F,Dk w d st F/\Below w0.heap.size w0 w/\∀ k,F k->w0.heap.size<=k
theorem aDS {w0 w w':World}{st:DkS}{e:Ending}(hw:Below w0.heap.size w0 w)(h:aER w st e w'):∃ d,e=.returned (.tuple #[.pointer (some ⟨d,0,none⟩),(0:Int)])/\DkL w0 w' d st:=by
 obtain⟨d,F,he,hd,hb,hF⟩:=h;exact⟨d,he,F,hd,chain hw hb,fun k hk=>Nat.le_trans hw.size (hF k hk)⟩
def DSL (w0 w:World)(d s:Nat)(dk:DkS)(st:ShS):Prop:=∃ FD FS,DS w d s dk st FD FS/\Below w0.heap.size w0 w/\(∀ k,FD k->w0.heap.size<=k)/\∀ k,FS k->w0.heap.size<=k
theorem DSL.post {w0 w w':World}{d s:Nat}{dk':DkS}{st':ShS}{FD FS:Nat->Prop}(hw:Below w0.heap.size w0 w)(hD:∀ k,FD k->w0.heap.size<=k)(hS:∀ k,FS k->w0.heap.size<=k)(hp:DSPost w d s FD FS dk' st' w'):DSL w0 w' d s dk' st':=by
 obtain⟨FD',h1,h2,h3⟩:=hp;have hF:Below w0.heap.size w w':=h2.below (fun i hi=>hi.elim (hD i) (hS i)) hw.size;refine⟨FD',FS,h1,hw.trans hF,fun k hk=>?_,hS⟩
 rcases h3 k hk with hx|hx
 ·exact hD k hx
 ·exact Nat.le_trans hw.size hx
theorem aEH {w0 w w':World}{d:Nat}{dk:DkS}{st:ShS}{F:Nat->Prop}{v:Value}(hw:Below w0.heap.size w0 w)(hF:∀ k,F k->w0.heap.size<=k)(h:Born w d dk st F w' v):∃ s,v=.pointer (some ⟨s,0,none⟩)/\DSL w0 w' d s dk st:=by
 obtain⟨s,FS,FD',rfl,h1,h2,h3,h4⟩:=h;have hB:Below w0.heap.size w w':=h2.below hF hw.size;refine⟨s,rfl,FD',FS,h1,hw.trans hB,fun k hk=>?_,fun k hk=>Nat.le_trans hw.size (h4 k hk)⟩
 rcases h3 k hk with hx|hx
 ·exact hF k hx
 ·exact Nat.le_trans hw.size hx
theorem GD {w0 w:World}{d s:Nat}{dk:DkS}{st:ShS}(h:DSL w0 w d s dk st) :
  () 70 #[s] w (EF fun w'=>DSL w0 w' d s dk st.back):=by
 obtain⟨FD,FS,h1,hw,h3,h4⟩:=h;exact(AK w s d st FS h1.sto).mono fun e w' ⟨he,hs,hf⟩=>⟨he,DSL.post hw h3 h4 (DSPost.store h1 hf hs)⟩
theorem aDL {w0 w:World}{d s:Nat}{dk:DkS}{st:ShS}(h:DSL w0 w d s dk st) :
  () 71 #[s] w fun e w'=>e=.returned st.h.root/\w=w':=by
 obtain⟨FD,FS,h1,hw,h3,h4⟩:=h;exact aAV w s d st FS h1.sto
theorem YM {w0 w:World}{d:Nat}{dk:DkS}(h:DkL w0 w d dk)(h0:(fV dk fC).2=0) :
  () 25 #[d] w fun e w'=>∃ s,e=.returned (.tuple #[.pointer (some ⟨s,0,none⟩),(0:Int)])/\DSL w0 w' d s (fV dk fC).1 (ShS.new fC):=by
 obtain⟨F,h1,hb,h3⟩:=h;refine(SG w d dk F h1).mono fun e w' hp=>?_
 obtain⟨v,he,hbn⟩:=hp.1 h0;obtain⟨s,rfl,hs⟩:=aEH hb h3 hbn;exact⟨s,he,hs⟩
theorem WJ (a:Addr)(w:World):(binOp .eql 58 (.pointer (some a)) (.pointer none)).run Tryz.prog w=.ok (.bool false) w:=by kernel_rfl
theorem WI (a:Addr)(w:World):(binOp .eql 61 (.pointer (some a)) (.pointer none)).run Tryz.prog w=.ok (.bool false) w:=by kernel_rfl
theorem NM (st:DkS)(h:HdS)(hu:st.up=true)(hf:st.fuse≠0)(hl:8<=st.S.length)(hs:(fJ h).size<=240)(g0:0<=h.gen) :
  (fV st h).2=0/\(fV st h).1={ (st.wrote (h.gen % 2).toNat (pgL 1 (fJ h).data.toList)) with L:=[] }:=by
 have hB:mJ 1 (fJ h)=true:=(qN 1 (fJ h)).2 ⟨by decide,by decide,hs⟩
 have hS:(oF 1 (fJ h)).data.toList=pgL 1 (fJ h).data.toList:=by
  unfold oF;rw[if_pos hB,aY];rfl
 have hlen:(pgL 1 (fJ h).data.toList).length=256:=oO 1 _ (by have:(fJ h).data.toList.length=(fJ h).size:=rfl;omega);obtain⟨n,hn⟩:∃ n:Nat,h.gen % 2=(n:Int):=⟨(h.gen % 2).toNat,by omega⟩
 have hw:=sL st n (pgL 1 (fJ h).data.toList) hu (by omega) hlen hf
 have hp:mM st (h.gen % 2) 1 (fJ h)=(st.wrote n (pgL 1 (fJ h).data.toList),0):=by
  unfold mM;rw[if_pos hB,hn,hS,hw]
 have hs':(st.wrote n (pgL 1 (fJ h).data.toList)).sync=({ (st.wrote n (pgL 1 (fJ h).data.toList)) with L:=[] },0):=by
  unfold DkS.sync;rw[if_neg (by rw[zE,hu];decide)]
 have e:fV st h=(st.wrote n (pgL 1 (fJ h).data.toList)).sync:=by
  unfold fV;rw[hp,if_pos rfl]
 rw[e,hs',hn];exact⟨rfl,rfl⟩
def hS (L:List Int):ShS:={ ShS.new fC with fresh:=L }
theorem aA2 (st:DkS)(n k:Nat)(t:ByteArray)(hu:st.up=true)(hS:st.S[n]?=some (pgL k t.data.toList))(k1:1<=k)(k2:k<=15)(ht:t.size<=240):rdE st (n:Int)=0/\rdK st (n:Int)=(k:Int)/\rdT st (n:Int)=t:=by
 obtain⟨hn,hg⟩:=List.getElem?_eq_some_iff.1 hS;have hr:=QC st n hu hn;rw[hg] at hr;have hb:=aBB k t.data.toList k1 k2 (by have:t.data.toList.length=t.size:=rfl;omega);have hK:opK (pgL k t.data.toList)=k:=by unfold opK;rw[if_pos hb.1];exact hb.2.1
 have hT:opT (pgL k t.data.toList)=t.data.toList:=by unfold opT;rw[if_pos hb.1];exact hb.2.2
 unfold rdE rdK rdT;rw[hr]
 dsimp only
 rw[if_pos rfl,if_pos rfl,if_pos rfl,hb.1,hK,hT];exact⟨rfl,rfl,aEN t⟩
theorem aBC (st:DkS)(n k:Nat)(t:ByteArray)(hu:st.up=true)(hf:st.fuse≠0)(hn:n<st.S.length)(k1:1<=k)(k2:k<=15)(ht:t.size<=240):mM st (n:Int) (k:Int) t=(st.wrote n (pgL k t.data.toList),0):=by
 have hB:mJ (k:Int) t=true:=(qN (k:Int) t).2 ⟨by omega,by omega,ht⟩
 have hS:(oF (k:Int) t).data.toList=pgL k t.data.toList:=by
  unfold oF;rw[if_pos hB,aY];rfl
 have hlen:(pgL k t.data.toList).length=256:=oO k _ (by have:t.data.toList.length=t.size:=rfl;omega);unfold mM;rw[if_pos hB,hS,sL st n _ hu hn hlen hf]
def Rn (dk:DkS)(p:Int):Option Nod:=if 2<=p/\p<(dk.S.length:Int)/\rdE dk p=0/\rdK dk p=2 then yJ (rdT dk p) else none
theorem mY {dk:DkS}{p:Int}{M:Nod}(h:Rn dk p=some M):cC M=true/\dD M:=by
 unfold Rn at h
 split at h
 ·exact(aB6 _ _ h).2
 ·cases h
theorem sH {dk:DkS}{p:Int}{M:Nod}(h:Rn dk p=some M):2<=p/\p<(dk.S.length:Int)/\rdE dk p=0/\rdK dk p=2/\yJ (rdT dk p)=some M:=by
 unfold Rn at h
 split at h
 ·rename_i hc
  exact⟨hc.1,hc.2.1,hc.2.2.1,hc.2.2.2,h⟩
 ·cases h
structure eY (dk:DkS)(st:ShS):Prop where
 du:dk.up=true
 df:dk.fuse=-1
 few:dk.S.length<=640
 least:8<=dk.S.length
 su:st.up=true
 fb:∀ x∈st.fresh,2<=x/\x<(dk.S.length:Int)/\gI st.h.used x=false
 fn:st.fresh.Nodup
 ub:∀ x,gI st.h.used x=true->2<=x/\x<(dk.S.length:Int)
 gb:∀ x∈st.given,gI st.h.used x=true
def nB (st:ShS)(p:Int):Prop:=p∈st.fresh\/(gI st.h.used p=true/\p ∉ st.given)
def Room (dk:DkS)(st:ShS)(k:Nat):Prop:=mF st dk.S.length+st.fresh.length+2+k<=dk.S.length
theorem Room.le {dk:DkS}{st:ShS}{k j:Nat}(h:Room dk st k)(hj:j<=k):Room dk st j:=by unfold Room at *;omega
structure To (dk:DkS)(st:ShS)(dk':DkS)(st':ShS):Prop where
 g:eY dk' st'
 len:dk'.S.length=dk.S.length
 h:st'.h=st.h
 keep:∀ n:Nat,n<2\/gI st.h.used (n:Int)=true->dk'.S[n]?=dk.S[n]?
theorem To.refl {dk:DkS}{st:ShS}(g:eY dk st):To dk st dk st:=⟨g,rfl,rfl,fun _ _=>rfl⟩
theorem To.trans {dk dk1 dk2:DkS}{st st1 st2:ShS}(a:To dk st dk1 st1)(b:To dk1 st1 dk2 st2):To dk st dk2 st2:=
 ⟨b.g,b.len.trans a.len,b.h.trans a.h,fun n hn=>(b.keep n (by rw[a.h];exact hn)).trans (a.keep n hn)⟩
theorem aFP {dk dk':DkS}(u:dk.up=true)(u':dk'.up=true)(hl:dk'.S.length=dk.S.length)(p:Int)(h:2<=p->dk'.S[p.toNat]?=dk.S[p.toNat]?):Rn dk' p=Rn dk p:=by
 by_cases hp:2<=p
 ·have e:dk'.read p=dk.read p:=by
   unfold DkS.read;rw[u,u',hl,List.getD_eq_getElem?_getD,List.getD_eq_getElem?_getD,h hp]
  unfold Rn rdE rdK rdT;rw[e,hl]
 ·unfold Rn
  rw[if_neg (fun hx=>hp hx.1),if_neg (fun hx=>hp hx.1)]
theorem XO (P:Nat->Bool):∀ n,(∀ j,j<n->P j=false)\/∃ j,j<n/\P j=true/\∀ k,k<j->P k=false:=by
 intro n
 induction n with
 | zero=>exact .inl fun j hj=>absurd hj (Nat.not_lt_zero _)
 | succ n ih=>
  rcases ih with h|⟨j,h1,h2,h3⟩
  ·by_cases hp:P n=true
   ·exact .inr ⟨n,Nat.lt_succ_self _,hp,h⟩
   ·refine .inl fun j hj=>?_
    by_cases hx:j=n
    ·subst hx;simpa using hp
    ·exact h j (by omega)
  ·exact .inr ⟨j,Nat.lt_succ_of_lt h1,h2,h3⟩
theorem uU (L:List Int)(hn:L.Nodup)(k:Nat)(hk:(k:Int)∈L):(L.filter fun x=>decide (x<(k:Int))).length+1<=(L.filter fun x=>decide (x<((k+1:Nat):Int))).length:=by
 have hs:(L.filter fun x=>decide (x<(k:Int)))=(L.filter fun x=>decide (x<((k+1:Nat):Int))).filter fun x=>decide (x<(k:Int)):=by
  rw[List.filter_filter]
  congr 1;funext x
  rw[Bool.eq_iff_iff];simp;omega
 rw[hs]
 have hmem:(k:Int)∈L.filter fun x=>decide (x<((k+1:Nat):Int)):=by
  rw[List.mem_filter];exact⟨hk,by simp;omega⟩
 generalize (L.filter fun x=>decide (x<((k+1:Nat):Int)))=M at *;clear hs hk
 induction M with
 | nil=>cases hmem
 | cons a M ih=>
  by_cases ha:a<(k:Int)
  ·rw[List.filter_cons_of_pos (by simpa using ha)]
   rcases List.mem_cons.1 hmem with hx|hx
   ·omega
   ·have:=ih hx
    simp only[List.length_cons];omega
  ·rw[List.filter_cons_of_neg (by simpa using ha)]
   have:=List.length_filter_le (fun x=>decide (x<(k:Int))) M;simp only[List.length_cons];omega
theorem IZ {dk:DkS}{st:ShS}(g:eY dk st)(hr:Room dk st 1):∃ j:Nat,2<=j/\(j:Int)<(dk.S.length:Int)/\(∀ k:Nat,2<=k->k<j->lZ st (k:Int)=false)/\lZ st (j:Int)=true:=by
 rcases XO (fun k=>decide (2<=k)&&lZ st (k:Int)) dk.S.length with h|⟨j,h1,h2,h3⟩
 ·exfalso
  have key:∀ k,k<=dk.S.length->k<=2+lT st dk.S.length k+(st.fresh.filter fun x=>decide (x<(k:Int))).length:=by
   intro k
   induction k with
   | zero=>intro _;omega
   | succ k ih=>
    intro hk;have hi:=ih (by omega);unfold lT
    have hmono:(st.fresh.filter fun x=>decide (x<(k:Int))).length<=(st.fresh.filter fun x=>decide (x<((k+1:Nat):Int))).length:=by
     have e:(st.fresh.filter fun x=>decide (x<(k:Int)))=(st.fresh.filter fun x=>decide (x<((k+1:Nat):Int))).filter fun x=>decide (x<(k:Int)):=by
      rw[List.filter_filter];congr 1;funext x;rw[Bool.eq_iff_iff];simp;omega
     rw[e];exact List.length_filter_le _ _
    by_cases h2:2<=k
    ·have hf:=h k (by omega)
     simp only[h2,decide_true,Bool.true_and] at hf;unfold lZ at hf
     cases hu:gI st.h.used (k:Int) with
     | true=>rw[if_pos ⟨h2,rfl⟩];omega
     | false=>
      rw[hu] at hf;simp at hf;have:=uU st.fresh g.fn k hf;rw[if_neg (by simp)];omega
    ·rw[if_neg (fun hx=>h2 hx.1)];omega
  have hk:=key dk.S.length (Nat.le_refl _);have:=List.length_filter_le (fun x=>decide (x<(dk.S.length:Int))) st.fresh;unfold Room mF at hr;omega
 ·simp only[Bool.and_eq_true,decide_eq_true_eq] at h2
  refine⟨j,h2.1,by omega,fun k hk hkj=>?_,h2.2⟩;have:=h3 k hkj
  simpa[hk] using this
def ShS.take (st:ShS)(j:Nat):ShS:={ st with fresh:=st.fresh++[(j:Int)] }
theorem OM {dk:DkS}{st:ShS}(g:eY dk st)(j:Nat)(h2:2<=j)(hj:(j:Int)<(dk.S.length:Int))(hf:lZ st (j:Int)=true) :
  To dk st dk (st.take j)/\¬ nB st (j:Int)/\(∀ x,nB (st.take j) x ↔ x=(j:Int)\/nB st x)/\∀ k,Room dk st (k+1)->Room dk (st.take j) k:=by
 unfold lZ at hf;simp only[Bool.and_eq_true,Bool.not_eq_true',decide_eq_false_iff_not] at hf;refine⟨⟨⟨g.du,g.df,g.few,g.least,g.su,fun x hx=>?_,?_,g.ub,g.gb⟩,rfl,rfl,fun _ _=>rfl⟩,?_,fun x=>?_,fun k hk=>?_⟩
 ·rcases List.mem_append.1 hx with hx|hx
  ·exact g.fb x hx
  ·rw[List.mem_singleton] at hx;subst hx;exact⟨by omega,hj,hf.1⟩
 ·show(st.fresh++[(j:Int)]).Nodup
  rw[List.nodup_append];refine⟨g.fn,by simp,fun a ha b hb=>?_⟩;rw[List.mem_singleton] at hb;subst hb;exact fun e=>hf.2 (e ▸ ha)
 ·rintro(h|h)
  ·exact hf.2 h
  ·rw[hf.1] at h;exact absurd h.1 (by decide)
 ·show(x∈st.fresh++[(j:Int)]\/_) ↔ _
  rw[List.mem_append,List.mem_singleton];unfold nB;constructor
  ·rintro((h|h)|h)
   ·exact .inr (.inl h)
   ·exact .inl h
   ·exact .inr (.inr h)
  ·rintro(h|h|h)
   ·exact .inl (.inr h)
   ·exact .inl (.inl h)
   ·exact .inr h
 ·show mF (st.take j) dk.S.length+(st.fresh++[(j:Int)]).length+2+k<=dk.S.length
  have e:mF (st.take j) dk.S.length=mF st dk.S.length:=by
   unfold mF
   have:∀ m,lT (st.take j) dk.S.length m=lT st dk.S.length m:=by
    intro m
    induction m with
    | zero=>rfl
    | succ m ih=>unfold lT;rw[ih];rfl
   exact this _
  rw[e,List.length_append,List.length_singleton];unfold Room at hk;omega
theorem KR (st st':ShS)(n:Nat)(e:st'.h=st.h):mF st' n=mF st n:=by
 unfold mF
 have:∀ m,lT st' n m=lT st n m:=by
  intro m
  induction m with
  | zero=>rfl
  | succ m ih=>unfold lT;rw[ih,e]
 exact this _
theorem RU {dk:DkS}{st:ShS}(g:eY dk st)(p:Int)(hl:nB st p) :
  (st.give p).2=0/\To dk st dk (st.give p).1/\(∀ x,nB (st.give p).1 x ↔ x≠p/\nB st x)/\∀ k,Room dk st k->Room dk (st.give p).1 k:=by
 unfold ShS.give;rw[if_neg (by rw[g.su];decide)]
 by_cases hf:p∈st.fresh
 ·rw[if_pos hf]
  refine⟨rfl,⟨⟨g.du,g.df,g.few,g.least,g.su,fun x hx=>g.fb x (List.mem_filter.1 hx).1,g.fn.filter _,g.ub,g.gb⟩,rfl,rfl,fun _ _=>rfl⟩,fun x=>?_,fun k hk=>?_⟩
  ·show(x∈st.fresh.filter _\/_) ↔ _
   rw[List.mem_filter];unfold nB;simp only[decide_eq_true_eq];constructor
   ·rintro(h|h)
    ·exact⟨h.2,.inl h.1⟩
    ·refine⟨fun e=>?_,.inr h⟩
     subst e;have:=(g.fb x hf).2.2;have h1:gI st.h.used x=true:=h.1;rw[this] at h1;cases h1
   ·rintro⟨h1,h|h⟩
    ·exact .inl ⟨h,h1⟩
    ·exact .inr h
  ·unfold Room at *
   have:=List.length_filter_le (fun x=>decide (x≠p)) st.fresh;rw[KR st { st with fresh:=st.fresh.filter fun x=>decide (x≠p) } dk.S.length rfl]
   dsimp only at *
   omega
 ·rw[if_neg hf]
  have hu:gI st.h.used p=true/\p ∉ st.given:=hl.resolve_left hf;rw[if_pos hu];refine⟨rfl,⟨⟨g.du,g.df,g.few,g.least,g.su,g.fb,g.fn,g.ub,fun x hx=>?_⟩,rfl,rfl,fun _ _=>rfl⟩,fun x=>?_,fun k hk=>?_⟩
  ·rcases List.mem_append.1 hx with hx|hx
   ·exact g.gb x hx
   ·rw[List.mem_singleton] at hx;subst hx;exact hu.1
  ·show(x∈st.fresh\/(gI st.h.used x=true/\x ∉ st.given++[p])) ↔ _
   unfold nB;simp only[List.mem_append,List.mem_singleton,not_or];constructor
   ·rintro(h|h)
    ·exact⟨fun e=>hf (e ▸ h),.inl h⟩
    ·exact⟨h.2.2,.inr ⟨h.1,h.2.1⟩⟩
   ·rintro⟨h1,h|h⟩
    ·exact .inl h
    ·exact .inr ⟨h.1,h.2,h1⟩
  ·unfold Room at *
   rw[KR st { st with given:=st.given++[p] } dk.S.length rfl];exact hk
def NZ (R:Int->Option Nod)(q:Int)(n:Nod):Int->Option Nod:=fun p=>if p=q then some n else R p
theorem sK {dk:DkS}{st:ShS}(g:eY dk st)(p:Int)(hp:p∈st.fresh)(n:Nod)(hn:cC n=true)(ho:dD n) :
  (st.write dk p 2 (dM n)).2.2=0/\(st.write dk p 2 (dM n)).2.1=st/\To dk st (st.write dk p 2 (dM n)).1 st/\∀ x,Rn (st.write dk p 2 (dM n)).1 x=NZ (Rn dk) p n x:=by
 have hr:=(dV n).1 hn;have hpl:=(dX n).1 hr.1;have hsz:(dM n).size<=240:=by rw[CY n hr.2.1 ho hpl.2.1 hpl.2.2];exact hr.2.2.2
 obtain⟨f1,f2,f3⟩:=g.fb p hp;obtain⟨m,rfl⟩:=Int.eq_ofNat_of_zero_le (show 0<=p by omega);have hm:m<dk.S.length:=by omega
 have hw:=aBC dk m 2 (dM n) g.du (by rw[g.df];decide) hm (by decide) (by decide) hsz
 have e:st.write dk (m:Int) 2 (dM n)=(dk.wrote m (pgL 2 (dM n).data.toList),st,0):=by
  unfold ShS.write;rw[if_neg (by rw[g.su];decide),if_neg (fun h=>h hp)];have hw':mM dk (m:Int) 2 (dM n)=(dk.wrote m (pgL 2 (dM n).data.toList),0):=hw;rw[hw'];unfold ShS.told;simp
 rw[e];have hS:=ZX dk m (pgL 2 (dM n).data.toList);have hU:=zE dk m (pgL 2 (dM n).data.toList);have hF:=EK dk m (pgL 2 (dM n).data.toList);have hL:(dk.wrote m (pgL 2 (dM n).data.toList)).S.length=dk.S.length:=by rw[hS,List.length_set]
 refine⟨rfl,rfl,⟨⟨hU.trans g.du,by rw[hF,g.df];decide,by rw[hL];exact g.few,by rw[hL];exact g.least,g.su,fun x hx=>by rw[hL];exact g.fb x hx,g.fn,fun x hx=>by rw[hL];exact g.ub x hx,g.gb⟩,hL,rfl,fun k hk=>?_⟩,fun x=>?_⟩
 ·show(dk.wrote m _).S[k]?=_
  rw[hS,List.getElem?_set_ne];intro hx;subst hx
  rcases hk with hk|hk
  ·omega
  ·rw[f3] at hk;cases hk
 ·show Rn (dk.wrote m _) x=_
  unfold NZ
  by_cases hx:x=(m:Int)
  ·subst hx
   rw[if_pos rfl];have hg:(dk.wrote m (pgL 2 (dM n).data.toList)).S[m]?=some (pgL 2 (dM n).data.toList):=by rw[hS,List.getElem?_set_self hm]
   obtain⟨r1,r2,r3⟩:=aA2 _ m 2 (dM n) (hU.trans g.du) hg (by decide) (by decide) hsz;unfold Rn;rw[if_pos ⟨f1,by rw[hL];exact f2,r1,r2⟩,r3];exact aCB n ho hn
  ·rw[if_neg hx]
   refine aFP g.du (hU.trans g.du) hL x fun h2=>?_
   rw[hS,List.getElem?_set_ne];omega
theorem KX {dk dk':DkS}{st:ShS}(h:To dk st dk' st)(k:Nat):Room dk' st k ↔ Room dk st k:=by unfold Room;rw[h.len]
def LiveL (st:ShS)(L:List Int):Prop:=L.Nodup/\∀ x,x∈L ↔ nB st x
theorem LiveL.perm {st:ShS}{L L':List Int}(h:LiveL st L)(p:L.Perm L'):LiveL st L':=
 ⟨p.nodup_iff.1 h.1,fun x=>(p.mem_iff).symm.trans (h.2 x)⟩
theorem LiveL.rng {dk:DkS}{st:ShS}{L:List Int}(h:LiveL st L)(g:eY dk st){x:Int}(hx:x∈L):2<=x/\x<640:=by
 have:=g.few
 rcases(h.2 x).1 hx with h1|h1
 ·have:=g.fb x h1;omega
 ·have:=g.ub x h1.1;omega
structure jR (dk:DkS)(st:ShS)(p:Int)(N:Nod)(dk':DkS)(st':ShS)(q:Int):Prop where
 tt:To dk st dk' st'
 rd:Rn dk' q=some N
 lv:∀ L,LiveL st (p::L)->LiveL st' (q::L)/\∀ x∈L,Rn dk' x=Rn dk x
 lo:2<=q
 hi:q<640
structure oZ (dk:DkS)(st:ShS)(N:Nod)(dk':DkS)(st':ShS)(q:Int):Prop where
 tt:To dk st dk' st'
 rd:Rn dk' q=some N
 lv:∀ L,LiveL st L->LiveL st' (q::L)/\∀ x∈L,Rn dk' x=Rn dk x
 lo:2<=q
 hi:q<640
structure xB (dk:DkS)(st:ShS)(p:Int)(st':ShS):Prop where
 tt:To dk st dk st'
 lv:∀ L,LiveL st (p::L)->LiveL st' L
def NB (N:Nod)(z:Nat):Prop:=(∀ v∈N.V,v.size<=40)/\(∀ c∈N.C,2<=c/\c<640)/\aI N<=z
theorem NB.of_right {N:Nod}(h:cC N=true):NB N 240:=by
 have h1:=(dV N).1 h;have h2:=(dX N).1 h1.1;exact⟨h2.2.1,h2.2.2,h1.2.2.2⟩
def AtI (dk:DkS)(st:ShS)(fs:List aL)(h:Nat)(p:Int)(N:Nod)(E:List Ent):Prop:=
 ∃ FL FR PC F P,Ctx (Rn dk) fs h FL FR PC/\fT (Rn dk) h N F P/\bY (FL++F++FR)/\aD (FL++F++FR)=E/\LiveL st (p::(PC++P))
def UpI (dk:DkS)(st:ShS)(fs:List aL)(h:Nat)(KM:List Int)(QM:List Kid)(E:List Ent):Prop:=
 ∃ FL FR PC,Ctx (Rn dk) fs h FL FR PC/\QM.length=KM.length+1/\(∀ q∈QM,IsT (Rn dk) h q.p q.F q.P)/\bY (FL++bJ KM QM++FR)/\aD (FL++bJ KM QM++FR)=E/\LiveL st (PC++kPs QM)
def GR (g1 g2 g3:Int)(KM:List Int)(QM:List Kid):Prop:=
 (∃ q,KM=[]/\QM=[q]/\g1=q.p/\g2=0)\/(∃ q1 q2,KM=[g3]/\QM=[q1,q2]/\g1=q1.p/\g2=q2.p/\2<=g2)
theorem AtI.right {dk:DkS}{st:ShS}{fs:List aL}{h:Nat}{p:Int}{N:Nod}{E:List Ent}(ha:AtI dk st fs h p N E)(hb:NB N 240)(hk:N.K≠[]):cC N=true:=by
 obtain⟨FL,FR,PC,F,P,h1,h2,h3,h4,h5⟩:=ha;exact kO h2 (aH.1 (aH.1 h3).1).2.1 hb.1 hb.2.1 hk hb.2.2
theorem AtI.whole {dk:DkS}{st:ShS}{fs:List aL}{h:Nat}{p:Int}{N:Nod}{E:List Ent}(ha:AtI dk st fs h p N E):bH N=true:=by
 obtain⟨FL,FR,PC,F,P,h1,h2,h3,h4,h5⟩:=ha;exact eU h2
theorem AtI.live {dk:DkS}{st:ShS}{fs:List aL}{h:Nat}{p:Int}{N:Nod}{E:List Ent}(ha:AtI dk st fs h p N E):nB st p:=by
 obtain⟨FL,FR,PC,F,P,h1,h2,h3,h4,h5⟩:=ha;exact(h5.2 p).1 (by simp)
theorem LO {dk dk':DkS}{st st':ShS}{fs:List aL}{h:Nat}{p q:Int}{N:Nod}{E:List Ent}(ha:AtI dk st fs h p N E)(hk:N.K≠[])(hl:jR dk st p N dk' st' q) :
  ∃ QM,UpI dk' st' fs h [] QM E/\GR q 0 0 [] QM:=by
 obtain⟨FL,FR,PC,F,P,h1,h2,h3,h4,h5⟩:=ha;obtain⟨l1,l2⟩:=hl.lv _ h5;refine⟨[⟨q,F,q::P⟩],⟨FL,FR,PC,oB fs h1 (fun x hx=>l2 x (by simp[hx])),rfl,?_,h3,h4,?_⟩,.inl ⟨_,rfl,rfl,rfl,rfl⟩⟩
 ·intro k hk'
  rw[List.mem_singleton] at hk';subst hk';exact⟨N,P,hl.rd,hk,eT h h2 (fun x hx=>l2 x (by simp[hx])),rfl⟩
 ·have e:kPs [⟨q,F,q::P⟩]=q::P:=by simp[kPs]
  rw[e];exact l1.perm List.perm_middle.symm
theorem aBR {dk dk1 dk':DkS}{st st1 st':ShS}{fs:List aL}{h:Nat}{p q1 q2 mid:Int}{N:Nod}{E:List Ent}(ha:AtI dk st fs h p N E)(hl:cL N.leaf<=N.K.length)(hm:N.K[cM N]?=some mid)
  (h1:jR dk st p (aP N (cM N)) dk1 st1 q1)(h2:oZ dk1 st1 (aV N (cM N)) dk' st' q2) :
  ∃ QM,UpI dk' st' fs h [mid] QM E/\GR q1 q2 mid [mid] QM:=by
 obtain⟨FL,FR,PC,F,P,c1,c2,c3,c4,c5⟩:=ha;obtain⟨mid',FA,FB,PA,PB,s1,s2,s3,s4,s5,s6,s7,s8⟩:=nL c2 hl;rw[hm] at s1;injection s1 with s1;subst s1;obtain⟨l1,l2⟩:=h1.lv _ c5;obtain⟨m1,m2⟩:=h2.lv _ l1;have eq:∀ x∈PC++P,Rn dk' x=Rn dk x:=fun x hx=>(m2 x (List.mem_cons_of_mem _ hx)).trans (l2 x hx)
 refine⟨[⟨q1,FA,q1::PA⟩,⟨q2,FB,q2::PB⟩],⟨FL,FR,PC,oB fs c1 (fun x hx=>eq x (by simp[hx])),rfl,?_,?_,?_,?_⟩,.inr ⟨_,_,rfl,rfl,rfl,rfl,h2.lo⟩⟩
 ·intro k hk
  simp only[List.mem_cons,List.not_mem_nil,or_false] at hk
  rcases hk with rfl|rfl
  ·refine⟨_,PA,(m2 q1 (by simp)).trans h1.rd,s4,eT h s2 (fun x hx=>eq x (by rw[s6];simp[hx])),rfl⟩
  ·exact⟨_,PB,h2.rd,s5,eT h s3 (fun x hx=>eq x (by rw[s6];simp[hx])),rfl⟩
 ·rw[oS];exact s8 FL FR c3
 ·rw[oS,<-c4]
  rw[aN,aN,s7,aN,aN]
 ·have e:kPs [⟨q1,FA,q1::PA⟩,⟨q2,FB,q2::PB⟩]=q1::PA++q2::PB:=by simp[kPs]
  rw[e];refine m1.perm ?_;rw[s6]
  have p1:(q2::q1::(PC++(PA++PB))).Perm (q1::(PC++(PA++q2::PB))):=by
   refine(List.Perm.swap _ _ _).trans (List.Perm.cons _ ?_);rw[<-List.append_assoc,<-List.append_assoc];exact List.perm_middle.symm
  exact p1.trans List.perm_middle.symm
theorem aAA {dk:DkS}{st:ShS}{f:aL}{fs:List aL}{h:Nat}{KM:List Int}{QM:List Kid}{E:List Ent}(hu:UpI dk st (f::fs) h KM QM E)(N:Nod)(n1:N.leaf=false)(n2:N.V=[])(n3:N.K=f.KA++KM++f.KB)(n4:N.C=kP f.A++kP QM++kP f.B):AtI dk st fs (h+1) f.page N E:=by
 obtain⟨FL,FR,PC,⟨c0,FL',FR',PC',c1,c2,c3,c4⟩,h1,h2,h3,h4,h5⟩:=hu;refine⟨FL',FR',PC',_,_,c1,YL c0 KM QM h1 h2 N n1 n2 n3 n4,?_,?_,?_⟩
 ·rw[c2,c3] at h3;simpa using h3
 ·rw[c2,c3] at h4;simpa using h4
 ·rw[c4] at h5
  refine h5.perm ?_;rw[List.cons_append];refine List.Perm.cons _ ?_
  have:(kPs f.A++kPs f.B++PC'++kPs QM).Perm (PC'++(kPs f.A++kPs f.B++kPs QM)):=by
   rw[List.append_assoc (kPs f.A++kPs f.B)];refine((List.perm_append_comm (l₁:=kPs f.A++kPs f.B) (l₂:=PC'++kPs QM))).trans ?_;rw[List.append_assoc];exact List.Perm.append_left _ List.perm_append_comm
  refine this.trans (List.Perm.append_left _ ?_);rw[List.append_assoc,List.append_assoc];exact List.Perm.append_left _ List.perm_append_comm
theorem aDN {dk:DkS}{st:ShS}{fs:List aL}{p:Int}{M:Nod}{FL FR F:List Mk}{PC P:List Int}(key:Int)(v:ByteArray)(hc:Ctx (Rn dk) fs 0 FL FR PC)(ht:fT (Rn dk) 0 M F P)(hs:bY (FL++F++FR))(hL:∀ m∈FL,dK m<2*key+1)(hR:∀ m∈FR,2*key+1<dK m)(hl:LiveL st (p::(PC++P))) :
  AtI dk st fs 0 p (fN M key v) (bF key v (aD (FL++F++FR))):=by
 obtain⟨s1,s2,s3⟩:=aH.1 hs;obtain⟨i,X,Y,hX,hY,hh⟩:=oR ht (aH.1 s1).2.1 key;have hP:P=[]:=ht.2.2.2.2
 have small:∀ Z:List Mk,(∀ m∈Z,dK m<2*key+1)->∀ e∈aD Z,e.1<key:=by
  intro Z hZ e he;obtain⟨m,hm,hme⟩:=List.mem_filterMap.1 he;have:=hZ m hm;obtain⟨a,b⟩:=m
  cases b with
  | none=>simp[oV] at hme
  | some b=>simp[oV] at hme;subst hme;rw[fP] at this;show a<key;omega
 have great:∀ Z:List Mk,(∀ m∈Z,2*key+1<dK m)->∀ e∈aD Z,key<e.1:=by
  intro Z hZ e he;obtain⟨m,hm,hme⟩:=List.mem_filterMap.1 he;have:=hZ m hm;obtain⟨a,b⟩:=m
  cases b with
  | none=>simp[oV] at hme
  | some b=>simp[oV] at hme;subst hme;rw[fP] at this;show key<a;omega
 have hLX:∀ m∈FL++X,dK m<2*key+1:=fun m hm=>(List.mem_append.1 hm).elim (hL m) (hX m)
 have hYR:∀ m∈Y++FR,2*key+1<dK m:=fun m hm=>(List.mem_append.1 hm).elim (hY m) (hR m)
 have sort:bY (FL++X)->bY (Y++FR)->bY (FL++(X++(key,some v)::Y)++FR):=by
  intro a b
  have:bY ((FL++X)++((key,some v)::(Y++FR))):=by
   refine aH.2 ⟨a,eS.2 ⟨fun m hm=>by rw[fP];exact hYR m hm,b⟩,fun x hx y hy=>?_⟩;have h1:=hLX x hx
   rcases List.mem_cons.1 hy with rfl|hy
   ·rw[fP];exact h1
   ·have:=hYR y hy;omega
  simpa using this
 have ents:aD (FL++(X++(key,some v)::Y)++FR)=aD (FL++X)++(key,v)::aD (Y++FR):=by
  simp[aN,jI]
 rcases hh with⟨old,_,_,_,e1,e2,_⟩|⟨_,e1,e2⟩
 ·refine⟨FL,FR,PC,X++(key,some v)::Y,[],hc,e2 v,?_,?_,by rw[hP] at hl;exact hl⟩
  ·rw[e1] at hs
   have hs':bY ((FL++X)++((key,some old)::(Y++FR))):=by simpa using hs
   obtain⟨a,b,c⟩:=aH.1 hs';exact sort a (eS.1 b).2
  ·rw[ents,e1]
   have:aD (FL++(X++(key,some old)::Y)++FR)=aD (FL++X)++(key,old)::aD (Y++FR):=by simp[aN,jI]
   rw[this,XV _ _ _ _ _ (small _ hLX) (great _ hYR)]
 ·refine⟨FL,FR,PC,X++(key,some v)::Y,[],hc,e2 v,?_,?_,by rw[hP] at hl;exact hl⟩
  ·rw[e1] at hs
   have hs':bY ((FL++X)++(Y++FR)):=by simpa using hs
   obtain⟨a,b,c⟩:=aH.1 hs';exact sort a b
  ·rw[ents,e1]
   have:aD (FL++(X++Y)++FR)=aD (FL++X)++aD (Y++FR):=by simp[aN]
   rw[this,XX _ _ _ _ (small _ hLX) (great _ hYR)]
def PairI (dk:DkS)(st:ShS)(fs:List aL)(h:Nat)(pg:Int)(KA:List Int)(k:Int)(KB:List Int)(A B:List Kid)(pl:Int)(NL:Nod)(pr:Int)(NR:Nod)(E:List Ent):Prop:=
 ∃ FL FR PC F1 P1 F2 P2,Ctx (Rn dk) fs (h+1) FL FR PC/\A.length=KA.length/\B.length=KB.length/\(∀ q∈A,IsT (Rn dk) h q.p q.F q.P)/\(∀ q∈B,IsT (Rn dk) h q.p q.F q.P)/\fT (Rn dk) h NL F1 P1/\fT (Rn dk) h NR F2 P2 /\
  bY (FL++(cF KA A++(F1++(k,none)::F2)++dL KB B)++FR)/\aD (FL++(cF KA A++(F1++(k,none)::F2)++dL KB B)++FR)=E/\LiveL st (pl::pr::pg::(PC++(kPs A++(P1++P2)++kPs B)))
theorem aBD (a:Int)(Y P Z:List Int):(a::(Y++(P++Z))).Perm (Y++(P++a::Z)):=by
 rw[<-List.append_assoc,<-List.append_assoc];exact List.perm_middle.symm
theorem WN (p f:Int)(X Y Z P:List Int)(q:Int)(PM:List Int):(p::(f::(X++(q::PM++Y)++Z)++P)).Perm (p::q::f::(Z++(X++(P++PM)++Y))):=by
 refine List.Perm.cons _ ?_
 have:(f::(X++(q::PM++Y)++Z)++P).Perm (f::q::(Z++(X++(P++PM)++Y))):=by
  rw[List.cons_append];refine List.Perm.cons _ ?_;have e1:X++(q::PM++Y)++Z++P=X++q::(PM++Y++Z++P):=by simp
  rw[e1];refine List.perm_middle.trans (List.Perm.cons _ ?_);have e2:Z++(X++(P++PM)++Y)=Z++(X++(P++(PM++Y))):=by simp
  have e3:X++(PM++Y++Z++P)=X++((PM++Y)++(Z++P)):=by simp
  rw[e2,e3];have h1:(X++((PM++Y)++(Z++P))).Perm (X++((Z++P)++(PM++Y))):=List.Perm.append_left _ List.perm_append_comm
  have h2:(X++((Z++P)++(PM++Y))).Perm (Z++(X++(P++(PM++Y)))):=by
   rw[List.append_assoc Z P,<-List.append_assoc X Z,<-List.append_assoc Z X];exact List.Perm.append_right _ List.perm_append_comm
  exact h1.trans h2
 exact this.trans (List.Perm.swap _ _ _)
theorem aDO (p f:Int)(X Y Z P:List Int)(q:Int)(PM:List Int):(p::(f::(X++q::PM++Y++Z)++P)).Perm (q::p::f::(Z++(X++(PM++P)++Y))):=by
 have e:X++q::PM++Y++Z=X++(q::PM++Y)++Z:=by simp
 rw[e];refine(WN p f X Y Z P q PM).trans ((List.Perm.swap _ _ _).trans (List.Perm.cons _ (List.Perm.cons _ (List.Perm.cons _ (List.Perm.append_left _ ?_)))));exact List.Perm.append_right _ (List.Perm.append_left _ List.perm_append_comm)
theorem GQ {dk:DkS}{st:ShS}{f:aL}{fs:List aL}{h:Nat}{p k:Int}{N:Nod}{E:List Ent}{KB:List Int}{b:Kid}{B:List Kid}(ha:AtI dk st (f::fs) h p N E)(hk:f.KB=k::KB)(hb:f.B=b::B) :
  ∃ M,Rn dk b.p=some M/\M.K≠[]/\PairI dk st fs h f.page f.KA k KB f.A B p N b.p M E:=by
 obtain⟨FL,FR,PC,F,P,⟨c0,FL',FR',PC',c1,c2,c3,c4⟩,h2,h3,h4,h5⟩:=ha;obtain⟨M,PM,m1,m2,m3,m4⟩:=c0.kb b (by rw[hb];simp);have hlb:=c0.b;rw[hk,hb] at hlb;rw[hk,hb,mP] at c3;refine⟨M,m1,m2,FL',FR',PC',F,P,b.F,PM,c1,c0.a,by simpa using hlb,c0.ka,fun q hq=>c0.kb q (by rw[hb];simp[hq]),h2,m3,?_,?_,?_⟩
 ·rw[c2,c3] at h3;simpa using h3
 ·rw[c2,c3] at h4;simpa using h4
 ·rw[c4,hb,mO,m4] at h5
  exact h5.perm (by simpa using WN p f.page (kPs f.A) (kPs B) PC' P b.p PM)
theorem QN {dk:DkS}{st:ShS}{f:aL}{fs:List aL}{h:Nat}{p k:Int}{N:Nod}{E:List Ent}{KA:List Int}{a:Kid}{A:List Kid}(ha:AtI dk st (f::fs) h p N E)(hk:f.KA=KA++[k])(hb:f.A=A++[a]) :
  ∃ M,Rn dk a.p=some M/\M.K≠[]/\PairI dk st fs h f.page KA k f.KB A f.B a.p M p N E:=by
 obtain⟨FL,FR,PC,F,P,⟨c0,FL',FR',PC',c1,c2,c3,c4⟩,h2,h3,h4,h5⟩:=ha;obtain⟨M,PM,m1,m2,m3,m4⟩:=c0.ka a (by rw[hb];simp);have hla:=c0.a;rw[hk,hb] at hla;have hla':A.length=KA.length:=by simpa using hla
 have eL:cF (KA++[k]) (A++[a])=cF KA A++(a.F++[(k,none)]):=by
  unfold cF;rw[List.zipWith_append hla'.symm];simp
 rw[hk,hb,eL] at c2;refine⟨M,m1,m2,FL',FR',PC',a.F,PM,F,P,c1,hla',c0.b,fun q hq=>c0.ka q (by rw[hb];simp[hq]),c0.kb,m3,h2,?_,?_,?_⟩
 ·rw[c2,c3] at h3;simpa using h3
 ·rw[c2,c3] at h4;simpa using h4
 ·rw[c4,hb,cO,mO,m4] at h5
  exact h5.perm (by simpa[kPs] using aDO p f.page (kPs A) (kPs f.B) PC' P a.p PM)
theorem PairI.both {dk:DkS}{st:ShS}{fs:List aL}{h:Nat}{pg k pl pr:Int}{KA KB:List Int}{A B:List Kid}{NL NR:Nod}{E:List Ent}(hp:PairI dk st fs h pg KA k KB A B pl NL pr NR E) :
  NL.leaf=decide (h=0)/\NR.leaf=decide (h=0)/\bH NL=true/\bH NR=true/\bH (aG NL k NR)=true/\(aG NL k NR).leaf=NL.leaf/\nB st pl/\nB st pr/\pl≠pr:=by
 obtain⟨FL,FR,PC,F1,P1,F2,P2,c1,c2,c3,c4,c5,h1,h2,h3,h4,h5⟩:=hp;obtain⟨F,t1,_⟩:=qY h1 h2 k;refine⟨pY h1,pY h2,eU h1,eU h2,eU t1,rfl,(h5.2 pl).1 (by simp),(h5.2 pr).1 (by simp),?_⟩;have:=h5.1;rw[List.nodup_cons] at this;exact fun e=>this.1 (by rw[e];simp)
theorem QW {dk dk1:DkS}{st st1 st':ShS}{fs:List aL}{h:Nat}{pg k pl pr q:Int}{KA KB:List Int}{A B:List Kid}{NL NR N:Nod}{E:List Ent}(hp:PairI dk st fs h pg KA k KB A B pl NL pr NR E)(hk:NR.K≠[]\/NL.K≠[])
  (hl:jR dk st pl (aG NL k NR) dk1 st1 q)(hg:xB dk1 st1 pr st')(n1:N.leaf=false)(n2:N.V=[])(n3:N.K=KA++KB)(n4:N.C=kP A++[q]++kP B):AtI dk1 st' fs (h+1) pg N E:=by
 obtain⟨FL,FR,PC,F1,P1,F2,P2,c1,c2,c3,c4,c5,h1,h2,h3,h4,h5⟩:=hp;obtain⟨F,t1,t2,t3⟩:=qY h1 h2 k;obtain⟨l1,l2⟩:=hl.lv _ h5;have l3:=hg.lv _ (l1.perm (List.Perm.swap _ _ _))
 have kne:(aG NL k NR).K≠[]:=by
  unfold aG;intro e;have:=congrArg List.length e;simp only[List.length_append,List.length_nil] at this
  rcases hk with hk|hk
  ·have:=List.length_pos_iff.2 hk;omega
  ·have:=List.length_pos_iff.2 hk;omega
 have cA:∀ r∈A,IsT (Rn dk1) h r.p r.F r.P:=fun r hr=>jJ (c4 r hr) fun x hx=>l2 x (by have:x∈kPs A:=kB.2 ⟨r,hr,hx⟩;simp[this])
 have cB:∀ r∈B,IsT (Rn dk1) h r.p r.F r.P:=fun r hr=>jJ (c5 r hr) fun x hx=>l2 x (by have:x∈kPs B:=kB.2 ⟨r,hr,hx⟩;simp[this])
 have hT:IsT (Rn dk1) h q F (q::(P1++P2)):=⟨_,_,hl.rd,kne,eT h t1 (fun x hx=>l2 x (by simp only[List.mem_append] at hx;simp;rcases hx with hx|hx <;> simp[hx])),rfl⟩
 have e0:=lN KA [] KB A [⟨q,F,q::(P1++P2)⟩] B c2 rfl c3;rw[List.append_nil,lM] at e0;refine⟨FL,FR,PC,cF KA A++F++dL KB B,kPs A++(q::(P1++P2))++kPs B,oB fs c1 (fun x hx=>l2 x (by simp[hx])),?_,?_,?_,?_⟩
 ·refine dC.2 ⟨n1,n2,A++[⟨q,F,q::(P1++P2)⟩]++B,?_,?_,?_,?_,?_⟩
  ·rw[n4,gP,gP];rfl
  ·rw[n3];simp[c2,c3];omega
  ·intro r hr
   simp only[List.mem_append,List.mem_singleton] at hr
   rcases hr with(hr|rfl)|hr
   ·exact cA r hr
   ·exact hT
   ·exact cB r hr
  ·rw[n3,e0]
  ·rw[cO,cO];simp[kPs]
 ·have:=t3 (FL++cF KA A) (dL KB B++FR) (by simpa using h3)
  simpa using this
 ·rw[<-h4];simp[aN,iJ,t2]
 ·refine l3.perm ?_
  have e1:PC++(kPs A++q::(P1++P2)++kPs B)=(PC++kPs A)++q::(P1++P2++kPs B):=by simp
  rw[e1];refine(List.Perm.swap _ _ _).trans (List.Perm.cons _ ?_);refine List.Perm.trans ?_ List.perm_middle.symm;refine List.Perm.cons _ ?_;simp
theorem QV {dk dk1 dk':DkS}{st st1 st':ShS}{fs:List aL}{h:Nat}{pg k pl pr q1 q2 mid:Int}{KA KB:List Int}{A B:List Kid}{NL NR N:Nod}{E:List Ent}(hp:PairI dk st fs h pg KA k KB A B pl NL pr NR E)
  (hlst:cL (aG NL k NR).leaf<=(aG NL k NR).K.length)(hm:(aG NL k NR).K[cM (aG NL k NR)]?=some mid)
  (hl:jR dk st pl (aP (aG NL k NR) (cM (aG NL k NR))) dk1 st1 q1)(hr:jR dk1 st1 pr (aV (aG NL k NR) (cM (aG NL k NR))) dk' st' q2)
  (n1:N.leaf=false)(n2:N.V=[])(n3:N.K=KA++[mid]++KB)(n4:N.C=kP A++[q1,q2]++kP B):AtI dk' st' fs (h+1) pg N E:=by
 obtain⟨FL,FR,PC,F1,P1,F2,P2,c1,c2,c3,c4,c5,h1,h2,h3,h4,h5⟩:=hp;obtain⟨F,t1,t2,t3⟩:=qY h1 h2 k;obtain⟨mid',FA,FB,PA,PB,s1,s2,s3,s4,s5,s6,s7,s8⟩:=nL t1 hlst;rw[hm] at s1;injection s1 with s1;subst s1;obtain⟨l1,l2⟩:=hl.lv _ h5;obtain⟨m1,m2⟩:=hr.lv _ (l1.perm (List.Perm.swap _ _ _));have eq:∀ x∈PC++(kPs A++(P1++P2)++kPs B),Rn dk' x=Rn dk x:=fun x hx=>(m2 x (by simp only[List.mem_cons];exact .inr (.inr hx))).trans (l2 x (by simp only[List.mem_cons];exact .inr (.inr hx)))
 have cA:∀ r∈A,IsT (Rn dk') h r.p r.F r.P:=fun r hr=>jJ (c4 r hr) fun x hx=>eq x (by have:x∈kPs A:=kB.2 ⟨r,hr,hx⟩;simp[this])
 have cB:∀ r∈B,IsT (Rn dk') h r.p r.F r.P:=fun r hr=>jJ (c5 r hr) fun x hx=>eq x (by have:x∈kPs B:=kB.2 ⟨r,hr,hx⟩;simp[this])
 have inP:∀ x,x∈PA++PB->x∈PC++(kPs A++(P1++P2)++kPs B):=fun x hx=>by rw[<-s6] at hx;simp only[List.mem_append] at hx |-;rcases hx with hx|hx <;> simp[hx]
 have hT1:IsT (Rn dk') h q1 FA (q1::PA):=⟨_,_,(m2 q1 (by simp)).trans hl.rd,s4,eT h s2 (fun x hx=>eq x (inP x (by simp[hx]))),rfl⟩
 have hT2:IsT (Rn dk') h q2 FB (q2::PB):=⟨_,_,hr.rd,s5,eT h s3 (fun x hx=>eq x (inP x (by simp[hx]))),rfl⟩
 have e0:=lN KA [mid] KB A [⟨q1,FA,q1::PA⟩,⟨q2,FB,q2::PB⟩] B c2 rfl c3;rw[oS] at e0;refine⟨FL,FR,PC,cF KA A++(FA++(mid,none)::FB)++dL KB B,kPs A++(q1::PA++q2::PB)++kPs B,oB fs c1 (fun x hx=>eq x (by simp[hx])),?_,?_,?_,?_⟩
 ·refine dC.2 ⟨n1,n2,A++[⟨q1,FA,q1::PA⟩,⟨q2,FB,q2::PB⟩]++B,?_,?_,?_,?_,?_⟩
  ·rw[n4,gP,gP];rfl
  ·rw[n3];simp[c2,c3];omega
  ·intro r hr
   simp only[List.mem_append,List.mem_cons,List.not_mem_nil,or_false] at hr
   rcases hr with(hr|rfl|rfl)|hr
   ·exact cA r hr
   ·exact hT1
   ·exact hT2
   ·exact cB r hr
  ·rw[n3,e0]
  ·rw[cO,cO];simp[kPs]
 ·have a1:=t3 (FL++cF KA A) (dL KB B++FR) (by simpa using h3)
  have a2:=s8 _ _ a1
  simpa using a2
 ·rw[<-h4]
  have:aD (FA++(mid,none)::FB)=aD F1++aD F2:=by rw[s7,t2]
  rw[aN,aN,aN,aN,this];simp[aN,iJ]
 ·refine m1.perm ?_
  have e1:pg::(PC++(kPs A++(P1++P2)++kPs B))=(pg::(PC++kPs A))++(PA++(PB++kPs B)):=by rw[s6];simp
  have e2:pg::(PC++(kPs A++(q1::PA++q2::PB)++kPs B))=(pg::(PC++kPs A))++(q1::(PA++q2::(PB++kPs B))):=by simp
  rw[e1,e2];refine List.Perm.trans ?_ List.perm_middle.symm;exact(List.Perm.swap _ _ _).trans (List.Perm.cons _ (aBD _ _ _ _))
theorem aEB {dk:DkS}{st:ShS}{fs:List aL}{p:Int}{M:Nod}{FL FR F:List Mk}{PC P:List Int}(key:Int)(i:Nat)(hc:Ctx (Rn dk) fs 0 FL FR PC)(ht:fT (Rn dk) 0 M F P)(hs:bY (FL++F++FR))(hL:∀ m∈FL,dK m<2*key+1)(hR:∀ m∈FR,2*key+1<dK m)(hl:LiveL st (p::(PC++P)))(hf:bX M key=(i,true)) :
  AtI dk st fs 0 p (dF M i) (iU key (aD (FL++F++FR)))/\i<M.K.length:=by
 obtain⟨s1,s2,s3⟩:=aH.1 hs;obtain⟨j,X,Y,hX,hY,hh⟩:=oR ht (aH.1 s1).2.1 key;have hP:P=[]:=ht.2.2.2.2
 have small:∀ Z:List Mk,(∀ m∈Z,dK m<2*key+1)->∀ e∈aD Z,e.1<key:=by
  intro Z hZ e he;obtain⟨m,hm,hme⟩:=List.mem_filterMap.1 he;have:=hZ m hm;obtain⟨a,b⟩:=m
  cases b with
  | none=>simp[oV] at hme
  | some b=>simp[oV] at hme;subst hme;rw[fP] at this;show a<key;omega
 have great:∀ Z:List Mk,(∀ m∈Z,2*key+1<dK m)->∀ e∈aD Z,key<e.1:=by
  intro Z hZ e he;obtain⟨m,hm,hme⟩:=List.mem_filterMap.1 he;have:=hZ m hm;obtain⟨a,b⟩:=m
  cases b with
  | none=>simp[oV] at hme
  | some b=>simp[oV] at hme;subst hme;rw[fP] at this;show key<a;omega
 have hLX:∀ m∈FL++X,dK m<2*key+1:=fun m hm=>(List.mem_append.1 hm).elim (hL m) (hX m)
 have hYR:∀ m∈Y++FR,2*key+1<dK m:=fun m hm=>(List.mem_append.1 hm).elim (hY m) (hR m)
 rcases hh with⟨old,e0,e00,_,e1,_,e2⟩|⟨e0,_⟩
 ·rw[hf] at e0
  injection e0 with e0 _;subst e0;refine⟨⟨FL,FR,PC,X++Y,[],hc,e2,?_,?_,by rw[hP] at hl;exact hl⟩,e00⟩
  ·rw[e1] at hs
   refine List.Pairwise.sublist ?_ hs;exact((List.Sublist.refl FL).append ((List.Sublist.refl X).append (List.sublist_cons_self _ _))).append (List.Sublist.refl FR)
  ·rw[e1]
   have a1:aD (FL++(X++(key,some old)::Y)++FR)=aD (FL++X)++(key,old)::aD (Y++FR):=by simp[aN,jI]
   have a2:aD (FL++(X++Y)++FR)=aD (FL++X)++aD (Y++FR):=by simp[aN]
   rw[a1,a2,YW _ _ _ _ (small _ hLX) (great _ hYR)]
 ·rw[hf] at e0
  injection e0 with _ e0
  cases e0
def TreeI (dk:DkS)(st:ShS)(r:Int)(E:List Ent):Prop:=
 (r=0/\E=[]/\LiveL st [])\/∃ h F P,IsT (Rn dk) h r F P/\bY F/\aD F=E/\LiveL st P
theorem aAD {dk dk':DkS}{st st':ShS}{h:Nat}{p q:Int}{N:Nod}{E:List Ent}(ha:AtI dk st [] h p N E)(hk:N.K≠[])(hl:jR dk st p N dk' st' q):TreeI dk' st' q E:=by
 obtain⟨FL,FR,PC,F,P,⟨rfl,rfl,rfl⟩,h2,h3,h4,h5⟩:=ha;obtain⟨l1,l2⟩:=hl.lv _ h5;simp only[List.nil_append,List.append_nil] at h3 h4 l1 l2;exact .inr ⟨h,F,q::P,⟨N,P,hl.rd,hk,eT h h2 l2,rfl⟩,h3,h4,l1⟩
theorem UJ {dk:DkS}{st st':ShS}{h:Nat}{p:Int}{N:Nod}{E:List Ent}(ha:AtI dk st [] h p N E)(hk:N.K=[])(hf:N.leaf=true)(hg:xB dk st p st'):TreeI dk st' 0 E:=by
 obtain⟨FL,FR,PC,F,P,⟨rfl,rfl,rfl⟩,h2,h3,h4,h5⟩:=ha
 cases h with
 | succ h=>rw[h2.1] at hf;cases hf
 | zero=>
  obtain⟨_,_,_,e1,e2⟩:=h2;have l:=hg.lv _ h5;subst e1 e2;rw[hk] at h4;refine .inl ⟨rfl,?_,l⟩;rw[<-h4];cases N.V <;> rfl
theorem aAE {dk:DkS}{st st':ShS}{h:Nat}{p:Int}{N:Nod}{E:List Ent}(ha:AtI dk st [] h p N E)(hk:N.K=[])(hf:N.leaf=false)(hg:xB dk st p st'):∃ r,N.C=[r]/\TreeI dk st' r E:=by
 obtain⟨FL,FR,PC,F,P,⟨rfl,rfl,rfl⟩,h2,h3,h4,h5⟩:=ha
 cases h with
 | zero=>rw[h2.1] at hf;cases hf
 | succ h=>
  obtain⟨_,_,Q,q1,q2,q3,q4,q5⟩:=dC.1 h2;have l:=hg.lv _ h5;rw[hk] at q2 q4
  match Q,q2 with
  | [q],_=>
   refine⟨q.p,q1,.inr ⟨h,q.F,q.P,q3 q (by simp),?_⟩⟩;subst q4 q5;simp only[kPs,bJ,List.map_cons,List.map_nil,List.flatten_cons,List.flatten_nil,List.nil_append,List.append_nil] at h3 h4 l;exact⟨h3,h4,l⟩
theorem aA6 {dk:DkS}{st:ShS}{h:Nat}{QM:List Kid}{E:List Ent}(hu:UpI dk st [] h [] QM E)(g1 g2 g3:Int)(hg:GR g1 g2 g3 [] QM):TreeI dk st g1 E:=by
 obtain⟨FL,FR,PC,⟨rfl,rfl,rfl⟩,h1,h2,h3,h4,h5⟩:=hu
 rcases hg with⟨q,_,rfl,rfl,_⟩|⟨q1,q2,e,_⟩
 ·simp only[kPs,bJ,List.map_cons,List.map_nil,List.flatten_cons,List.flatten_nil,List.nil_append,List.append_nil] at h3 h4 h5
  exact .inr ⟨h,q.F,q.P,h2 q (by simp),h3,h4,h5⟩
 ·cases e
theorem aA5 {dk dk':DkS}{st st':ShS}{h:Nat}{mid q1 q2 r:Int}{QM:List Kid}{E:List Ent}{N:Nod}(hu:UpI dk st [] h [mid] QM E)(hg:GR q1 q2 mid [mid] QM)(n1:N.leaf=false)(n2:N.V=[])(n3:N.K=[mid])(n4:N.C=[q1,q2])(hl:oZ dk st N dk' st' r):TreeI dk' st' r E:=by
 obtain⟨FL,FR,PC,⟨rfl,rfl,rfl⟩,h1,h2,h3,h4,h5⟩:=hu;obtain⟨l1,l2⟩:=hl.lv _ h5;simp only[List.nil_append,List.append_nil] at h3 h4 l1 l2;refine .inr ⟨h+1,_,r::kPs QM,⟨N,kPs QM,hl.rd,by rw[n3];simp,eT (h+1) (dC.2 ⟨n1,n2,QM,?_,by rw[n3];exact h1,h2,rfl,rfl⟩) l2,rfl⟩,by rw[n3];exact h3,by rw[n3];exact h4,l1⟩
 rcases hg with⟨q,e,_⟩|⟨a,b,_,rfl,rfl,rfl,_⟩
 ·cases e
 ·rw[n4];rfl

def RDb (w:World)(g:Nat)(s:ByteArray)(b:Bool):Prop:=w.heap[g]?=some (.cells #[s,b] 244)
theorem jZ (g:Nat)(s r:ByteArray)(size v:Int)(w:World)(b:Bool)(h:RDb w g s b)(hv:Hid (aT s size=v))(hr:Hid (aA s size=r))(c:Bool)(hc:Hid ((b || decide (dP s size≠0))=c)) :
  () 185 #[g,size] w fun e w'=>e=.returned (.int .u64 v)/\RDb w' g r c/\Frm (fun k=>k=g) w w':=by
 have TA:=Hd (fun w=>pG s size w);rw[hv.o,hr.o] at TA;obtain⟨er,her⟩:∃ er,dP s size=er:=⟨_,rfl⟩
 have hce:(b || decide (er≠0))=c:=by rw[<-her];exact hc.o
 rw[her] at TA;have H:=Hd h;have c0:=cl h 0 rfl;clear h hv hr hc her;go_enter Tryz.func185,Tryz.ntmps185;go_wp2_with fail;refine(TA _).mono ?_;rintro e w1 ⟨rfl,b1⟩;have h1:w1.heap[g]?=some (.cells #[s,b] 244):=(b1.block g (zl H.o)).trans H.o
 have FIN:Hid (RDb ((w1.setCell ⟨g,0,none⟩ (.string r)).setCell ⟨g,1,none⟩ (.bool c)) g r c/\Frm (fun k=>k=g) w ((w1.setCell ⟨g,0,none⟩ (.string r)).setCell ⟨g,1,none⟩ (.bool c))):=Hd
  ⟨by unfold RDb;rw[hss _ _ 1 _ _ _ (hss _ _ 0 _ _ _ h1)];rfl,(((Frm.of_below (F:=fun k=>k=g) b1).setCell ⟨g,0,none⟩ _ (.inl rfl)).setCell ⟨g,1,none⟩ _ (.inl rfl))⟩
 have d0:=cl h1 0 rfl;have d1:=cl h1 1 rfl;have f0:=ufb h1 0;have f1:=ufb h1 1;clear h1 b1 c0
 cases b
 ·by_cases he:er=0
  ·subst he
   have hc2:c=false:=by rw[<-hce];rfl
   subst hc2;clear hce;go_wp2_with fail;go_ret;exact⟨rfl,FIN.o⟩
  ·have hc2:c=true:=by rw[<-hce];simpa using he
   subst hc2;have heb:(er==0)=false:=by simpa using he
   have hen:(er != 0)=true:=by simpa using he
   clear hce;go_wp2_with fail;go_ret;exact⟨rfl,FIN.o⟩
 ·have hc2:c=true:=by rw[<-hce];rfl
  subst hc2;clear hce;go_wp2_with fail;go_ret;exact⟨rfl,FIN.o⟩
theorem PP (g:Nat)(s r v:ByteArray)(w:World)(b:Bool)(h:RDb w g s b)(hm:s.size<=9223372036854775807)(hv:Hid (ttS s=v))(hr:Hid (ttR s=r))(c:Bool)(hc:Hid ((b || decide (ttE s≠0))=c)) :
  () 186 #[g] w fun e w'=>e=.returned (.string v)/\RDb w' g r c/\Frm (fun k=>k=g) w w':=by
 have TA:=Hd (fun w=>pH s w hm);rw[hv.o,hr.o] at TA;obtain⟨er,her⟩:∃ er,ttE s=er:=⟨_,rfl⟩
 have hce:(b || decide (er≠0))=c:=by rw[<-her];exact hc.o
 rw[her] at TA;have H:=Hd h;have c0:=cl h 0 rfl;clear h hv hr hc her hm;go_enter Tryz.func186,Tryz.ntmps186;go_wp2_with fail;refine(TA _).mono ?_;rintro e w1 ⟨rfl,b1⟩;have h1:w1.heap[g]?=some (.cells #[s,b] 244):=(b1.block g (zl H.o)).trans H.o
 have FIN:Hid (RDb ((w1.setCell ⟨g,0,none⟩ (.string r)).setCell ⟨g,1,none⟩ (.bool c)) g r c/\Frm (fun k=>k=g) w ((w1.setCell ⟨g,0,none⟩ (.string r)).setCell ⟨g,1,none⟩ (.bool c))):=Hd
  ⟨by unfold RDb;rw[hss _ _ 1 _ _ _ (hss _ _ 0 _ _ _ h1)];rfl,(((Frm.of_below (F:=fun k=>k=g) b1).setCell ⟨g,0,none⟩ _ (.inl rfl)).setCell ⟨g,1,none⟩ _ (.inl rfl))⟩
 have d0:=cl h1 0 rfl;have d1:=cl h1 1 rfl;have f0:=ufb h1 0;have f1:=ufb h1 1;clear h1 b1 c0
 cases b
 ·by_cases he:er=0
  ·subst he
   have hc2:c=false:=by rw[<-hce];rfl
   subst hc2;clear hce;go_wp2_with fail;go_ret;exact⟨rfl,FIN.o⟩
  ·have hc2:c=true:=by rw[<-hce];simpa using he
   subst hc2;have heb:(er==0)=false:=by simpa using he
   have hen:(er != 0)=true:=by simpa using he
   clear hce;go_wp2_with fail;go_ret;exact⟨rfl,FIN.o⟩
 ·have hc2:c=true:=by rw[<-hce];rfl
  subst hc2;clear hce;go_wp2_with fail;go_ret;exact⟨rfl,FIN.o⟩
section
variable {P:Program} {ops:Array Oper} {Q:Exit->Act->World->Prop} {md:Region.Mode} {S:World->Prop} {f:Nat}
def iG (P:Program)(md:Region.Mode)(ops:Array Oper)(Q:Exit->Act->World->Prop)(S:World->Prop)(f:Nat):Nat->Array Bool->Act->World->Prop
 | 0,b,a,w=>Region.ready md ops b=[]/\Q .normal a w
 | n+1,b,a,w=>(Region.ready md ops b=[]->Q .normal a w)/\∀ i,i∈Region.ready md ops b->wpOp P ops Q i (fun a2 w2=>iG P md ops Q S f n (b.setIfInBounds i true) a2 w2/\(f≠i->b.getD f true=false->S w2)) a w
theorem TV (n:Nat):∀ b a w,iG P md ops Q S f n b a w->wpAny P md ops Q n b a w:=by
 induction n with
 | zero=>exact fun b a w h=>h
 | succ n ih=>exact fun b a w h=>⟨h.1,fun i hi=>wpOp_mono (fun a2 w2 hk=>ih _ a2 w2 hk.1) (h.2 i hi)⟩
def uM (md:Region.Mode)(ops:Array Oper)(f i:Nat):Bool:=
 match ops[f]? with
 | some o=>o.after.any fun e=>Region.binds md e&&e.on==i
 | none=>false
theorem JV {i:Nat}(h:uM md ops f i=true)(b:Array Bool)(hi:i∈Region.ready md ops b)(hf:f∈Region.ready md ops b):False:=by
 obtain⟨hu,_⟩:=mem_ready.1 hi
 obtain⟨_,o,ho,hall⟩:=mem_ready.1 hf
 unfold uM at h
 rw[ho] at h
 obtain⟨j,hj,he⟩:=Array.any_eq_true.1 h
 rw[Bool.and_eq_true,beq_iff_eq] at he
 have hd:=hall _ (Array.getElem_mem hj) he.1
 rw[he.2] at hd
 by_cases hlt:i<b.size
 ·rw[Array.getD_eq_getD_getElem?,Array.getElem?_eq_getElem hlt,Option.getD_some] at hu hd
  rw[hu] at hd
  cases hd
 ·rw[Array.getD_eq_getD_getElem?,Array.getElem?_eq_none (by omega)] at hu
  cases hu
theorem kM {b:Array Bool}{i k:Nat}(h:k≠i):(b.setIfInBounds i true).getD k true=b.getD k true:=by
 rw[Array.getD_eq_getD_getElem?,Array.getD_eq_getD_getElem?,Array.getElem?_setIfInBounds_ne (Ne.symm h)]
theorem UY {b:Array Bool}{i:Nat}:(b.setIfInBounds i true).getD i true=true:=by
 rw[Array.getD_eq_getD_getElem?]
 by_cases h:i<b.size
 ·rw[Array.getElem?_eq_getElem (by simpa using h)];simp
 ·rw[Array.getElem?_eq_none (by simpa using h)];rfl
theorem vB {i j:Nat}{b:Array Bool}(hr:i∈Region.ready md ops b){oj:Oper}(hall:∀ e∈oj.after,Region.binds md e=true->b.getD e.on false=true):∀ e∈oj.after,Region.binds md e=true->e.on≠i:=by
 intro e he hbi heq
 have hd:=hall e he hbi
 obtain⟨hu,_⟩:=mem_ready.1 hr
 rw[heq] at hd
 by_cases hlt:i<b.size
 ·rw[Array.getD_eq_getD_getElem?,Array.getElem?_eq_getElem hlt,Option.getD_some] at hu hd
  rw[hu] at hd
  cases hd
 ·rw[Array.getD_eq_getD_getElem?,Array.getElem?_eq_none (by omega)] at hu
  cases hu
theorem EU {i:Nat}{oi:Oper}{v:Value}(hi:ops[i]?=some oi)(hs:Region.noSelect ops=true)(hb:uM md ops f i=true)(hif:f≠i)(hQ:∀ c a w,Q (.panic c) (a.put oi.dst v) w->Q (.panic c) a w)(n:Nat) :
  ∀ (b:Array Bool) (a:Act) (w:World),(∀ j oj,ops[j]?=some oj->j≠i->b.getD j true=false->(∀ e∈oj.after,Region.binds md e=true->e.on≠i)->oi.apart ops oj=true) ->
   i∈Region.ready md ops b->b.getD f true=false->YieldsIf P ops S oi v a->S w->iG P md ops Q S f n (b.setIfInBounds i true) (a.put oi.dst v) w->iG P md ops Q S f (n+1) b a w:=by
 induction n with
 | zero=>
  intro b a w hap hr hfu hy hS H
  refine⟨fun h0=>(by rw[h0] at hr;cases hr),fun j hj=>?_⟩
  rcases Nat.decEq j i with hne|rfl
  ·have hm:=ready_mono hj hne
   rw[H.1] at hm
   cases hm
  ·exact hy.wpOp hi hS ⟨H,fun _ _=>hS⟩
 | succ n ih=>
  intro b a w hap hr hfu hy hS H
  refine⟨fun h0=>(by rw[h0] at hr;cases hr),fun j hj=>?_⟩
  rcases Nat.decEq j i with hne|rfl
  ·have hfj:f≠j:=fun e=>JV hb b hr (e ▸ hj)
   obtain⟨hun,oj,hoj,hall⟩:=mem_ready.1 hj
   have hno:=vB (j:=j) hr hall
   have hfi:(b.setIfInBounds i true).getD f true=false:=by rw[kM hif];exact hfu
   have hstep:=wpOp_putIf hoj (hap j oj hoj hne hun hno) (fun cs x=>Region.noSelect_spec hs i oi cs x hi) (fun cs x=>Region.noSelect_spec hs j oj cs x hoj) hQ hy (H.2 j (ready_mono hj hne))
   refine wpOp_mono (fun a2 w2 hk=>⟨?_,fun _ _=>hk.2.2 hfj hfi⟩) hstep
   refine ih _ a2 w2 (fun k ok hk1 hki hku hkn=>hap k ok hk1 hki ?_ hkn) (ready_mono hr (Ne.symm hne)) (by rw[kM hfj];exact hfu) hk.1 (hk.2.2 hfj hfi) ?_
   ·by_cases hjk:j=k
    ·rw[<-hjk];exact hun
    ·rw[getD_set_ne true hjk] at hku;exact hku
   ·rw[Array.setIfInBounds_comm _ _ hne]
    exact hk.2.1
  ·exact hy.wpOp hi hS ⟨H,fun _ _=>hS⟩
theorem NP {i:Nat}{oi:Oper}{v:Value}(hi:ops[i]?=some oi)(hs:Region.noSelect ops=true)(hif:f≠i)(hQ:∀ c a w,Q (.panic c) (a.put oi.dst v) w->Q (.panic c) a w)(n:Nat) :
  ∀ (b:Array Bool) (a:Act) (w:World),(∀ j oj,ops[j]?=some oj->j≠i->b.getD j true=false->(∀ e∈oj.after,Region.binds md e=true->e.on≠i)->oi.apart ops oj=true) ->
   i∈Region.ready md ops b->YieldsIf P ops (fun _=>True) oi v a->(b.getD f true=false->S w)->iG P md ops Q S f n (b.setIfInBounds i true) (a.put oi.dst v) w->iG P md ops Q S f (n+1) b a w:=by
 induction n with
 | zero=>
  intro b a w hap hr hy hS H
  refine⟨fun h0=>(by rw[h0] at hr;cases hr),fun j hj=>?_⟩
  rcases Nat.decEq j i with hne|rfl
  ·have hm:=ready_mono hj hne
   rw[H.1] at hm
   cases hm
  ·exact hy.wpOp hi trivial ⟨H,fun _=>hS⟩
 | succ n ih=>
  intro b a w hap hr hy hS H
  refine⟨fun h0=>(by rw[h0] at hr;cases hr),fun j hj=>?_⟩
  rcases Nat.decEq j i with hne|rfl
  ·obtain⟨hun,oj,hoj,hall⟩:=mem_ready.1 hj
   have hno:=vB (j:=j) hr hall
   have hstep:=wpOp_putIf hoj (hap j oj hoj hne hun hno) (fun cs x=>Region.noSelect_spec hs i oi cs x hi) (fun cs x=>Region.noSelect_spec hs j oj cs x hoj) hQ hy (H.2 j (ready_mono hj hne))
   refine wpOp_mono (fun a2 w2 hk=>⟨?_,fun hfj hfu=>hk.2.2 hfj (by rw[kM hif];exact hfu)⟩) hstep
   refine ih _ a2 w2 (fun k ok hk1 hki hku hkn=>hap k ok hk1 hki ?_ hkn) (ready_mono hr (Ne.symm hne)) hk.1 (fun hfu=>?_) ?_
   ·by_cases hjk:j=k
    ·rw[<-hjk];exact hun
    ·rw[getD_set_ne true hjk] at hku;exact hku
   ·by_cases hfj:f=j
    ·rw[hfj,UY] at hfu;cases hfu
    ·rw[kM hfj] at hfu
     exact hk.2.2 hfj (by rw[kM hif];exact hfu)
   ·rw[Array.setIfInBounds_comm _ _ hne]
    exact hk.2.1
  ·exact hy.wpOp hi trivial ⟨H,fun _=>hS⟩
theorem uZ {i:Nat}{oi:Oper}(v:Value){n:Nat}{b:Array Bool}{a:Act}{w:World}(hi:ops[i]?=some oi)(hs:Region.noSelect ops=true)(hb:(uM md ops f i&&!(f==i)&&!(b.getD f true))=true)(hf:Region.free md ops b i=true)(hr:(Region.ready md ops b).contains i=true)
  (hQ:∀ c a w,Q (.panic c) (a.put oi.dst v) w->Q (.panic c) a w)(hS:S w)(hw:Region.wanted oi (yielded ops a.tmps)=true)(hy:∀ w,S w->(execOp a.eval oi).run P w=.ok (.value v) w)
  (h:iG P md ops Q S f n (b.setIfInBounds i true) (a.put oi.dst v) w):iG P md ops Q S f (n+1) b a w:=by
 rw[Bool.and_eq_true,Bool.and_eq_true] at hb
 exact EU hi hs hb.1.1 (by have:=hb.1.2;simpa using this) hQ n b a w (Region.free_spec hi hf) (by simpa using hr) (by have:=hb.2;simpa using this) (.inl ⟨hw,hy⟩) hS h
theorem vA {i:Nat}{oi:Oper}(v:Value){n:Nat}{b:Array Bool}{a:Act}{w:World}(hi:ops[i]?=some oi)(hs:Region.noSelect ops=true)(hb:(!(f==i))=true)(hf:Region.free md ops b i=true)(hr:(Region.ready md ops b).contains i=true)
  (hQ:∀ c a w,Q (.panic c) (a.put oi.dst v) w->Q (.panic c) a w)(hS:S w)(hw:Region.wanted oi (yielded ops a.tmps)=true)(hy:∀ w,(execOp a.eval oi).run P w=.ok (.value v) w)
  (h:iG P md ops Q S f n (b.setIfInBounds i true) (a.put oi.dst v) w):iG P md ops Q S f (n+1) b a w:=
 NP hi hs (by simpa using hb) hQ n b a w (Region.free_spec hi hf) (by simpa using hr) (.inl ⟨hw,fun w _=>hy w⟩) (fun _=>hS) h
theorem NO {i:Nat}{oi:Oper}{n:Nat}{b:Array Bool}{a:Act}{w:World}(hi:ops[i]?=some oi)(hr:Region.ready md ops b=[i])
  (h:∀ K:Act->World->Prop,(∀ a2 w2,iG P md ops Q S f n (b.setIfInBounds i true) a2 w2->(f≠i->S w2)->K a2 w2)->if Region.wanted oi (yielded ops a.tmps)=true then Oper.wp P oi a w K Q else K (a.put oi.dst undef) w):iG P md ops Q S f (n+1) b a w:=by
 refine⟨fun h0=>(by rw[hr] at h0;cases h0),fun j hj=>?_⟩
 rw[hr,List.mem_singleton] at hj
 subst hj
 exact wpOp_step hi fun K hK=>h K fun a2 w2 h1 h2=>hK a2 w2 ⟨h1,fun h3 _=>h2 h3⟩
theorem kK {n:Nat}{b:Array Bool}{a:Act}{w:World}(hr:Region.ready md ops b=[])(h:Q .normal a w):iG P md ops Q S f n b a w:=by
 cases n with
 | zero=>exact⟨hr,h⟩
 | succ n=>exact⟨fun _=>h,fun i hi=>(by rw[hr] at hi;cases hi)⟩
theorem iS (S:World->Prop)(f:Nat){id:Nat}{a:Act}{w:World}(hm:P.follows .mixedOrders=true)(h:iG P .any ops Q S f ops.size (Array.replicate ops.size false) a w.drew):(Code.region id ops true).wp P Q a w:=
 wp_region_any hm (TV _ _ _ _ h)
end
section
open Go.RowKit
variable {P:Program} {ops:Array Oper} {Q:Exit->Act->World->Prop} {md:Region.Mode} {S:World->Prop} {f:Nat}
theorem Ws (i:Nat){oi:Oper}(v:Value){n:Nat}{b:Array Bool}{a:Act}{w:World}(hS:S w)(hy:∀ w,(execOp a.eval oi).run P w=.ok (.value v) w)(h:iG P md ops Q S f n (b.setIfInBounds i true) (a.put oi.dst v) w)(hi:ops[i]?=some oi:=by exact rfl)(hs:Region.noSelect ops=true:=by kernel_rfl)(hb:(!(f==i))=true:=by kernel_rfl)(hf:Region.free md ops b i=true:=by kernel_rfl)(hr:(Region.ready md ops b).contains i=true:=by kernel_rfl)
    (hQ:∀ c a w,Q (.panic c) (a.put oi.dst v) w->Q (.panic c) a w:=by exact fun _ _ _ h=>h)(hw:Region.wanted oi (yielded ops a.tmps)=true:=by rfl):iG P md ops Q S f (n+1) b a w:=vA v hi hs hb hf hr hQ hS hw hy h
theorem Wt (i:Nat){oi:Oper}(v:Value){n:Nat}{b:Array Bool}{a:Act}{w:World}(hS:S w)(hy:∀ w,S w->(execOp a.eval oi).run P w=.ok (.value v) w)(h:iG P md ops Q S f n (b.setIfInBounds i true) (a.put oi.dst v) w)(hi:ops[i]?=some oi:=by exact rfl)(hs:Region.noSelect ops=true:=by kernel_rfl)(hb:(uM md ops f i&&!(f==i)&&!(b.getD f true))=true:=by kernel_rfl)(hf:Region.free md ops b i=true:=by kernel_rfl)(hr:(Region.ready md ops b).contains i=true:=by kernel_rfl)
    (hQ:∀ c a w,Q (.panic c) (a.put oi.dst v) w->Q (.panic c) a w:=by exact fun _ _ _ h=>h)(hw:Region.wanted oi (yielded ops a.tmps)=true:=by rfl):iG P md ops Q S f (n+1) b a w:=uZ v hi hs hb hf hr hQ hS hw hy h
theorem Wp (i:Nat){oi:Oper}{n:Nat}{b:Array Bool}{a:Act}{w:World}
    (h:∀ K:Act->World->Prop,Hid (∀ a2 w2,iG P md ops Q S f n (b.setIfInBounds i true) a2 w2->(f≠i->S w2)->K a2 w2)->if Region.wanted oi (yielded ops a.tmps)=true then Oper.wp P oi a w K Q else K (a.put oi.dst undef) w)(hi:ops[i]?=some oi:=by exact rfl)(hr:Region.ready md ops b=[i]:=by kernel_rfl):iG P md ops Q S f (n+1) b a w:=NO hi hr fun K hK=>h K (Lib.hid hK)
end
section
variable {P:Program} {ops:Array Oper} {Q:Exit->Act->World->Prop} {md:Region.Mode} {S:World->Prop} {f:Nat}
theorem ET {i:Nat}(d:Tmp){oi:Oper}(v:Value){n:Nat}{b:Array Bool}{a:Act}{w:World}(hi:ops[i]?=some oi)(hd:oi.dst=some d)(hs:Region.noSelect ops=true)(hb:(!(f==i))=true)(hf:Region.free md ops b i=true)(hr:(Region.ready md ops b).contains i=true)
  (hQ:∀ c a w,Q (.panic c) (a.put oi.dst v) w->Q (.panic c) a w)(hS:S w)(hw:Region.wanted oi (yielded ops a.tmps)=true)(hy:∀ w,(execOp a.eval oi).run P w=.ok (.value v) w)
  (h:iG P md ops Q S f n (b.setIfInBounds i true) { tmps:=a.tmps.setIfInBounds d v,defers:=a.defers } w):iG P md ops Q S f (n+1) b a w:=
 vA v hi hs hb hf hr hQ hS hw hy (by rw[hd];exact h)
theorem EQ {i:Nat}(d:Tmp){oi:Oper}(v:Value){n:Nat}{b:Array Bool}{a:Act}{w:World}(hi:ops[i]?=some oi)(hd:oi.dst=some d)(hs:Region.noSelect ops=true)(hb:(uM md ops f i&&!(f==i)&&!(b.getD f true))=true)(hf:Region.free md ops b i=true)(hr:(Region.ready md ops b).contains i=true)
  (hQ:∀ c a w,Q (.panic c) (a.put oi.dst v) w->Q (.panic c) a w)(hS:S w)(hw:Region.wanted oi (yielded ops a.tmps)=true)(hy:∀ w,S w->(execOp a.eval oi).run P w=.ok (.value v) w)
  (h:iG P md ops Q S f n (b.setIfInBounds i true) { tmps:=a.tmps.setIfInBounds d v,defers:=a.defers } w):iG P md ops Q S f (n+1) b a w:=
 uZ v hi hs hb hf hr hQ hS hw hy (by rw[hd];exact h)
end
section
variable {P:Program} {ops:Array Oper} {Q:Exit->Act->World->Prop} {md:Region.Mode} {S:World->Prop} {f:Nat}
theorem Wsd (i:Nat)(d:Tmp){oi:Oper}(v:Value){n:Nat}{b:Array Bool}{a:Act}{w:World}(hS:S w)(hy:∀ w,(execOp a.eval oi).run P w=.ok (.value v) w)(h:iG P md ops Q S f n (b.setIfInBounds i true) { tmps:=a.tmps.setIfInBounds d v,defers:=a.defers } w)(hi:ops[i]?=some oi:=by exact rfl)(hd:oi.dst=some d:=by exact rfl)(hs:Region.noSelect ops=true:=by kernel_rfl)(hb:(!(f==i))=true:=by kernel_rfl)(hf:Region.free md ops b i=true:=by kernel_rfl)(hr:(Region.ready md ops b).contains i=true:=by kernel_rfl)
    (hQ:∀ c a w,Q (.panic c) (a.put oi.dst v) w->Q (.panic c) a w:=by exact fun _ _ _ h=>h)(hw:Region.wanted oi (yielded ops a.tmps)=true:=by rfl):iG P md ops Q S f (n+1) b a w:=ET d v hi hd hs hb hf hr hQ hS hw hy h
theorem Wtd (i:Nat)(d:Tmp){oi:Oper}(v:Value){n:Nat}{b:Array Bool}{a:Act}{w:World}(hS:S w)(hy:∀ w,S w->(execOp a.eval oi).run P w=.ok (.value v) w)(h:iG P md ops Q S f n (b.setIfInBounds i true) { tmps:=a.tmps.setIfInBounds d v,defers:=a.defers } w)(hi:ops[i]?=some oi:=by exact rfl)(hd:oi.dst=some d:=by exact rfl)(hs:Region.noSelect ops=true:=by kernel_rfl)(hb:(uM md ops f i&&!(f==i)&&!(b.getD f true))=true:=by kernel_rfl)(hf:Region.free md ops b i=true:=by kernel_rfl)(hr:(Region.ready md ops b).contains i=true:=by kernel_rfl)
    (hQ:∀ c a w,Q (.panic c) (a.put oi.dst v) w->Q (.panic c) a w:=by exact fun _ _ _ h=>h)(hw:Region.wanted oi (yielded ops a.tmps)=true:=by rfl):iG P md ops Q S f (n+1) b a w:=EQ d v hi hd hs hb hf hr hQ hS hw hy h
end
theorem NodR.set4 {w:World}{n:Nod}{ak av ac:Option Addr}{ck cv cc:Nat}(h:NodR w n ak av ac ck cv cc)(r:Nat)(v0 v1 v2 v3:Value)(h1:∀ x,ak=some x->r<x.block)(h2:∀ x,av=some x->r<x.block)(h3:∀ x,ac=some x->r<x.block) :
  NodR ((((w.setCell ⟨r,0,none⟩ v0).setCell ⟨r,1,none⟩ v1).setCell ⟨r,2,none⟩ v2).setCell ⟨r,3,none⟩ v3) n ak av ac ck cv cc:=
 ⟨h.k.set4 _ _ _ _ _ h1,h.v.set4 _ _ _ _ _ h2,h.c.set4 _ _ _ _ _ h3,h.k2,h.k3,h.v2,h.v3,h.c2,h.c3,h.ok⟩
theorem eG {P:Program}{ops:Array Oper}{o:Oper}{a:Act}{w w':World}{K:Act->World->Prop}{Q:Exit->Act->World->Prop}{E:Prop}(hgd:o.guard=none)(d:Tmp)(hd:o.dst=some d)(s x:Operand)(t:TypeId)
  (ho:o.op=.call { callee:=.builtin .append,args:=#[s,x],argTypes:=#[t,t] })(v y v':Value)(hs:a.eval s=v)(hx:a.eval x=y)
  (hr:(Builtin.append_ #[t,t] o.type #[v,y]).run P w=.ok v' w')(h:K { tmps:=a.tmps.setIfInBounds d v',defers:=a.defers } w') :
  if Region.wanted o (yielded ops a.tmps)=true then Oper.wp P o a w K Q else E:=by
 have hw:Region.wanted o (yielded ops a.tmps)=true:=by simp[Region.wanted,hgd]
 rw[if_pos hw];unfold Oper.wp;simp[execOp,ho,resolve,invoke,builtin,hs,hx,hr,Result.andThen]
 show K (a.put o.dst v') w'
 rw[hd];exact h
theorem jD {F:Nat->Prop}{w w':World}{B:Nat}{e:TypeId}{v:Value}{n:Nat}{xs:List Value}(h:w.ownsRow B e 1 v n xs)(hb:Frm F w w')(hF:∀ k,v.ownBlock=some k->¬ F k):w'.ownsRow B e 1 v n xs:=by
 refine⟨h.1,?_⟩
 rcases h.2 with hx|⟨g,cap,cur,hv,hbg,hh,r⟩
 ·exact .inl hx
 ·exact .inr ⟨g,cap,cur,hv,hbg,(hb.block g (zl hh) (hF g (by rw[hv];rfl))).trans hh,r⟩
theorem lD {a b:Value}(h:∀ x,a.ownBlock=some x->b.ownBlock≠some x):a.ownBlock=none\/a.ownBlock≠b.ownBlock:=by
 cases hx:a.ownBlock with
 | none=>exact .inl rfl
 | some x=>exact .inr fun e=>h x hx e.symm
theorem yV {P:Program}(w:World)(base:Nat)(t ty e:TypeId)(i:TypeInfo)(z:Value)(bytes:Nat)(hbl:bytes<=1000)(ht:P.underlying t=some (.slice e))(hi:P.info? e=some i)(hz:i.zero=some z)
  (hsize:i.size=1)(hby:i.bytes=bytes)(hzs:z.cells.size=1)
  (v:Value)(n:Nat)(xs:List Value)(hown:w.ownsRow base e 1 v n xs)(b:Nat)(u:Value)(hu:w.cell? ⟨b,0,none⟩=some u)(h1:u.oneCell'=true)(hn:n<=100000)(hbase:base<=w.heap.size) :
  ∃ v' w' k,(Builtin.append_ #[t,t] ty #[v,.slice (some ⟨b,0,none⟩) 1 1]).run P w=.ok v' w'/\w'.ownsRow base e 1 v' (n+1) (xs++[u])/\w.grownBy w' v.ownBlock/\v'.ownBlock=some k/\(v.ownBlock=some k\/k=w.heap.size):=by
 have hnews:∀ j x,[u][j]?=some x->w.cell? ((⟨b,0,none⟩:Addr).add j)=some x:=by
  intro j x hj;rw[gC]
  cases j with
  | zero=>
   rw[hu]
   simpa using hj
  | succ j=>simp at hj
 have hmul:(n+1)*bytes<=140737488355328:=Nat.le_trans (Nat.mul_le_mul (show n+1<=100001 by omega) hbl) (by decide);obtain⟨v',w',hr,ho,hg,_⟩:=run_append_own (P:=P) w base t ty e i z 1 bytes ht hi hz hsize hby hzs (by decide) v n xs hown ⟨b,0,none⟩ 1 1 [u] rfl hnews (by simpa using h1) (by simp only[maxLen];omega) hmul hbase;refine⟨v',w',?_⟩
 have hk:∃ k,v'.ownBlock=some k/\(v.ownBlock=some k\/k=w.heap.size):=by
  rcases hown.2 with⟨rfl,rfl⟩|⟨g,cap,cur,rfl,_,hgg,hnc,hcm,hcs,htake⟩
  ·have h2:=run_append_nil (P:=P) w t ty e i z ht hi hz ⟨b,0,none⟩ 1 1 [u] (by rw[hsize];rfl) hnews (by decide) (by decide) (by omega)
   rw[hr] at h2;injection h2 with h3 h4;exact⟨w.heap.size,by rw[h3];rfl,.inr rfl⟩
  ·by_cases hroom:n+1<=cap
   ·have h2:=run_append_room (P:=P) w t ty e i ht hi g n cap cur hgg ⟨b,0,none⟩ 1 1 [u] (by rw[hsize];rfl) hnews (by simpa using h1) hroom (by rw[hcs,hsize];simp;omega)
    rw[hr] at h2;injection h2 with h3 h4;exact⟨g,by rw[h3];rfl,.inl rfl⟩
   ·have holds:∀ j x,xs[j]?=some x->w.cell? ((⟨g,0,none⟩:Addr).add j)=some x:=hown.cells (g:=g) rfl
    have h2:=run_append_grow (P:=P) w t ty e i z ht hi hz ⟨g,0,none⟩ n cap xs (by rw[hown.1,hsize]) holds ⟨b,0,none⟩ 1 1 [u] (by rw[hsize];rfl) hnews (by omega) (by omega) (growslice_fits (by omega) (by rw[hby];omega));rw[hr] at h2;injection h2 with h3 h4;exact⟨w.heap.size,by rw[h3];rfl,.inr rfl⟩
 obtain⟨k,h1,h2⟩:=hk;exact⟨k,hr,ho,hg,h1,h2⟩
def LN (g:Nat)(w:World):Nat:=match w.cell? ⟨g,0,none⟩ with|some (.string s)=>s.size|_=>0
def LF (w:World)(g:Nat)(k:Nat):Prop:=k=g\/w.heap.size+2<=k
