/-
 Sa, Sf, Sg, So, Sv, Su, Hw, Ls, ShaMath, Arr, Sha1, Spread, Turn, Turn2, Tape.
-/
import Derived.Test.YthcejfnngkmojaaGreatDoorP18
import Derived.Maps.OwnIn
import Derived.Test.YthcejfnngkmojaaGreatDoorP17
import Derived.Test.YthcejfnngkmojaaGreatDoorP15
import Derived.Test.YthcejfnngkmojaaGreatDoorP02
import Derived.Test.YthcejfnngkmojaaGreatDoorP03
import Derived.Test.YthcejfnngkmojaaGreatDoorP05
import Derived.Laws.Rows
import Derived.Laws.Tables
import Derived.BigRegion
import Derived.Outline
import Derived.Lib.OthersKept
import Derived.Deep.DeepCutAuto
import Derived.Laws.CopyOwn
import Derived.Test.YthcejfnngkmojaaGreatDoorP01
import Derived.Room.AppendOnto
namespace Go.Proofs.YthcejfnngkmojaaGreatDoor
open Go Go.RowKit
set_option maxRecDepth 20000
set_option maxHeartbeats 12800000
set_option linter.unusedVariables false
set_option linter.unusedSimpArgs false
theorem aE5 {w0 w:World} {R:List Nat} {t d s bi bt n:Nat} {E:List Ent} {ii:Int} (h:TxS w0 R w t d s n E)(hc:w.heap[bi]?=some (.cells #[.int .i64 ii] 3))(hm:bi ∈ R∧bi ≠ t)(hi:ii < 1 ∨ 200 < ii) :
  Calls Tryz.prog 61 #[.pointer (some ⟨bi,0,none⟩),.pointer (some ⟨bt,0,none⟩)] w fun e w' => e=.returned (.tuple #[.agg #[.int .i64 0,.int .i64 0,.int .i64 0,.int .u64 0],.int .i64 3])∧TxS w0 R w' t d s n E∧KeptT R t w w' := by
 obtain ⟨a1,a2,a3,a4,a5,a6,a7⟩:=h.box (.cells #[.int .i64 0,.int .i64 0,.int .i64 0,.int .u64 0] 37);obtain ⟨r3,hr3⟩:∃ r3,w.heap.size=r3:=⟨_,rfl⟩
 obtain ⟨x1,hx1⟩:∃ x1,w.alloc (.cells #[.int .i64 0,.int .i64 0,.int .i64 0,.int .u64 0] 37)=x1:=⟨_,rfl⟩
 rw [hx1] at a1 a2 a3 a5;rw [hr3] at a1 a3 a4 a5 a6 a7;have X1:=Hd hx1;have HR4:=Hd (And.intro a6 a7);have A3:=Hd (And.intro a3 a4);have A2:=Hd (And.intro a2 a1);have d0:=(aM ((a2 bi hm.1 hm.2).trans hc)).1;clear h hc hm a1 a2 a3 a4 a5 a6 a7 hx1
 rcases hi with hi | hi
 ·have e1:ii < 1:=hi
  clear hi;go_enter Tryz.func61,Tryz.ntmps61;go_upto_region 1 with fail
  rw [X1.out];clear hr3;go_upto_region 2 with fail
  obtain ⟨⟨y0,y1,y2,y3⟩,u0,u1,u2,u3⟩:=aG A3.out.1;obtain ⟨n1,n2⟩:=set4 A3.out.1 (.int .i64 0)(.int .i64 0)(.int .i64 0)(.int .u64 0)
  have FIN:Hid ((st4 x1 r3 (.int .i64 0)(.int .i64 0)(.int .i64 0)(.int .u64 0)).heap[r3]?=some (.cells #[.int .i64 0,.int .i64 0,.int .i64 0,.int .u64 0] 37)∧TxS w0 R (st4 x1 r3 (.int .i64 0)(.int .i64 0)(.int .i64 0)(.int .u64 0)) t d s n E∧KeptT R t w (st4 x1 r3 (.int .i64 0)(.int .i64 0)(.int .i64 0)(.int .u64 0))):=Hd (by
   refine ⟨n1,((A2.out.2).turn (k:=r3)(by simp) A3.out.2 HR4.out.1 n2).sub (fun k hk=>by simp [hk]),fun k hk hn=>?_⟩;exact (n2.block k ((A2.out.2).lt.1 k (by simp [hk]))(HR4.out.2 k hk)).trans (A2.out.1 k hk hn))
  unfold st4 at FIN;clear n1 n2;go_wp2_with fail;exact bodyPost_ret (v:=.tuple #[.agg #[.int .i64 0,.int .i64 0,.int .i64 0,.int .u64 0],.int .i64 3])(aQ (fn:=Tryz.f61) rfl _ _ r3 37 _ (0,0) _ _ rfl rfl FIN.out.1 Tryz.underlying37 rfl dV) rfl ⟨rfl,FIN.out.2⟩
 ·have e1:¬ ii < 1:=by omega
  have e2:(200:Int) < ii:=hi;clear hi;go_enter Tryz.func61,Tryz.ntmps61;go_upto_region 1 with fail
  rw [X1.out];clear hr3;go_upto_region 2 with fail
  obtain ⟨⟨y0,y1,y2,y3⟩,u0,u1,u2,u3⟩:=aG A3.out.1;obtain ⟨n1,n2⟩:=set4 A3.out.1 (.int .i64 0)(.int .i64 0)(.int .i64 0)(.int .u64 0)
  have FIN:Hid ((st4 x1 r3 (.int .i64 0)(.int .i64 0)(.int .i64 0)(.int .u64 0)).heap[r3]?=some (.cells #[.int .i64 0,.int .i64 0,.int .i64 0,.int .u64 0] 37)∧TxS w0 R (st4 x1 r3 (.int .i64 0)(.int .i64 0)(.int .i64 0)(.int .u64 0)) t d s n E∧KeptT R t w (st4 x1 r3 (.int .i64 0)(.int .i64 0)(.int .i64 0)(.int .u64 0))):=Hd (by
   refine ⟨n1,((A2.out.2).turn (k:=r3)(by simp) A3.out.2 HR4.out.1 n2).sub (fun k hk=>by simp [hk]),fun k hk hn=>?_⟩;exact (n2.block k ((A2.out.2).lt.1 k (by simp [hk]))(HR4.out.2 k hk)).trans (A2.out.1 k hk hn))
  unfold st4 at FIN;clear n1 n2;go_wp2_with fail;exact bodyPost_ret (v:=.tuple #[.agg #[.int .i64 0,.int .i64 0,.int .i64 0,.int .u64 0],.int .i64 3])(aQ (fn:=Tryz.f61) rfl _ _ r3 37 _ (0,0) _ _ rfl rfl FIN.out.1 Tryz.underlying37 rfl dV) rfl ⟨rfl,FIN.out.2⟩
theorem YF {w0 w:World} {R:List Nat} {t d s bi bt n:Nat} {E:List Ent} {ii:Int} {q:Int} (h:TxS w0 R w t d s n E)(hc:w.heap[bi]?=some (.cells #[.int .i64 ii] 3))(hb:w.heap[bt]?=some (.cells #[.pointer (some ⟨t,0,none⟩)] 24))(hm:(bi ∈ R∧bi ≠ t)∧(bt ∈ R∧bt ≠ t))(hE:E.length ≤ 600)(hi:1 ≤ ii∧ii ≤ 200)(hq:iJ 4 0 ii=q)(hqr:0 ≤ q∧q ≤ 18446744073709551615) {S:ByteArray} {ca ep nn:Int} (hg:iK q E=true)(hv:gX q E=S)(hok:mW ii S=true)(h3:tsC S=ca)(h4:tsE S=ep)(h5:tsN S=nn) :
  Calls Tryz.prog 61 #[.pointer (some ⟨bi,0,none⟩),.pointer (some ⟨bt,0,none⟩)] w fun e w' => e=.returned (.tuple #[.agg #[.int .i64 ii,.int .i64 ca,.int .i64 ep,.int .u64 nn],.int .i64 0])∧TxS w0 R w' t d s n E∧KeptT R t w w' := by
 obtain ⟨a1,a2,a3,a4,a5,a6,a7⟩:=h.box (.cells #[.int .i64 0,.int .i64 0,.int .i64 0,.int .u64 0] 37);obtain ⟨r3,hr3⟩:∃ r3,w.heap.size=r3:=⟨_,rfl⟩
 obtain ⟨x1,hx1⟩:∃ x1,w.alloc (.cells #[.int .i64 0,.int .i64 0,.int .i64 0,.int .u64 0] 37)=x1:=⟨_,rfl⟩
 rw [hx1] at a1 a2 a3 a5;rw [hr3] at a1 a3 a4 a5 a6 a7;have X1:=Hd hx1;have HR4:=Hd (And.intro a6 a7);have A3:=Hd (And.intro a3 a4);have A2:=Hd (And.intro a2 a1);have d0:=(aM ((a2 bi hm.1.1 hm.1.2).trans hc)).1;have HX:=Hd hm;have HS0:=Hd (show (fun w' : World=>w'.heap[bi]?=some (.cells #[.int .i64 ii] 3)∧w'.heap[bt]?=some (.cells #[.pointer (some ⟨t,0,none⟩)] 24)) x1.drew from ⟨(a2 bi hm.1.1 hm.1.2).trans hc,(a2 bt hm.2.1 hm.2.2).trans hb⟩);have HQ:=Hd hq;have e1:¬ ii < 1:=by omega
 have e2:¬ (200:Int) < ii:=by omega
 have GE:=Hd (CH (key:=q)(a1.below Br.drew) hE hqr S true hv hg);have TA:=Hd (fun w=>by have:=wH ii S w; unfold tsV okE at this; rw [hok,if_pos rfl,if_pos rfl,h3,h4,h5] at this; exact this);clear hg hv hok h3 h4 h5;clear h hc hb hm hE hi hq hqr a1 a2 a3 a4 a5 a6 a7 hx1;go_enter Tryz.func61,Tryz.ntmps61;go_upto_region 1 with fail
 rw [X1.out];clear hr3;go_upto_region 3 with fail
 clear d0;refine wp_region_held_drew (S:=fun w' => w'.heap[bi]?=some (.cells #[.int .i64 ii] 3)∧w'.heap[bt]?=some (.cells #[.pointer (some ⟨t,0,none⟩)] 24))(by kernel_rfl) HS0.out (fun hS=>?_);refine Hv 0 14 ?vb0x1 hS ?hb0x1 ?_
 case hb0x1 =>
  intro w9 s9;have k9:=(aM s9.2).1;clear s9;go_simp;try (with_reducible rfl)
 simp only [SL];refine Hv 1 15 ?vb1x2 hS ?hb1x2 ?_
 case hb1x2 =>
  intro w9 s9;have k9:=(aM s9.1).1;clear s9;go_simp;try (with_reducible rfl)
 simp only [SL];refine Hs 2 (fun K HK=>?_);go_simp;go_wp2_with fail;refine (KD ii q _ HQ.out).mono ?_;rintro e w6 ⟨rfl,rfl⟩;refine HK.out _ _ ?_ ?_
 ·exact hS
 clear HK K;try simp only [Act.put,SL]
 refine Hs 3 (fun K HK=>?_);go_simp;go_wp2_with fail;refine GE.out.mono ?_;rintro e w7 ⟨rfl,h1,h2⟩;refine HK.out _ _ ?_ ?_
 ·exact ⟨(h2 bi (by simp [HX.out.1.1]) HX.out.1.2).trans hS.1,(h2 bt (by simp [HX.out.2.1]) HX.out.2.2).trans hS.2⟩
 clear HK K;try simp only [Act.put,SL]
 have hS9:=(show (_∧_) from ⟨(h2 bi (by simp [HX.out.1.1]) HX.out.1.2).trans hS.1,(h2 bt (by simp [HX.out.2.1]) HX.out.2.2).trans hS.2⟩)
 clear hS;have hS:=hS9;clear hS9;have F7:=Hd (And.intro h1 (show KeptT (r3 :: R) t x1 w7 from h2));clear h1 h2 GE;refine Hu 4 13 hS ?_;simp only [SL];refine Hu 5 18 hS ?_;simp only [SL];refine Hu 6 19 hS ?_;simp only [SL];refine Hu 7 4 hS ?_;simp only [SL];refine Hu 8 5 hS ?_;simp only [SL];refine wpAnyH_done (by kernel_rfl) ?_ _;have c7:=(aM hS.1).1;clear hS;have r7:=(F7.out.2 r3 (by simp) A3.out.2).trans A3.out.1;go_wp2_with fail;refine (TA.out _).mono ?_;rintro e w8 ⟨rfl,b8⟩;have r8:=bG r7 b8;have F8:=Hd (And.intro (F7.out.1.below b8)(F7.out.2.trans (F7.out.1.kept b8)))
 clear r7 b8 c7;obtain ⟨⟨y0,y1,y2,y3⟩,u0,u1,u2,u3⟩:=aG r8;obtain ⟨n1,n2⟩:=set4 r8 (.int .i64 ii)(.int .i64 ca)(.int .i64 ep)(.int .u64 nn)
 have FIN:Hid ((st4 w8 r3 (.int .i64 ii)(.int .i64 ca)(.int .i64 ep)(.int .u64 nn)).heap[r3]?=some (.cells #[.int .i64 ii,.int .i64 ca,.int .i64 ep,.int .u64 nn] 37)∧TxS w0 R (st4 w8 r3 (.int .i64 ii)(.int .i64 ca)(.int .i64 ep)(.int .u64 nn)) t d s n E∧KeptT R t w (st4 w8 r3 (.int .i64 ii)(.int .i64 ca)(.int .i64 ep)(.int .u64 nn))):=Hd (by
  refine ⟨n1,((F8.out.1).turn (k:=r3)(by simp) A3.out.2 HR4.out.1 n2).sub (fun k hk=>by simp [hk]),fun k hk hn=>?_⟩;exact (n2.block k ((F8.out.1).lt.1 k (by simp [hk]))(HR4.out.2 k hk)).trans ((fun k hk hn=>(F8.out.2 k (by simp [hk]) hn).trans (A2.out.1 k hk hn)) k hk hn))
 unfold st4 at FIN;clear n1 n2;go_wp2_with fail;exact bodyPost_ret (v:=.tuple #[.agg #[.int .i64 ii,.int .i64 ca,.int .i64 ep,.int .u64 nn],.int .i64 0])(aQ (fn:=Tryz.f61) rfl _ _ r3 37 _ (0,0) _ _ rfl rfl FIN.out.1 Tryz.underlying37 rfl dV) rfl ⟨rfl,FIN.out.2⟩
theorem UD {w0 w:World} {R:List Nat} {t d s n:Nat} {E:List Ent} {ii q:Int} {S:ByteArray} {ca ep nn:Int} (h:TxS w0 R w t d s n E)(hE:E.length ≤ 600)(hi:1 ≤ ii∧ii ≤ 200)(hq:iJ 4 0 ii=q)(hqr:0 ≤ q∧q ≤ 18446744073709551615)(hg:iK q E=true)(hv:gX q E=S)(hok:mW ii S=true)(h3:tsC S=ca)(h4:tsE S=ep)(h5:tsN S=nn) :
  Calls Tryz.prog 24 #[.pointer (some ⟨t,0,none⟩),.int .i64 ii] w fun e w' => e=.returned (.tuple #[.agg #[.int .i64 ii,.int .i64 ca,.int .i64 ep,.int .u64 nn],.int .i64 0])∧TxS w0 R w' t d s n E∧KeptT R t w w' :=
 aCP h (.inl ⟨rfl,rfl,rfl,rfl,rfl⟩) fun R' wa b0 b1 hT g0 g1 gm=>YF hT g1 g0 ⟨gm.2,gm.1⟩ hE hi hq hqr hg hv hok h3 h4 h5
theorem BK {ty:TypeId} {d:TypeDesc} (hd:(match d with | .struct _ | .array _ _=>true | _=>false)=false)(hu:Tryz.prog.underlying ty=some d) {w:World} {g:Nat} {v:Value} (h:w.cell? ⟨g,0,none⟩=some v) :
  ((asAddr (.pointer (some ⟨g,0,none⟩))).run Tryz.prog w).andThen (fun a w₁=>(loadVar ty a).run Tryz.prog w₁)=.ok v w:=by
 have hagg:(isAgg ty).run Tryz.prog w=.ok false w:=by
  unfold isAgg;rw [Sem.run_bind,run_underlying hu w]
  cases d <;> first | rfl | (simp at hd)
 simp [asAddr,loadVar,Sem.run_bind,hagg,Result.andThen,h]
section
attribute [local go_sem] Oper.semAt_some
end

theorem aDT {id c e n:Int} (h:cY id c e=true)(n0:0 ≤ n)(n1:n ≤ 18446744073709551615):(cE c 3=true∧0 ≤ c)∧(cE e 1=true∧0 ≤ e)∧(cE n 8=true∧0 ≤ n):=by
 have:=pH h;obtain ⟨c', rfl⟩:=Int.eq_ofNat_of_zero_le (show 0 ≤ c by omega);obtain ⟨e', rfl⟩:=Int.eq_ofNat_of_zero_le (show 0 ≤ e by omega);obtain ⟨n', rfl⟩:=Int.eq_ofNat_of_zero_le n0;refine ⟨⟨(bM c' 3).2 ⟨by decide,by decide,?_⟩,by omega⟩,⟨(bM e' 1).2 ⟨by decide,by decide,?_⟩,by omega⟩,⟨(bM n' 8).2 ⟨by decide,by decide,?_⟩,by omega⟩⟩
 ·show c' < 16777216; omega
 ·show e' < 256; omega
 ·show n' < 18446744073709551616; omega
theorem xP {id c e n:Int} (h:cY id c e=true)(n0:0 ≤ n)(n1:n ≤ 18446744073709551615):tsC (dJ c e n)=c∧tsE (dJ c e n)=e∧tsN (dJ c e n)=n:=by
 obtain ⟨p0,p1,p2⟩:=aDT h n0 n1;have q0:=fun rest=>qW (n:=c)(k:=3) rest p0.2 p0.1
 have q1:=fun rest=>qW (n:=e)(k:=1) rest p1.2 p1.1
 have q2:=fun rest=>qW (n:=n)(k:=8) rest p2.2 p2.1
 have e:dJ c e n=Str (aL c 3) ++ (Str (aL e 1) ++ (Str (aL n 8) ++ ⟨#[]⟩)):=by
  unfold dJ; rw [pD,ByteArray.append_assoc]
 unfold tsC tsE tsN;rw [e,(q0 _).2,(q1 _).2];exact ⟨(q0 _).1,(q1 _).1,(q2 _).1⟩
theorem LR {id c e n:Int} (h:cY id c e=true)(n0:0 ≤ n)(n1:n ≤ 18446744073709551615):mW id (dJ c e n)=true:=by
 obtain ⟨e0,e1,e2⟩:=xP h n0 n1;unfold mW rY;rw [e0,e1,e2,h];simp
def slK (i:Nat):Int:=4611686018427387905 + (i:Int)
theorem wJ {i:Nat} (hi:i < 200):iJ 4 0 ((i + 1:Nat):Int)=slK i:=by
 have h:fZ 4 0 ((i + 1:Nat):Int)=true:=by
  unfold fZ;simp;omega
 unfold iJ slK;rw [if_pos h];omega
theorem sC {i:Nat} (hi:i < 200):spB (slK i)=(i:Int) + 1∧jY (slK i) 4 0=true:=by
 have h1:spK (slK i)=4:=by unfold spK slK; omega
 have h2:spA (slK i)=0:=by unfold spA slK; omega
 refine ⟨by unfold spB slK; omega,?_⟩;unfold jY;rw [h1,h2]
 rfl
def slV (x:Int × Int × Int):ByteArray:=dJ x.1 x.2.1 x.2.2
def slE:Nat → List (Int × Int × Int) → List Ent
 | _,[]=>[]
 | i,x :: L=>(slK i,slV x) :: slE (i + 1) L
theorem pJ:∀ (L:List (Int × Int × Int))(i j:Nat),(slE i L)[j]?=L[j]?.map fun x=>(slK (i + j),slV x)
 | [],i,j=>by simp [slE]
 | x :: L,i,0=>by simp [slE]
 | x :: L,i,j + 1=>by
  rw [slE,List.getElem?_cons_succ,List.getElem?_cons_succ,pJ L (i + 1) j,show i + 1 + j=i + (j + 1) by omega]
theorem kJ:∀ (L:List (Int × Int × Int))(i:Nat),(slE i L).length=L.length
 | [],i=>rfl
 | x :: L,i=>by rw [slE,List.length_cons,List.length_cons,kJ L (i + 1)]
theorem nX:∀ (L:List (Int × Int × Int))(i:Nat),∀ e ∈ slE i L,slK i ≤ e.1
 | [],i,e,h=>by simp [slE] at h
 | x :: L,i,e,h=>by
  rw [slE,List.mem_cons] at h
  rcases h with rfl | h
  ·exact Int.le_refl _
  ·have:=nX L (i + 1) e h
   unfold slK at this ⊢;omega
theorem sD:∀ (L:List (Int × Int × Int))(i:Nat),kY (slE i L)
 | [],i=>List.Pairwise.nil
 | x :: L,i=>by
  rw [slE];refine List.Pairwise.cons (fun e he=>?_)(sD L (i + 1));have:=nX L (i + 1) e he;unfold slK at this ⊢
  show 4611686018427387905 + (i:Int) < e.1
  omega
theorem tG {e:Ent} {k:Int} (h:e.1 < k)(v:ByteArray)(m:List Ent):bT k v (e :: m)=e :: bT k v m:=by
 unfold bT;have h2:¬ k < e.1:=by omega
 simp [List.filter_cons,h,h2]
theorem QB {k:Int} (u v:ByteArray) {m:List Ent} (h:∀ e ∈ m,k < e.1):bT k v ((k,u) :: m)=(k,v) :: m:=by
 unfold bT;have h1:m.filter (fun e=>decide (e.1 < k))=[]:=List.filter_eq_nil_iff.2 fun e he=>by have:=h e he; simp; omega
 have h2:m.filter (fun e=>decide (k < e.1))=m:=List.filter_eq_self.2 fun e he=>by simpa using h e he
 simp [List.filter_cons,h1,h2]
theorem BY:∀ (L:List (Int × Int × Int))(i j:Nat)(x:Int × Int × Int),j < L.length → bT (slK (i + j))(slV x)(slE i L)=slE i (L.set j x)
 | [],i,j,x,h=>by simp at h
 | y :: L,i,0,x,h=>by
  rw [slE,List.set_cons_zero,slE]
  exact QB _ _ fun e he=>by
   have:=nX L (i + 1) e he;unfold slK at this ⊢;omega
 | y :: L,i,j + 1,x,h=>by
  rw [slE,List.set_cons_succ,slE,tG (by show slK i < slK (i + (j + 1)); unfold slK; omega),show i + (j + 1)=i + 1 + j by omega,BY L (i + 1) j x (by simpa using h)]
theorem vK:∀ (L:List (Int × Int × Int))(i:Nat)(x:Int × Int × Int),bT (slK (i + L.length))(slV x)(slE i L)=slE i (L ++ [x])
 | [],i,x=>by simp [slE,bT]
 | y :: L,i,x=>by
  rw [slE,List.cons_append,slE,tG (by show slK i < slK (i + (L.length + 1)); unfold slK; omega),List.length_cons,show i + (L.length + 1)=i + 1 + L.length by omega,vK L (i + 1) x]
def SlL (L:List (Int × Int × Int)):Prop:=L.length ≤ 200∧∀ (j:Nat)(x:Int × Int × Int),L[j]?=some x → cY ((j:Int) + 1) x.1 x.2.1=true∧0 ≤ x.2.2∧x.2.2 ≤ 18446744073709551615
theorem pI {L:List (Int × Int × Int)} (h:L.length ≤ 200) {e:Ent} (he:e ∈ slE 0 L):∃ j,∃ x,j < 200∧L[j]?=some x∧e=(slK j,slV x):=by
 obtain ⟨j,hj⟩:=List.mem_iff_getElem?.1 he;rw [pJ] at hj
 cases hx:L[j]? with
 | none=>rw [hx] at hj; cases hj
 | some x =>
  rw [hx] at hj;have hl:=(List.getElem?_eq_some_iff.1 hx).1;injection hj with hj;exact ⟨j,x,by omega,hx,by rw [← hj,Nat.zero_add]⟩
theorem mO {α:Type} (p:α → Bool):∀ (l:List α),(∀ x ∈ l,p x=true) → l.takeWhile p=l
 | [],_=>rfl
 | a :: l,h=>by rw [List.takeWhile_cons,if_pos (h a (by simp)),mO p l fun x hx=>h x (by simp [hx])]
theorem EP {L:List (Int × Int × Int)} (h:L.length ≤ 200):gB (slE 0 L)=slE 0 L:=by
 unfold gB
 rw [uX fun e he=>by
  have:=nX L 0 e he;unfold slK at this;omega]
 refine mO _ _ fun e he=>?_
 obtain ⟨j,x,hj,_,rfl⟩:=pI h he;exact (sC hj).2
theorem aCL {L:List (Int × Int × Int)} (h:SlL L):SlE (slE 0 L)(slE 0 L):=by
 obtain ⟨h1,h2⟩:=h;refine ⟨sD L 0,fun e he=>?_,EP h1,fun e he=>?_,fun i e he=>?_,by rw [kJ]; exact h1,by rw [kJ]; omega⟩
 ·obtain ⟨j,x,hj,_,rfl⟩:=pI h1 he
  show 0 ≤ slK j∧slK j ≤ _
  unfold slK;omega
 ·obtain ⟨j,x,hj,hx,rfl⟩:=pI h1 he
  obtain ⟨g1,g2,g3⟩:=h2 j x hx
  show mW (spB (slK j))(slV x)=true
  rw [(sC hj).1];exact LR g1 g2 g3
 ·rw [pJ] at he
  cases hx:L[i]? with
  | none=>rw [hx] at he; cases he
  | some x =>
   rw [hx] at he;have hl:=(List.getElem?_eq_some_iff.1 hx).1;injection he with he;rw [← he,Nat.zero_add];exact (sC (by omega)).1
theorem rZ {L:List (Int × Int × Int)} (h:SlL L) {i:Nat} {x:Int × Int × Int} (hx:L[i]?=some x):fA (slE 0 L) i=((i:Int) + 1,x.1,x.2.1,x.2.2):=by
 obtain ⟨g1,g2,g3⟩:=h.2 i x hx;obtain ⟨e1,e2,e3⟩:=xP g1 g2 g3;have hl:=(List.getElem?_eq_some_iff.1 hx).1;unfold fA;rw [pJ,hx]
 show fld (slK (0 + i),slV x)=_
 unfold fld
 show (spB (slK (0 + i)),tsC (dJ x.1 x.2.1 x.2.2),tsE (dJ x.1 x.2.1 x.2.2),tsN (dJ x.1 x.2.1 x.2.2))=_
 rw [Nat.zero_add,(sC (by have:=h.1; omega)).1,e1,e2,e3]
theorem sB {L:List (Int × Int × Int)} {i:Nat} (hi:L.length ≤ i):fA (slE 0 L) i=(((i + 1:Nat):Int),0,1,0):=by
 unfold fA;rw [pJ,List.getElem?_eq_none_iff.2 hi]
 rfl
theorem DF {L:List (Int × Int × Int)} (h:SlL L)(nc:Int)(hb:∀ x ∈ L,iV x.1 x.2.2 nc=false):∀ e ∈ slE 0 L,pC nc e=false:=fun e he=>by
 obtain ⟨j,x,hj,hx,rfl⟩:=pI h.1 he;obtain ⟨g1,g2,g3⟩:=h.2 j x hx;obtain ⟨e1,e2,e3⟩:=xP g1 g2 g3
 show iV (tsC (dJ x.1 x.2.1 x.2.2))(tsN (dJ x.1 x.2.1 x.2.2)) nc=false
 rw [e1,e3];exact hb x (List.mem_of_getElem? hx)
theorem SlL.snoc {L:List (Int × Int × Int)} (h:SlL L) {x:Int × Int × Int} (hl:L.length < 200)(hx:cY ((L.length:Int) + 1) x.1 x.2.1=true∧0 ≤ x.2.2∧x.2.2 ≤ 18446744073709551615):SlL (L ++ [x]):=by
 refine ⟨by simp; omega,fun i y hy=>?_⟩
 by_cases hi:i < L.length
 ·rw [List.getElem?_append_left hi] at hy
  exact h.2 i y hy
 ·have hi2:i=L.length:=by
   have:=(List.getElem?_eq_some_iff.1 hy).1;simp at this;omega
  subst hi2;have hy2:x=y:=by simpa using hy
  rw [← hy2]; exact hx

theorem nD {L:List (Int × Int × Int)} (h:SlL L) {i:Nat} {x:Int × Int × Int} (hx:L[i]?=some x):dX (slE 0 L) i=iR x.1 x.2.1:=by
 unfold dX;rw [rZ h hx]
theorem GI {L:List (Int × Int × Int)} {i:Nat} (hi:L.length ≤ i):dX (slE 0 L) i=true:=by
 unfold dX;rw [sB hi]
 rfl
structure MtE (M:List Ent):Prop where
 s:kY M
 k:∀ e ∈ M,5764607523034234880 ≤ e.1∧e.1 ≤ 18446744073709551615
 n:M.length ≤ 50
theorem WI {k:Int} {v:ByteArray} {A M:List Ent} (h:∀ e ∈ M,k < e.1):bT k v (A ++ M)=bT k v A ++ M:=by
 unfold bT;have h1:M.filter (fun e=>decide (e.1 < k))=[]:=List.filter_eq_nil_iff.2 fun e he=>by have:=h e he; simp; omega
 have h2:M.filter (fun e=>decide (k < e.1))=M:=List.filter_eq_self.2 fun e he=>by simpa using h e he
 rw [List.filter_append,List.filter_append,h1,h2,List.append_nil];simp
theorem pU {k:Int} {v:ByteArray} {A M:List Ent} (h:∀ e ∈ A,e.1 < k):bT k v (A ++ M)=A ++ bT k v M:=by
 unfold bT;have h1:A.filter (fun e=>decide (k < e.1))=[]:=List.filter_eq_nil_iff.2 fun e he=>by have:=h e he; simp; omega
 have h2:A.filter (fun e=>decide (e.1 < k))=A:=List.filter_eq_self.2 fun e he=>by simpa using h e he
 rw [List.filter_append,List.filter_append,h1,h2];simp
theorem pW {k:Int} {A M:List Ent} (h:∀ e ∈ A,e.1 < k):mK k (A ++ M)=mK k M:=by
 unfold mK;rw [List.find?_append,List.find?_eq_none.2 (fun e he=>by have:=h e he; simp; omega)]
 rfl
theorem zE {L:List (Int × Int × Int)} (h:L.length ≤ 200):∀ e ∈ slE 0 L,e.1 ≤ 4611686018427388104:=fun e he=>by
 obtain ⟨j,x,hj,_,rfl⟩:=pI h he
 show slK j ≤ _
 unfold slK;omega
theorem zD {L:List (Int × Int × Int)} {M:List Ent} (h:SlL L)(hM:MtE M):kY (slE 0 L ++ M) :=
 List.pairwise_append.2 ⟨sD L 0,hM.s,fun a ha b hb=>by
  have:=zE h.1 a ha;have:=(hM.k b hb).1;omega⟩
theorem mN {α:Type} (p:α → Bool):∀ (l m:List α),(∀ x ∈ l,p x=true) → (∀ x ∈ m,p x=false) → (l ++ m).takeWhile p=l
 | [],[],_,_=>rfl
 | [],b :: m,_,h=>by rw [List.nil_append,List.takeWhile_cons,if_neg (by rw [h b (by simp)]; decide)]
 | a :: l,m,h,g=>by rw [List.cons_append,List.takeWhile_cons,if_pos (h a (by simp)),mN p l m (fun x hx=>h x (by simp [hx])) g]
theorem TN {L:List (Int × Int × Int)} {M:List Ent} (h:L.length ≤ 200)(hM:MtE M):gB (slE 0 L ++ M)=slE 0 L:=by
 unfold gB
 rw [uX fun e he=>by
  rcases List.mem_append.1 he with he | he
  ·have:=nX L 0 e he
   unfold slK at this;omega
  ·have:=(hM.k e he).1
   omega]
 refine mN _ _ _ (fun e he=>?_)(fun e he=>?_)
 ·obtain ⟨j,x,hj,_,rfl⟩:=pI h he
  exact (sC hj).2
 ·have h1:=(hM.k e he).1
  unfold jY spK;have:(e.1 / 1152921504606846976 == 4)=false:=by simp; omega
  rw [this,Bool.false_and]
theorem TQ {L:List (Int × Int × Int)} {M:List Ent} (h:SlL L)(hM:MtE M):SlE (slE 0 L ++ M)(slE 0 L):=by
 have q:=aCL h;refine ⟨zD h hM,fun e he=>?_,TN h.1 hM,q.ok,q.id,q.m,by rw [List.length_append,kJ]; have:=h.1; have:=hM.n; omega⟩
 rcases List.mem_append.1 he with he | he
 ·exact q.k e he
 ·have:=hM.k e he
  omega
theorem KC {L:List (Int × Int × Int)} {M:List Ent} (hM:MtE M) {i:Nat} (hi:i < 200)(v:ByteArray):bT (slK i) v (slE 0 L ++ M)=bT (slK i) v (slE 0 L) ++ M:=WI fun e he=>by
 have:=(hM.k e he).1;unfold slK;omega
theorem aD1 {w0 w:World} {R:List Nat} {t d s:Nat} {L:List (Int × Int × Int)} {M:List Ent} {ca nc:Int} (h:TxS w0 R w t d s 640 (slE 0 L ++ M))(hL:SlL L)(hM:MtE M)(hca:1 ≤ ca∧ca ≤ 16777215)(hnc:0 ≤ nc∧nc ≤ 18446744073709551615)(hbu:∀ x ∈ L,iV x.1 x.2.2 nc=false)
  {i:Nat} {x:Int × Int × Int} (hx:L[i]?=some x)(hop:iR x.1 x.2.1=true)(hlo:∀ (j:Nat)(y:Int × Int × Int),j < i → L[j]?=some y → iR y.1 y.2.1=false) :
  Calls Tryz.prog 22 #[.pointer (some ⟨t,0,none⟩),.int .i64 ca,.int .u64 nc] w fun e w' => e=.returned (.tuple #[.agg #[.int .i64 ((i + 1:Nat):Int),.int .i64 ca,.int .i64 x.2.1,.int .u64 nc],.int .i64 0])∧TxS w0 R w' t d s 640 (slE 0 (L.set i (ca,x.2.1,nc)) ++ M)∧KeptT R t w w'∧SlL (L.set i (ca,x.2.1,nc)):=by
 have hi:=(List.getElem?_eq_some_iff.1 hx).1;have h200:=hL.1
 have h0:x.1=0∧x.2.1 ≤ 15:=by
  unfold iR at hop
  simpa using hop
 have hin:=pH (hL.2 i x hx).1
 have hset:SlL (L.set i (ca,x.2.1,nc)):=hL.set hi ⟨by
  unfold cY;simp only [Bool.and_eq_true,oS];refine ⟨⟨⟨by omega,by omega⟩,by omega⟩,?_⟩;have:(x.2.1 != 16)=true:=by simp; omega
  rw [this]; rfl,hnc.1,hnc.2⟩
 have hs:fA (slE 0 L) i=(((i + 1:Nat):Int),0,x.2.1,x.2.2):=by
  rw [rZ hL hx,h0.1]
  rfl
 have e:=BY L 0 i (ca,x.2.1,nc) hi;rw [Nat.zero_add] at e;refine (yZ h (TQ hL hM) hca hnc (DF hL nc hbu)(i:=i)(by omega)(fun j hj=>?_)(by rw [nD hL hx]; exact hop) hs rfl ⟨by omega,h0.2⟩).mono ?_
 ·obtain ⟨y,hy⟩:∃ y,L[j]?=some y:=⟨_,List.getElem?_eq_getElem (by omega)⟩
  rw [nD hL hy];exact hlo j y hj hy
 ·rintro e' w' ⟨rfl,h1,h2⟩
  rw [wJ (by omega),show dJ ca x.2.1 nc=slV (ca,x.2.1,nc) from rfl,KC hM (by omega),e] at h1;exact ⟨rfl,h1,h2,hset⟩
theorem PE {w0 w:World} {R:List Nat} {t d s:Nat} {L:List (Int × Int × Int)} {M:List Ent} {ca nc:Int} (h:TxS w0 R w t d s 640 (slE 0 L ++ M))(hL:SlL L)(hM:MtE M)(hca:1 ≤ ca∧ca ≤ 16777215)(hnc:0 ≤ nc∧nc ≤ 18446744073709551615)(hbu:∀ x ∈ L,iV x.1 x.2.2 nc=false)
  (hl:L.length < 200)(hlo:∀ y ∈ L,iR y.1 y.2.1=false) :
  Calls Tryz.prog 22 #[.pointer (some ⟨t,0,none⟩),.int .i64 ca,.int .u64 nc] w fun e w' => e=.returned (.tuple #[.agg #[.int .i64 ((L.length + 1:Nat):Int),.int .i64 ca,.int .i64 1,.int .u64 nc],.int .i64 0])∧TxS w0 R w' t d s 640 (slE 0 (L ++ [(ca,1,nc)]) ++ M)∧KeptT R t w w'∧SlL (L ++ [(ca,1,nc)]):=by
 have hset:SlL (L ++ [(ca,1,nc)]):=hL.snoc hl ⟨by
  unfold cY;simp only [Bool.and_eq_true,oS];exact ⟨⟨⟨by omega,by omega⟩,by decide⟩,by simp⟩,hnc.1,hnc.2⟩
 have e:=vK L 0 (ca,1,nc);rw [Nat.zero_add] at e;refine (yZ h (TQ hL hM) hca hnc (DF hL nc hbu)(i:=L.length) hl (fun j hj=>?_)(GI (Nat.le_refl _))(sB (Nat.le_refl _)) rfl ⟨by decide,by decide⟩).mono ?_
 ·obtain ⟨y,hy⟩:∃ y,L[j]?=some y:=⟨_,List.getElem?_eq_getElem hj⟩
  rw [nD hL hy];exact hlo y (List.mem_of_getElem? hy)
 ·rintro e' w' ⟨rfl,h1,h2⟩
  rw [wJ hl,show dJ ca 1 nc=slV (ca,1,nc) from rfl,KC hM hl,e] at h1;exact ⟨rfl,h1,h2,hset⟩
theorem aEG {w0 w:World} {R:List Nat} {t d s:Nat} {L:List (Int × Int × Int)} {M:List Ent} (h:TxS w0 R w t d s 640 (slE 0 L ++ M))(hL:SlL L)(hM:MtE M) {i:Nat} {x:Int × Int × Int} (hx:L[i]?=some x) :
  Calls Tryz.prog 24 #[.pointer (some ⟨t,0,none⟩),.int .i64 ((i + 1:Nat):Int)] w fun e w' => e=.returned (.tuple #[.agg #[.int .i64 ((i + 1:Nat):Int),.int .i64 x.1,.int .i64 x.2.1,.int .u64 x.2.2],.int .i64 0])∧TxS w0 R w' t d s 640 (slE 0 L ++ M)∧KeptT R t w w' := by
 have hi:=(List.getElem?_eq_some_iff.1 hx).1;have h200:=hL.1;have h50:=hM.n;obtain ⟨g1,g2,g3⟩:=hL.2 i x hx;obtain ⟨e1,e2,e3⟩:=xP g1 g2 g3;have hg:mK (slK i)(slE 0 L ++ M)=some (slV x):=(WZ (zD hL hM)).1 (List.mem_append_left _ (List.mem_of_getElem? (i:=i)(by rw [pJ,hx,Nat.zero_add]; rfl)));exact UD h (by rw [List.length_append,kJ]; omega) ⟨by omega,by omega⟩ (wJ (by omega))(by unfold slK; omega)(by unfold iK; rw [hg]; rfl)(by unfold gX; rw [hg]; rfl)(LR g1 g2 g3) e1 e2 e3
open Go.RowKit

theorem iO (a:Nat)(ha:a < 4294967296):(BitVec.ofInt 32 (a:Int)).toNat=a:=by
 rw [BitVec.ofInt_natCast,BitVec.toNat_ofNat]; exact Nat.mod_eq_of_lt (by omega)
theorem aH (a b:Nat)(ha:a < 4294967296)(hb:b < 4294967296):bits .or .u32 (a:Int)(b:Int)=((a ||| b:Nat):Int):=by
 have hx:a ||| b < 2 ^ 32:=Nat.or_lt_two_pow (by omega)(by omega)
 show IntKind.u32.wrap ((BitVec.ofInt 32 (a:Int) ||| BitVec.ofInt 32 (b:Int)).toNat:Int)=_
 rw [BitVec.toNat_or,iO a ha,iO b hb,IntKind.wrap_u32];omega
theorem dI (a b:Nat)(ha:a < 4294967296)(hb:b < 4294967296):bits .xor .u32 (a:Int)(b:Int)=((a ^^^ b:Nat):Int):=by
 have hx:a ^^^ b < 2 ^ 32:=Nat.xor_lt_two_pow (by omega)(by omega)
 show IntKind.u32.wrap ((BitVec.ofInt 32 (a:Int) ^^^ BitVec.ofInt 32 (b:Int)).toNat:Int)=_
 rw [BitVec.toNat_xor,iO a ha,iO b hb,IntKind.wrap_u32];omega
theorem gQ (a b:Nat)(ha:a < 4294967296)(hb:b < 4294967296):bits .and .u32 (a:Int)(b:Int)=((a &&& b:Nat):Int):=by
 have hx:a &&& b < 2 ^ 32:=Nat.and_lt_two_pow _ (by omega)
 show IntKind.u32.wrap ((BitVec.ofInt 32 (a:Int) &&& BitVec.ofInt 32 (b:Int)).toNat:Int)=_
 rw [BitVec.toNat_and,iO a ha,iO b hb,IntKind.wrap_u32];omega
namespace S
def rot (x n:Nat):Nat:=(x * 2 ^ (32 - n) % 4294967296) ||| (x / 2 ^ n)
theorem rot_lt (x n:Nat)(hx:x < 4294967296):rot x n < 4294967296:=by
 unfold rot;exact Nat.or_lt_two_pow (n:=32)(Nat.mod_lt _ (by decide))(Nat.lt_of_le_of_lt (Nat.div_le_self _ _) hx)
def x3 (a b c:Nat):Nat:=a ^^^ b ^^^ c
theorem xor_lt {a b:Nat} (ha:a < 4294967296)(hb:b < 4294967296):a ^^^ b < 4294967296:=Nat.xor_lt_two_pow (n:=32) ha hb
theorem and_lt {a b:Nat} (ha:a < 4294967296):a &&& b < 4294967296:=Nat.lt_of_le_of_lt Nat.and_le_left ha
def s0 (x:Nat):Nat:=x3 (rot x 7)(rot x 18)(x / 8)
def s1 (x:Nat):Nat:=x3 (rot x 17)(rot x 19)(x / 1024)
def S0 (x:Nat):Nat:=x3 (rot x 2)(rot x 13)(rot x 22)
def S1 (x:Nat):Nat:=x3 (rot x 6)(rot x 11)(rot x 25)
def ch (e f g:Nat):Nat:=(e &&& f) ^^^ ((4294967295 ^^^ e) &&& g)
def maj (a b c:Nat):Nat:=x3 (a &&& b)(a &&& c)(b &&& c)
def add (a b:Nat):Nat:=(a + b) % 4294967296
theorem iW (a b:Nat):add a b < 4294967296:=Nat.mod_lt _ (by decide)
def word (b:List UInt8)(i:Nat):Nat:=M.val ((b.drop (4 * i)).take 4)
theorem YQ (b:List UInt8)(i:Nat):word b i < 4294967296:=by
 have h1:=M.val_lt ((b.drop (4 * i)).take 4);have h2:256 ^ ((b.drop (4 * i)).take 4).length ≤ 256 ^ 4:=Nat.pow_le_pow_right (by decide)(by simp; omega);unfold word;have h3:(256:Nat) ^ 4=4294967296:=by decide
 omega
def wnext (w:List Nat)(i:Nat):Nat:=add (add (add (s1 (w.getD (i - 2) 0))(w.getD (i - 7) 0))(s0 (w.getD (i - 15) 0)))(w.getD (i - 16) 0)
def wds (b:List UInt8):Nat → List Nat
 | 0=>[]
 | n + 1=>wds b n ++ [if n < 16 then word b n else wnext (wds b n) n]
theorem wds_length (b:List UInt8)(n:Nat):(wds b n).length=n:=by
 induction n with
 | zero=>rfl
 | succ n ih=>simp [wds,ih]
theorem wds_lt (b:List UInt8)(n:Nat):∀ x ∈ wds b n,x < 4294967296:=by
 induction n with
 | zero=>simp [wds]
 | succ n ih =>
  intro x hx;rw [wds] at hx
  rcases List.mem_append.1 hx with h | h
  ·exact ih x h
  ·simp only [List.mem_singleton] at h
   subst h
   split
   ·exact YQ _ _
   ·exact iW _ _
structure St where
 a:Nat
 b:Nat
 c:Nat
 d:Nat
 e:Nat
 f:Nat
 g:Nat
 h:Nat
def St.ok (s:St):Prop:=s.a < 4294967296∧s.b < 4294967296∧s.c < 4294967296∧s.d < 4294967296∧s.e < 4294967296∧s.f < 4294967296∧s.g < 4294967296∧s.h < 4294967296
def t1 (s:St)(k w:Nat):Nat:=add (add (add (add s.h (S1 s.e))(ch s.e s.f s.g)) k) w
def t2 (s:St):Nat:=add (S0 s.a)(maj s.a s.b s.c)
def step (s:St)(k w:Nat):St:=⟨add (t1 s k w)(t2 s),s.a,s.b,s.c,add s.d (t1 s k w),s.e,s.f,s.g⟩
theorem ZD (s:St)(k w:Nat)(h:s.ok):(step s k w).ok:=⟨iW _ _,h.1,h.2.1,h.2.2.1,iW _ _,h.2.2.2.2.1,h.2.2.2.2.2.1,h.2.2.2.2.2.2.1⟩
def steps (K W:List Nat)(s:St):Nat → St
 | 0=>s
 | n + 1=>step (steps K W s n)(K.getD n 0)(W.getD n 0)
theorem steps_ok (K W:List Nat)(s:St)(n:Nat)(h:s.ok):(steps K W s n).ok:=by
 induction n with
 | zero=>exact h
 | succ n ih=>exact ZD _ _ _ ih
def plus (s t:St):St:=⟨add s.a t.a,add s.b t.b,add s.c t.c,add s.d t.d,add s.e t.e,add s.f t.f,add s.g t.g,add s.h t.h⟩
theorem plus_ok (s t:St):(plus s t).ok:=⟨iW _ _,iW _ _,iW _ _,iW _ _,iW _ _,iW _ _,iW _ _,iW _ _⟩
def KS:List Nat:=[
 0x428a2f98,0x71374491,0xb5c0fbcf,0xe9b5dba5,0x3956c25b,0x59f111f1,0x923f82a4,0xab1c5ed5,
 0xd807aa98,0x12835b01,0x243185be,0x550c7dc3,0x72be5d74,0x80deb1fe,0x9bdc06a7,0xc19bf174,
 0xe49b69c1,0xefbe4786,0x0fc19dc6,0x240ca1cc,0x2de92c6f,0x4a7484aa,0x5cb0a9dc,0x76f988da,
 0x983e5152,0xa831c66d,0xb00327c8,0xbf597fc7,0xc6e00bf3,0xd5a79147,0x06ca6351,0x14292967,
 0x27b70a85,0x2e1b2138,0x4d2c6dfc,0x53380d13,0x650a7354,0x766a0abb,0x81c2c92e,0x92722c85,
 0xa2bfe8a1,0xa81a664b,0xc24b8b70,0xc76c51a3,0xd192e819,0xd6990624,0xf40e3585,0x106aa070,
 0x19a4c116,0x1e376c08,0x2748774c,0x34b0bcb5,0x391c0cb3,0x4ed8aa4a,0x5b9cca4f,0x682e6ff3,
 0x748f82ee,0x78a5636f,0x84c87814,0x8cc70208,0x90befffa,0xa4506ceb,0xbef9a3f7,0xc67178f2]
def HS:St:=⟨0x6a09e667,0xbb67ae85,0x3c6ef372,0xa54ff53a,0x510e527f,0x9b05688c,0x1f83d9ab,0x5be0cd19⟩
def turn (s:St)(b:List UInt8):St:=plus (steps KS (wds b 64) s 64) s
def blocks (p:List UInt8):Nat → St
 | 0=>HS
 | n + 1=>turn (blocks p n)((p.drop (64 * n)).take 64)
def zeros (n:Nat):Nat:=(119 - n % 64) % 64
def tail (left:List UInt8)(size:Nat):List UInt8:=left ++ [0x80] ++ List.replicate (zeros left.length) 0 ++ M.be 8 (size * 8)
def St.list (s:St):List Nat:=[s.a,s.b,s.c,s.d,s.e,s.f,s.g,s.h]
def digest (s:St):List UInt8:=(s.list.map (M.be 4)).flatten
def padded (s:List UInt8):List UInt8:=s.take (s.length / 64 * 64) ++ tail (s.drop (s.length / 64 * 64)) s.length
def sum (s:List UInt8):List UInt8:=digest (blocks (padded s)((padded s).length / 64))
end S
def U (l:List Nat):Array Value:=(l.map fun n=>Value.int .u32 ((n:Nat):Int)).toArray
theorem bP (l:List Nat):(U l).size=l.length:=by simp [U]
theorem aEW (l:List Nat)(j:Nat)(h:j < l.length):(U l)[j]?=some (.int .u32 ((l[j]:Nat):Int)):=by simp [U,List.getElem?_eq_getElem h]
theorem mT (l:List Nat):(U l).all (·.oneCell')=true:=by
 rw [Array.all_eq_true];intro i hi;simp [U]
 rfl
def Arr (T:TypeId)(w:World)(g:Nat)(l:List Nat):Prop:=w.heap[g]?=some (.cells (U l) T (0,0))
theorem Arr.lt {T:TypeId} {w:World} {g:Nat} {l:List Nat} (h:Arr T w g l):g < w.heap.size:=(zl h)
theorem Arr.cell {T:TypeId} {w:World} {g:Nat} {l:List Nat} (h:Arr T w g l)(j:Nat)(hj:j < l.length):w.cell? ⟨g,j,none⟩=some (.int .u32 ((l[j]:Nat):Int)):=by
 rw [cell_of_row w g j _ T _ h,aEW l j hj]
theorem Arr.free {T:TypeId} {w:World} {g:Nat} {l:List Nat} (h:Arr T w g l)(j:Nat):w.frozen? ⟨g,j,none⟩=false:=frozen_of_row w g j _ T h
theorem Arr.drew {T:TypeId} {w:World} {g:Nat} {l:List Nat} (h:Arr T w g l):Arr T w.drew g l:=h
theorem Arr.drewN {T:TypeId} {w:World} {g:Nat} {l:List Nat} (h:Arr T w g l)(n:Nat):Arr T (w.drewN n) g l:=h
theorem aEV (l:List Nat)(j v:Nat):(U l).setIfInBounds j (.int .u32 (v:Int))=U (l.set j v):=by
 apply Array.ext';simp [U,List.map_set]
theorem Arr.set {T:TypeId} {w:World} {g:Nat} {l:List Nat} (h:Arr T w g l)(j v:Nat):Arr T (w.setCell ⟨g,j,none⟩ (.int .u32 (v:Int))) g (l.set j v):=by
 unfold Arr;rw [hss w g j _ T _ h,aEV]
theorem Arr.other {T:TypeId} {w:World} {g:Nat} {l:List Nat} (h:Arr T w g l)(a:Addr)(v:Value)(hne:g ≠ a.block):Arr T (w.setCell a v) g l:=by
 unfold Arr;rw [heap_setCell_other w a g v hne];exact h
theorem Arr.alloc {T:TypeId} {w:World} {g:Nat} {l:List Nat} (h:Arr T w g l)(o:Obj):Arr T (w.alloc o) g l:=by
 unfold Arr;have hs:=h.lt;have:(w.alloc o).heap=w.heap.push o:=rfl;rw [this,Array.getElem?_push_lt hs];rw [← Array.getElem?_eq_getElem hs];exact h
theorem Arr.below {T:TypeId} {w w' : World} {g:Nat} {l:List Nat} (h:Arr T w g l)(hb:Below w.heap.size w w'):Arr T w' g l:=(hb.block g h.lt).trans h
theorem Arr.new {T:TypeId} (w:World)(l:List Nat):Arr T (w.alloc (.cells (U l) T)) w.heap.size l:=han w _
theorem Arr.row {T:TypeId} {w:World} {g:Nat} {l:List Nat} (h:Arr T w g l)(m:List Nat):Arr T (w.setRow g (U m)) g m:=setRow_heap w g _ _ T _ h
theorem aCS (x:Nat)(w:World)(hx:x < 4294967296) :
  Calls Tryz.prog 201 #[.int .u32 (x:Int),.int .i64 (-2)] w fun e w' => e=.returned (.int .u32 (S.rot x 2:Int))∧w=w' := by
 have ho:=aH (x * 2 ^ (32 - 2) % 4294967296)(x / 2 ^ 2)(Nat.mod_lt _ (by decide))(Nat.lt_of_le_of_lt (Nat.div_le_self _ _) hx);have hb:bits .and .u64 (IntKind.u64.wrap (-2)) 31=30:=by decide
 change _=(S.rot x 2:Int) at ho;generalize S.rot x 2=r at *;simp only [Int.natCast_emod,Int.natCast_mul,Int.natCast_ediv,Nat.reducePow,Nat.reduceSub,Int.cast_ofNat_Int] at ho;go_enter Tryz.func201,Tryz.ntmps201;go_wp2_with fail;go_ret;exact ⟨rfl,rfl⟩
theorem aAD (x:Nat)(w:World)(hx:x < 4294967296) :
  Calls Tryz.prog 180 #[.int .u32 (x:Int),.int .i64 2] w fun e w' => e=.returned (.int .u32 (S.rot x 2:Int))∧w=w' := by
 go_enter Tryz.func180,Tryz.ntmps180;go_wp2_with fail;refine (aCS _ _ hx).mono ?_;rintro e w1 ⟨rfl,rfl⟩;go_wp2_with fail;go_ret;exact ⟨rfl,rfl⟩
theorem aCR (x:Nat)(w:World)(hx:x < 4294967296) :
  Calls Tryz.prog 201 #[.int .u32 (x:Int),.int .i64 (-6)] w fun e w' => e=.returned (.int .u32 (S.rot x 6:Int))∧w=w' := by
 have ho:=aH (x * 2 ^ (32 - 6) % 4294967296)(x / 2 ^ 6)(Nat.mod_lt _ (by decide))(Nat.lt_of_le_of_lt (Nat.div_le_self _ _) hx);have hb:bits .and .u64 (IntKind.u64.wrap (-6)) 31=26:=by decide
 change _=(S.rot x 6:Int) at ho;generalize S.rot x 6=r at *;simp only [Int.natCast_emod,Int.natCast_mul,Int.natCast_ediv,Nat.reducePow,Nat.reduceSub,Int.cast_ofNat_Int] at ho;go_enter Tryz.func201,Tryz.ntmps201;go_wp2_with fail;go_ret;exact ⟨rfl,rfl⟩
theorem aAC (x:Nat)(w:World)(hx:x < 4294967296) :
  Calls Tryz.prog 180 #[.int .u32 (x:Int),.int .i64 6] w fun e w' => e=.returned (.int .u32 (S.rot x 6:Int))∧w=w' := by
 go_enter Tryz.func180,Tryz.ntmps180;go_wp2_with fail;refine (aCR _ _ hx).mono ?_;rintro e w1 ⟨rfl,rfl⟩;go_wp2_with fail;go_ret;exact ⟨rfl,rfl⟩
theorem aCQ (x:Nat)(w:World)(hx:x < 4294967296) :
  Calls Tryz.prog 201 #[.int .u32 (x:Int),.int .i64 (-7)] w fun e w' => e=.returned (.int .u32 (S.rot x 7:Int))∧w=w' := by
 have ho:=aH (x * 2 ^ (32 - 7) % 4294967296)(x / 2 ^ 7)(Nat.mod_lt _ (by decide))(Nat.lt_of_le_of_lt (Nat.div_le_self _ _) hx);have hb:bits .and .u64 (IntKind.u64.wrap (-7)) 31=25:=by decide
 change _=(S.rot x 7:Int) at ho;generalize S.rot x 7=r at *;simp only [Int.natCast_emod,Int.natCast_mul,Int.natCast_ediv,Nat.reducePow,Nat.reduceSub,Int.cast_ofNat_Int] at ho;go_enter Tryz.func201,Tryz.ntmps201;go_wp2_with fail;go_ret;exact ⟨rfl,rfl⟩
theorem KI (x:Nat)(w:World)(hx:x < 4294967296) :
  Calls Tryz.prog 180 #[.int .u32 (x:Int),.int .i64 7] w fun e w' => e=.returned (.int .u32 (S.rot x 7:Int))∧w=w' := by
 go_enter Tryz.func180,Tryz.ntmps180;go_wp2_with fail;refine (aCQ _ _ hx).mono ?_;rintro e w1 ⟨rfl,rfl⟩;go_wp2_with fail;go_ret;exact ⟨rfl,rfl⟩
theorem aAA (x:Nat)(w:World)(hx:x < 4294967296) :
  Calls Tryz.prog 201 #[.int .u32 (x:Int),.int .i64 (-11)] w fun e w' => e=.returned (.int .u32 (S.rot x 11:Int))∧w=w' := by
 have ho:=aH (x * 2 ^ (32 - 11) % 4294967296)(x / 2 ^ 11)(Nat.mod_lt _ (by decide))(Nat.lt_of_le_of_lt (Nat.div_le_self _ _) hx);have hb:bits .and .u64 (IntKind.u64.wrap (-11)) 31=21:=by decide
 change _=(S.rot x 11:Int) at ho;generalize S.rot x 11=r at *;simp only [Int.natCast_emod,Int.natCast_mul,Int.natCast_ediv,Nat.reducePow,Nat.reduceSub,Int.cast_ofNat_Int] at ho;go_enter Tryz.func201,Tryz.ntmps201;go_wp2_with fail;go_ret;exact ⟨rfl,rfl⟩
theorem UN (x:Nat)(w:World)(hx:x < 4294967296) :
  Calls Tryz.prog 180 #[.int .u32 (x:Int),.int .i64 11] w fun e w' => e=.returned (.int .u32 (S.rot x 11:Int))∧w=w' := by
 go_enter Tryz.func180,Tryz.ntmps180;go_wp2_with fail;refine (aAA _ _ hx).mono ?_;rintro e w1 ⟨rfl,rfl⟩;go_wp2_with fail;go_ret;exact ⟨rfl,rfl⟩
theorem ZZ (x:Nat)(w:World)(hx:x < 4294967296) :
  Calls Tryz.prog 201 #[.int .u32 (x:Int),.int .i64 (-13)] w fun e w' => e=.returned (.int .u32 (S.rot x 13:Int))∧w=w' := by
 have ho:=aH (x * 2 ^ (32 - 13) % 4294967296)(x / 2 ^ 13)(Nat.mod_lt _ (by decide))(Nat.lt_of_le_of_lt (Nat.div_le_self _ _) hx);have hb:bits .and .u64 (IntKind.u64.wrap (-13)) 31=19:=by decide
 change _=(S.rot x 13:Int) at ho;generalize S.rot x 13=r at *;simp only [Int.natCast_emod,Int.natCast_mul,Int.natCast_ediv,Nat.reducePow,Nat.reduceSub,Int.cast_ofNat_Int] at ho;go_enter Tryz.func201,Tryz.ntmps201;go_wp2_with fail;go_ret;exact ⟨rfl,rfl⟩
theorem UM (x:Nat)(w:World)(hx:x < 4294967296) :
  Calls Tryz.prog 180 #[.int .u32 (x:Int),.int .i64 13] w fun e w' => e=.returned (.int .u32 (S.rot x 13:Int))∧w=w' := by
 go_enter Tryz.func180,Tryz.ntmps180;go_wp2_with fail;refine (ZZ _ _ hx).mono ?_;rintro e w1 ⟨rfl,rfl⟩;go_wp2_with fail;go_ret;exact ⟨rfl,rfl⟩
theorem ZY (x:Nat)(w:World)(hx:x < 4294967296) :
  Calls Tryz.prog 201 #[.int .u32 (x:Int),.int .i64 (-17)] w fun e w' => e=.returned (.int .u32 (S.rot x 17:Int))∧w=w' := by
 have ho:=aH (x * 2 ^ (32 - 17) % 4294967296)(x / 2 ^ 17)(Nat.mod_lt _ (by decide))(Nat.lt_of_le_of_lt (Nat.div_le_self _ _) hx);have hb:bits .and .u64 (IntKind.u64.wrap (-17)) 31=15:=by decide
 change _=(S.rot x 17:Int) at ho;generalize S.rot x 17=r at *;simp only [Int.natCast_emod,Int.natCast_mul,Int.natCast_ediv,Nat.reducePow,Nat.reduceSub,Int.cast_ofNat_Int] at ho;go_enter Tryz.func201,Tryz.ntmps201;go_wp2_with fail;go_ret;exact ⟨rfl,rfl⟩
theorem zT (x:Nat)(w:World)(hx:x < 4294967296) :
  Calls Tryz.prog 180 #[.int .u32 (x:Int),.int .i64 17] w fun e w' => e=.returned (.int .u32 (S.rot x 17:Int))∧w=w' := by
 go_enter Tryz.func180,Tryz.ntmps180;go_wp2_with fail;refine (ZY _ _ hx).mono ?_;rintro e w1 ⟨rfl,rfl⟩;go_wp2_with fail;go_ret;exact ⟨rfl,rfl⟩
theorem ZX (x:Nat)(w:World)(hx:x < 4294967296) :
  Calls Tryz.prog 201 #[.int .u32 (x:Int),.int .i64 (-18)] w fun e w' => e=.returned (.int .u32 (S.rot x 18:Int))∧w=w' := by
 have ho:=aH (x * 2 ^ (32 - 18) % 4294967296)(x / 2 ^ 18)(Nat.mod_lt _ (by decide))(Nat.lt_of_le_of_lt (Nat.div_le_self _ _) hx);have hb:bits .and .u64 (IntKind.u64.wrap (-18)) 31=14:=by decide
 change _=(S.rot x 18:Int) at ho;generalize S.rot x 18=r at *;simp only [Int.natCast_emod,Int.natCast_mul,Int.natCast_ediv,Nat.reducePow,Nat.reduceSub,Int.cast_ofNat_Int] at ho;go_enter Tryz.func201,Tryz.ntmps201;go_wp2_with fail;go_ret;exact ⟨rfl,rfl⟩
theorem zS (x:Nat)(w:World)(hx:x < 4294967296) :
  Calls Tryz.prog 180 #[.int .u32 (x:Int),.int .i64 18] w fun e w' => e=.returned (.int .u32 (S.rot x 18:Int))∧w=w' := by
 go_enter Tryz.func180,Tryz.ntmps180;go_wp2_with fail;refine (ZX _ _ hx).mono ?_;rintro e w1 ⟨rfl,rfl⟩;go_wp2_with fail;go_ret;exact ⟨rfl,rfl⟩
theorem ZV (x:Nat)(w:World)(hx:x < 4294967296) :
  Calls Tryz.prog 201 #[.int .u32 (x:Int),.int .i64 (-19)] w fun e w' => e=.returned (.int .u32 (S.rot x 19:Int))∧w=w' := by
 have ho:=aH (x * 2 ^ (32 - 19) % 4294967296)(x / 2 ^ 19)(Nat.mod_lt _ (by decide))(Nat.lt_of_le_of_lt (Nat.div_le_self _ _) hx);have hb:bits .and .u64 (IntKind.u64.wrap (-19)) 31=13:=by decide
 change _=(S.rot x 19:Int) at ho;generalize S.rot x 19=r at *;simp only [Int.natCast_emod,Int.natCast_mul,Int.natCast_ediv,Nat.reducePow,Nat.reduceSub,Int.cast_ofNat_Int] at ho;go_enter Tryz.func201,Tryz.ntmps201;go_wp2_with fail;go_ret;exact ⟨rfl,rfl⟩
theorem zR (x:Nat)(w:World)(hx:x < 4294967296) :
  Calls Tryz.prog 180 #[.int .u32 (x:Int),.int .i64 19] w fun e w' => e=.returned (.int .u32 (S.rot x 19:Int))∧w=w' := by
 go_enter Tryz.func180,Tryz.ntmps180;go_wp2_with fail;refine (ZV _ _ hx).mono ?_;rintro e w1 ⟨rfl,rfl⟩;go_wp2_with fail;go_ret;exact ⟨rfl,rfl⟩
theorem ZU (x:Nat)(w:World)(hx:x < 4294967296) :
  Calls Tryz.prog 201 #[.int .u32 (x:Int),.int .i64 (-22)] w fun e w' => e=.returned (.int .u32 (S.rot x 22:Int))∧w=w' := by
 have ho:=aH (x * 2 ^ (32 - 22) % 4294967296)(x / 2 ^ 22)(Nat.mod_lt _ (by decide))(Nat.lt_of_le_of_lt (Nat.div_le_self _ _) hx);have hb:bits .and .u64 (IntKind.u64.wrap (-22)) 31=10:=by decide
 change _=(S.rot x 22:Int) at ho;generalize S.rot x 22=r at *;simp only [Int.natCast_emod,Int.natCast_mul,Int.natCast_ediv,Nat.reducePow,Nat.reduceSub,Int.cast_ofNat_Int] at ho;go_enter Tryz.func201,Tryz.ntmps201;go_wp2_with fail;go_ret;exact ⟨rfl,rfl⟩
theorem UL (x:Nat)(w:World)(hx:x < 4294967296) :
  Calls Tryz.prog 180 #[.int .u32 (x:Int),.int .i64 22] w fun e w' => e=.returned (.int .u32 (S.rot x 22:Int))∧w=w' := by
 go_enter Tryz.func180,Tryz.ntmps180;go_wp2_with fail;refine (ZU _ _ hx).mono ?_;rintro e w1 ⟨rfl,rfl⟩;go_wp2_with fail;go_ret;exact ⟨rfl,rfl⟩
theorem ZT (x:Nat)(w:World)(hx:x < 4294967296) :
  Calls Tryz.prog 201 #[.int .u32 (x:Int),.int .i64 (-25)] w fun e w' => e=.returned (.int .u32 (S.rot x 25:Int))∧w=w' := by
 have ho:=aH (x * 2 ^ (32 - 25) % 4294967296)(x / 2 ^ 25)(Nat.mod_lt _ (by decide))(Nat.lt_of_le_of_lt (Nat.div_le_self _ _) hx);have hb:bits .and .u64 (IntKind.u64.wrap (-25)) 31=7:=by decide
 change _=(S.rot x 25:Int) at ho;generalize S.rot x 25=r at *;simp only [Int.natCast_emod,Int.natCast_mul,Int.natCast_ediv,Nat.reducePow,Nat.reduceSub,Int.cast_ofNat_Int] at ho;go_enter Tryz.func201,Tryz.ntmps201;go_wp2_with fail;go_ret;exact ⟨rfl,rfl⟩
theorem UK (x:Nat)(w:World)(hx:x < 4294967296) :
  Calls Tryz.prog 180 #[.int .u32 (x:Int),.int .i64 25] w fun e w' => e=.returned (.int .u32 (S.rot x 25:Int))∧w=w' := by
 go_enter Tryz.func180,Tryz.ntmps180;go_wp2_with fail;refine (ZT _ _ hx).mono ?_;rintro e w1 ⟨rfl,rfl⟩;go_wp2_with fail;go_ret;exact ⟨rfl,rfl⟩
def bV (l:List Nat):List Nat:=l ++ List.replicate (64 - l.length) 0
theorem lQ (l:List Nat)(h:l.length ≤ 64):(bV l).length=64:=by unfold bV; simp; omega
theorem CQ (l:List Nat)(j:Nat)(h:j < l.length)(h2:j < (bV l).length):(bV l)[j]=l.getD j 0:=by
 have:(bV l)[j]?=some (l.getD j 0):=by
  unfold bV;rw [List.getElem?_append_left h,List.getD_eq_getElem?_getD,List.getElem?_eq_getElem h]; rfl
 rw [List.getElem?_eq_getElem h2] at this;exact Option.some.inj this
theorem QQ (l:List Nat)(h:l.length < 64):bV (l ++ [0])=bV l:=by
 unfold bV;rw [List.length_append,List.length_singleton,show 64 - l.length=(64 - (l.length + 1)) + 1 by omega,List.replicate_succ];simp
theorem QT (l:List Nat)(h:l.length=64):bV l=l:=by unfold bV; rw [h]; simp
theorem Buf.other {w:World} {g:Nat} {l:List UInt8} (h:Buf w g l)(a:Addr)(v:Value)(hne:g ≠ a.block):Buf (w.setCell a v) g l:=by
 refine ⟨by simpa [World.setCell] using h.1,fun j hj=>⟨?_,?_⟩⟩
 ·have:=heap_setCell_other w a g v hne
  have hc:=h.cell j hj;unfold World.cell? at hc ⊢;simp only [this];exact hc
 ·rw [World.frozen?_setCell]; exact h.free j hj
theorem aCM (v c:Nat)(hv:v < 16777216)(hc:c < 256):bits .or .u32 ((v:Int) * 256)(c:Int)=((v * 256 + c:Nat):Int):=by
 have e:(v:Int) * 256=((v * 256:Nat):Int):=by omega
 rw [e,aH (v * 256) c (by omega)(by omega),nat_join 8 (v * 256) c (by simp)(by simpa using hc)]
theorem SM (l:List UInt8)(t:Nat)(h:t ≤ 3):M.val (l.take t) < 16777216:=by
 have h1:=M.val_lt (l.take t);have h2:256 ^ (l.take t).length ≤ 256 ^ 3:=Nat.pow_le_pow_right (by decide)(by simp; omega);have h3:(256:Nat) ^ 3=16777216:=by decide
 omega
theorem cO (a b:Nat):((a:Int) + (b:Int)) % 4294967296=(S.add a b:Int)∧IntKind.u32.wrap ((a:Int) + (b:Int))=(S.add a b:Int):=by
 have:((a:Int) + (b:Int)) % 4294967296=(S.add a b:Int):=by unfold S.add; omega
 exact ⟨this,by rw [IntKind.wrap_u32]; exact this⟩
theorem RX (a b c:Nat):S.x3 a b c=a ^^^ b ^^^ c:=rfl
theorem aD8 (x:Nat):S.s0 x=S.x3 (S.rot x 7)(S.rot x 18)(x / 8):=rfl
theorem aD7 (x:Nat):S.s1 x=S.x3 (S.rot x 17)(S.rot x 19)(x / 1024):=rfl
theorem KG (x:Nat)(hx:x < 4294967296):∃ p:Nat,bits .xor .u32 (S.rot x 7:Int)(S.rot x 18:Int)=(p:Int)∧bits .xor .u32 (p:Int)((x:Int) / 8)=(S.s0 x:Int):=by
 refine ⟨S.rot x 7 ^^^ S.rot x 18,dI _ _ (S.rot_lt _ _ hx)(S.rot_lt _ _ hx),?_⟩;have h:=dI (S.rot x 7 ^^^ S.rot x 18)(x / 8)(S.xor_lt (S.rot_lt _ _ hx)(S.rot_lt _ _ hx))(Nat.lt_of_le_of_lt (Nat.div_le_self _ _) hx);simp only [Int.natCast_ediv,Int.cast_ofNat_Int] at h;rw [aD8,RX];exact h
theorem KF (x:Nat)(hx:x < 4294967296):∃ p:Nat,bits .xor .u32 (S.rot x 17:Int)(S.rot x 19:Int)=(p:Int)∧bits .xor .u32 (p:Int)((x:Int) / 1024)=(S.s1 x:Int):=by
 refine ⟨S.rot x 17 ^^^ S.rot x 19,dI _ _ (S.rot_lt _ _ hx)(S.rot_lt _ _ hx),?_⟩;have h:=dI (S.rot x 17 ^^^ S.rot x 19)(x / 1024)(S.xor_lt (S.rot_lt _ _ hx)(S.rot_lt _ _ hx))(Nat.lt_of_le_of_lt (Nat.div_le_self _ _) hx);simp only [Int.natCast_ediv,Int.cast_ofNat_Int] at h;rw [aD7,RX];exact h
theorem yA (ws:List Nat)(n:Nat) {x y z u:Nat} (ex:ws.getD (n - 15) 0=x)(ey:ws.getD (n - 2) 0=y)(ez:ws.getD (n - 7) 0=z)(eu:ws.getD (n - 16) 0=u):S.wnext ws n=S.add (S.add (S.add (S.s1 y) z)(S.s0 x)) u:=by
 subst ex ey ez eu
 rfl
theorem QS (l:List Nat)(v:Nat)(h:l.length < 64):(bV l).set l.length v=bV (l ++ [v]):=by
 unfold bV;rw [List.set_append_right _ _ (Nat.le_refl _),Nat.sub_self,List.length_append,List.length_singleton,show 64 - l.length=(64 - (l.length + 1)) + 1 by omega,List.replicate_succ,List.set_cons_zero];simp
theorem QR (l:List Nat)(u v:Nat)(h:l.length < 64):(bV (l ++ [u])).set l.length v=bV (l ++ [v]):=by
 unfold bV;rw [List.append_assoc,List.append_assoc,List.set_append_right _ _ (Nat.le_refl _),Nat.sub_self,List.length_append,List.length_append]
 rfl
theorem Buf.openedS (w:World)(b:ByteArray):∃ cap w2 g,(convert 9 31 (.string b)).run Tryz.prog w=.ok (.slice (some ⟨g,0,none⟩) b.size cap) w2∧Buf w2 g b.data.toList∧Below w.heap.size w w2∧w.heap.size ≤ g :=
 ⟨_,_,_,run_bytes_of_string (P:=Tryz.prog) w 9 31 5 b Tryz.underlying9 Tryz.underlying31 Tryz.underlying5,Buf.made w b _,(Br.drew).alloc (Nat.le_refl _) _,Nat.le_refl _⟩
def W64 (b:List UInt8):List Nat:=S.wds b 64
def IsW (b:ByteArray)(L:List Nat):Prop:=W64 b.data.toList=L
theorem IsW.out {b:ByteArray} {L:List Nat} (h:IsW b L):W64 b.data.toList=L:=h
theorem zA (b:ByteArray)(L:List Nat)(w:World)(hb:b.size=64)(HL:IsW b L) :
  Calls Tryz.prog 179 #[.string b] w fun e w' => e=.returned (.agg (U L))∧Below w.heap.size w w' := by
 go_enter Tryz.func179,Tryz.ntmps179;go_wp2_with fail
 go_loopw [12] (fun i wr=>∃ n:Nat,n ≤ 16∧i=.int .i64 (n:Int)∧Hid (Arr 224 wr (w.heap.size + 1)(bV (S.wds b.data.toList n)))∧Hid (Arr 224 wr w.heap.size (bV []))∧Below w.heap.size w wr)(fun i _=>17 - (intOf i).toNat)
 case atStart =>
  refine ⟨0,by omega,rfl,Hd ?_,Hd ?_,(Br.alloc (Nat.le_refl _) _).alloc (by simp) _⟩
  ·have:=Arr.new (T:=224)(w.alloc (.cells (U (bV [])) 224))(bV [])
   rw [show (w.alloc (.cells (U (bV [])) 224)).heap.size=w.heap.size + 1 by simp] at this;exact this
  ·exact (Arr.new (T:=224) w (bV [])).alloc _
 case round =>
  obtain ⟨n,hn,rfl,hA,hR,hbw⟩:=hrel
  by_cases hlt:n < 16
  ·have hli:(n:Int) < 16:=by omega
   have hi1:4 * (n:Int) + 4 ≤ (b.size:Int):=by omega
   obtain ⟨cap,w2,g,hbs,hB,hW,hg⟩:=Buf.openedS wr (b.extract (4 * n)(4 * n + 4));have hsz:(b.extract (4 * n)(4 * n + 4)).size=4:=by rw [ByteArray.size_extract]; omega
   have hbl:(b.extract (4 * n)(4 * n + 4)).data.toList=(b.data.toList.drop (4 * n)).take 4:=by rw [aI,show 4 * n + 4 - 4 * n=4 by omega]
   rw [hsz] at hbs;rw [hbl] at hB;have hwl:=S.wds_length b.data.toList n;have hlen4:((b.data.toList.drop (4 * n)).take 4).length=4:=by rw [← hbl,cQ,hsz]
   have A2:=Hd (hA.out.below hW);have R2:=Hd (hR.out.below hW);have HB:=Hd hB;have hg2:w.heap.size + 1 < g:=Nat.lt_of_lt_of_le hA.out.lt hg;have hbw2:Below w.heap.size w w2:=hbw.trans (hW.mono hbw.size);have WORD:Hid (S.wds b.data.toList (n + 1)=S.wds b.data.toList n ++ [M.val (((b.data.toList.drop (4 * n)).take 4).take 4)]):=Hd (by rw [S.wds,if_pos hlt,S.word,List.take_take,Nat.min_self]);generalize (b.data.toList.drop (4 * n)).take 4=l4 at *;generalize S.wds b.data.toList n=ws at *;have HWL:=Hd hwl;have HL4:=Hd hlen4;clear hwl hlen4 hB hbl hsz hA hR hbw
   go_wp2_with fail
   go_loopw [6,24] (fun _ t wx=>∃ j:Nat,j ≤ 4∧t=.int .i64 (j:Int)∧Hid (Arr 224 wx (w.heap.size + 1)(bV (ws ++ [M.val (l4.take j)])))∧Hid (Arr 224 wx w.heap.size (bV []))∧Hid (Buf wx g l4)∧Below w.heap.size w wx)(fun _ t _=>5 - (intOf t).toNat)
   case atStart=>exact ⟨0,by omega,rfl,Hd (by rw [List.take_zero,M.val_nil,QQ _ (by rw [HWL.out]; omega)]; exact A2.out),R2,HB,hbw2⟩
   case round =>
    obtain ⟨j,hj,rfl,hA,hR,hBf,hbx⟩:=hrel
    by_cases hjl:j < 4
    ·have hji:(j:Int) < 4:=by omega
     have hjl4:j < l4.length:=by rw [HL4.out]; exact hjl
     have hcb:=hBf.out.cell j hjl4;have hfl:n < (bV (ws ++ [M.val (l4.take j)])).length:=by rw [lQ _ (by rw [List.length_append,HWL.out]; simp; omega)]; omega
     have hca:=hA.out.cell n hfl;have hfr:=hA.out.free n
     have hget:(bV (ws ++ [M.val (l4.take j)]))[n]=M.val (l4.take j):=by
      rw [CQ _ n (by rw [List.length_append,HWL.out]; simp) hfl,List.getD_eq_getElem?_getD,List.getElem?_append_right (by rw [HWL.out]; exact Nat.le_refl _),HWL.out,Nat.sub_self]
      rfl
     rw [hget] at hca;have hc256:=UInt8.toNat_lt (l4[j]);have hv24:=SM l4 j (by omega);have hO:=aCM _ _ hv24 hc256;have hset:=hA.out.set n (M.val (l4.take j) * 256 + (l4[j]).toNat);have hval:M.val (l4.take (j + 1))=M.val (l4.take j) * 256 + (l4[j]).toNat:=by rw [List.take_succ_eq_append_getElem hjl4,M.val_snoc]
     have hfs:=QR ws (M.val (l4.take j))(M.val (l4.take j) * 256 + (l4[j]).toNat)(by rw [HWL.out]; omega);rw [HWL.out] at hfs;rw [hfs,← hval] at hset;rw [← hval] at hO;have NXA:=Hd hset;have NXR:=Hd (hR.out.other ⟨w.heap.size + 1,n,none⟩ (.int .u32 ((M.val (l4.take (j + 1)):Nat):Int))(by simp));have NXB:=Hd (hBf.out.other ⟨w.heap.size + 1,n,none⟩ (.int .u32 ((M.val (l4.take (j + 1)):Nat):Int))(by show g ≠ w.heap.size + 1; omega));have hv32:M.val (l4.take (j + 1)) < 4294967296:=by rw [hval]; omega
     clear hset hval hfs hget hfl hA hR hBf;generalize hV:M.val (l4.take (j + 1))=v2 at *;have V2:=Hd hV;clear hV;generalize M.val (l4.take j)=v1 at *;generalize (l4[j]).toNat=c at *;clear hjl4;go_wp2_with fail;go_roundw
     case rel=>exact ⟨j + 1,by omega,by go_num,by rw [V2.out]; exact NXA,NXR,NXB,hbx.setCell (by simp) _⟩
     case measure=>simp [intOf]; omega
    ·obtain rfl:j=4:=by omega
     have AN:=Hd (show Arr 224 _ (w.heap.size + 1)(bV (S.wds b.data.toList (n + 1))) by rw [WORD.out]; exact hA.out);have hji:¬ (((4:Nat):Int) < 4):=by omega
     go_wp2_with fail;go_roundw
     case rel=>exact ⟨n + 1,by omega,by go_num,AN,hR,hbx⟩
     case measure=>simp [intOf]; omega
  ·obtain rfl:n=16:=by omega
   have hli:¬ (((16:Nat):Int) < 16):=by omega
   go_wp2_with fail
   go_loopw [7] (fun i wx=>∃ n:Nat,16 ≤ n∧n ≤ 64∧i=.int .i64 (n:Int)∧Hid (Arr 224 wx (w.heap.size + 1)(bV (S.wds b.data.toList n)))∧Hid (Arr 224 wx w.heap.size (bV []))∧Below w.heap.size w wx)(fun i _=>65 - (intOf i).toNat)
   case atStart=>exact ⟨16,by omega,by omega,rfl,hA,hR,hbw⟩
   case round =>
    obtain ⟨n,hn16,hn64,rfl,hA,hR,hbx⟩:=hrel;have hwl:=S.wds_length b.data.toList n;have hwlt:=S.wds_lt b.data.toList n
    by_cases hlt:n < 64
    ·have hli:(n:Int) < 64:=by omega
     have hi0:16 ≤ (n:Int):=by omega
     have WORD:Hid (S.wds b.data.toList (n + 1)=S.wds b.data.toList n ++ [S.wnext (S.wds b.data.toList n) n]):=Hd (by rw [S.wds,if_neg (by omega)])
     have get:∀ k,k < n → ∃ v,v < 4294967296∧(S.wds b.data.toList n).getD k 0=v∧wr.cell? ⟨w.heap.size + 1,k,none⟩=some (.int .u32 ((v:Nat):Int)):=fun k hk=>by
      have hkl:k < (bV (S.wds b.data.toList n)).length:=by rw [lQ _ (by omega)]; omega
      have hkw:k < (S.wds b.data.toList n).length:=by omega
      refine ⟨_,?_,rfl,?_⟩
      ·rw [List.getD_eq_getElem?_getD,List.getElem?_eq_getElem hkw]; exact hwlt _ (List.getElem_mem hkw)
      ·have:=hA.out.cell k hkl
       rwa [CQ _ k hkw hkl] at this
     obtain ⟨x,hx,ex,cx⟩:=get (n - 15)(by omega);obtain ⟨y,hy,ey,cy⟩:=get (n - 2)(by omega);obtain ⟨z,hz,ez,cz⟩:=get (n - 7)(by omega);obtain ⟨u,hu,eu,cu⟩:=get (n - 16)(by omega);have hnx:S.wnext (S.wds b.data.toList n) n=S.add (S.add (S.add (S.s1 y) z)(S.s0 x)) u:=yA _ _ ex ey ez eu;have hfn:=QS (S.wds b.data.toList n)(S.wnext (S.wds b.data.toList n) n)(by omega);rw [hwl,← WORD.out,hnx] at hfn;have hfr:=hA.out.free n;have hfl:n < (bV (S.wds b.data.toList n)).length:=by rw [lQ _ (by omega)]; omega
     have hcn:=hA.out.cell n hfl;generalize (Value.int .u32 (((bV (S.wds b.data.toList n))[n]:Nat):Int))=cv at hcn;obtain ⟨p1,f1,f2⟩:=KG x hx;obtain ⟨p2,f3,f4⟩:=KF y hy;have g1:=cO (S.s1 y) z;have g2:=cO (S.add (S.s1 y) z)(S.s0 x);have g3:=cO (S.add (S.add (S.s1 y) z)(S.s0 x)) u;have HN:=Hd hfn;clear hnx hfn hfl get hwl hwlt ex ey ez eu WORD;generalize S.add (S.add (S.add (S.s1 y) z)(S.s0 x)) u=q3 at *;generalize S.add (S.add (S.s1 y) z)(S.s0 x)=q2 at *;generalize S.add (S.s1 y) z=q1 at *;generalize S.s0 x=sx at *
     generalize S.s1 y=sy at *;obtain ⟨g11,g12⟩:=g1;obtain ⟨g21,g22⟩:=g2;obtain ⟨g31,g32⟩:=g3;go_wp2_with fail
     go_quiet (fail)
     go_wp2_with fail;refine (KI _ _ hx).mono ?_;rintro e w9 ⟨rfl,rfl⟩;go_wp2_with fail;refine (zS _ _ hx).mono ?_;rintro e w9 ⟨rfl,rfl⟩;go_wp2_with fail;refine (zT _ _ hy).mono ?_;rintro e w9 ⟨rfl,rfl⟩;go_wp2_with fail;refine (zR _ _ hy).mono ?_;rintro e w9 ⟨rfl,rfl⟩;obtain ⟨wq,hwq⟩:∃ wq,wr.drewN nq=wq:=⟨_,rfl⟩
     rw [hwq];have HA2:=Hd (show Arr 224 wq (w.heap.size + 1) _ by rw [← hwq]; exact hA.out.drewN nq);have HR2:=Hd (show Arr 224 wq w.heap.size _ by rw [← hwq]; exact hR.out.drewN nq);have hbx2:Below w.heap.size w wq:=by rw [← hwq]; exact aD hbx nq
     have cz2:wq.cell? ⟨w.heap.size + 1,n - 7,none⟩=some (.int .u32 ((z:Nat):Int)):=by rw [← hwq]; exact cz
     have cu2:wq.cell? ⟨w.heap.size + 1,n - 16,none⟩=some (.int .u32 ((u:Nat):Int)):=by rw [← hwq]; exact cu
     have cn2:wq.cell? ⟨w.heap.size + 1,n,none⟩=some cv:=by rw [← hwq]; exact hcn
     have fr2:wq.frozen? ⟨w.heap.size + 1,n,none⟩=false:=by rw [← hwq]; exact hfr
     clear hwq hA hR hbx cz cu cx cy hcn hfr;go_wp2_with fail
     go_region
     all_goals
      go_wp2_with fail;go_roundw
      case rel=>exact ⟨n + 1,by omega,by omega,by go_num,Hd (by rw [← HN.out]; exact (HA2.out.set n q3).drew),Hd ((HR2.out.other _ _ (by simp)).drew),(hbx2.setCell (by simp) _).drew⟩
      case measure=>simp [intOf]; omega
    ·obtain rfl:n=64:=by omega
     have hli:¬ (((64:Nat):Int) < 64):=by omega
     have hA2:=hA.out;rw [QT _ hwl] at hA2;change Arr _ _ _ (W64 b.data.toList) at hA2;rw [HL.out] at hA2;have hlen:L.length=64:=by rw [← HL.out]; exact S.wds_length _ _
     have hinfo:(Tryz.prog.info? 224).map (·.size)=some (U L).size:=by rw [bP,hlen]; kernel_rfl
     have hold:(U (bV [])).size=(U L).size:=by rw [bP,bP,hlen]; rfl
     have hone:=mT L;have hR2:=hR.out;have hrow:=hR2.row L;have hdone:Below w.heap.size w (wr.setRow w.heap.size (U L)):=below_setRow hbx (Nat.le_refl _) _;have A2:=Hd hA2;have R2:=Hd hR2;have IN:=Hd hinfo;have OL:=Hd hold;have ON:=Hd hone;have RW:=Hd hrow;clear hA2 hinfo hold hone hR2 hrow hA hR hwl hwlt hlen;go_upto_region 18 with fail
     go_step
     refine wpList_load_row rfl 224 (.tmp 3) rfl (w.heap.size + 1) rfl 224 (U L)(0,0) _ A2.out Tryz.underlying224 rfl IN.out ?_;refine wpList_store_row rfl 224 (.tmp 2)(.tmp 82) rfl w.heap.size (U L) rfl rfl 224 (U (bV [])) R2.out IN.out OL.out ON.out ?_;go_wp2_with fail;exact bodyPost_ret (v:=.agg (U L))(results_cell_row Tryz.results179 _ _ w.heap.size 224 (U L)(0,0) _ rfl RW.out Tryz.underlying224 rfl IN.out) rfl ⟨rfl,hdone⟩
theorem EK (b:ByteArray)(w:World)(hb:b.size=64) :
  Calls Tryz.prog 179 #[.string b] w fun e w' => e=.returned (.agg (U (W64 b.data.toList)))∧Below w.heap.size w w' :=
 zA b _ w hb (show IsW b _ from rfl)
theorem gE:(Tryz.prog.info? 221).map (·.size)=some 8:=by kernel_rfl
theorem tH:(Tryz.prog.info? 224).map (·.size)=some 64:=by kernel_rfl
theorem QP (w:World) :
  Calls Tryz.prog 152 #[] w fun e w' => e=.returned (.agg (U S.HS.list))∧Below w.heap.size w w' := by
 go_enter Tryz.func152,Tryz.ntmps152;go_wp2_with fail;exact bodyPost_ret (v:=.agg (U S.HS.list))(by simp [results,Tryz.results152,go_sem]; rfl) rfl ⟨rfl,Br.alloc (Nat.le_refl _) _⟩
def IsK (L:List Nat):Prop:=S.KS=L
theorem EH (L:List Nat)(w:World)(HL:IsK L) :
  Calls Tryz.prog 153 #[] w fun e w' => e=.returned (.agg (U L))∧Below w.heap.size w w' := by
 have hlen:L.length=64:=by have h:S.KS=L:=HL; rw [← h]; rfl
 have hone:=mT L;have hinfo:(Tryz.prog.info? 224).map (·.size)=some (U L).size:=by rw [bP,hlen]; exact tH
 have hold:(U (bV [])).size=(U L).size:=by rw [bP,bP,hlen]; rfl
 have hZ:Arr 224 (w.alloc (.cells (U (bV [])) 224)) w.heap.size (bV []):=Arr.new w _;have hrow:=hZ.row L;have hdone:Below w.heap.size w ((w.alloc (.cells (U (bV [])) 224)).setRow w.heap.size (U L)):=below_setRow (Br.alloc (Nat.le_refl _) _)(Nat.le_refl _) _;have RW:=Hd hrow;have IN:=Hd hinfo;have OL:=Hd hold;have ON:=Hd hone;have HZ:=Hd hZ;clear hlen hone hinfo hold hZ hrow;go_enter Tryz.func153,Tryz.ntmps153;go_upto_region 1 with fail
 go_step
 refine wpList_build rfl _ _ rfl (by kernel_rfl) ?_;generalize hV:(Option.getD (Program.built _ _ _) #[])=V
 have hVE:V=U L:=by
  have h:S.KS=L:=HL;rw [← h];exact hV.symm.trans (by kernel_rfl)
 subst hVE;clear hV;refine wpList_store_row rfl 224 (.tmp 0)(.tmp 1) rfl w.heap.size (U L) rfl rfl 224 (U (bV [])) HZ.out IN.out OL.out ON.out ?_;go_wp2_with fail;exact bodyPost_ret (v:=.agg (U L))(results_cell_row Tryz.results153 _ _ w.heap.size 224 (U L)(0,0) _ rfl RW.out Tryz.underlying224 rfl IN.out) rfl ⟨rfl,hdone⟩
theorem MY (w:World) :
  Calls Tryz.prog 153 #[] w fun e w' => e=.returned (.agg (U S.KS))∧Below w.heap.size w w' :=
 EH _ w (show IsK _ from rfl)
theorem aEY (x:Nat):S.S1 x=S.x3 (S.rot x 6)(S.rot x 11)(S.rot x 25):=rfl
theorem aEZ (x:Nat):S.S0 x=S.x3 (S.rot x 2)(S.rot x 13)(S.rot x 22):=rfl
theorem aEP (e f g:Nat):S.ch e f g=(e &&& f) ^^^ ((4294967295 ^^^ e) &&& g):=rfl
theorem aC2 (a b c:Nat):S.maj a b c=S.x3 (a &&& b)(a &&& c)(b &&& c):=rfl
theorem wB (a b c:Nat)(ha:a < 4294967296)(hb:b < 4294967296)(hc:c < 4294967296):bits .xor .u32 (bits .xor .u32 (a:Int)(b:Int))(c:Int)=(S.x3 a b c:Int):=by
 rw [dI a b ha hb,dI _ c (S.xor_lt ha hb) hc,RX]
theorem aBO (e f g:Nat)(he:e < 4294967296)(hf:f < 4294967296)(hg:g < 4294967296):bits .xor .u32 (bits .and .u32 (e:Int)(f:Int))(bits .and .u32 (bits .xor .u32 IntKind.u32.max (e:Int))(g:Int))=(S.ch e f g:Int):=by
 have hm:IntKind.u32.max=((4294967295:Nat):Int):=by decide
 rw [hm,gQ e f he hf,dI 4294967295 e (by decide) he,gQ _ g (S.xor_lt (by decide) he) hg,dI _ _ (S.and_lt he)(S.and_lt (S.xor_lt (by decide) he)),aEP]
theorem aD6 (s:S.St)(k w:Nat):S.t1 s k w=S.add (S.add (S.add (S.add s.h (S.S1 s.e))(S.ch s.e s.f s.g)) k) w:=rfl
theorem aD5 (s:S.St):S.t2 s=S.add (S.S0 s.a)(S.maj s.a s.b s.c):=rfl
theorem tV (a b:Nat):S.add a b=(a + b) % 4294967296:=rfl
theorem JY (s:S.St)(k w:Nat)(he:s.e < 4294967296)(hf:s.f < 4294967296)(hg:s.g < 4294967296) :
  ((s.h:Int) + bits .xor .u32 (bits .xor .u32 (S.rot s.e 6:Int)(S.rot s.e 11:Int))(S.rot s.e 25:Int) + bits .xor .u32 (bits .and .u32 (s.e:Int)(s.f:Int))(bits .and .u32 (bits .xor .u32 IntKind.u32.max (s.e:Int))(s.g:Int)) + (k:Int) + (w:Int)) % 4294967296=(S.t1 s k w:Int):=by
 rw [wB _ _ _ (S.rot_lt _ _ he)(S.rot_lt _ _ he)(S.rot_lt _ _ he),aBO _ _ _ he hf hg,← aEY,aD6,tV,tV,tV,tV];generalize S.S1 s.e=p;generalize S.ch s.e s.f s.g=q;omega
theorem JW (s:S.St)(ha:s.a < 4294967296)(hb:s.b < 4294967296)(hc:s.c < 4294967296) :
  (bits .xor .u32 (bits .xor .u32 (S.rot s.a 2:Int)(S.rot s.a 13:Int))(S.rot s.a 22:Int) + bits .xor .u32 (bits .xor .u32 (bits .and .u32 (s.a:Int)(s.b:Int))(bits .and .u32 (s.a:Int)(s.c:Int)))(bits .and .u32 (s.b:Int)(s.c:Int))) % 4294967296=(S.t2 s:Int):=by
 rw [wB _ _ _ (S.rot_lt _ _ ha)(S.rot_lt _ _ ha)(S.rot_lt _ _ ha),gQ _ _ ha hb,gQ _ _ ha hc,gQ _ _ hb hc,wB _ _ _ (S.and_lt ha)(S.and_lt ha)(S.and_lt hb),← aEZ,← aC2,aD5,tV];generalize S.S0 s.a=p;generalize S.maj s.a s.b s.c=q;omega
theorem oC (x:Nat)(k:Int)(w:World)(hx:x < 4294967296)(hk:k=2 ∨ k=6 ∨ k=7 ∨ k=11 ∨ k=13 ∨ k=17 ∨ k=18 ∨ k=19 ∨ k=22 ∨ k=25) :
  Calls Tryz.prog 180 #[.int .u32 (x:Int),.int .i64 k] w fun e w' => e=.returned (.int .u32 (S.rot x k.toNat:Int))∧w=w' := by
 rcases hk with rfl | rfl | rfl | rfl | rfl | rfl | rfl | rfl | rfl | rfl
 ·exact aAD x w hx
 ·exact aAC x w hx
 ·exact KI x w hx
 ·exact UN x w hx
 ·exact UM x w hx
 ·exact zT x w hx
 ·exact zS x w hx
 ·exact zR x w hx
 ·exact UL x w hx
 ·exact UK x w hx
theorem Arr.otherRow {T:TypeId} {w:World} {g:Nat} {l:List Nat} (h:Arr T w g l)(k:Nat)(cs:Array Value)(hne:g ≠ k):Arr T (w.setRow k cs) g l:=by
 unfold Arr;rw [setRow_other _ _ _ _ hne];exact h
def fI (t s:List Nat):Nat → List Nat
 | 0=>t
 | n + 1=>(fI t s n).set n (S.add (t.getD n 0)(s.getD n 0))
theorem oI (t s:List Nat)(n:Nat):(fI t s n).length=t.length:=by
 induction n with
 | zero=>rfl
 | succ n ih=>simp [fI,ih]
theorem OI (t s:List Nat)(n j:Nat)(h:n ≤ j):(fI t s n)[j]?=t[j]?:=by
 induction n with
 | zero=>rfl
 | succ n ih=>rw [fI,List.getElem?_set_ne (by omega),ih (by omega)]
theorem sQ (t s:List Nat)(n:Nat)(h:n < (fI t s n).length):(fI t s n)[n]=t.getD n 0:=by
 have:=OI t s n n (Nat.le_refl _);rw [List.getElem?_eq_getElem h] at this;rw [List.getD_eq_getElem?_getD,← this]; rfl
theorem KR (t s:S.St):fI t.list s.list 8=(S.plus t s).list:=rfl
def Spreads (b:ByteArray)(W:List Nat):Prop:=∀ w:World,Calls Tryz.prog 179 #[.string b] w fun e w' => e=.returned (.agg (U W))∧Below w.heap.size w w'
theorem Spreads.out {b:ByteArray} {W:List Nat} (h:Spreads b W)(w:World):Calls Tryz.prog 179 #[.string b] w fun e w' => e=.returned (.agg (U W))∧Below w.heap.size w w' := h w
def bH:List Nat:=[0,0,0,0,0,0,0,0]
theorem MP (s:S.St)(b:ByteArray)(gk:Nat)(K W:List Nat)(w:World)(hk:Arr 224 w gk K)(hK:K.length=64)(HW:Spreads b W)(hlW:W.length=64)(hs:s.ok)(fin:S.St)(hfin:Hid (S.steps K W s 64=fin))(L:List Nat)(HLL:Hid ((S.plus fin s).list=L)) :
  Calls Tryz.prog 154 #[.agg (U s.list),.pointer (some ⟨gk,0,none⟩),.string b] w fun e w' => e=.returned (.agg (U L))∧Below w.heap.size w w' := by
 go_enter Tryz.func154,Tryz.ntmps154;go_wp2_with fail;refine (HW.out _).mono ?_;rintro e w1 ⟨rfl,b1⟩;have hsz2:((w.alloc (.cells (U s.list) 221)).alloc (.cells (U bH) 221)).heap.size=w.heap.size + 2:=by simp
 have H3a:Arr 221 ((w.alloc (.cells (U s.list) 221)).alloc (.cells (U bH) 221)) w.heap.size s.list:=(Arr.new w _).alloc _
 have H6a:Arr 221 ((w.alloc (.cells (U s.list) 221)).alloc (.cells (U bH) 221))(w.heap.size + 1) bH:=by
  have:=Arr.new (T:=221)(w.alloc (.cells (U s.list) 221)) bH;rwa [show (w.alloc (.cells (U s.list) 221)).heap.size=w.heap.size + 1 by simp] at this
 have HKa:Arr 224 ((w.alloc (.cells (U s.list) 221)).alloc (.cells (U bH) 221)) gk K:=(hk.alloc _).alloc _;have hbelow:Below w.heap.size w ((w.alloc (.cells (U s.list) 221)).alloc (.cells (U bH) 221)):=(Br.alloc (Nat.le_refl _) _).alloc (by simp) _;have hgk:=hk.lt;have b1' : Below ((w.alloc (.cells (U s.list) 221)).alloc (.cells (U bH) 221)).heap.size ((w.alloc (.cells (U s.list) 221)).alloc (.cells (U bH) 221)) w1:=b1;have hw1:w.heap.size + 2 ≤ w1.heap.size:=by have:=b1'.size; rwa [hsz2] at this
 have H3b:=H3a.below b1';have H6b:=H6a.below b1';have HKb:=HKa.below b1';have bb1:Below w.heap.size w w1:=hbelow.trans (b1'.mono (by rw [hsz2]; omega));have H7:Arr 224 (w1.alloc (.cells (U (bV [])) 224)) w1.heap.size (bV []):=Arr.new w1 _;have INW:(Tryz.prog.info? 224).map (·.size)=some (U W).size:=by rw [bP,hlW]; exact tH
 have OLW:(U (bV [])).size=(U W).size:=by rw [bP,bP,hlW]; rfl
 have ONW:=mT W;have INS:(Tryz.prog.info? 221).map (·.size)=some (U s.list).size:=by rw [bP]; exact gE
 have ONS:=mT s.list
 have other:∀ {T:TypeId} {g:Nat} {l:List Nat},Arr T w1 g l → Arr T ((w1.alloc (.cells (U (bV [])) 224)).setRow w1.heap.size (U W)) g l:=fun h=>by
  unfold Arr;rw [setRow_other _ _ _ _ (by have:=h.lt; omega)];exact h.alloc _
 have W7:=H7.row W;have W3:=other H3b;have W6:=other H6b;have WK:=other HKb;have bb2:Below w.heap.size w ((w1.alloc (.cells (U (bV [])) 224)).setRow w1.heap.size (U W)):=below_setRow (bb1.alloc (by omega) _)(by omega) _;have hszW:((w1.alloc (.cells (U (bV [])) 224)).setRow w1.heap.size (U W)).heap.size=w1.heap.size + 1:=by simp
 obtain ⟨h7,inw,olw,onw,ins,ons⟩:Hid (Arr 224 (w1.alloc (.cells (U (bV [])) 224)) w1.heap.size (bV []))∧Hid ((Tryz.prog.info? 224).map (·.size)=some (U W).size)∧Hid ((U (bV [])).size=(U W).size)∧Hid ((U W).all (·.oneCell')=true)∧Hid ((Tryz.prog.info? 221).map (·.size)=some (U s.list).size)∧Hid ((U s.list).all (·.oneCell')=true):=⟨Hd H7,Hd INW,Hd OLW,Hd ONW,Hd INS,Hd ONS⟩
 clear H3a H6a HKa hbelow b1 b1' H3b H6b HKb H7 INW OLW ONW INS ONS other hsz2 bb1
 go_upto_region 2 with (refine wpList_store_row rfl 224 (.tmp 7)(.tmp 20) rfl w1.heap.size (U W) rfl rfl 224 (U (bV [])) h7.out inw.out olw.out onw.out ?_)
 generalize hw2:World.setRow _ _ _=w2
 replace W7:Arr 224 w2 w1.heap.size W:=by rw [← hw2]; exact W7
 replace W3:Arr 221 w2 w.heap.size s.list:=by rw [← hw2]; exact W3
 replace W6:Arr 221 w2 (w.heap.size + 1) bH:=by rw [← hw2]; exact W6
 replace WK:Arr 224 w2 gk K:=by rw [← hw2]; exact WK
 replace bb2:Below w.heap.size w w2:=by rw [← hw2]; exact bb2
 replace hszW:w2.heap.size=w1.heap.size + 1:=by rw [← hw2]; exact hszW
 have h8:Hid (Arr 221 (w2.alloc (.cells (U bH) 221)) w2.heap.size bH):=Hd (Arr.new w2 bH);have ols:Hid ((U bH).size=(U s.list).size):=Hd (by rw [bP,bP]; rfl);have V3:=Hd W3
 have other:∀ {T:TypeId} {g:Nat} {l:List Nat},Arr T w2 g l → Arr T ((w2.alloc (.cells (U bH) 221)).setRow w2.heap.size (U s.list)) g l:=fun h=>by
  unfold Arr;rw [setRow_other _ _ _ _ (by have:=h.lt; omega)];exact h.alloc _
 have X8:=h8.out.row s.list;have X7:=other W7;have X3:=other W3;have X6:=other W6;have XK:=other WK;have bb3:Below w.heap.size w ((w2.alloc (.cells (U bH) 221)).setRow w2.heap.size (U s.list)):=below_setRow (bb2.alloc (by omega) _)(by omega) _;have Y:=Hd (And.intro X8 (And.intro X7 (And.intro X3 (And.intro X6 (And.intro XK bb3)))));have Z2:=Hd hszW;clear hw2 W7 W3 W6 WK bb2 hszW other X8 X7 X3 X6 XK bb3 h7 inw olw onw
 go_step
 refine wpList_load_row rfl 221 (.tmp 3) rfl w.heap.size rfl 221 (U s.list)(0,0) _ V3.out Tryz.underlying221 rfl ins.out ?_
 go_upto_region 3 with (refine wpList_store_row rfl 221 (.tmp 8)(.tmp 21) rfl w2.heap.size (U s.list) rfl rfl 221 (U bH) h8.out ins.out ols.out ons.out ?_)
 generalize hw3:World.setRow _ _ _=w3;have Y2:Hid (Arr 221 w3 w2.heap.size s.list∧Arr 224 w3 w1.heap.size W∧Arr 221 w3 w.heap.size s.list∧Arr 221 w3 (w.heap.size + 1) bH∧Arr 224 w3 gk K∧Below w.heap.size w w3):=Hd (by rw [← hw3]; exact Y.out);have hne8:w2.heap.size=w1.heap.size + 1:=Z2.out;clear hw3 Y V3 h8 ols;go_wp2_with fail;rw [hne8] at Y2;have hok0:=Hd hs;clear hs hne8 Z2
 go_loopw [22] (fun i wr=>∃ n:Nat,n ≤ 64∧i=.int .i64 (n:Int)∧Hid (Arr 221 wr (w1.heap.size + 1)(S.steps K W s n).list∧Arr 224 wr w1.heap.size W∧Arr 221 wr w.heap.size s.list∧Arr 221 wr (w.heap.size + 1) bH∧Arr 224 wr gk K∧Below w.heap.size w wr))(fun i _=>65 - (intOf i).toNat)
 case atStart=>exact ⟨0,by omega,rfl,Y2⟩
 case round =>
  obtain ⟨n,hn,rfl,HY⟩:=hrel
  by_cases hlt:n < 64
  ·have hli:(n:Int) < 64:=by omega
   obtain ⟨A8,A7,A3,A6,AK,hbw⟩:=HY.out;have hok:=S.steps_ok K W s n hok0.out;have NXT:S.steps K W s (n + 1)=S.step (S.steps K W s n)(K.getD n 0)(W.getD n 0):=rfl;generalize S.steps K W s n=t at *;obtain ⟨ta,tb,tc,td,te,tf,tg,th⟩:=t;obtain ⟨oa,ob,oc,od,oe,of', og,oh⟩:=hok;simp only at oa ob oc od oe of' og oh;have c0:wr.cell? ⟨w1.heap.size + 1,0,none⟩=some (.int .u32 ((ta:Nat):Int)):=A8.cell 0 (by simp [S.St.list]);have c1:wr.cell? ⟨w1.heap.size + 1,1,none⟩=some (.int .u32 ((tb:Nat):Int)):=A8.cell 1 (by simp [S.St.list])
   have c2:wr.cell? ⟨w1.heap.size + 1,2,none⟩=some (.int .u32 ((tc:Nat):Int)):=A8.cell 2 (by simp [S.St.list]);have c3:wr.cell? ⟨w1.heap.size + 1,3,none⟩=some (.int .u32 ((td:Nat):Int)):=A8.cell 3 (by simp [S.St.list]);have c4:wr.cell? ⟨w1.heap.size + 1,4,none⟩=some (.int .u32 ((te:Nat):Int)):=A8.cell 4 (by simp [S.St.list]);have c5:wr.cell? ⟨w1.heap.size + 1,5,none⟩=some (.int .u32 ((tf:Nat):Int)):=A8.cell 5 (by simp [S.St.list])
   have c6:wr.cell? ⟨w1.heap.size + 1,6,none⟩=some (.int .u32 ((tg:Nat):Int)):=A8.cell 6 (by simp [S.St.list]);have c7:wr.cell? ⟨w1.heap.size + 1,7,none⟩=some (.int .u32 ((th:Nat):Int)):=A8.cell 7 (by simp [S.St.list]);have ck:=AK.cell n (by omega);have cw:=A7.cell n (by omega);have ek:K.getD n 0=K[n]:=by rw [List.getD_eq_getElem?_getD,List.getElem?_eq_getElem (by omega)]; rfl
   have ew:W.getD n 0=W[n]:=by rw [List.getD_eq_getElem?_getD,List.getElem?_eq_getElem (by omega)]; rfl
   rw [ek,ew] at NXT;generalize K[n]'(by omega)=kv at *;generalize W[n]'(by omega)=wv at *;clear ek ew A8 A7 A3 A6 AK hbw hlt;have NX:=Hd NXT;clear NXT;go_wp2_with fail
   go_quiet (fail)
   obtain ⟨wq,hwq⟩:∃ wq,wr.drewN nq=wq:=⟨_,rfl⟩
   rw [hwq]
   replace c3:wq.cell? ⟨w1.heap.size + 1,3,none⟩=some (.int .u32 ((td:Nat):Int)):=by rw [← hwq]; exact c3
   replace c7:wq.cell? ⟨w1.heap.size + 1,7,none⟩=some (.int .u32 ((th:Nat):Int)):=by rw [← hwq]; exact c7
   replace ck:wq.cell? ⟨gk,n,none⟩=some (.int .u32 ((kv:Nat):Int)):=by rw [← hwq]; exact ck
   replace cw:wq.cell? ⟨w1.heap.size,n,none⟩=some (.int .u32 ((wv:Nat):Int)):=by rw [← hwq]; exact cw
   have HY2:Hid (_∧_):=Hd (show Arr 221 wq (w1.heap.size + 1)(S.St.list ⟨ta,tb,tc,td,te,tf,tg,th⟩)∧Arr 224 wq w1.heap.size W∧Arr 221 wq w.heap.size s.list∧Arr 221 wq (w.heap.size + 1) bH∧Arr 224 wq gk K∧Below w.heap.size w wq by
    rw [← hwq]; exact ⟨HY.out.1,HY.out.2.1,HY.out.2.2.1,HY.out.2.2.2.1,HY.out.2.2.2.2.1,aD HY.out.2.2.2.2.2 nq⟩)
   clear c0 c1 c2 c4 c5 c6 HY hwq;go_wp2_with fail
   go_quiet ((go_at_call 180; exact Calls.quiet_of_same ((oC _ _ _ oe (by omega)).mono fun _ _ h=>⟨h.1,h.2.symm⟩)))
   go_wp2_with fail;have hT:=JY ⟨ta,tb,tc,td,te,tf,tg,th⟩ kv wv oe of' og;have hU:=JW ⟨ta,tb,tc,td,te,tf,tg,th⟩ oa ob oc;have hstep:S.step ⟨ta,tb,tc,td,te,tf,tg,th⟩ kv wv=⟨S.add (S.t1 ⟨ta,tb,tc,td,te,tf,tg,th⟩ kv wv)(S.t2 ⟨ta,tb,tc,td,te,tf,tg,th⟩),ta,tb,tc,S.add td (S.t1 ⟨ta,tb,tc,td,te,tf,tg,th⟩ kv wv),te,tf,tg⟩:=rfl;generalize S.t1 ⟨ta,tb,tc,td,te,tf,tg,th⟩ kv wv=T1 at *;generalize S.t2 ⟨ta,tb,tc,td,te,tf,tg,th⟩=T2 at *;simp only at hT hU;rw [hT];have HU:=Hd hU;have NX2:=Hd (NX.out.trans hstep)
   have g1:=(cO T1 T2).1;have g2:=(cO td T1).1;clear hT hU hstep NX;generalize S.add T1 T2=q1 at *;generalize S.add td T1=q2 at *;obtain ⟨wz,hwz⟩:∃ wz,wq.drewN nq=wz:=⟨_,rfl⟩
   rw [hwz];have hc3:wz.cell? ⟨w1.heap.size + 1,3,none⟩=some (.int .u32 ((td:Nat):Int)):=by rw [← hwz]; exact c3
   have HY3:Hid (_∧_):=Hd (show Arr 221 wz (w1.heap.size + 1)(S.St.list ⟨ta,tb,tc,td,te,tf,tg,th⟩)∧Arr 224 wz w1.heap.size W∧Arr 221 wz w.heap.size s.list∧Arr 221 wz (w.heap.size + 1) bH∧Arr 224 wz gk K∧Below w.heap.size w wz by
    rw [← hwz]; exact ⟨HY2.out.1,HY2.out.2.1,HY2.out.2.2.1,HY2.out.2.2.2.1,HY2.out.2.2.2.2.1,aD HY2.out.2.2.2.2.2 _⟩)
   clear c3 c7 ck cw HY2 hwz;refine (oC _ _ _ oa (by omega)).mono ?_;rintro e w9 ⟨rfl,rfl⟩;go_wp2_with fail;refine (oC _ _ _ oa (by omega)).mono ?_;rintro e w9 ⟨rfl,rfl⟩;go_wp2_with fail;refine (oC _ _ _ oa (by omega)).mono ?_;rintro e w9 ⟨rfl,rfl⟩;go_upto_region 9 with fail
   rw [HU.out];have i8:Hid ((Tryz.prog.info? 221).map (·.size)=some (U [q1,ta,tb,tc,q2,te,tf,tg]).size):=Hd (by rw [bP]; exact gE);have o8:Hid ((U (S.St.list ⟨ta,tb,tc,td,te,tf,tg,th⟩)).size=(U [q1,ta,tb,tc,q2,te,tf,tg]).size):=Hd (by rw [bP,bP]; simp [S.St.list]);have n8:Hid ((U [q1,ta,tb,tc,q2,te,tf,tg]).all (·.oneCell')=true):=Hd (mT _)
   have FIN:Hid (Arr 221 (wz.setRow (w1.heap.size + 1)(U [q1,ta,tb,tc,q2,te,tf,tg]))(w1.heap.size + 1)(S.steps K W s (n + 1)).list∧Arr 224 (wz.setRow (w1.heap.size + 1)(U [q1,ta,tb,tc,q2,te,tf,tg])) w1.heap.size W∧Arr 221 (wz.setRow (w1.heap.size + 1)(U [q1,ta,tb,tc,q2,te,tf,tg])) w.heap.size s.list∧Arr 221 (wz.setRow (w1.heap.size + 1)(U [q1,ta,tb,tc,q2,te,tf,tg]))(w.heap.size + 1) bH∧Arr 224 (wz.setRow (w1.heap.size + 1)(U [q1,ta,tb,tc,q2,te,tf,tg])) gk K∧Below w.heap.size w (wz.setRow (w1.heap.size + 1)(U [q1,ta,tb,tc,q2,te,tf,tg]))):=Hd (by
    obtain ⟨a8,a7,a3,a6,ak,bw⟩:=HY3.out;refine ⟨?_,a7.otherRow _ _ (by omega),a3.otherRow _ _ (by omega),a6.otherRow _ _ (by omega),ak.otherRow _ _ (by omega),below_setRow bw (by omega) _⟩;rw [NX2.out];exact a8.row [q1,ta,tb,tc,q2,te,tf,tg])
   have a8:=Hd HY3.out.1;clear HY3 NX2 HU
   go_wp2_with (refine wpList_store_row rfl 221 (.tmp 8)(.tmp 100) rfl (w1.heap.size + 1)(U [q1,ta,tb,tc,q2,te,tf,tg]) rfl rfl 221 (U (S.St.list ⟨ta,tb,tc,td,te,tf,tg,th⟩)) a8.out i8.out o8.out n8.out ?_)
   go_roundw
   case rel=>exact ⟨n + 1,by omega,by go_num,FIN⟩
   case measure=>simp [intOf]; omega
  ·obtain rfl:n=64:=by omega
   have hli:¬ (((64:Nat):Int) < 64):=by omega
   have HYt:=HY;have HF:Hid (S.steps K W s 64=fin):=hfin;rw [HF.out] at HYt;clear HY;go_wp2_with fail
   go_loopw [102] (fun i wr=>∃ n:Nat,n ≤ 8∧i=.int .i64 (n:Int)∧Hid (Arr 221 wr (w1.heap.size + 1)(fI fin.list s.list n)∧Arr 221 wr w.heap.size s.list∧Arr 221 wr (w.heap.size + 1) bH∧Below w.heap.size w wr))(fun i _=>9 - (intOf i).toNat)
   case atStart=>exact ⟨0,by omega,rfl,Hd ⟨HYt.out.1,HYt.out.2.2.1,HYt.out.2.2.2.1,HYt.out.2.2.2.2.2⟩⟩
   case round =>
    obtain ⟨n,hn,rfl,HZ⟩:=hrel
    by_cases hlt:n < 8
    ·have hli:(n:Int) < 8:=by omega
     obtain ⟨a8,a3,a6,hbw⟩:=HZ.out;have hl8:n < (fI fin.list s.list n).length:=by rw [oI]; exact hlt
     have hls:n < s.list.length:=hlt;have c8:=a8.cell n hl8;have f8:=a8.free n;have c3:=a3.cell n hls;have e8:(fI fin.list s.list n)[n]=fin.list.getD n 0:=sQ _ _ n hl8;have e3:s.list[n]=s.list.getD n 0:=by rw [List.getD_eq_getElem?_getD,List.getElem?_eq_getElem hls]; rfl
     rw [e8] at c8;rw [e3] at c3;have NX:fI fin.list s.list (n + 1)=(fI fin.list s.list n).set n (S.add (fin.list.getD n 0)(s.list.getD n 0)):=rfl;have g1:=cO (fin.list.getD n 0)(s.list.getD n 0);generalize S.add (fin.list.getD n 0)(s.list.getD n 0)=q at *;generalize fin.list.getD n 0=x at *;generalize s.list.getD n 0=y at *;obtain ⟨g11,g12⟩:=g1
     have FIN:Hid (Arr 221 (wr.setCell ⟨w1.heap.size + 1,n,none⟩ (.int .u32 ((q:Nat):Int))).drew (w1.heap.size + 1)(fI fin.list s.list (n + 1))∧Arr 221 (wr.setCell ⟨w1.heap.size + 1,n,none⟩ (.int .u32 ((q:Nat):Int))).drew w.heap.size s.list∧Arr 221 (wr.setCell ⟨w1.heap.size + 1,n,none⟩ (.int .u32 ((q:Nat):Int))).drew (w.heap.size + 1) bH∧Below w.heap.size w (wr.setCell ⟨w1.heap.size + 1,n,none⟩ (.int .u32 ((q:Nat):Int))).drew):=Hd (by
      refine ⟨?_,(a3.other _ _ (by show w.heap.size ≠ w1.heap.size + 1; omega)).drew,(a6.other _ _ (by show w.heap.size + 1 ≠ w1.heap.size + 1; omega)).drew,(hbw.setCell (by show w.heap.size ≤ w1.heap.size + 1; omega) _).drew⟩;rw [NX];exact (a8.set n q).drew)
     clear a8 a3 a6 hbw hl8 hls e8 e3 NX HZ HYt;go_wp2_with fail
     go_region
     all_goals
      go_wp2_with fail;go_roundw
      case rel=>exact ⟨n + 1,by omega,by go_num,FIN⟩
      case measure=>simp [intOf]; omega
    ·obtain rfl:n=8:=by omega
     have hli:¬ (((8:Nat):Int) < 8):=by omega
     obtain ⟨a8,a3,a6,hbw⟩:=HZ.out;rw [KR,HLL.out] at a8;have hL8:L.length=8:=by rw [← HLL.out]; rfl
     have i8:Hid ((Tryz.prog.info? 221).map (·.size)=some (U L).size):=Hd (by rw [bP,hL8]; exact gE);have o8:Hid ((U bH).size=(U L).size):=Hd (by rw [bP,bP,hL8]; rfl);have n8:Hid ((U L).all (·.oneCell')=true):=Hd (mT _);have A8:=Hd a8;have A6:=Hd a6;have RW:=Hd (a6.row L);have hdone:Below w.heap.size w (wr.setRow (w.heap.size + 1)(U L)):=below_setRow hbw (by omega) _;clear a8 a3 a6 hbw HZ HYt HF hfin;go_upto_region 16 with fail
     go_step
     refine wpList_load_row rfl 221 (.tmp 8) rfl (w1.heap.size + 1) rfl 221 (U L)(0,0) _ A8.out Tryz.underlying221 rfl i8.out ?_;refine wpList_store_row rfl 221 (.tmp 6)(.tmp 114) rfl (w.heap.size + 1)(U L) rfl rfl 221 (U bH) A6.out i8.out o8.out n8.out ?_;go_wp2_with fail;exact bodyPost_ret (v:=.agg (U L))(results_cell_row Tryz.results154 _ _ (w.heap.size + 1) 221 (U L)(0,0) _ rfl RW.out Tryz.underlying221 rfl i8.out) rfl ⟨rfl,hdone⟩
theorem SO (s:S.St)(b:ByteArray)(gk:Nat)(w:World)(hb:b.size=64)(hk:Arr 224 w gk S.KS)(hs:s.ok) :
  Calls Tryz.prog 154 #[.agg (U s.list),.pointer (some ⟨gk,0,none⟩),.string b] w fun e w' => e=.returned (.agg (U (S.turn s b.data.toList).list))∧Below w.heap.size w w' :=
 MP s b gk S.KS (W64 b.data.toList) w hk (by decide)(fun w' => EK b w' hb)(S.wds_length _ _) hs _ (Hd rfl) _ (Hd rfl)
theorem xO {ε α β:Type} {x:Except ε α} {f:α → Except ε β} {r:β} (h:(x >>= f)=.ok r):∃ a,x=.ok a∧f a=.ok r:=by
 cases x with
 | error e=>exact absurd h (by simp [bind,Except.bind])
 | ok a=>exact ⟨a,rfl,h⟩
theorem mM {α β:Type} {m:String} {f:α → Except String β} {r:β} (h:(((MonadExcept.throw m):Except String α) >>= f)=.ok r):False:=by
 obtain ⟨a,ha,_⟩:=xO h
 cases ha
theorem rO {p:Program} {w:World} {at_:Addr} {u:TypeId} {k:Addr} {v:Value} {b:Bool} {r:World × List Addr} (h:w.viewStore p at_ u k v b=.ok r):r.1.tape=w.tape:=by
 unfold World.viewStore at h
 dsimp only at h
 split at h
 ·exact (mM h).elim
 ·obtain ⟨⟨c,e,fr,first,like,cells⟩,hx,h⟩:=xO h
  dsimp only at h
  split at h
  ·split at h
   ·exact (mM h).elim
   ·obtain ⟨c', hc', h⟩:=xO h
    cases h
    rfl
  ·cases h
theorem uF {p:Program} {w:World} {a:Addr} {v:Value} {b:Bool} {r:World × List Addr} (h:w.farStore p a v b=.ok r):r.1.tape=w.tape:=by
 unfold World.farStore at h
 split at h
 ·split at h
  ·next hv=>cases h; exact rO hv
  ·cases h
 ·cases h
theorem YG {α:Type} (x:Ask α):∀ w:World,(w.ask x).2.tape=w.tape:=by
 induction x with
 | done a=>intro w; simp only [World.ask]
 | ask what range k ih =>
  intro w;simp only [World.ask]
  split
  ·exact ih _ _
  ·exact (ih _ _).trans rfl
theorem TB (w:World)(c:Sys):(w.sys c).2.tape=w.tape:=by
 have h:=YG (Kernel.perform c w.os) w;unfold World.sys
 split
 ·rfl
 ·next hh=>rw [hh] at h; exact h
theorem UE {α:Type} (p:Program)(x:Sem α):∀ (w:World)(v:α)(w' : World),x.run p w=.ok v w' → w'.tape=w.tape:=by
 induction x with
 | pure a=>intro w v w' h; simp only [Sem.run] at h; cases h; rfl
 | load m a k ih =>
  intro w v w' h;simp only [Sem.run] at h
  split at h
  ·exact ih _ _ _ _ h
  ·split at h
   ·exact ih _ _ _ _ h
   ·cases h
 | store m a u k ih =>
  intro w v w' h
  by_cases hag:(∃ c,u=.agg c) ∨ ∃ c,u=.tuple c
  ·rcases hag with ⟨c,rfl⟩ | ⟨c,rfl⟩ <;> (simp only [Sem.run] at h; cases h)
  ·have e:(Sem.store m a u k).run p w=(match w.cell? a with
     | some _=>if w.frozen? a then .halt (.unsupported (.unsafePointer "a write to bytes that a string shares")) w else k.run p (w.setCell a u)
     | none=>match w.farStore p a u (m == .atomic) with
      | .ok (w,_)=>k.run p w
      | .error h=>.halt h w):=by
    cases u <;> first | rfl | exact absurd (Or.inl ⟨_,rfl⟩) hag | exact absurd (Or.inr ⟨_,rfl⟩) hag
   rw [e] at h
   split at h
   ·split at h
    ·cases h
    ·exact (ih _ _ _ h).trans rfl
   ·split at h
    ·next hf=>exact (ih _ _ _ h).trans (uF hf)
    ·cases h
 | new o k ih=>intro w v w' h; simp only [Sem.run] at h; exact (ih _ _ _ _ h).trans rfl
 | shape r k ih=>intro w v w' h; simp only [Sem.run] at h; exact ih _ _ _ _ h
 | freeze a n k ih=>intro w v w' h; simp only [Sem.run] at h; exact (ih _ _ _ h).trans (by unfold World.freeze; split <;> rfl)
 | frozen a k ih=>intro w v w' h; simp only [Sem.run] at h; exact ih _ _ _ _ h
 | getObj r k ih =>
  intro w v w' h;simp only [Sem.run] at h
  split at h
  ·cases h
  ·exact ih _ _ _ _ h
  ·cases h
 | setObj r o k ih =>
  intro w v w' h;simp only [Sem.run] at h
  split at h
  ·cases h
  ·exact (ih _ _ _ h).trans rfl
  ·cases h
 | choose q k ih =>
  intro w v w' h;simp only [Sem.run] at h
  split at h
  ·exact ih _ _ _ _ h
  ·exact (ih _ _ _ _ h).trans rfl
 | sys c k ih=>intro w v w' h; simp only [Sem.run] at h; exact (ih _ _ _ _ h).trans (TB w c)
 | program k ih=>intro w v w' h; simp only [Sem.run] at h; exact ih _ _ _ _ h
 | mark m k ih=>intro w v w' h; simp only [Sem.run] at h; exact ih _ _ _ h
 | halt x=>intro w v w' h; simp only [Sem.run] at h; cases h
end Go.Proofs.YthcejfnngkmojaaGreatDoor
