/-
 NodeEn, NodeDn, TrM, TrP, TrC, Frm, MapInts, SetI.
-/
import Derived.Test.YtblbiihpfjjhhaaGreatDoorN04
import Derived.Test.YtblbiihpfjjhhaaGreatDoorN02
import Derived.Test.YtblbiihpfjjhhaaGreatDoorN01
import Derived.Laws.Rows
import Derived.Laws.Tables
import Derived.Laws.CopyOwn
import Derived.MapKept
import Derived.Laws.AppendOwn
import Derived.Maps.RangeRun
namespace Go.Proofs.YtblbiihpfjjhhaaGreatDoor
open Go.RowKit
set_option maxRecDepth 20000
set_option maxHeartbeats 12800000
set_option linter.unusedVariables false
set_option linter.unusedSimpArgs false
theorem uB {w w' : World} {B:Nat} {e:TypeId} {v:Value} {n:Nat} {xs:List Value} (h:w.ownsRow B e 1 v n xs) (hb:Below w.heap.size w w'):w'.ownsRow B e 1 v n xs:=by
 refine ⟨h.1,?_⟩
 rcases h.2 with hx | ⟨g,cap,cur,hv,hbg,hh,r⟩
 ·exact .inl hx
 ·exact .inr ⟨g,cap,cur,hv,hbg,(hb.block g (zl hh)).trans hh,r⟩
theorem jS {w w' : World} {T e:TypeId} {B b:Nat} {bs:List Value} (h:Lib.IsBuilder T e B b bs w) (hb:Below w.heap.size w w'):Lib.IsBuilder T e B b bs w' := by
 rcases h with ⟨h1,v,h2,h3,h4⟩ | ⟨h1,v,h2,h3,h4⟩
 ·exact .inl ⟨h1,v,(hb.block b (zl h2)).trans h2,uB h3 hb,h4⟩
 ·exact .inr ⟨h1,v,(hb.block b (zl h2)).trans h2,uB h3 hb,h4⟩
def oN (K:List Int) (V:List ByteArray):Nat→List UInt8
 | 0=>[1]
 | j + 1=>oN K V j ++ aJ (K.getD j 0) 8 ++ (cF (V.getD j ByteArray.empty)).data.toList
theorem be_length (k n:Nat):(M.be k n).length=k:=by
 induction k generalizing n with
 | zero=>rfl
 | succ k ih=>simp [M.be,ih]
theorem qC (n:Int):(aJ n 8).length≤8:=by
 unfold aJ
 split
 ·rw [be_length]; decide
 ·exact Nat.zero_le _
theorem xG (s:ByteArray):(cF s).size≤256:=by
 unfold cF
 split
 ·rw [bV]; simp; omega
 ·exact Nat.zero_le _
theorem YT (K:List Int) (V:List ByteArray) (j:Nat):(oN K V j).length≤1 + 264 * j:=by
 induction j with
 | zero=>exact Nat.le_refl _
 | succ j ih =>
  have h1:=qC (K.getD j 0);have h2:=xG (V.getD j ByteArray.empty);simp only [oN,List.length_append,bT];omega
theorem zW (n:Nod) (ak av ac:Option Addr) (ck cv cc:Nat) (w:World) (h:NodR w n ak av ac ck cv cc) (hw:bH n=true) (hs:∀ i (h:i + 1 < n.K.length),n.K[i] < n.K[i + 1]) (hv:∀ v∈n.V,v.size≤40) (h0:n.leaf=true) (h1:0 < n.K.length) (hz:aL n≤240) :
  Calls Tryz.prog 222 #[aQ n ak av ac ck cv cc] w fun e w' => e=.returned (.tuple #[.string (Str (oN n.K n.V n.K.length)),.int .i64 0])∧Below w.heap.size w w' := by
 have hwl:=(bJ h0).1 hw;have RG:=Hd (fun w' (hb:Below w.heap.size w w')=>LN n ak av ac ck cv cc w' (h.below hb) hw hs hv (by rw [List.eq_nil_of_length_eq_zero hwl.2]; intro c hc; cases hc) h0 h1 hz);have hk1:=h.ok.k1;have hkb:=h.ok.kb;have HK0:=h.k;have HV0:=h.v;clear h hw hs hv hz;obtain ⟨lf,K,V,C⟩:=n;unfold aQ at *
 dsimp only at RG h0 h1 hwl hk1 hkb HK0 HV0 ⊢
 subst h0;obtain ⟨lk,hlk⟩:∃ lk,K.length=lk:=⟨_,rfl⟩
 have hlv:V.length=lk:=by rw [hwl.1,hlk]
 rw [hlk,hlv] at RG ⊢;rw [hlk] at hk1;generalize C.length=lc at *;have b0:Below w.heap.size w (w.alloc (.cells #[.bool true,.slice ak lk ck,.slice av lk cv,.slice ac lc cc] 206)):=aB _ _;have B0:=Hd b0;have HKB:=Hd hkb;have HLE:=Hd (YT K V);clear b0 hwl h1 hkb;go_enter Tryz.func222,Tryz.ntmps222;go_wp2_with fail;refine (RG.out _ B0.out).mono ?_;rintro e w1 ⟨rfl,b1⟩;have X1:=Hd (iO b1);have B1:=Hd (eU b1);clear b1 RG B0;have FB:=Lib.fresh_isBuilder 292 5 w1
 have bA:Below w1.heap.size w1 (w1.alloc (.cells #[.pointer none,.slice none 0 0] 292)):=aB _ _;have XA:=Hd ((bA.block _ (zl X1.out)).trans X1.out);have y0:=cl XA.out 0 rfl;have FBH:=Hd FB;have BA:=Hd bA;clear FB bA;go_wp2_with fail;refine (gK w1.heap.size w1.heap.size [] ⟨#[1]⟩ _ FBH.out (by decide) BA.out.size).mono ?_;rintro e w2 ⟨rfl,h2,b2⟩
 have I2:Lib.IsBuilder 292 5 w1.heap.size w1.heap.size (Lib.byteCells (oN K V 0)) w2:=by
  rw [List.nil_append,Lib.strCells_eq] at h2;exact .inr h2
 have B2:=Hd (BA.out.trans b2);have I2H:=Hd I2
 have z1:w2.cell? ⟨w.heap.size,1,none⟩=some (.slice ak lk ck):=by
  have X2:=(B2.out.block _ (zl X1.out)).trans X1.out;rw [cob X2]; rfl
 clear h2 b2 I2 y0;go_wp2_with fail
 go_loopw [26] (fun i wr=>∃ j:Nat,j≤lk∧i=.int .i64 (j:Int)∧Below w1.heap.size w1 wr∧Lib.IsBuilder 292 5 w1.heap.size w1.heap.size (Lib.byteCells (oN K V j)) wr) (fun i _=>lk + 1 - (intOf i).toNat)
 case atStart=>exact ⟨0,Nat.zero_le _,rfl,B2.out,I2H.out⟩
 case round =>
  obtain ⟨j,hj,rfl,hb,hI⟩:=hrel;have HB:=Hd hb;have HI:=Hd hI;clear hI
  by_cases hlt:j < lk
  ·have hji:(j:Int) < (lk:Int):=by omega
   have hjl:j < (K.map bS).length:=by rw [List.length_map]; omega
   have hjv:j < (V.map Value.string).length:=by rw [List.length_map]; omega
   obtain ⟨b,off,rfl,hbl,zk0⟩:=HK0.at j hjl;obtain ⟨b', off', rfl,hbl', zv0⟩:=HV0.at j hjv;have zk:=(hb.cell (p:=⟨b,off + j,none⟩) (Nat.lt_of_lt_of_le hbl B1.out.size)).trans ((B1.out.cell (p:=⟨b,off + j,none⟩) hbl).trans zk0);have zv1:=(B1.out.cell (p:=⟨b', off' + j,none⟩) hbl').trans zv0;have e1:(K.map bS)[j]=.int .u64 (K.getD j 0):=by rw [List.getElem_map,List.getD_eq_getElem?_getD,List.getElem?_eq_getElem (by omega)]; rfl
   have e2:(V.map Value.string)[j]=.string (V.getD j ByteArray.empty):=by rw [List.getElem_map,List.getD_eq_getElem?_getD,List.getElem?_eq_getElem (by omega)]; rfl
   rw [e1] at zk;rw [e2] at zv1;have ZV1:=Hd zv1
   have hkj:0≤K.getD j 0:=by
    rw [List.getD_eq_getElem?_getD,List.getElem?_eq_getElem (by omega)];exact (HKB.out _ (List.getElem_mem _)).1
   have hle:=HLE.out j;have hp8:=qC (K.getD j 0);have ht8:=xG (V.getD j ByteArray.empty);have ES:Hid (oN K V (j + 1)=oN K V j ++ aJ (K.getD j 0) 8 ++ (cF (V.getD j ByteArray.empty)).data.toList):=Hd rfl;clear e1 e2 zk0 zv0 zv1;generalize K.getD j 0=kx at *;generalize V.getD j ByteArray.empty=vx at *;have XR:=(hb.block _ (zl X1.out)).trans X1.out;have XRH:=Hd XR;clear XR hb;go_wp2_with fail;refine (iU kx 8 _ _ hkj rfl).mono ?_;rintro e w3 ⟨rfl,b3⟩;have I3:=Hd (jS HI.out b3);have B3:=Hd (chain HB.out b3)
   clear b3 zk hbl;go_wp2_with fail;refine (gK w1.heap.size w1.heap.size _ _ _ I3.out (by rw [Lib.byteCells_length,bV]; omega) B3.out.size).mono ?_;rintro e w4 ⟨rfl,h4,b4⟩;have B4:=Hd (B3.out.trans b4)
   have I4:Hid (Lib.IsBuilder 292 5 w1.heap.size w1.heap.size (Lib.byteCells (oN K V j ++ aJ kx 8)) w4):=Hd (by
    rw [Lib.strCells_eq,aM,← Lib.byteCells_append] at h4;exact .inr h4)
   have X4:=(B4.out.block _ (zl X1.out)).trans X1.out;have u0:=cl X4 0 rfl;have u2:=cl X4 2 rfl;clear X4 h4 b4;have zv4:w4.cell? ⟨b', off' + j,none⟩=some (.string vx):=(B4.out.cell (p:=⟨b', off' + j,none⟩) (Nat.lt_of_lt_of_le hbl' B1.out.size)).trans ZV1.out;go_wp2_with fail;refine (xF vx _).mono ?_;rintro e w5 ⟨rfl,b5⟩;have I5:=Hd (jS I4.out b5);have B5:=Hd (chain B4.out b5);clear b5 zv4 u0 u2;go_wp2_with fail
   refine (gK w1.heap.size w1.heap.size _ _ _ I5.out (by rw [Lib.byteCells_length,List.length_append]; omega) B5.out.size).mono ?_;rintro e w6 ⟨rfl,h6,b6⟩;have B6:=Hd (B5.out.trans b6)
   have I6:Hid (Lib.IsBuilder 292 5 w1.heap.size w1.heap.size (Lib.byteCells (oN K V (j + 1))) w6):=Hd (by
    rw [Lib.strCells_eq,← Lib.byteCells_append] at h6;rw [ES.out];exact .inr h6)
   clear h6 b6;go_wp2_with fail;go_roundw
   case rel=>exact ⟨j + 1,by omega,by go_num,B6.out,I6.out⟩
   case measure=>simp [intOf]; omega
  ·obtain rfl:j=lk:=by omega
   have hji:¬ (j:Int) < (j:Int):=by omega
   clear hb;go_wp2_with fail;refine (Tryz.Builder_String_any w1.heap.size w1.heap.size _ _ HI.out HB.out.size).mono ?_;rintro e w3 ⟨rfl,b3⟩;go_wp2_with fail;go_ret2;exact ⟨rfl,chain B1.out (HB.out.trans b3)⟩
def xY (K:List Int):Bool:=(List.range (K.length - 1)).all fun i=>decide (K.getD i 0 < K.getD (i + 1) 0)
theorem oX (K:List Int):xY K=true ↔ ∀ i (h:i + 1 < K.length),K[i] < K[i + 1]:=by
 unfold xY;rw [List.all_eq_true];constructor
 ·intro h i hi
  have:=h i (List.mem_range.2 (by omega));rw [decide_eq_true_eq,List.getD_eq_getElem?_getD,List.getD_eq_getElem?_getD,List.getElem?_eq_getElem (by omega),List.getElem?_eq_getElem hi] at this;exact this
 ·intro h i hi
  have hi' := List.mem_range.1 hi;rw [decide_eq_true_eq,List.getD_eq_getElem?_getD,List.getD_eq_getElem?_getD,List.getElem?_eq_getElem (by omega),List.getElem?_eq_getElem (by omega)];exact h i (by omega)
def kC (n:Nod):Bool:=xY n.K && n.V.all (fun v=>decide (v.size≤40)) && n.C.all fun c=>decide (2≤c∧c < 640)
theorem dF (n:Nod):kC n=true ↔ (∀ i (h:i + 1 < n.K.length),n.K[i] < n.K[i + 1])∧(∀ v∈n.V,v.size≤40)∧∀ c∈n.C,2≤c∧c < 640:=by
 unfold kC;rw [Bool.and_eq_true,Bool.and_eq_true,oX,List.all_eq_true,List.all_eq_true];simp only [decide_eq_true_eq,and_assoc]
def bX (n:Nod):Bool:=kC n && bH n && (!n.leaf || decide (0 < n.K.length)) && decide (aL n≤240)
theorem dE (n:Nod):bX n=true ↔ kC n=true∧bH n=true∧(n.leaf=true→0 < n.K.length)∧aL n≤240:=by
 unfold bX;rw [Bool.and_eq_true,Bool.and_eq_true,Bool.and_eq_true,decide_eq_true_eq]
 cases n.leaf <;> simp [and_assoc]
def gW (K C:List Int):Nat→List UInt8
 | 0=>2 :: aJ (C.getD 0 0) 2
 | j + 1=>gW K C j ++ aJ (K.getD j 0) 8 ++ aJ (C.getD (j + 1) 0) 2
def cW (n:Nod):ByteArray:=if n.leaf then Str (oN n.K n.V n.K.length) else Str (gW n.K n.C n.K.length)
def fQ:List Int→List ByteArray→ByteArray
 | k :: K,v :: V=>Str (aJ k 8) ++ (cF v ++ fQ K V)
 | _,_=>⟨#[]⟩
def eW:List Int→List Int→ByteArray
 | k :: K,c :: C=>Str (aJ k 8) ++ (Str (aJ c 2) ++ eW K C)
 | _,_=>⟨#[]⟩
def bD:Nat→ByteArray→List Int × List ByteArray × Bool
 | 0,_=>([],[],false)
 | f + 1,s=>if s.size=0 then ([],[],false) else
  (aG s 8 :: (bD f (ttR (aA s 8))).1,ttS (aA s 8) :: (bD f (ttR (aA s 8))).2.1,(decide (cY s 8≠0) || decide (ttE (aA s 8)≠0)) || (bD f (ttR (aA s 8))).2.2)
def dN:Nat→ByteArray→List Int × List Int × Bool
 | 0,_=>([],[],false)
 | f + 1,s=>if s.size=0 then ([],[],false) else
  (aG s 8 :: (dN f (aA (aA s 8) 2)).1,aG (aA s 8) 2 :: (dN f (aA (aA s 8) 2)).2.1,(decide (cY s 8≠0) || decide (cY (aA s 8) 2≠0)) || (dN f (aA (aA s 8) 2)).2.2)
def rdN (s:ByteArray):Option (Nod × Bool) :=
 if s.extract 0 1=⟨#[1]⟩ then some (⟨true,(bD s.size (s.extract 1 s.size)).1,(bD s.size (s.extract 1 s.size)).2.1,[]⟩,(bD s.size (s.extract 1 s.size)).2.2)
 else if s.extract 0 1=⟨#[2]⟩ then some (⟨false,(dN s.size (aA (s.extract 1 s.size) 2)).1,[],aG (s.extract 1 s.size) 2 :: (dN s.size (aA (s.extract 1 s.size) 2)).2.1⟩,decide (cY (s.extract 1 s.size) 2≠0) || (dN s.size (aA (s.extract 1 s.size) 2)).2.2)
 else none
def vW (s:ByteArray):Option Nod :=
 if s.size=0∨240 < s.size then none else
 match rdN s with
 | some (n,bad)=>if (!bad && bX n)=true then some n else none
 | none=>none
theorem nQ {s:ByteArray} {k:Int}:cY s k=0 ↔ cV s k=true:=by
 unfold cY
 split
 ·simp [*]
 ·split <;> simp [*]
theorem aBZ {s:ByteArray}:ttE s=0 ↔ nK s=true:=by
 unfold ttE
 split <;> simp [*]
theorem kY (s:ByteArray) (k:Int):(aA s k).size≤s.size:=by
 unfold aA; split
 ·rw [ByteArray.size_extract]; omega
 ·exact Nat.zero_le _
theorem nP (s:ByteArray) (h:s.size≠0) {k:Int} (h1:1≤k):(aA s k).size < s.size:=by
 unfold aA; split
 ·rw [ByteArray.size_extract]; omega
 ·exact Nat.pos_of_ne_zero h
theorem PE (s:ByteArray):(ttR s).size≤s.size:=by
 unfold ttR; split
 ·have h:(ttB s).size≤s.size:=by unfold ttB; rw [ByteArray.size_extract]; omega
  rw [ByteArray.size_extract]; omega
 ·exact Nat.zero_le _
theorem aAI (s:ByteArray):(ttS s).size≤255:=by
 cases h:nK s with
 | true=>have:=GQ s h; omega
 | false=>rw [(aBY s h).1]; exact Nat.zero_le _
theorem tP (s:ByteArray):0≤aG s 8∧aG s 8≤18446744073709551615:=by
 have h:=vF s (k:=8) (by decide) (by decide);have h2:=yH h.2 h.1;have e:(256:Nat) ^ (8:Int).toNat=18446744073709551616:=by decide
 rw [e] at h2;omega
theorem lR (s:ByteArray):0≤aG s 2∧aG s 2≤65535:=by
 have h:=vF s (k:=2) (by decide) (by decide);have h2:=yH h.2 h.1;have e:(256:Nat) ^ (2:Int).toNat=65536:=by decide
 rw [e] at h2;omega
theorem iR {s:ByteArray} {k:Int} (h:cV s k=true):k≤s.size:=by
 unfold cV at h; simp at h; omega
theorem nX:∀ (f:Nat) (s:ByteArray),(bD f s).1.length=(bD f s).2.1.length∧(bD f s).1.length≤f∧(bD f s).1.length≤s.size∧(∀ x∈(bD f s).1,0≤x∧x≤18446744073709551615)∧(∀ v∈(bD f s).2.1,v.size≤255)∧(s.size≤f→(bD f s).2.2=false→fQ (bD f s).1 (bD f s).2.1=s):=by
 intro f
 induction f with
 | zero =>
  intro s;refine ⟨rfl,Nat.le_refl _,Nat.zero_le _,by simp [bD],by simp [bD],fun h _=>?_⟩;exact (dG (by omega)).symm
 | succ f ih =>
  intro s;unfold bD
  by_cases h0:s.size=0
  ·rw [if_pos h0]
   exact ⟨rfl,Nat.zero_le _,Nat.zero_le _,by simp,by simp,fun h _=>(dG h0).symm⟩
  ·rw [if_neg h0]
   obtain ⟨i1,i2,i3,i4,i5,i6⟩:=ih (ttR (aA s 8));have l1:=nP s h0 (k:=8) (by decide);have l2:=PE (aA s 8);refine ⟨by simp [i1],by simp; omega,by simp; omega,?_,?_,?_⟩
   ·intro x hx
    rcases List.mem_cons.1 hx with rfl | hx
    ·exact tP s
    ·exact i4 x hx
   ·intro v hv
    rcases List.mem_cons.1 hv with rfl | hv
    ·exact aAI _
    ·exact i5 v hv
   ·intro hf hb
    simp only [Bool.or_eq_false_iff,decide_eq_false_iff_not,Decidable.not_not,ne_eq] at hb;obtain ⟨⟨e1,e2⟩,e3⟩:=hb;have t1:=qD s (k:=8) (by decide) (by decide) (iR (nQ.1 e1));have t2:=GQ (aA s 8) (aBZ.1 e2)
    show Str (aJ (aG s 8) 8) ++ (cF (ttS (aA s 8)) ++ fQ _ _)=s
    rw [i6 (by omega) e3,t2.1,t1.1]
theorem rL:∀ (f:Nat) (s:ByteArray),(dN f s).1.length=(dN f s).2.1.length∧(dN f s).1.length≤f∧(dN f s).1.length≤s.size∧(∀ x∈(dN f s).1,0≤x∧x≤18446744073709551615)∧(∀ v∈(dN f s).2.1,0≤v∧v≤65535)∧(s.size≤f→(dN f s).2.2=false→eW (dN f s).1 (dN f s).2.1=s):=by
 intro f
 induction f with
 | zero =>
  intro s;refine ⟨rfl,Nat.le_refl _,Nat.zero_le _,by simp [dN],by simp [dN],fun h _=>?_⟩;exact (dG (by omega)).symm
 | succ f ih =>
  intro s;unfold dN
  by_cases h0:s.size=0
  ·rw [if_pos h0]
   exact ⟨rfl,Nat.zero_le _,Nat.zero_le _,by simp,by simp,fun h _=>(dG h0).symm⟩
  ·rw [if_neg h0]
   obtain ⟨i1,i2,i3,i4,i5,i6⟩:=ih (aA (aA s 8) 2);have l1:=nP s h0 (k:=8) (by decide);have l2:=kY (aA s 8) 2;refine ⟨by simp [i1],by simp; omega,by simp; omega,?_,?_,?_⟩
   ·intro x hx
    rcases List.mem_cons.1 hx with rfl | hx
    ·exact tP s
    ·exact i4 x hx
   ·intro v hv
    rcases List.mem_cons.1 hv with rfl | hv
    ·exact lR _
    ·exact i5 v hv
   ·intro hf hb
    simp only [Bool.or_eq_false_iff,decide_eq_false_iff_not,Decidable.not_not,ne_eq] at hb;obtain ⟨⟨e1,e2⟩,e3⟩:=hb;have t1:=qD s (k:=8) (by decide) (by decide) (iR (nQ.1 e1));have t2:=qD (aA s 8) (k:=2) (by decide) (by decide) (iR (nQ.1 e2))
    show Str (aJ (aG s 8) 8) ++ (Str (aJ (aG (aA s 8) 2) 2) ++ eW _ _)=s
    rw [i6 (by omega) e3,t2.1,t1.1]
theorem WY {k:Int} (h:0≤k∧k≤18446744073709551615):cG k 8=true:=by
 obtain ⟨m,rfl⟩:=Int.eq_ofNat_of_zero_le h.1;exact (fJ m 8).2 ⟨by decide,by decide,by show m < 18446744073709551616; omega⟩
theorem WZ {k:Int} (h:0≤k∧k≤65535):cG k 2=true:=by
 obtain ⟨m,rfl⟩:=Int.eq_ofNat_of_zero_le h.1;exact (fJ m 2).2 ⟨by decide,by decide,by show m < 65536; omega⟩
theorem XF {n k:Int} (rest:ByteArray) (h:cG n k=true):cY (Str (aJ n k) ++ rest) k=0:=by
 rw [nQ];have:=cM h;unfold cV;simp [cG] at h;rw [ByteArray.size_append,Bool.and_eq_true,decide_eq_true_eq,decide_eq_true_eq];omega
theorem yC:∀ (K:List Int) (V:List ByteArray) (f:Nat),K.length=V.length→K.length≤f→(∀ x∈K,0≤x∧x≤18446744073709551615)→(∀ v∈V,v.size≤255)→bD f (fQ K V)=(K,V,false):=by
 intro K
 induction K with
 | nil =>
  intro V f h1 h2 h3 h4;have:V=[]:=List.eq_nil_of_length_eq_zero (by simpa using h1.symm);subst this
  cases f <;> rfl
 | cons k K ih =>
  intro V f h1 h2 h3 h4
  cases V with
  | nil=>simp at h1
  | cons v V =>
   cases f with
   | zero=>simp at h2
   | succ f =>
    have p8:=WY (h3 k (by simp));have hs:=cM p8;have e1:=mL (cF v ++ fQ K V) (h3 k (by simp)).1 p8;have e2:=XF (cF v ++ fQ K V) p8;have e3:=GP v (fQ K V) (h4 v (by simp));have ih' := ih V f (by simpa using h1) (by simpa using h2) (fun x hx=>h3 x (by simp [hx])) (fun x hx=>h4 x (by simp [hx]));unfold fQ bD;rw [if_neg (by rw [ByteArray.size_append]; omega),e1.1,e1.2,e2,e3.1,e3.2.1,e3.2.2,ih']
    rfl
theorem LR:∀ (K C:List Int) (f:Nat),K.length=C.length→K.length≤f→(∀ x∈K,0≤x∧x≤18446744073709551615)→(∀ v∈C,0≤v∧v≤65535)→dN f (eW K C)=(K,C,false):=by
 intro K
 induction K with
 | nil =>
  intro V f h1 h2 h3 h4;have:V=[]:=List.eq_nil_of_length_eq_zero (by simpa using h1.symm);subst this
  cases f <;> rfl
 | cons k K ih =>
  intro V f h1 h2 h3 h4
  cases V with
  | nil=>simp at h1
  | cons v V =>
   cases f with
   | zero=>simp at h2
   | succ f =>
    have p8:=WY (h3 k (by simp));have p2:=WZ (h4 v (by simp));have hs:=cM p8;have e1:=mL (Str (aJ v 2) ++ eW K V) (h3 k (by simp)).1 p8;have e2:=XF (Str (aJ v 2) ++ eW K V) p8;have e3:=mL (eW K V) (h4 v (by simp)).1 p2;have e4:=XF (eW K V) p2;have ih' := ih V f (by simpa using h1) (by simpa using h2) (fun x hx=>h3 x (by simp [hx])) (fun x hx=>h4 x (by simp [hx]));unfold eW dN;rw [if_neg (by rw [ByteArray.size_append]; omega),e1.1,e1.2,e2,e3.1,e3.2,e4,ih']
    rfl
theorem BM:∀ (K:List Int) (V:List ByteArray) (k:Int) (v:ByteArray),K.length=V.length→fQ (K ++ [k]) (V ++ [v])=fQ K V ++ (Str (aJ k 8) ++ cF v):=by
 intro K
 induction K with
 | nil =>
  intro V k v h;have:V=[]:=List.eq_nil_of_length_eq_zero (by simpa using h.symm);subst this;apply aF;simp [fQ,aX]
 | cons a K ih =>
  intro V k v h
  cases V with
  | nil=>simp at h
  | cons b V =>
   show Str (aJ a 8) ++ (cF b ++ fQ (K ++ [k]) (V ++ [v]))=_
   rw [ih V k v (by simpa using h)];apply aF;simp [fQ,aX]
theorem BO:∀ (K C:List Int) (k c:Int),K.length=C.length→eW (K ++ [k]) (C ++ [c])=eW K C ++ (Str (aJ k 8) ++ Str (aJ c 2)):=by
 intro K
 induction K with
 | nil =>
  intro V k v h;have:V=[]:=List.eq_nil_of_length_eq_zero (by simpa using h.symm);subst this;apply aF;simp [eW,aX]
 | cons a K ih =>
  intro V k v h
  cases V with
  | nil=>simp at h
  | cons b V =>
   show Str (aJ a 8) ++ (Str (aJ b 2) ++ eW (K ++ [k]) (V ++ [v]))=_
   rw [ih V k v (by simpa using h)];apply aF;simp [eW,aX]
theorem NQ (K:List Int) (V:List ByteArray) (h:K.length=V.length):∀ j,j≤K.length→Str (oN K V j)=Str [1] ++ fQ (K.take j) (V.take j):=by
 intro j
 induction j with
 | zero=>intro _; apply aF; simp [oN,fQ,aX,aM]
 | succ j ih =>
  intro hj;have e1:K.take (j + 1)=K.take j ++ [K[j]]:=List.take_succ_eq_append_getElem (by omega);have e2:V.take (j + 1)=V.take j ++ [V[j]]:=List.take_succ_eq_append_getElem (by omega);rw [e1,e2,BM _ _ _ _ (by simp; omega)];have hi:=congrArg (fun b:ByteArray=>b.data.toList) (ih (by omega));simp only [aM,aX] at hi;apply aF;simp only [oN,aX,aM,hi,List.append_assoc];rw [List.getD_eq_getElem?_getD,List.getElem?_eq_getElem (by omega),List.getD_eq_getElem?_getD,List.getElem?_eq_getElem (by omega)]
  rfl
theorem EM (K C:List Int) (h:C.length=K.length + 1):∀ j,j≤K.length→Str (gW K C j)=Str [2] ++ (Str (aJ (C.getD 0 0) 2) ++ eW (K.take j) (C.tail.take j)):=by
 intro j
 induction j with
 | zero=>intro _; apply aF; simp [gW,eW,aX,aM]
 | succ j ih =>
  intro hj;have e1:K.take (j + 1)=K.take j ++ [K[j]]:=List.take_succ_eq_append_getElem (by omega);have hl:j < C.tail.length:=by simp; omega
  have e2:C.tail.take (j + 1)=C.tail.take j ++ [C.tail[j]]:=List.take_succ_eq_append_getElem hl;have e3:C.tail[j]=C.getD (j + 1) 0:=by rw [List.getElem_tail,List.getD_eq_getElem?_getD,List.getElem?_eq_getElem (by omega)]; rfl
  rw [e1,e2,BO _ _ _ _ (by simp; omega),e3];have hi:=congrArg (fun b:ByteArray=>b.data.toList) (ih (by omega));simp only [aM,aX] at hi;apply aF;simp only [gW,aX,aM,hi,List.append_assoc];rw [List.getD_eq_getElem?_getD (l:=K),List.getElem?_eq_getElem (by omega)]
  rfl
theorem lO (K:List Int) (V:List ByteArray) (h:K.length=V.length):cW ⟨true,K,V,[]⟩=Str [1] ++ fQ K V:=by
 have:=NQ K V h K.length (Nat.le_refl _);rw [List.take_length,h,List.take_length] at this;unfold cW;simp only [if_true];rw [h]; exact this
theorem jB (K C:List Int) (c:Int) (h:K.length=C.length):cW ⟨false,K,[],c :: C⟩=Str [2] ++ (Str (aJ c 2) ++ eW K C):=by
 have:=EM K (c :: C) (by simp [h]) K.length (Nat.le_refl _);rw [List.take_length,List.tail_cons,h,List.take_length] at this;unfold cW;simp only [Bool.false_eq_true,if_false];rw [h]; exact this
theorem sJ (b:UInt8) (t:ByteArray):(Str [b] ++ t).extract 0 1=⟨#[b]⟩∧(Str [b] ++ t).extract 1 (Str [b] ++ t).size=t:=by
 have e:(Str [b]).size=1:=rfl;refine ⟨?_,?_⟩
 ·have:=oK (Str [b]) t
  rw [e] at this; exact this
 ·have:=lM (Str [b]) t
  rw [e] at this; exact this
theorem zS (s:ByteArray) (b:UInt8) (h:s.extract 0 1=⟨#[b]⟩):s=Str [b] ++ s.extract 1 s.size:=by
 have h1:=nL s 1
 have h2:Str (s.data.toList.take 1)=⟨#[b]⟩:=by
  rw [← h]; apply aF; rw [aH,aM,List.drop_zero,Nat.sub_zero]
 rw [h2] at h1;exact h1.symm
theorem zX (n:Nod) (hw:bH n=true) (ho:dP n) (hv:∀ v∈n.V,v.size≤40) (hc:∀ c∈n.C,2≤c∧c < 640):(cW n).size=aL n:=by
 obtain ⟨lf,K,V,C⟩:=n
 cases lf with
 | true =>
  have h:=(bJ (n:=⟨true,K,V,C⟩) rfl).1 hw;have hC:C=[]:=List.eq_nil_of_length_eq_zero h.2;subst hC;rw [lO K V h.1.symm,ByteArray.size_append]
  have:∀ (K:List Int) (V:List ByteArray),K.length=V.length→(∀ x∈K,0≤x∧x≤18446744073709551615)→(∀ v∈V,v.size≤40)→(fQ K V).size=9 * K.length + bN V:=by
   intro K
   induction K with
   | nil=>intro V h _ _; have:V=[]:=List.eq_nil_of_length_eq_zero (by simpa using h.symm); subst this; rfl
   | cons k K ih =>
    intro V h h3 h4
    cases V with
    | nil=>simp at h
    | cons v V =>
     have:=ih V (by simpa using h) (fun x hx=>h3 x (by simp [hx])) (fun x hx=>h4 x (by simp [hx]));have e8:=cM (WY (h3 k (by simp)));have et:=kX v (by have:=h4 v (by simp); omega);simp only [fQ,ByteArray.size_append,this,bN,List.length_cons];omega
  rw [this K V h.1.symm ho.kb hv];unfold aL;simp only [if_true]
  show 1 + _=_
  omega
 | false =>
  have h:=(aW (n:=⟨false,K,V,C⟩) rfl).1 hw;have hV:V=[]:=List.eq_nil_of_length_eq_zero h.2;subst hV
  cases C with
  | nil=>simp at h
  | cons c C =>
   have h1:K.length=C.length:=by have:=h.1; simp at this; omega
   rw [jB K C c h1,ByteArray.size_append,ByteArray.size_append]
   have:∀ (K C:List Int),K.length=C.length→(∀ x∈K,0≤x∧x≤18446744073709551615)→(∀ v∈C,2≤v∧v < 640)→(eW K C).size=10 * K.length:=by
    intro K
    induction K with
    | nil=>intro V h _ _; have:V=[]:=List.eq_nil_of_length_eq_zero (by simpa using h.symm); subst this; rfl
    | cons k K ih =>
     intro V h h3 h4
     cases V with
     | nil=>simp at h
     | cons v V =>
      have:=ih V (by simpa using h) (fun x hx=>h3 x (by simp [hx])) (fun x hx=>h4 x (by simp [hx]));have e8:=cM (WY (h3 k (by simp)));have e2:=cM (WZ (k:=v) (by have:=h4 v (by simp); omega));simp only [eW,ByteArray.size_append,this,List.length_cons];omega
   rw [this K C h1 ho.kb (fun v hv=>hc v (by simp [hv]))];have e2:=cM (WZ (k:=c) (by have:=hc c (by simp); omega));unfold aL;simp only [Bool.false_eq_true,if_false,List.length_cons]
   show 1 + _=_
   omega
theorem YV (n:Nod) (ho:dP n) (hr:bX n=true):vW (cW n)=some n:=by
 have hr' := hr;rw [dE] at hr';obtain ⟨hp,hw,h0,hz⟩:=hr';rw [dF] at hp;obtain ⟨p1,p2,p3⟩:=hp;have hs:=zX n hw ho p2 p3;obtain ⟨lf,K,V,C⟩:=n
 cases lf with
 | true =>
  have h:=(bJ (n:=⟨true,K,V,C⟩) rfl).1 hw;have hC:C=[]:=List.eq_nil_of_length_eq_zero h.2;subst hC;have hk:K.length≤aL ⟨true,K,V,[]⟩:=by unfold aL; simp only [if_true]; omega
  have hk0:0 < aL ⟨true,K,V,[]⟩:=by unfold aL; simp only [if_true]; omega
  have hrd:rdN (cW ⟨true,K,V,[]⟩)=some (⟨true,K,V,[]⟩,false):=by
   rw [← hs] at hk;rw [lO K V h.1.symm] at hk ⊢;have hf:=sJ 1 (fQ K V);unfold rdN;rw [if_pos hf.1,hf.2,yC K V _ h.1.symm hk ho.kb (fun v hv=>by have:=p2 v hv; omega)]
  unfold vW;rw [if_neg (by omega),hrd]
  show (if (!false && bX ⟨true,K,V,[]⟩)=true then some (⟨true,K,V,[]⟩:Nod) else none)=_
  rw [hr]; rfl
 | false =>
  have h:=(aW (n:=⟨false,K,V,C⟩) rfl).1 hw;have hV:V=[]:=List.eq_nil_of_length_eq_zero h.2;subst hV
  cases C with
  | nil=>simp at h
  | cons c C =>
   have h1:K.length=C.length:=by have:=h.1; simp at this; omega
   have hk:K.length≤aL ⟨false,K,[],c :: C⟩:=by unfold aL; simp only [Bool.false_eq_true,if_false]; omega
   have hk0:0 < aL ⟨false,K,[],c :: C⟩:=by unfold aL; simp only [Bool.false_eq_true,if_false]; omega
   have p2' := WZ (k:=c) (by have:=p3 c (by simp); omega)
   have hrd:rdN (cW ⟨false,K,[],c :: C⟩)=some (⟨false,K,[],c :: C⟩,false):=by
    rw [← hs] at hk;rw [jB K C c h1] at hk ⊢;have hf:=sJ 2 (Str (aJ c 2) ++ eW K C);have hn:=mL (eW K C) (by have:=p3 c (by simp); omega) p2';have he:=XF (eW K C) p2';unfold rdN;rw [if_neg (by rw [hf.1]; decide),if_pos hf.1,hf.2,hn.1,hn.2,he,LR K C _ h1 hk ho.kb (fun v hv=>by have:=p3 v (by simp [hv]); omega)]
    rfl
   unfold vW;rw [if_neg (by omega),hrd]
   show (if (!false && bX ⟨false,K,[],c :: C⟩)=true then some (⟨false,K,[],c :: C⟩:Nod) else none)=_
   rw [hr]; rfl
theorem YS (s:ByteArray) (n:Nod) (h:vW s=some n):cW n=s∧bX n=true∧dP n:=by
 unfold vW at h
 split at h
 ·cases h
 ·rename_i hsz
  split at h
  ·rename_i m bad hrd
   split at h
   ·rename_i hb
    obtain rfl:=Option.some.inj h;rw [Bool.and_eq_true,Bool.not_eq_true'] at hb;obtain ⟨rfl,hr⟩:=hb;refine ⟨?_,hr,?_⟩
    all_goals
     unfold rdN at hrd
     split at hrd
     ·rename_i h1
      obtain ⟨e1,e2⟩:=Prod.mk.inj (Option.some.inj hrd);obtain ⟨i1,i2,i3,i4,i5,i6⟩:=nX s.size (s.extract 1 s.size);have hle:(s.extract 1 s.size).size≤s.size:=by rw [ByteArray.size_extract]; omega
      subst e1
      first
       | exact (lO _ _ i1).trans ((congrArg (Str [1] ++ ·) (i6 hle e2)).trans (zS s 1 h1).symm)
       | exact ⟨by dsimp only; omega,by dsimp only; omega,Nat.zero_le _,i4,fun v hv=>by have:=i5 v hv; omega,fun x hx=>by cases hx⟩
     ·split at hrd
      ·rename_i h0 h1
       obtain ⟨e1,e2⟩:=Prod.mk.inj (Option.some.inj hrd);obtain ⟨i1,i2,i3,i4,i5,i6⟩:=rL s.size (aA (s.extract 1 s.size) 2);have hle:(s.extract 1 s.size).size≤s.size:=by rw [ByteArray.size_extract]; omega
       have hle2:=kY (s.extract 1 s.size) 2;simp only [Bool.or_eq_false_iff,decide_eq_false_iff_not,ne_eq,Decidable.not_not] at e2;have t2:=qD (s.extract 1 s.size) (k:=2) (by decide) (by decide) (iR (nQ.1 e2.1));subst e1
       first
        | exact (jB _ _ _ i1).trans ((congrArg (fun t=>Str [2] ++ (Str (aJ (aG (s.extract 1 s.size) 2) 2) ++ t)) (i6 (by omega) e2.2)).trans ((congrArg (Str [2] ++ ·) t2.1).trans (zS s 2 h1).symm))
        | exact ⟨by dsimp only; omega,Nat.zero_le _,by simp only [List.length_cons]; omega,i4,(fun v hv=>by cases hv),fun x hx=>by
          rcases List.mem_cons.1 hx with rfl | hx
          ·have:=lR (s.extract 1 s.size); omega
          ·have:=i5 x hx; omega⟩
      ·cases hrd
   ·cases h
  ·cases h
abbrev Mk:=Int × Option ByteArray
abbrev Ent:=Int × ByteArray
def dQ (m:Mk):Int:=2 * m.1 + (if m.2.isSome then 1 else 0)
def bQ (F:List Mk):Prop:=F.Pairwise fun a b=>dQ a < dQ b
def sN (m:Mk):Option Ent:=m.2.map fun v=>(m.1,v)
def aE (F:List Mk):List Ent:=F.filterMap sN
def aU (k:Int) (v:ByteArray) (m:List Ent):List Ent:=m.filter (fun e=>decide (e.1 < k)) ++ (k,v) :: m.filter (fun e=>decide (k < e.1))
def aCF (k:Int) (m:List Ent):List Ent:=m.filter fun e=>decide (e.1≠k)
def cU (k:Int) (m:List Ent):Option ByteArray:=(m.find? fun e=>decide (e.1=k)).map (·.2)
def kS (m:List Ent):Prop:=m.Pairwise fun a b=>a.1 < b.1
def cI:List Int→List ByteArray→List Mk
 | k :: K,v :: V=>(k,some v) :: cI K V
 | _,_=>[]
structure Kid where
 p:Int
 F:List Mk
 P:List Int
def kP (Q:List Kid):List Int:=Q.map Kid.p
def kPs (Q:List Kid):List Int:=(Q.map Kid.P).flatten
def dM (K:List Int) (Q:List Kid):List Mk:=(List.zipWith (fun k (q:Kid)=>q.F ++ [(k,none)]) K Q).flatten
def fY (K:List Int) (Q:List Kid):List Mk:=(List.zipWith (fun k (q:Kid)=>(k,none) :: q.F) K Q).flatten
def bF:List Int→List Kid→List Mk
 | _,[]=>[]
 | [],q :: _=>q.F
 | k :: K,q :: Q=>q.F ++ (k,none) :: bF K Q
def gM (R:Int→Option Nod):Nat→Nod→List Mk→List Int→Prop
 | 0,N,F,P=>N.leaf=true∧N.V.length=N.K.length∧N.C=[]∧F=cI N.K N.V∧P=[]
 | h + 1,N,F,P=>N.leaf=false∧N.V=[]∧∃ Q:List Kid,N.C=kP Q∧Q.length=N.K.length + 1∧(∀ q∈Q,∃ M PM,R q.p=some M∧M.K≠[]∧gM R h M q.F PM∧q.P=q.p :: PM)∧F=bF N.K Q∧P=kPs Q
def IsT (R:Int→Option Nod) (h:Nat) (p:Int) (F:List Mk) (P:List Int):Prop:=∃ M PM,R p=some M∧M.K≠[]∧gM R h M F PM∧P=p :: PM
theorem fN {R:Int→Option Nod} {h:Nat} {N:Nod} {F:List Mk} {P:List Int} :
  gM R (h + 1) N F P ↔ N.leaf=false∧N.V=[]∧∃ Q:List Kid,N.C=kP Q∧Q.length=N.K.length + 1∧(∀ q∈Q,IsT R h q.p q.F q.P)∧F=bF N.K Q∧P=kPs Q:=Iff.rfl
theorem eG (A B:List Kid):kPs (A ++ B)=kPs A ++ kPs B:=by simp [kPs]
theorem sC (q:Kid) (B:List Kid):kPs (q :: B)=q.P ++ kPs B:=by simp [kPs]
theorem mD (A B:List Kid):kP (A ++ B)=kP A ++ kP B:=by simp [kP]
theorem gJ (A:List Kid):(kP A).length=A.length:=by simp [kP]
theorem qF {x:Int} {Q:List Kid}:x∈kPs Q ↔ ∃ q∈Q,x∈q.P:=by
 unfold kPs;rw [List.mem_flatten];constructor
 ·rintro ⟨l,hl,hx⟩
  obtain ⟨q,hq,rfl⟩:=List.mem_map.1 hl;exact ⟨q,hq,hx⟩
 ·rintro ⟨q,hq,hx⟩
  exact ⟨q.P,List.mem_map.2 ⟨q,hq,rfl⟩,hx⟩
theorem bM (A B:List Mk):aE (A ++ B)=aE A ++ aE B:=by simp [aE]
theorem mF (k:Int) (B:List Mk):aE ((k,none) :: B)=aE B:=List.filterMap_cons_none rfl
theorem jQ (k:Int) (v:ByteArray) (B:List Mk):aE ((k,some v) :: B)=(k,v) :: aE B:=List.filterMap_cons_some rfl
theorem aI {A B:List Mk}:bQ (A ++ B) ↔ bQ A∧bQ B∧∀ a∈A,∀ b∈B,dQ a < dQ b:=List.pairwise_append
theorem eM {a:Mk} {B:List Mk}:bQ (a :: B) ↔ (∀ b∈B,dQ a < dQ b)∧bQ B:=List.pairwise_cons
theorem iB (k:Int):dQ (k,none)=2 * k:=by simp [dQ]
theorem fV (k:Int) (v:ByteArray):dQ (k,some v)=2 * k + 1:=by simp [dQ]
theorem iP {R R' : Int→Option Nod}:∀ (h:Nat) {N:Nod} {F:List Mk} {P:List Int},gM R h N F P→(∀ p∈P,R' p=R p)→gM R' h N F P:=by
 intro h
 induction h with
 | zero=>intro N F P hn _; exact hn
 | succ h ih =>
  intro N F P hn hr;obtain ⟨h1,h2,Q,h3,h4,h5,h6,h7⟩:=hn;refine ⟨h1,h2,Q,h3,h4,fun q hq=>?_,h6,h7⟩;obtain ⟨M,PM,m1,m2,m3,m4⟩:=h5 q hq;have hsub:∀ p∈q.P,R' p=R p:=fun p hp=>hr p (by rw [h7]; exact qF.2 ⟨q,hq,hp⟩)
  exact ⟨M,PM,(hsub q.p (by rw [m4]; simp)).trans m1,m2,ih m3 (fun p hp=>hsub p (by rw [m4]; simp [hp])),m4⟩
theorem uT {R R' : Int→Option Nod} {h:Nat} {p:Int} {F:List Mk} {P:List Int} (ht:IsT R h p F P) (hr:∀ p∈P,R' p=R p):IsT R' h p F P:=by
 obtain ⟨M,PM,m1,m2,m3,m4⟩:=ht;exact ⟨M,PM,(hr p (by rw [m4]; simp)).trans m1,m2,iP h m3 (fun x hx=>hr x (by rw [m4]; simp [hx])),m4⟩
theorem fX:∀ (K:List Int) (V:List ByteArray) (K' : List Int) (V' : List ByteArray),V.length=K.length→cI (K ++ K') (V ++ V')=cI K V ++ cI K' V' := by
 intro K
 induction K with
 | nil=>intro V K' V' h; cases V with | nil=>rfl | cons _ _=>cases h
 | cons k K ih =>
  intro V K' V' h
  cases V with
  | nil=>cases h
  | cons v V=>simp only [List.cons_append,cI]; rw [ih V K' V' (by simpa using h)]
theorem DL:∀ (K:List Int) (V:List ByteArray),V.length=K.length→(aE (cI K V)).length=K.length:=by
 intro K
 induction K with
 | nil=>intro V h; rfl
 | cons k K ih =>
  intro V h
  cases V with
  | nil=>cases h
  | cons v V=>simp only [cI,jQ,List.length_cons]; rw [ih V (by simpa using h)]
theorem jM {K:List Int} {V:List ByteArray} {m:Mk}:m∈cI K V→∃ v,m.2=some v∧m.1∈K∧v∈V:=by
 induction K generalizing V with
 | nil=>intro h; cases V <;> cases h
 | cons k K ih =>
  intro h
  cases V with
  | nil=>cases h
  | cons v V =>
   simp only [cI,List.mem_cons] at h
   rcases h with rfl | h
   ·exact ⟨v,rfl,by simp,by simp⟩
   ·obtain ⟨x,h1,h2,h3⟩:=ih h
    exact ⟨x,h1,by simp [h2],by simp [h3]⟩
theorem sB:∀ (K:List Int) (V:List ByteArray),V.length=K.length→(cI K V).map (·.1)=K:=by
 intro K
 induction K with
 | nil=>intro V h; cases V with | nil=>rfl | cons _ _=>cases h
 | cons k K ih =>
  intro V h
  cases V with
  | nil=>cases h
  | cons v V=>simp only [cI,List.map_cons]; rw [ih V (by simpa using h)]
theorem zL (k:Int) (K:List Int) (q:Kid) (Q:List Kid):dM (k :: K) (q :: Q)=q.F ++ (k,none) :: dM K Q:=by simp [dM]
theorem pU (k:Int) (K:List Int) (q:Kid) (Q:List Kid):fY (k :: K) (q :: Q)=(k,none) :: (q.F ++ fY K Q):=by simp [fY]
theorem SS:∀ (K:List Int) (q:Kid) (Q:List Kid),Q.length=K.length→bF K (q :: Q)=q.F ++ fY K Q:=by
 intro K
 induction K with
 | nil=>intro q Q h; cases Q with | nil=>simp [bF,fY] | cons _ _=>cases h
 | cons k K ih =>
  intro q Q h
  cases Q with
  | nil=>cases h
  | cons q' Q=>rw [pU]; show q.F ++ (k,none) :: bF K (q' :: Q)=_; rw [ih q' Q (by simpa using h)]
theorem lI:∀ (KA:List Int) (A:List Kid) (K:List Int) (Q:List Kid),A.length=KA.length→Q≠[]→bF (KA ++ K) (A ++ Q)=dM KA A ++ bF K Q:=by
 intro KA
 induction KA with
 | nil=>intro A K Q h hq; cases A with | nil=>simp [dM] | cons _ _=>cases h
 | cons k KA ih =>
  intro A K Q h hq
  cases A with
  | nil=>cases h
  | cons a A =>
   rw [zL]
   show a.F ++ (k,none) :: bF (KA ++ K) (A ++ Q)=_
   rw [ih A K Q (by simpa using h) hq];simp
theorem sF (KA KM KB:List Int) (A QM B:List Kid) (hA:A.length=KA.length) (hM:QM.length=KM.length + 1) (hB:B.length=KB.length) :
  bF (KA ++ KM ++ KB) (A ++ QM ++ B)=dM KA A ++ bF KM QM ++ fY KB B:=by
 rw [List.append_assoc,List.append_assoc,lI KA A _ _ hA (by cases QM with | nil=>simp at hM | cons _ _=>simp)]
 have e:bF (KM ++ KB) (QM ++ B)=bF KM QM ++ fY KB B:=by
  obtain ⟨X,q,rfl⟩:∃ X q,QM=X ++ [q]:=by
   cases h:QM.reverse with
   | nil=>simp at h; subst h; simp at hM
   | cons q X=>exact ⟨X.reverse,q,by simpa using congrArg List.reverse h⟩
  have hX:X.length=KM.length:=by simpa using hM
  rw [List.append_assoc,lI KM X KB ([q] ++ B) hX (by simp)];have e1:=lI KM X [] [q] hX (by simp);rw [List.append_nil] at e1;rw [e1]
  show dM KM X ++ bF KB (q :: B)=_
  rw [SS KB q B hB];simp [bF]
 rw [e]; simp
theorem sE (q:Kid):bF [] [q]=q.F:=rfl
theorem sD (k:Int) (q r:Kid):bF [k] [q,r]=q.F ++ (k,none) :: r.F:=rfl
theorem zK:∀ (K:List Int) (Q:List Kid),Q.length=K.length + 1→List.Sublist (K.map fun k=>((k,none):Mk)) (bF K Q):=by
 intro K
 induction K with
 | nil=>intro Q h; exact List.nil_sublist _
 | cons k K ih =>
  intro Q h
  cases Q with
  | nil=>simp at h
  | cons q Q =>
   show List.Sublist _ (q.F ++ (k,none) :: bF K Q)
   exact (List.Sublist.cons_cons _ (ih Q (by simpa using h))).trans (List.sublist_append_right _ _)
theorem fS {R:Int→Option Nod} {h:Nat} {N:Nod} {F:List Mk} {P:List Int} (ht:gM R h N F P) (hs:bQ F):N.K.Pairwise (· < ·):=by
 cases h with
 | zero =>
  obtain ⟨h1,h2,h3,h4,h5⟩:=ht;rw [← sB N.K N.V h2];subst h4;rw [List.pairwise_map];refine List.Pairwise.imp_of_mem ?_ hs;intro a b ha hb hab;obtain ⟨va,ea,_⟩:=jM ha;obtain ⟨vb,eb,_⟩:=jM hb;unfold dQ at hab;rw [ea,eb] at hab;simp at hab;omega
 | succ h =>
  obtain ⟨h1,h2,Q,h3,h4,h5,h6,h7⟩:=ht;subst h6;have hp:=List.Pairwise.sublist (zK N.K Q h4) hs;rw [List.pairwise_map] at hp;refine List.Pairwise.imp ?_ hp;intro a b hab;rw [iB,iB] at hab;omega
theorem iG {R:Int→Option Nod} {h:Nat} {N:Nod} {F:List Mk} {P:List Int} (ht:gM R h N F P):bH N=true:=by
 cases h with
 | zero =>
  obtain ⟨h1,h2,h3,h4,h5⟩:=ht;exact (bJ h1).2 ⟨h2,by rw [h3]; rfl⟩
 | succ h =>
  obtain ⟨h1,h2,Q,h3,h4,h5,h6,h7⟩:=ht;exact (aW h1).2 ⟨by rw [h3,gJ,h4],by rw [h2]; rfl⟩
theorem IJ {R:Int→Option Nod} {h:Nat} {N:Nod} {F:List Mk} {P:List Int} (ht:gM R h N F P):N.leaf=decide (h=0):=by
 cases h with
 | zero=>rw [ht.1]; rfl
 | succ h=>rw [ht.1]; simp
theorem rK {R:Int→Option Nod} {h:Nat} {N:Nod} {F:List Mk} {P:List Int} (ht:gM R h N F P) (hs:bQ F) (hv:∀ v∈N.V,v.size≤40) (hc:∀ c∈N.C,2≤c∧c < 640) (hk:N.K≠[]) (hz:aL N≤240):bX N=true:=by
 refine (dE N).2 ⟨(dF N).2 ⟨fun i hi=>?_,hv,hc⟩,iG ht,fun _=>?_,hz⟩
 ·exact List.pairwise_iff_getElem.1 (fS ht hs) i (i + 1) (by omega) hi (by omega)
 ·exact List.length_pos_iff.2 hk
theorem vL:∀ (K:List Int) (Q:List Kid),Q.length=K.length + 1→(aE (bF K Q)).length=(Q.map fun q=>(aE q.F).length).sum:=by
 intro K
 induction K with
 | nil =>
  intro Q h
  cases Q with
  | nil=>simp at h
  | cons q Q=>cases Q with | nil=>simp [bF] | cons _ _=>simp at h
 | cons k K ih =>
  intro Q h
  cases Q with
  | nil=>simp at h
  | cons q Q =>
   show (aE (q.F ++ (k,none) :: bF K Q)).length=_
   rw [bM,mF,List.length_append,ih Q (by simpa using h)];simp
theorem UI {R:Int→Option Nod}:∀ (h:Nat) {N:Nod} {F:List Mk} {P:List Int},gM R h N F P→N.K≠[]→P.length + 2≤2 * (aE F).length∧2 ^ h≤(aE F).length:=by
 intro h
 induction h with
 | zero =>
  intro N F P ht hk;obtain ⟨h1,h2,h3,h4,h5⟩:=ht;subst h4 h5;have:=List.length_pos_iff.2 hk;rw [DL _ _ h2];simp; omega
 | succ h ih =>
  intro N F P ht hk;obtain ⟨h1,h2,Q,h3,h4,h5,h6,h7⟩:=ht;subst h6 h7;rw [vL _ _ h4]
  have hq:∀ q∈Q,q.P.length + 1≤2 * (aE q.F).length∧2 ^ h≤(aE q.F).length:=by
   intro q hq;obtain ⟨M,PM,m1,m2,m3,m4⟩:=h5 q hq;have:=ih m3 m2;rw [m4,List.length_cons];omega
  have h2:2≤Q.length:=by have:=List.length_pos_iff.2 hk; omega
  have e1:(kPs Q).length + Q.length≤2 * (Q.map fun q=>(aE q.F).length).sum:=by
   clear h3 h4 h5 h2
   induction Q with
   | nil=>simp [kPs]
   | cons q Q ihq =>
    have h1:=(hq q (by simp)).1;have h2:=ihq fun r hr=>hq r (by simp [hr])
    rw [sC];simp only [List.length_append,List.length_cons,List.map_cons,List.sum_cons];omega
  have e2:Q.length * 2 ^ h≤(Q.map fun q=>(aE q.F).length).sum:=by
   clear h3 h4 h5 h2 e1
   induction Q with
   | nil=>simp
   | cons q Q ihq =>
    have h1:=(hq q (by simp)).2;have h2:=ihq fun r hr=>hq r (by simp [hr])
    simp only [List.length_cons,List.map_cons,List.sum_cons,Nat.add_mul];omega
  refine ⟨by omega,Nat.le_trans ?_ e2⟩;rw [Nat.pow_succ,Nat.mul_comm];exact Nat.mul_le_mul_right _ h2
theorem mK {R:Int→Option Nod} {h:Nat} {p:Int} {F:List Mk} {P:List Int} (ht:IsT R h p F P):P.length + 1≤2 * (aE F).length∧2 ^ h≤(aE F).length:=by
 obtain ⟨M,PM,m1,m2,m3,m4⟩:=ht;have:=UI h m3 m2;rw [m4,List.length_cons];omega
theorem fI {α:Type} (p:α→Bool) (l:List α) (h:∀ x∈l,p x=true):l.filter p=l:=List.filter_eq_self.2 h
theorem fM {α:Type} (p:α→Bool) (l:List α) (h:∀ x∈l,p x=false):l.filter p=[]:=List.filter_eq_nil_iff.2 fun x hx=>by rw [h x hx]; decide
theorem SX (A B:List Ent) (k:Int) (v:ByteArray) (hA:∀ e∈A,e.1 < k) (hB:∀ e∈B,k < e.1):aU k v (A ++ B)=A ++ (k,v) :: B:=by
 unfold aU;rw [List.filter_append,List.filter_append,fI _ A (fun e he=>decide_eq_true (hA e he)),fM _ B (fun e he=>decide_eq_false (by have:=hB e he; omega)),fM _ A (fun e he=>decide_eq_false (by have:=hA e he; omega)),fI _ B (fun e he=>decide_eq_true (hB e he))];simp
theorem SW (A B:List Ent) (k:Int) (x v:ByteArray) (hA:∀ e∈A,e.1 < k) (hB:∀ e∈B,k < e.1):aU k v (A ++ (k,x) :: B)=A ++ (k,v) :: B:=by
 unfold aU;rw [List.filter_append,List.filter_append,fI _ A (fun e he=>decide_eq_true (hA e he)),fM _ A (fun e he=>decide_eq_false (by have:=hA e he; omega)),List.filter_cons_of_neg (by simp),List.filter_cons_of_neg (by simp),fM _ B (fun e he=>decide_eq_false (by have:=hB e he; omega)),fI _ B (fun e he=>decide_eq_true (hB e he))];simp
theorem aCE (A B:List Ent) (k:Int) (x:ByteArray) (hA:∀ e∈A,e.1 < k) (hB:∀ e∈B,k < e.1):aCF k (A ++ (k,x) :: B)=A ++ B:=by
 unfold aCF;rw [List.filter_append,fI _ A (fun e he=>decide_eq_true (by have:=hA e he; omega)),List.filter_cons_of_neg (by simp),fI _ B (fun e he=>decide_eq_true (by have:=hB e he; omega))]
theorem NH (m:List Ent) (k:Int) (h:∀ e∈m,e.1≠k):cU k m=none:=by
 unfold cU;rw [List.find?_eq_none.2 (fun e he=>by simpa using h e he)]
 rfl
theorem TL (A B:List Ent) (k:Int) (x:ByteArray) (hA:∀ e∈A,e.1 < k):cU k (A ++ (k,x) :: B)=some x:=by
 unfold cU;rw [List.find?_append,List.find?_eq_none.2 (fun e he=>by have:=hA e he; simp; omega)];simp
theorem ZX (key:Int):∀ (K:List Int) (i:Nat),K.Pairwise (· < ·)→∃ q,
  (dS true key K i=(i + q,true)∧q < K.length∧K[q]?=some key∧(∀ x∈K.take q,x < key)∧∀ x∈K.drop (q + 1),key < x) ∨
  (dS true key K i=(i + q,false)∧q≤K.length∧(∀ x∈K.take q,x < key)∧∀ x∈K.drop q,key < x):=by
 intro K
 induction K with
 | nil=>exact fun i _=>⟨0,.inr ⟨rfl,Nat.le_refl _,by simp,by simp⟩⟩
 | cons k r ih =>
  intro i hp;obtain ⟨hp1,hp2⟩:=List.pairwise_cons.1 hp;unfold dS
  by_cases h1:k=key
  ·subst h1
   exact ⟨0,.inl ⟨by simp,by simp,by simp,by simp,by simpa using hp1⟩⟩
  ·rw [if_neg (by simp [h1])]
   by_cases h2:key < k
   ·rw [if_pos h2]
    refine ⟨0,.inr ⟨rfl,Nat.zero_le _,by simp,?_⟩⟩;intro x hx;simp only [List.drop_zero,List.mem_cons] at hx
    rcases hx with rfl | hx
    ·exact h2
    ·have:=hp1 x hx; omega
   ·rw [if_neg h2]
    obtain ⟨q,hq⟩:=ih (i + 1) hp2;refine ⟨q + 1,?_⟩
    rcases hq with ⟨a,b,c,d,e⟩ | ⟨a,b,d,e⟩
    ·refine .inl ⟨by rw [a]; simp; omega,by simp; omega,by simpa using c,?_,by simpa using e⟩
     intro x hx;simp only [List.take_succ_cons,List.mem_cons] at hx
     rcases hx with rfl | hx
     ·omega
     ·exact d x hx
    ·refine .inr ⟨by rw [a]; simp; omega,by simp; omega,?_,by simpa using e⟩
     intro x hx;simp only [List.take_succ_cons,List.mem_cons] at hx
     rcases hx with rfl | hx
     ·omega
     ·exact d x hx
theorem ZY (key:Int):∀ (K:List Int) (i:Nat),K.Pairwise (· < ·)→∃ q,dS false key K i=(i + q,true)∧q≤K.length∧(∀ x∈K.take q,x≤key)∧∀ x∈K.drop q,key < x:=by
 intro K
 induction K with
 | nil=>exact fun i _=>⟨0,rfl,Nat.le_refl _,by simp,by simp⟩
 | cons k r ih =>
  intro i hp;obtain ⟨hp1,hp2⟩:=List.pairwise_cons.1 hp;unfold dS;rw [if_neg (by simp)]
  by_cases h2:key < k
  ·rw [if_pos h2]
   refine ⟨0,rfl,Nat.zero_le _,by simp,?_⟩;intro x hx;simp only [List.drop_zero,List.mem_cons] at hx
   rcases hx with rfl | hx
   ·exact h2
   ·have:=hp1 x hx; omega
  ·rw [if_neg h2]
   obtain ⟨q,a,b,d,e⟩:=ih (i + 1) hp2;refine ⟨q + 1,by rw [a]; simp; omega,by simp; omega,?_,by simpa using e⟩;intro x hx;simp only [List.take_succ_cons,List.mem_cons] at hx
   rcases hx with rfl | hx
   ·omega
   ·exact d x hx
theorem rZ {R:Int→Option Nod} {N:Nod} {F:List Mk} {P:List Int} (ht:gM R 0 N F P) (hs:bQ F) (key:Int) :
  ∃ (i:Nat) (X Y:List Mk),(∀ m∈X,dQ m < 2 * key + 1)∧(∀ m∈Y,2 * key + 1 < dQ m) ∧
   ((∃ old,bI N key=(i,true)∧i < N.K.length∧N.V[i]?=some old∧F=X ++ (key,some old) :: Y ∧
     (∀ v,gM R 0 (eO N key v) (X ++ (key,some v) :: Y) [])∧gM R 0 (wW N i) (X ++ Y) []) ∨
    (bI N key=(i,false)∧F=X ++ Y∧∀ v,gM R 0 (eO N key v) (X ++ (key,some v) :: Y) [])):=by
 have hw:=iG ht;have hr:=fS ht hs;obtain ⟨h1,h2,h3,h4,h5⟩:=ht;have hf:bI N key=dS true key N.K 0:=by unfold bI; rw [if_pos hw,h1]
 have hput:∀ v,eO N key v={ leaf:=true,K:=N.K.take (bI N key).1 ++ [key] ++ N.K.drop ((bI N key).1 + (if (bI N key).2 then 1 else 0)),V:=N.V.take (bI N key).1 ++ [v] ++ N.V.drop ((bI N key).1 + (if (bI N key).2 then 1 else 0)),C:=[] }:=by
  intro v; unfold eO; rw [if_pos (by rw [h1,hw]; rfl)]
 have lt:∀ j,(N.V.take j).length=(N.K.take j).length:=fun j=>by simp [h2]
 have ld:∀ j,(N.V.drop j).length=(N.K.drop j).length:=fun j=>by simp [h2]
 have small:∀ q,(∀ x∈N.K.take q,x < key)→∀ m∈cI (N.K.take q) (N.V.take q),dQ m < 2 * key + 1:=by
  intro q hq m hm;obtain ⟨v,e,hk,_⟩:=jM hm;have:=hq _ hk;unfold dQ; rw [e]; simp; omega
 have great:∀ q,(∀ x∈N.K.drop q,key < x)→∀ m∈cI (N.K.drop q) (N.V.drop q),2 * key + 1 < dQ m:=by
  intro q hq m hm;obtain ⟨v,e,hk,_⟩:=jM hm;have:=hq _ hk;unfold dQ; rw [e]; simp; omega
 have pY:∀ q d v,cI (N.K.take q ++ [key] ++ N.K.drop d) (N.V.take q ++ [v] ++ N.V.drop d)=cI (N.K.take q) (N.V.take q) ++ (key,some v) :: cI (N.K.drop d) (N.V.drop d):=by
  intro q d v;rw [List.append_assoc,List.append_assoc,fX _ _ _ _ (lt q)]
  rfl
 obtain ⟨q,hq⟩:=ZX key N.K 0 hr
 rcases hq with ⟨a,b,c,d,e⟩ | ⟨a,b,d,e⟩
 ·have hq2:bI N key=(q,true):=by rw [hf,a]; simp
  have hv:q < N.V.length:=by omega
  refine ⟨q,cI (N.K.take q) (N.V.take q),cI (N.K.drop (q + 1)) (N.V.drop (q + 1)),small q d,great (q + 1) e,.inl ⟨N.V[q],hq2,b,List.getElem?_eq_getElem hv,?_,?_,?_⟩⟩
  ·rw [h4]
   have ek:N.K=N.K.take q ++ (key :: N.K.drop (q + 1)):=by
    obtain ⟨hb,hc⟩:=List.getElem?_eq_some_iff.1 c;rw [← hc,← List.drop_eq_getElem_cons hb,List.take_append_drop]
   have ev:N.V=N.V.take q ++ (N.V[q] :: N.V.drop (q + 1)):=by
    rw [← List.drop_eq_getElem_cons hv,List.take_append_drop]
   have:=fX (N.K.take q) (N.V.take q) (key :: N.K.drop (q + 1)) (N.V[q] :: N.V.drop (q + 1)) (lt q);rw [← ek,← ev] at this;rw [this]; rfl
  ·intro v
   rw [hput v,hq2];refine ⟨rfl,by simp [h2],rfl,?_,rfl⟩;simp only [if_true];exact (pY q (q + 1) v).symm
  ·refine ⟨rfl,by simp [wW,h2],rfl,?_,rfl⟩
   show _=cI (N.K.take q ++ N.K.drop (q + 1)) (N.V.take q ++ N.V.drop (q + 1))
   rw [fX _ _ _ _ (lt q)]
 ·have hq2:bI N key=(q,false):=by rw [hf,a]; simp
  refine ⟨q,cI (N.K.take q) (N.V.take q),cI (N.K.drop q) (N.V.drop q),small q d,great q e,.inr ⟨hq2,?_,?_⟩⟩
  ·rw [h4,← fX _ _ _ _ (lt q),List.take_append_drop,List.take_append_drop]
  ·intro v
   rw [hput v,hq2];refine ⟨rfl,by simp [h2],rfl,?_,rfl⟩;simp only [Bool.false_eq_true,if_false,Nat.add_zero];exact (pY q q v).symm
structure aZ where
 page:Int
 N:Nod
 KA:List Int
 KB:List Int
 A:List Kid
 B:List Kid
structure FrameOk (R:Int→Option Nod) (h:Nat) (f:aZ):Prop where
 a:f.A.length=f.KA.length
 b:f.B.length=f.KB.length
 lf:f.N.leaf=false
 v:f.N.V=[]
 k:f.N.K=f.KA ++ f.KB
 c:∃ c,f.N.C=kP f.A ++ [c] ++ kP f.B
 ka:∀ q∈f.A,IsT R h q.p q.F q.P
 kb:∀ q∈f.B,IsT R h q.p q.F q.P
 k0:f.N.K≠[]
 r:bX f.N=true
 ok:dP f.N
def Ctx (R:Int→Option Nod):List aZ→Nat→List Mk→List Mk→List Int→Prop
 | [],_,FL,FR,PC=>FL=[]∧FR=[]∧PC=[]
 | f :: fs,h,FL,FR,PC=>FrameOk R h f∧∃ FL' FR' PC', Ctx R fs (h + 1) FL' FR' PC'∧FL=FL' ++ dM f.KA f.A∧FR=fY f.KB f.B ++ FR'∧PC=f.page :: (kPs f.A ++ kPs f.B ++ PC')
theorem FrameOk.congr {R R' : Int→Option Nod} {h:Nat} {f:aZ} (hf:FrameOk R h f) (hr:∀ p∈kPs f.A ++ kPs f.B,R' p=R p):FrameOk R' h f :=
 { hf with
  ka:=fun q hq=>uT (hf.ka q hq) fun p hp=>hr p (List.mem_append_left _ (qF.2 ⟨q,hq,hp⟩))
  kb:=fun q hq=>uT (hf.kb q hq) fun p hp=>hr p (List.mem_append_right _ (qF.2 ⟨q,hq,hp⟩)) }
theorem uW {R R' : Int→Option Nod}:∀ (fs:List aZ) {h:Nat} {FL FR:List Mk} {PC:List Int},Ctx R fs h FL FR PC→(∀ p∈PC,R' p=R p)→Ctx R' fs h FL FR PC:=by
 intro fs
 induction fs with
 | nil=>intro h FL FR PC hc _; exact hc
 | cons f fs ih =>
  intro h FL FR PC hc hr;obtain ⟨h1,FL', FR', PC', h2,h3,h4,h5⟩:=hc;exact ⟨h1.congr fun p hp=>hr p (by rw [h5]; exact List.mem_cons_of_mem _ (List.mem_append_left _ hp)),FL', FR', PC', ih h2 (fun p hp=>hr p (by rw [h5]; exact List.mem_cons_of_mem _ (List.mem_append_right _ hp))),h3,h4,h5⟩
theorem UE {R:Int→Option Nod} (hR:∀ p M,R p=some M→bX M=true∧dP M) {fs:List aZ} {h:Nat} {FL FR F:List Mk} {PC PM:List Int} {p:Int} {M:Nod} (hc:Ctx R fs (h + 1) FL FR PC) (hp:R p=some M) (h0:M.K≠[]) (ht:gM R (h + 1) M F PM) (hs:bQ F) (key:Int) :
  ∃ (f:aZ) (q:Kid),f.page=p∧f.N=M∧bI M key=(f.KA.length,true)∧M.C[f.KA.length]?=some q.p∧IsT R h q.p q.F q.P ∧
   Ctx R (f :: fs) h (FL ++ dM f.KA f.A) (fY f.KB f.B ++ FR) (p :: (kPs f.A ++ kPs f.B ++ PC))∧F=dM f.KA f.A ++ q.F ++ fY f.KB f.B ∧
   (∀ m∈dM f.KA f.A,dQ m < 2 * key + 1)∧(∀ m∈fY f.KB f.B,2 * key + 1 < dQ m)∧PM=kPs f.A ++ q.P ++ kPs f.B:=by
 have hw:=iG ht;have hr:=fS ht hs;obtain ⟨h1,h2,Q,h3,h4,h5,h6,h7⟩:=fN.1 ht;obtain ⟨i,f1,f2,f3,f4⟩:=ZY key M.K 0 hr;have hf:bI M key=(i,true):=by unfold bI; rw [if_pos hw,h1,f1]; simp
 have hiQ:i < Q.length:=by omega
 have eQ:Q=Q.take i ++ [Q[i]] ++ Q.drop (i + 1):=by
  rw [List.append_assoc,List.singleton_append,← List.drop_eq_getElem_cons hiQ,List.take_append_drop]
 have la:(Q.take i).length=(M.K.take i).length:=by simp; omega
 have lb:(Q.drop (i + 1)).length=(M.K.drop i).length:=by simp; omega
 have li:(M.K.take i).length=i:=by simp; omega
 have eF:F=dM (M.K.take i) (Q.take i) ++ Q[i].F ++ fY (M.K.drop i) (Q.drop (i + 1)):=by
  have:=sF (M.K.take i) [] (M.K.drop i) (Q.take i) [Q[i]] (Q.drop (i + 1)) la rfl lb;rw [List.append_nil,List.take_append_drop,← eQ] at this;rw [h6,this,sE]
 rw [eF,List.append_assoc] at hs;obtain ⟨s1,s2,s3⟩:=aI.1 hs;obtain ⟨s4,s5,s6⟩:=aI.1 s2;obtain ⟨hMr,hMo⟩:=hR p M hp;refine ⟨⟨p,M,M.K.take i,M.K.drop i,Q.take i,Q.drop (i + 1)⟩,Q[i],rfl,rfl,by rw [li]; exact hf,?_,h5 _ (List.getElem_mem hiQ),⟨⟨la,lb,h1,h2,(List.take_append_drop i M.K).symm,⟨Q[i].p,?_⟩,fun q hq=>h5 q (List.mem_of_mem_take hq),fun q hq=>h5 q (List.mem_of_mem_drop hq),h0,hMr,hMo⟩,FL,FR,PC,hc,rfl,rfl,rfl⟩,eF,?_,?_,?_⟩
 ·show M.C[(M.K.take i).length]?=_
  rw [li,h3]; unfold kP; rw [List.getElem?_map,List.getElem?_eq_getElem hiQ]; rfl
 ·show M.C=kP (Q.take i) ++ [Q[i].p] ++ kP (Q.drop (i + 1))
  rw [h3]
  conv=>lhs; rw [eQ]
  rw [mD,mD]; rfl
 ·intro m hm
  show dQ m < 2 * key + 1
  rcases hk:(M.K.take i).getLast? with _ | k
  ·have:M.K.take i=[]:=List.getLast?_eq_none_iff.1 hk
   have e:dM (M.K.take i) (Q.take i)=[]:=by rw [this]; rfl
   have hm' : m∈dM (M.K.take i) (Q.take i):=hm;rw [e] at hm'; cases hm'
  ·have hkm:=List.mem_of_getLast? hk
   have hle:=f3 k hkm;obtain ⟨X,hX⟩:=List.getLast?_eq_some_iff.1 hk;have hXl:X.length + 1=i:=by have e:=congrArg List.length hX; rw [li,List.length_append] at e; simpa using e.symm
   obtain ⟨Y,q,hY⟩:∃ Y q,Q.take i=Y ++ [q]:=by
    cases hq:(Q.take i).reverse with
    | nil=>have e:=congrArg List.length hq; rw [List.length_reverse,la,li,List.length_nil] at e; omega
    | cons q Y=>exact ⟨Y.reverse,q,by simpa using congrArg List.reverse hq⟩
   have hYl:Y.length=X.length:=by have e:=congrArg List.length hY; rw [la,li,List.length_append,List.length_singleton] at e; omega
   have eL:dM (M.K.take i) (Q.take i)=dM X Y ++ (q.F ++ [(k,none)]):=by
    rw [hX,hY];unfold dM;rw [List.zipWith_append hYl.symm];simp
   have hm' : m∈dM (M.K.take i) (Q.take i):=hm;rw [eL] at hm' s1;rw [← List.append_assoc] at hm' s1;obtain ⟨_,_,t3⟩:=aI.1 s1
   rcases List.mem_append.1 hm' with hx | hx
   ·have:=t3 m hx (k,none) (by simp)
    rw [iB] at this; omega
   ·simp only [List.mem_singleton] at hx
    subst hx; rw [iB]; omega
 ·intro m hm
  show 2 * key + 1 < dQ m
  have hm' : m∈fY (M.K.drop i) (Q.drop (i + 1)):=hm;clear hm
  cases hkk:M.K.drop i with
  | nil=>rw [hkk] at hm'; cases hm'
  | cons k Kr =>
   have hlt:=f4 k (by rw [hkk]; simp);rw [hkk] at hm' s5 lb
   cases hqq:Q.drop (i + 1) with
   | nil=>rw [hqq] at lb; simp at lb
   | cons q Qr =>
    rw [hqq,pU] at hm' s5
    rcases List.mem_cons.1 hm' with rfl | hx
    ·rw [iB]; omega
    ·have:=(eM.1 s5).1 m hx
     rw [iB] at this; omega
 ·show PM=kPs (Q.take i) ++ Q[i].P ++ kPs (Q.drop (i + 1))
  rw [h7]
  conv=>lhs; rw [eQ]
  rw [eG,eG,sC]; simp [kPs]
theorem TP {R:Int→Option Nod} {h:Nat} {f:aZ} (hf:FrameOk R h f) (KM:List Int) (QM:List Kid) (hl:QM.length=KM.length + 1) (hq:∀ q∈QM,IsT R h q.p q.F q.P) (N:Nod) (h1:N.leaf=false) (h2:N.V=[]) (h3:N.K=f.KA ++ KM ++ f.KB) (h4:N.C=kP f.A ++ kP QM ++ kP f.B) :
  gM R (h + 1) N (dM f.KA f.A ++ bF KM QM ++ fY f.KB f.B) (kPs f.A ++ kPs QM ++ kPs f.B):=by
 refine fN.2 ⟨h1,h2,f.A ++ QM ++ f.B,?_,?_,?_,?_,?_⟩
 ·rw [h4,mD,mD]
 ·rw [h3]; simp only [List.length_append]; have:=hf.a; have:=hf.b; omega
 ·intro q hm
  rcases List.mem_append.1 hm with hm | hm
  ·rcases List.mem_append.1 hm with hm | hm
   ·exact hf.ka q hm
   ·exact hq q hm
  ·exact hf.kb q hm
 ·rw [h3,sF _ _ _ _ _ _ hf.a hl hf.b]
 ·rw [eG,eG]
theorem GS {α:Type} {l:List α} {c:Nat} (h1:1≤c) (h2:1≤l.length):l.take c≠[]:=by
 intro e;have e2:=congrArg List.length e;rw [List.length_take,List.length_nil] at e2;omega
theorem tO {α:Type} {l:List α} {c:Nat} (h:c < l.length):l.drop c≠[]:=by
 intro e;have e2:=congrArg List.length e;rw [List.length_drop,List.length_nil] at e2;omega
theorem pE (V:List ByteArray) (k:Nat) (h:k < V.length):bN (V.take (k + 1))=bN (V.take k) + V[k].size:=by
 rw [List.take_add_one,fC,List.getElem?_eq_getElem h];simp [bN]
theorem nD (n:Nod) (k:Nat) (hw:bH n=true) (hk:k < n.K.length):aL (aO n (k + 1))=aL (aO n k) + eZ n k:=by
 cases hl:n.leaf with
 | true =>
  have hv:=(bJ hl).1 hw;have:=pE n.V k (by omega);unfold aO eZ aL;simp only [hl,if_true];rw [this,List.length_take,List.length_take,List.getD_eq_getElem?_getD,List.getElem?_eq_getElem (by omega)];simp only [Option.getD_some];omega
 | false =>
  have hv:=(aW hl).1 hw;unfold aO eZ aL;simp only [hl,Bool.false_eq_true,if_false];rw [List.length_take,List.length_take,List.length_take,List.length_take];omega
theorem pO (n:Nod) (k:Nat) (hv:∀ v∈n.V,v.size≤40):eZ n k≤49:=by
 unfold eZ
 split
 ·rw [List.getD_eq_getElem?_getD]
  cases h:n.V[k]? with
  | none=>simp
  | some v=>have:=hv v (List.mem_of_getElem? h); simp; omega
 ·omega
theorem CW (n:Nod) (k:Nat) (hw:bH n=true) (hk:k < n.K.length):aL (aO n k) + aL (aV n k)≤aL n + 1:=by
 cases hl:n.leaf with
 | true =>
  have hv:=(bJ hl).1 hw;have:=oR n.V k;unfold aO aV aL;simp only [hl,if_true];rw [List.length_take,List.length_drop];omega
 | false =>
  have hv:=(aW hl).1 hw;unfold aO aV aL;simp only [hl,Bool.false_eq_true,if_false];rw [List.length_take,List.length_take,List.length_drop,List.length_drop];omega
theorem vZ (n:Nod) (half:Nat) (hw:bH n=true) (hv:∀ v∈n.V,v.size≤40):∀ f k,k + f≤n.K.length→∀ c,eT n half f k (aL (aO n k))=c→(half≤aL (aO n c)∨c=k + f)∧(c=k∨aL (aO n c) < half + 49):=by
 intro f
 induction f with
 | zero=>intro k hk c hc; unfold eT at hc; subst hc; exact ⟨.inr rfl,.inl rfl⟩
 | succ f ih =>
  intro k hk c hc;unfold eT at hc
  by_cases h:half≤aL (aO n k)
  ·rw [if_pos h] at hc; subst hc; exact ⟨.inl h,.inl rfl⟩
  ·rw [if_neg h,← nD n k hw (by omega)] at hc
   have:=ih (k + 1) (by omega) c hc;refine ⟨this.1.imp id (by omega),.inr ?_⟩
   rcases this.2 with rfl | hx
   ·have h1:=nD n k hw (by omega)
    have h2:=pO n k hv;omega
   ·exact hx
theorem FM (l:List ByteArray) (m:Nat) (h:∀ v∈l,v.size≤m) (h1:l.length≤1):bN l≤m:=by
 have:=mJ l m h;have h2:l.length * m≤1 * m:=Nat.mul_le_mul_right _ h1;omega
theorem OB (n:Nod) (hw:bH n=true) (hv:∀ v∈n.V,v.size≤40) (hl:cC n.leaf≤n.K.length) (hz:aL n≤320):aL (aO n (cP n))≤240∧aL (aV n (cP n))≤240:=by
 have hc:=vY n;have hm:jK n=n.K.length - cC n.leaf + 1:=rfl;have h2:2≤cC n.leaf:=by unfold cC; split <;> omega
 obtain ⟨s1,s2⟩:=vZ n (aL n / 2) hw hv (jK n - 1) 1 (by omega) (cP n) rfl;have hp:=CW n (cP n) hw (by omega);constructor
 ·rcases s2 with h | h
  ·rw [h]
   have ha:=nD n 0 hw (by omega);have hs:=pO n 0 hv
   have h0:aL (aO n 0)≤3:=by
    unfold aO aL
    split
    ·simp [bN]
    ·simp only [Bool.false_eq_true,if_false,List.length_take]; simp; omega
   simp only [Nat.zero_add] at ha;omega
  ·omega
 ·rcases s1 with h | h
  ·omega
  ·have hB:(aV n (cP n)).K.length≤1:=by
    unfold aV cC at *
    cases hlf:n.leaf with
    | true=>rw [hlf] at hl hm; simp at hl hm ⊢; omega
    | false=>rw [hlf] at hl hm; simp at hl hm ⊢; omega
   cases hlf:n.leaf with
   | true =>
    have hwl:=(bJ hlf).1 hw;have e:aV n (cP n)={ leaf:=true,K:=n.K.drop (cP n),V:=n.V.drop (cP n),C:=[] }:=by unfold aV; rw [hlf]; rfl
    rw [e] at hB ⊢;have hb:=FM (n.V.drop (cP n)) 40 (fun v hx=>hv v (List.mem_of_mem_drop hx)) (by simp at hB ⊢; omega);unfold aL;simp only [if_true];simp only at hB;omega
   | false =>
    have hwl:=(aW hlf).1 hw;have e:aV n (cP n)={ leaf:=false,K:=n.K.drop (cP n + 1),V:=[],C:=n.C.drop (cP n + 1) }:=by unfold aV; rw [hlf]; rfl
    rw [e] at hB ⊢;unfold aL;simp only [Bool.false_eq_true,if_false];simp only [List.length_drop] at hB ⊢;omega
theorem PW {X Y Z:List Mk} {k:Int} {v:ByteArray} (hs:bQ (X ++ Y ++ (k,some v) :: Z)) (hY:Y≠[]) (he:∀ m∈Y,m.2.isSome=true):bQ (X ++ (Y ++ (k,none) :: (k,some v) :: Z)):=by
 obtain ⟨s1,s2,s3⟩:=aI.1 hs
 have hy:∀ a∈Y,dQ a < 2 * k:=by
  intro a ha;have:=s3 a (by simp [ha]) (k,some v) (by simp);rw [fV] at this;have h1:=he a ha;unfold dQ at this ⊢;rw [h1] at this ⊢;simp at this ⊢;omega
 have hx:∀ a∈X,dQ a < 2 * k:=by
  intro a ha;obtain ⟨y,hm⟩:=List.exists_mem_of_ne_nil Y hY;have h1:=(aI.1 s1).2.2 a ha y hm;have h2:=hy y hm;omega
 rw [← List.append_assoc];refine aI.2 ⟨s1,eM.2 ⟨fun b hb=>?_,s2⟩,fun a ha b hb=>?_⟩
 ·rw [iB]
  rcases List.mem_cons.1 hb with rfl | hb
  ·rw [fV]; omega
  ·have:=(eM.1 s2).1 b hb
   rw [fV] at this; omega
 ·have hak:dQ a < 2 * k:=by
   rcases List.mem_append.1 ha with h | h
   ·exact hx a h
   ·exact hy a h
  rcases List.mem_cons.1 hb with rfl | hb
  ·rw [iB]; exact hak
  ·rcases List.mem_cons.1 hb with rfl | hb
   ·rw [fV]; omega
   ·exact s3 a ha b (by simp [hb])
theorem vB {R:Int→Option Nod} {h:Nat} {N:Nod} {F:List Mk} {P:List Int} (ht:gM R h N F P) (hl:cC N.leaf≤N.K.length) :
  ∃ mid FA FB PA PB,N.K[cP N]?=some mid∧gM R h (aO N (cP N)) FA PA∧gM R h (aV N (cP N)) FB PB∧(aO N (cP N)).K≠[]∧(aV N (cP N)).K≠[]∧P=PA ++ PB ∧
   aE (FA ++ (mid,none) :: FB)=aE F∧∀ X Y,bQ (X ++ F ++ Y)→bQ (X ++ (FA ++ (mid,none) :: FB) ++ Y):=by
 have hc:=vY N;have hm:jK N=N.K.length - cC N.leaf + 1:=rfl;have h2:2≤cC N.leaf∧(N.leaf=false→3≤cC N.leaf):=by unfold cC; cases N.leaf <;> simp
 have hcl:cP N < N.K.length:=by omega
 generalize hcc:cP N=c at *
 cases h with
 | zero =>
  obtain ⟨h1,h3,h4,h5,h6⟩:=ht;have eA:aO N c={ leaf:=true,K:=N.K.take c,V:=N.V.take c,C:=[] }:=by unfold aO; rw [h1]; rfl
  have eB:aV N c={ leaf:=true,K:=N.K.drop c,V:=N.V.drop c,C:=[] }:=by unfold aV; rw [h1]; rfl
  rw [eA,eB];have lt:(N.V.take c).length=(N.K.take c).length:=by simp [h3]
  have eF:F=cI (N.K.take c) (N.V.take c) ++ cI (N.K.drop c) (N.V.drop c):=by
   rw [h5,← fX _ _ _ _ lt,List.take_append_drop,List.take_append_drop]
  have hv:c < N.V.length:=by omega
  have eD:cI (N.K.drop c) (N.V.drop c)=(N.K[c],some N.V[c]) :: cI (N.K.drop (c + 1)) (N.V.drop (c + 1)):=by
   rw [List.drop_eq_getElem_cons hcl,List.drop_eq_getElem_cons hv]; rfl
  refine ⟨N.K[c],cI (N.K.take c) (N.V.take c),cI (N.K.drop c) (N.V.drop c),[],[],List.getElem?_eq_getElem hcl,⟨rfl,lt,rfl,rfl,rfl⟩,⟨rfl,by simp [h3],rfl,rfl,rfl⟩,?_,?_,h6,?_,fun X Y hs=>?_⟩
  ·exact GS hc.1 (by omega)
  ·exact tO hcl
  ·rw [eF,bM,bM,mF]
  ·rw [eF,eD,List.append_assoc,List.append_assoc,← List.append_assoc X] at hs
   have hne:cI (N.K.take c) (N.V.take c)≠[]:=by
    intro e;have:=congrArg List.length (sB _ _ lt);rw [e] at this; simp at this; omega
   have:=PW (X:=X) (Y:=cI (N.K.take c) (N.V.take c)) (Z:=cI (N.K.drop (c + 1)) (N.V.drop (c + 1)) ++ Y) hs hne (fun m hm=>by obtain ⟨v,e,_⟩:=jM hm; rw [e]; rfl);rw [eD]
   simpa using this
 | succ h =>
  obtain ⟨h1,h3,Q,h4,h5,h6,h7,h8⟩:=fN.1 ht;have h33:=h2.2 h1;have eA:aO N c={ leaf:=false,K:=N.K.take c,V:=[],C:=N.C.take (c + 1) }:=by unfold aO; rw [h1]; rfl
  have eB:aV N c={ leaf:=false,K:=N.K.drop (c + 1),V:=[],C:=N.C.drop (c + 1) }:=by unfold aV; rw [h1]; rfl
  rw [eA,eB];have lA:(Q.take (c + 1)).length=(N.K.take c).length + 1:=by simp; omega
  have lB:(Q.drop (c + 1)).length=(N.K.drop (c + 1)).length + 1:=by simp; omega
  have eF:bF N.K Q=bF (N.K.take c) (Q.take (c + 1)) ++ (N.K[c],none) :: bF (N.K.drop (c + 1)) (Q.drop (c + 1)):=by
   have eK:N.K=(N.K.take c ++ [N.K[c]]) ++ N.K.drop (c + 1):=by
    rw [List.append_assoc,List.singleton_append,← List.drop_eq_getElem_cons hcl,List.take_append_drop]
   have eQ:Q=Q.take (c + 1) ++ Q.drop (c + 1):=(List.take_append_drop _ _).symm;have hQd:Q.drop (c + 1)≠[]:=by intro e; have:=congrArg List.length e; simp at this; omega
   have e1:=lI (N.K.take c ++ [N.K[c]]) (Q.take (c + 1)) (N.K.drop (c + 1)) (Q.drop (c + 1)) (by rw [lA,List.length_append,List.length_singleton]) hQd;rw [← eK,← eQ] at e1;rw [e1]
   obtain ⟨X,q,hX⟩:∃ X q,Q.take (c + 1)=X ++ [q]:=by
    cases hq:(Q.take (c + 1)).reverse with
    | nil=>have e:=congrArg List.length hq; rw [List.length_reverse,lA,List.length_nil] at e; omega
    | cons q Y=>exact ⟨Y.reverse,q,by simpa using congrArg List.reverse hq⟩
   have hXl:X.length=(N.K.take c).length:=by have e:=congrArg List.length hX; rw [lA,List.length_append,List.length_singleton] at e; omega
   rw [hX];have e2:=lI (N.K.take c) X [] [q] hXl (by simp);rw [List.append_nil] at e2;rw [e2,sE];unfold dM;rw [List.zipWith_append (by omega)];simp
  refine ⟨N.K[c],bF (N.K.take c) (Q.take (c + 1)),bF (N.K.drop (c + 1)) (Q.drop (c + 1)),kPs (Q.take (c + 1)),kPs (Q.drop (c + 1)),List.getElem?_eq_getElem hcl,?_,?_,?_,?_,?_,?_,fun X Y hs=>?_⟩
  ·exact fN.2 ⟨rfl,rfl,Q.take (c + 1),by show N.C.take (c + 1)=_; rw [h4]; simp [kP,List.map_take],lA,fun q hq=>h6 q (List.mem_of_mem_take hq),rfl,rfl⟩
  ·exact fN.2 ⟨rfl,rfl,Q.drop (c + 1),by show N.C.drop (c + 1)=_; rw [h4]; simp [kP,List.map_drop],lB,fun q hq=>h6 q (List.mem_of_mem_drop hq),rfl,rfl⟩
  ·exact GS hc.1 (by omega)
  ·exact tO (by omega)
  ·rw [h8,← eG,List.take_append_drop]
  ·rw [h7,eF]
  ·rw [h7,eF] at hs; exact hs
structure Frm (F:Nat→Prop) (w w' : World):Prop where
 os:w'.os=w.os
 tape:w'.tape=w.tape
 output:w'.output=w.output
 size:w.heap.size≤w'.heap.size
 block:∀ k,k < w.heap.size→¬ F k→w'.heap[k]?=w.heap[k]?
theorem Frm.refl (F:Nat→Prop) (w:World):Frm F w w:=⟨rfl,rfl,rfl,Nat.le_refl _,fun _ _ _=>rfl⟩
theorem Frm.trans {F G:Nat→Prop} {a b c:World} (h:Frm F a b) (k:Frm G b c) (hG:∀ i,G i→F i∨a.heap.size≤i):Frm F a c :=
 ⟨k.os.trans h.os,k.tape.trans h.tape,k.output.trans h.output,Nat.le_trans h.size k.size,fun i hi hf=>by
  rw [k.block i (Nat.lt_of_lt_of_le hi h.size) (fun hg=>by rcases hG i hg with hx | hx; exact hf hx; omega)];exact h.block i hi hf⟩
theorem Frm.mono {F G:Nat→Prop} {a b:World} (h:Frm F a b) (hG:∀ i,F i→G i):Frm G a b :=
 ⟨h.os,h.tape,h.output,h.size,fun i hi hf=>h.block i hi fun hx=>hf (hG i hx)⟩
theorem Frm.of_below {F:Nat→Prop} {a b:World} (h:Below a.heap.size a b):Frm F a b:=⟨h.os,h.tape,h.output,h.size,fun i hi _=>h.block i hi⟩
theorem Frm.below {F:Nat→Prop} {B:Nat} {a b:World} (h:Frm F a b) (hF:∀ i,F i→B≤i) (hB:B≤a.heap.size):Below B a b :=
 ⟨h.os,h.tape,h.output,h.size,fun i hi=>h.block i (by omega) fun hx=>by have:=hF i hx; omega⟩
theorem Frm.drew {F:Nat→Prop} {a w:World} (h:Frm F a w):Frm F a w.drew:=⟨h.os,h.tape,h.output,h.size,h.block⟩
theorem Frm.alloc {F:Nat→Prop} {a w:World} (h:Frm F a w) (o:Obj):Frm F a (w.alloc o) :=
 h.trans (G:=fun _=>False) (Frm.of_below (Br.alloc (Nat.le_refl _) o)) fun _ hx=>hx.elim
theorem Frm.setCell {F:Nat→Prop} {a w:World} (h:Frm F a w) (p:Addr) (u:Value) (hp:F p.block∨a.heap.size≤p.block):Frm F a (w.setCell p u) :=
 h.trans (G:=fun i=>i=p.block) ⟨rfl,rfl,rfl,by simp [World.setCell],fun k _ hk=>Below.heap_setCell _ _ _ _ hk⟩ fun i hi=>by subst hi; exact hp
theorem Frm.setObj {F:Nat→Prop} {a w:World} (h:Frm F a w) (r:Nat) (o:Obj) (hp:F r∨a.heap.size≤r):Frm F a { w with heap:=w.heap.setIfInBounds r o } :=
 h.trans (G:=fun i=>i=r) ⟨rfl,rfl,rfl,by simp,fun k _ hk=>by
  show (w.heap.setIfInBounds r o)[k]?=_
  rw [Array.getElem?_setIfInBounds_ne (Ne.symm hk)]⟩ fun i hi=>by subst hi; exact hp
theorem Frm.setRow {F:Nat→Prop} {a w:World} (h:Frm F a w) (g:Nat) (cs:Array Value) (hp:F g∨a.heap.size≤g):Frm F a (w.setRow g cs) :=
 h.trans (G:=fun i=>i=g) ⟨rfl,rfl,rfl,by simp,fun k _ hk=>setRow_other w g k cs hk⟩ fun i hi=>by subst hi; exact hp
theorem Frm.grown {F:Nat→Prop} {a w w' : World} {row:Option Nat} (h:Frm F a w) (hg:w.grownBy w' row) (hr:∀ k,row=some k→F k∨a.heap.size≤k):Frm F a w' :=
 h.trans (G:=fun i=>row=some i) ⟨hg.os,hg.tape,hg.output,hg.size,fun k hk hne=>hg.block k hk fun e=>hne e.symm⟩ hr
def aCR (L:List (Nat × Value)) (es:Array MapEntry):Prop:=es.toList.map (fun e=>(e.key,e.val))=L.map (fun p=>(Value.int .i64 (p.1:Int),p.2))
def MapI (w:World) (m:Nat) (L:List (Nat × Value)):Prop:=∃ es clock,w.heap[m]?=some (.map es clock)∧aCR L es
theorem MapI.lt {w:World} {m:Nat} {L:List (Nat × Value)} (h:MapI w m L):m < w.heap.size:=by
 obtain ⟨es,c,hb,_⟩:=h;exact (zl hb)
theorem MapI.kept {w w' : World} {m:Nat} {L:List (Nat × Value)} (h:MapI w m L) (e:w'.heap[m]?=w.heap[m]?):MapI w' m L:=by
 obtain ⟨es,c,hb,he⟩:=h;exact ⟨es,c,e.trans hb,he⟩
def d64:TypeDesc:=.int .i64
theorem nC (n:Nat):∀ (l:List MapEntry) (L:List (Nat × Value)) (i:Nat),l.map (fun e=>(e.key,e.val))=L.map (fun p=>(Value.int .i64 (p.1:Int),p.2))→(∀ p∈L,p.1≠n)→Instr.findNow d64 (.int .i64 (n:Int)) l i=some none
 | [],_,_,_,_=>rfl
 | e :: l,[],_,h,_=>by simp at h
 | e :: l,p :: L,i,h,hn=>by
  simp only [List.map_cons,List.cons.injEq,Prod.mk.injEq] at h;have hne:p.1≠n:=hn p (List.mem_cons_self ..)
  have hs:Instr.sameNow d64 (.int .i64 (n:Int)) e.key=some false:=by
   rw [h.1.1];simp only [Instr.sameNow,d64,if_true]
   congr 1
   rw [beq_eq_false_iff_ne];intro hc;exact hne (by omega)
  simp only [Instr.findNow,hs];exact nC n l L (i + 1) h.2 fun q hq=>hn q (List.mem_cons_of_mem _ hq)
theorem pW (n:Nat) (v:Value):∀ (l:List MapEntry) (L:List (Nat × Value)) (i:Nat),l.map (fun e=>(e.key,e.val))=L.map (fun p=>(Value.int .i64 (p.1:Int),p.2))→(L.map (·.1)).Nodup→(n,v)∈L→∃ j,Instr.findNow d64 (.int .i64 (n:Int)) l i=some (some (j,v))
 | [],L,_,h,_,hm=>by
  cases L with
  | nil=>cases hm
  | cons p L=>simp at h
 | e :: l,[],_,h,_,hm=>by cases hm
 | e :: l,p :: L,i,h,hd,hm=>by
  simp only [List.map_cons,List.cons.injEq,Prod.mk.injEq] at h;simp only [List.map_cons,List.nodup_cons] at hd
  by_cases hp:p.1=n
  ·have hv:p.2=v:=by
    rcases List.mem_cons.1 hm with e1 | e1
    ·rw [← e1]
    ·exact absurd (List.mem_map.2 ⟨(n,v),e1,rfl⟩:n∈L.map (·.1)) (hp ▸ hd.1)
   refine ⟨i,?_⟩
   have hs:Instr.sameNow d64 (.int .i64 (n:Int)) e.key=some true:=by
    rw [h.1.1,hp];simp [Instr.sameNow,d64]
   simp only [Instr.findNow,hs,h.1.2,hv]
  ·have hs:Instr.sameNow d64 (.int .i64 (n:Int)) e.key=some false:=by
    rw [h.1.1];simp only [Instr.sameNow,d64,if_true]
    congr 1
    rw [beq_eq_false_iff_ne];intro hc;exact hp (by omega)
   obtain ⟨j,hj⟩:=pW n v l L (i + 1) h.2 hd.2 (by
    rcases List.mem_cons.1 hm with e1 | e1
    ·exact absurd (by rw [← e1]) hp
    ·exact e1)
   exact ⟨j,by simp only [Instr.findNow,hs]; exact hj⟩
section
variable {P:Program} {w:World} {m:Nat} {L:List (Nat × Value)} {t k e:TypeId} (ht:P.underlying t=some (.map k e)) (hk:P.underlying k=some (.int .i64))
include ht hk
theorem MR (h:MapI w m L) (n:Nat) (hn:∀ p∈L,p.1≠n) (z:Value) (hz:(zeroValue e).run P w=.ok z w) (ok:Bool) :
  (Instr.lookup t (.map (some m)) (.int .i64 (n:Int)) ok).run P w=.ok (if ok then .tuple #[z,.bool false] else z) w:=by
 obtain ⟨es,c,hb,he⟩:=h;have h1:=MapKept.run_getObj_map (P:=P) hb;have h2:=MapKept.run_checkKey (P:=P) (w:=w) hk (k:=.int .i64 (n:Int)) (by first | rfl | trivial | exact ⟨_,rfl⟩) es.isEmpty 9999;have h3:=MapKept.run_findKey (P:=P) (w:=w) hk (nC n es.toList L 0 he hn)
 cases ok <;> simp [Instr.lookup,run_underlying ht,h1,h2,h3,hz]
theorem DJ (h:MapI w m L) (hd:(L.map (·.1)).Nodup) (n:Nat) (v:Value) (hm:(n,v)∈L) (ok:Bool) :
  (Instr.lookup t (.map (some m)) (.int .i64 (n:Int)) ok).run P w=.ok (if ok then .tuple #[v,.bool true] else v) w:=by
 obtain ⟨es,c,hb,he⟩:=h;have h1:=MapKept.run_getObj_map (P:=P) hb;have h2:=MapKept.run_checkKey (P:=P) (w:=w) hk (k:=.int .i64 (n:Int)) (by first | rfl | trivial | exact ⟨_,rfl⟩) es.isEmpty 9999;obtain ⟨j,hj⟩:=pW n v es.toList L 0 he hd hm;have h3:=MapKept.run_findKey (P:=P) (w:=w) hk hj
 cases ok <;> simp [Instr.lookup,run_underlying ht,h1,h2,h3]
theorem BI (h:MapI w m L) (n:Nat) (hn:∀ p∈L,p.1≠n) (v:Value) :
  ∃ o,(Instr.mapUpdate t (.map (some m)) (.int .i64 (n:Int)) v).run P w=.ok () { w with heap:=w.heap.setIfInBounds m o }∧MapI { w with heap:=w.heap.setIfInBounds m o } m (L ++ [(n,v)]):=by
 obtain ⟨es,c,hb,he⟩:=h;have h1:=MapKept.run_getObj_map (P:=P) hb;have h2:=MapKept.run_checkKey (P:=P) (w:=w) hk (k:=.int .i64 (n:Int)) (by first | rfl | trivial | exact ⟨_,rfl⟩) false 9999;have h3:=MapKept.run_findKey (P:=P) (w:=w) hk (nC n es.toList L 0 he hn);have h4:=MapKept.run_setObj_map (P:=P) (.map (es.push { key:=.int .i64 (n:Int),val:=v,born:=c }) (c + 1)) hb;refine ⟨_,by simp [Instr.mapUpdate,run_underlying ht,h1,h2,h3,h4]; rfl,?_⟩;refine ⟨_,_,(MapKept.heap_set hb).1,?_⟩;unfold aCR at *
 rw [Array.toList_push,List.map_append,he,List.map_append]
 rfl
omit hk in
theorem OD (h:MapI w m L) (ty:TypeId) :
  ∃ o,(Builtin.clear_ #[t] ty #[.map (some m)]).run P w=.ok (.tuple #[]) { w with heap:=w.heap.setIfInBounds m o }∧MapI { w with heap:=w.heap.setIfInBounds m o } m []:=by
 obtain ⟨es,c,hb,he⟩:=h;have h1:=MapKept.run_getObj_map (P:=P) hb;have h4:=MapKept.run_setObj_map (P:=P) (.map #[] c) hb;refine ⟨_,by simp [Builtin.clear_,run_underlying ht,h1,h4]; rfl,?_⟩;exact ⟨_,_,(MapKept.heap_set hb).1,rfl⟩
end
theorem FQ (P:Program) (w:World) (t ty e:TypeId) (i:TypeInfo) (z:Value) (ht:P.underlying t=some (.slice e)) (hi:P.info? e=some i) (hz:i.zero=some z)
  (hsize:i.size=1) (hby:i.bytes=8) (hzs:z.cells.size=1)
  (v:Value) (n:Nat) (xs:List Value) (hown:w.ownsRow 0 e 1 v n xs) (b:Nat) (u:Value) (hu:w.cell? ⟨b,0,none⟩=some u) (h1:u.oneCell'=true) (hn:n≤100000) :
  ∃ v' w' k,(Builtin.append_ #[t,t] ty #[v,.slice (some ⟨b,0,none⟩) 1 1]).run P w=.ok v' w'∧w'.ownsRow 0 e 1 v' (n + 1) (xs ++ [u])∧w.grownBy w' v.ownBlock∧v'.ownBlock=some k∧(v.ownBlock=some k∨k=w.heap.size):=by
 have hnews:∀ j x,[u][j]?=some x→w.cell? ((⟨b,0,none⟩:Addr).add j)=some x:=by
  intro j x hj;rw [fD]
  cases j with
  | zero =>
   rw [hu]
   simpa using hj
  | succ j=>simp at hj
 obtain ⟨v', w', hr,ho,hg,_⟩:=run_append_own (P:=P) w 0 t ty e i z 1 8 ht hi hz hsize hby hzs (by decide) v n xs hown ⟨b,0,none⟩ 1 1 [u] rfl hnews (by simpa using h1) (by simp only [maxLen]; omega) (by omega) (Nat.zero_le _);refine ⟨v', w', ?_⟩
 have hk:∃ k,v'.ownBlock=some k∧(v.ownBlock=some k∨k=w.heap.size):=by
  rcases hown.2 with ⟨rfl,rfl⟩ | ⟨g,cap,cur,rfl,_,hgg,hnc,hcm,hcs,htake⟩
  ·have h2:=run_append_nil (P:=P) w t ty e i z ht hi hz ⟨b,0,none⟩ 1 1 [u] (by rw [hsize]; rfl) hnews (by decide) (by decide) (by omega)
   rw [hr] at h2;injection h2 with h3 h4;exact ⟨w.heap.size,by rw [h3]; rfl,.inr rfl⟩
  ·by_cases hroom:n + 1≤cap
   ·have h2:=run_append_room (P:=P) w t ty e i ht hi g n cap cur hgg ⟨b,0,none⟩ 1 1 [u] (by rw [hsize]; rfl) hnews (by simpa using h1) hroom (by rw [hcs,hsize]; simp; omega)
    rw [hr] at h2;injection h2 with h3 h4;exact ⟨g,by rw [h3]; rfl,.inl rfl⟩
   ·have holds:∀ j x,xs[j]?=some x→w.cell? ((⟨g,0,none⟩:Addr).add j)=some x:=hown.cells (g:=g) rfl
    have h2:=run_append_grow (P:=P) w t ty e i z ht hi hz ⟨g,0,none⟩ n cap xs (by rw [hown.1,hsize]) holds ⟨b,0,none⟩ 1 1 [u] (by rw [hsize]; rfl) hnews (by omega) (by omega) (growslice_fits (by omega) (by rw [hby]; omega));rw [hr] at h2;injection h2 with h3 h4;exact ⟨w.heap.size,by rw [h3]; rfl,.inr rfl⟩
 obtain ⟨k,h1,h2⟩:=hk;exact ⟨k,hr,ho,hg,h1,h2⟩
def lH (n:Int):Value:=.int .i64 n
def nJ:Value:=.agg #[]
def KeysI (es:List MapEntry) (L:List Int):Prop:=es.map (fun e=>(e.key,e.val))=L.map (fun n=>(lH n,nJ))
def SetI (w:World) (m:Nat) (L:List Int):Prop:=∃ es clock,w.heap[m]?=some (.map es clock)∧KeysI es.toList L∧MapKept.Stamped es clock
theorem SetI.lt {w:World} {m:Nat} {L:List Int} (h:SetI w m L):m < w.heap.size:=by
 obtain ⟨es,c,h1,_⟩:=h;exact (zl h1)
theorem SetI.kept {w w' : World} {m:Nat} {L:List Int} (h:SetI w m L) (e:w'.heap[m]?=w.heap[m]?):SetI w' m L:=by
 obtain ⟨es,c,h1,h2⟩:=h;exact ⟨es,c,e.trans h1,h2⟩
theorem KeysI.keys {es:List MapEntry} {L:List Int} (h:KeysI es L):es.map (·.key)=L.map lH:=by
 have:=congrArg (List.map Prod.fst) h
 simpa [List.map_map,Function.comp_def] using this
theorem KeysI.isKey {es:List MapEntry} {L:List Int} (h:KeysI es L):∀ x∈es,MapKept.IsKey (.int .i64) x.key:=by
 intro x hx;have:x.key∈L.map lH:=by rw [← h.keys]; exact List.mem_map.2 ⟨x,hx,rfl⟩
 obtain ⟨n,_,hn⟩:=List.mem_map.1 this;rw [← hn]; rfl
theorem zH {a b:Int} (h:lH a=lH b):a=b:=by injection h
theorem KeysI.mem {es:List MapEntry} {L:List Int} (h:KeysI es L) (k:Int):k∈L ↔ ∃ x∈es,x.key=lH k:=by
 constructor
 ·intro hk
  have:lH k∈es.map (·.key):=by rw [h.keys]; exact List.mem_map.2 ⟨k,hk,rfl⟩
  obtain ⟨x,hx,e⟩:=List.mem_map.1 this;exact ⟨x,hx,e⟩
 ·rintro ⟨x,hx,e⟩
  have:lH k∈L.map lH:=by rw [← h.keys,← e]; exact List.mem_map.2 ⟨x,hx,rfl⟩
  obtain ⟨n,hn,e⟩:=List.mem_map.1 this;rw [← zH e]; exact hn
theorem KeysI.val {es:List MapEntry} {L:List Int} (h:KeysI es L) {x:MapEntry} (hx:x∈es):x.val=nJ:=by
 have:(x.key,x.val)∈L.map (fun n=>(lH n,nJ)):=by rw [← h]; exact List.mem_map.2 ⟨x,hx,rfl⟩
 obtain ⟨n,_,hn⟩:=List.mem_map.1 this;exact (Prod.mk.inj hn).2.symm
def isK (n:Int):Value→Bool
 | .int .i64 x=>decide (x=n)
 | _=>false
theorem IM (n:Int) (v:Value):isK n v=true ↔ v=lH n:=by
 unfold isK lH
 split
 ·simp
 ·rename_i h
  constructor
  ·intro h2; cases h2
  ·intro h2; exact absurd h2 (h n)
theorem DT {n:Int} {v:Value} (h:v≠lH n):isK n v=false:=by
 cases hk:isK n v
 ·rfl
 ·exact absurd ((IM n v).1 hk) h
theorem zJ (n:Int):isK n (lH n)=true:=(IM n _).2 rfl
theorem oM:∀ (l:List MapEntry) (j:Nat) (hj:j < l.length) (n:Int),l[j].key=lH n→l.Pairwise (fun x y=>x.key≠y.key)→l.eraseIdx j=l.filter fun y=>!isK n y.key
 | x :: l,0,hj,n,hx,hp=>by
  have h1:=List.pairwise_cons.1 hp;have h2:x.key=lH n:=hx;rw [List.eraseIdx_cons_zero,List.filter_cons_of_neg (by rw [h2,zJ]; decide),List.filter_eq_self.2];intro y hy;rw [DT (fun e=>h1.1 y hy (h2.trans e.symm))]; rfl
 | x :: l,j + 1,hj,n,hx,hp=>by
  have h1:=List.pairwise_cons.1 hp;have hj' : j < l.length:=by simpa using hj
  have h2:l[j].key=lH n:=hx;rw [List.eraseIdx_cons_succ,List.filter_cons_of_pos,oM l j hj' n h2 h1.2];rw [DT (fun e=>h1.1 l[j] (List.getElem_mem _) (e.trans h2.symm))]; rfl
theorem zF {l:List MapEntry} {L:List Int} (he:KeysI l L) (n:Int):KeysI (l.filter fun y=>!isK n y.key) (L.filter fun x=>decide (x≠n)):=by
 induction l generalizing L with
 | nil=>cases L with
  | nil=>rfl
  | cons a L=>simp [KeysI] at he
 | cons x l ih =>
  cases L with
  | nil=>simp [KeysI] at he
  | cons a L =>
   unfold KeysI at he;simp only [List.map_cons,List.cons.injEq,Prod.mk.injEq] at he;have ih' := ih (L:=L) he.2
   by_cases h:a=n
   ·rw [List.filter_cons_of_neg (by rw [he.1.1,h,zJ]; decide),List.filter_cons_of_neg (by simp [h])]
    exact ih'
   ·rw [List.filter_cons_of_pos (by rw [he.1.1,DT (fun e=>h (zH e))]; rfl),List.filter_cons_of_pos (by simpa using h)]
    unfold KeysI at ih' ⊢;rw [List.map_cons,List.map_cons,ih', he.1.1,he.1.2]
section
variable {P:Program} {w:World} {m:Nat} {L:List Int} {t k e:TypeId} (ht:P.underlying t=some (.map k e)) (hk:P.underlying k=some (.int .i64))
include ht hk
theorem XY (h:SetI w m L) (n:Int) (hz:(zeroValue e).run P w=.ok nJ w) :
  (Instr.lookup t (.map (some m)) (.int .i64 n) true).run P w=.ok (.tuple #[nJ,.bool (decide (n∈L))]) w:=by
 obtain ⟨es,c,hb,he,hs⟩:=h;have h1:=MapKept.run_getObj_map (P:=P) hb;have h2:=MapKept.run_checkKey (P:=P) (w:=w) hk (k:=.int .i64 n) rfl es.isEmpty 9999
 rcases MapKept.findNow_spec (d:=.int .i64) (k:=.int .i64 n) rfl es.toList 0 he.isKey with ⟨h3,h4⟩ | ⟨j,x,h3,h4,h5⟩
 ·have h6:=MapKept.run_findKey (P:=P) (w:=w) hk h3
  have hn:¬ n∈L:=fun hn=>by
   obtain ⟨x,hx,e⟩:=(he.mem n).1 hn;exact h4 x hx e
  rw [decide_eq_false hn];simp [Instr.lookup,run_underlying ht,h1,h2,h6,hz]
 ·have h6:=MapKept.run_findKey (P:=P) (w:=w) hk h3
  have hx:x∈es.toList:=List.mem_of_getElem? h4;rw [decide_eq_true ((he.mem n).2 ⟨x,hx,h5⟩)];have hv:=he.val hx;simp [Instr.lookup,run_underlying ht,h1,h2,h6,hv]
theorem aB6 (h:SetI w m L) (n:Int) (hn:n ∉ L) :
  ∃ o,(Instr.mapUpdate t (.map (some m)) (.int .i64 n) nJ).run P w=.ok () { w with heap:=w.heap.setIfInBounds m o }∧SetI { w with heap:=w.heap.setIfInBounds m o } m (L ++ [n]):=by
 obtain ⟨es,c,hb,he,hs⟩:=h;have h1:=MapKept.run_getObj_map (P:=P) hb;have h2:=MapKept.run_checkKey (P:=P) (w:=w) hk (k:=.int .i64 n) rfl false 9999
 rcases MapKept.findNow_spec (d:=.int .i64) (k:=.int .i64 n) rfl es.toList 0 he.isKey with ⟨h3,h4⟩ | ⟨j,x,h3,h4,h5⟩
 ·have h6:=MapKept.run_findKey (P:=P) (w:=w) hk h3
  have h7:=MapKept.run_setObj_map (P:=P) (.map (es.push { key:=.int .i64 n,val:=nJ,born:=c }) (c + 1)) hb;refine ⟨_,by simp [Instr.mapUpdate,run_underlying ht,h1,h2,h6,h7]; rfl,?_⟩;refine ⟨_,_,(MapKept.heap_set hb).1,?_,MapKept.stamped_push hs h4⟩;unfold KeysI at *;rw [Array.toList_push,List.map_append,he,List.map_append]
  rfl
 ·exact absurd ((he.mem n).2 ⟨x,List.mem_of_getElem? h4,h5⟩) hn
theorem delS (h:SetI w m L) (n:Int) (ty:TypeId) :
  ∃ o,(Builtin.delete_ #[t,k] ty #[.map (some m),.int .i64 n]).run P w=.ok (.tuple #[]) { w with heap:=w.heap.setIfInBounds m o }∧SetI { w with heap:=w.heap.setIfInBounds m o } m (L.filter fun x=>decide (x≠n)):=by
 obtain ⟨es,c,hb,he,hs⟩:=h;have h1:=MapKept.run_getObj_map (P:=P) hb;have h2:=MapKept.run_checkKey (P:=P) (w:=w) hk (k:=.int .i64 n) rfl es.isEmpty 9999;have hkn:=((MapKept.stamped_iff es c).1 hs).2.2
 rcases MapKept.findNow_spec (d:=.int .i64) (k:=.int .i64 n) rfl es.toList 0 he.isKey with ⟨h3,h4⟩ | ⟨j,x,h3,h4,h5⟩
 ·have h6:=MapKept.run_findKey (P:=P) (w:=w) hk h3
  have h7:=MapKept.run_setObj_map (P:=P) (.map es c) hb;refine ⟨.map es c,by simp [Builtin.delete_,run_underlying ht,h1,h2,h6,h7],?_⟩;refine ⟨es,c,(MapKept.heap_set hb).1,?_,hs⟩
  have hf:L.filter (fun x=>decide (x≠n))=L:=by
   rw [List.filter_eq_self];intro x hx;simp only [decide_eq_true_eq];intro e;subst e;obtain ⟨y,hy,e⟩:=(he.mem x).1 hx;exact h4 y hy e
  rw [hf]; exact he
 ·have h6:=MapKept.run_findKey (P:=P) (w:=w) hk h3
  have h7:=MapKept.run_setObj_map (P:=P) (.map (es.eraseIdxIfInBounds j) c) hb;rw [Nat.zero_add] at h6;refine ⟨.map (es.eraseIdxIfInBounds j) c,by simp [Builtin.delete_,run_underlying ht,h1,h2,h6,h7],?_⟩;refine ⟨_,c,(MapKept.heap_set hb).1,?_,MapKept.stamped_erase hs j⟩;obtain ⟨hjl,hjx⟩:=List.getElem?_eq_some_iff.1 h4
  have e1:(es.eraseIdxIfInBounds j).toList=es.toList.filter fun y=>!isK n y.key:=by
   have hj2:j < es.size:=by simpa using hjl
   unfold Array.eraseIdxIfInBounds;rw [dif_pos hj2,Array.toList_eraseIdx];exact oM es.toList j hjl n (by rw [hjx]; exact h5) hkn
  rw [e1];exact zF he n
omit hk in
theorem UO (h:SetI w m L) (ty:TypeId) :
  ∃ o,(Builtin.clear_ #[t] ty #[.map (some m)]).run P w=.ok (.tuple #[]) { w with heap:=w.heap.setIfInBounds m o }∧SetI { w with heap:=w.heap.setIfInBounds m o } m []:=by
 obtain ⟨es,c,hb,he,hs⟩:=h;have h1:=MapKept.run_getObj_map (P:=P) hb;have h4:=MapKept.run_setObj_map (P:=P) (.map #[] c) hb;refine ⟨_,by simp [Builtin.clear_,run_underlying ht,h1,h4]; rfl,?_⟩;exact ⟨_,_,(MapKept.heap_set hb).1,rfl,MapKept.stamped_empty c⟩
end
end Go.Proofs.YtblbiihpfjjhhaaGreatDoor
