/-
 MSame, Hm, Hn, Hr, Hp, Ho, Hs.
-/
import Derived.Test.YthcejfnngkmojaaGreatDoorPzMac
import Derived.Test.YthcejfnngkmojaaGreatDoorP18
import Derived.Test.YthcejfnngkmojaaGreatDoorP02
namespace Go.Proofs.YthcejfnngkmojaaGreatDoor
open Go.RowKit
set_option maxRecDepth 20000
set_option maxHeartbeats 12800000
set_option linter.unusedVariables false
set_option linter.unusedSimpArgs false
def atN (s:ByteArray) (i:Nat):Nat:=(s.data.toList.getD i 0).toNat
theorem jO (s:ByteArray) (i:Nat):atN s i < 256:=UInt8.toNat_lt _
theorem xQ (s:ByteArray) (i:Nat) (w:World) :
  Calls Tryz.prog 111 #[.string s,.int .i64 (i:Int)] w fun e w' => e=.returned (.int .u8 (atN s i:Int))∧w=w' := by
 by_cases h:i < s.size
 ·have hi:(i:Int) < (s.size:Int):=by omega
  have hv:s[i].toNat=atN s i:=by
   unfold atN;rw [List.getD_eq_getElem?_getD,List.getElem?_eq_getElem (by simpa using h)];simp [ByteArray.getElem_eq_getElem_data]
  go_enter Tryz.func111,Tryz.ntmps111;go_wp2_with fail;go_ret;exact ⟨rfl,rfl⟩
 ·have hi:¬ (i:Int) < (s.size:Int):=by omega
  have hv:atN s i=0:=by
   unfold atN;rw [List.getD_eq_getElem?_getD,List.getElem?_eq_none (by simp; omega)]
   rfl
  rw [hv];go_enter Tryz.func111,Tryz.ntmps111;go_wp2_with fail;go_ret;exact ⟨rfl,rfl⟩
def iY (a b:ByteArray):Nat→Nat
 | 0=>0
 | n + 1=>iY a b n ||| (atN a n ^^^ atN b n)
theorem vZ {a b:Nat} (ha:a < 256) (hb:b < 256):a ^^^ b < 256:=Nat.xor_lt_two_pow (n:=8) ha hb
theorem LP (a b:ByteArray) (n:Nat):iY a b n < 256:=by
 induction n with
 | zero=>exact (by decide:(0:Nat) < 256)
 | succ n ih=>exact Nat.or_lt_two_pow (n:=8) ih (vZ (jO _ _) (jO _ _))
theorem RV {a b:Nat}:a ^^^ b=0 ↔ a=b:=by
 constructor
 ·intro h
  apply Nat.eq_of_testBit_eq;intro i;have:=congrArg (Nat.testBit · i) h
  simpa using this
 ·rintro rfl
  exact Nat.xor_self _
theorem vR (a b:ByteArray) (n:Nat):iY a b n=0 ↔ ∀ i,i < n→atN a i=atN b i:=by
 induction n with
 | zero=>simp [iY]
 | succ n ih =>
  have h1:iY a b (n + 1)=0 ↔ iY a b n=0∧atN a n ^^^ atN b n=0:=by
   show iY a b n ||| _=0 ↔ _
   exact Nat.or_eq_zero_iff
  rw [h1,ih,RV];constructor
  ·intro ⟨h,h'⟩ i hi
   rcases Nat.lt_succ_iff_lt_or_eq.1 hi with hi | rfl
   ·exact h i hi
   ·exact h'
  ·intro h
   exact ⟨fun i hi=>h i (by omega),h n (by omega)⟩
theorem zI (a b:ByteArray) (n:Nat) (h:n=max a.size b.size):(iY a b n=0∧a.size=b.size) ↔ a=b:=by
 constructor
 ·rintro ⟨hd,hs⟩
  rw [vR] at hd;apply aF;apply List.ext_getElem (by simpa using hs);intro i h1 h2;have:=hd i (by simp at h1; omega);unfold atN at this;rw [List.getD_eq_getElem?_getD,List.getD_eq_getElem?_getD,List.getElem?_eq_getElem h1,List.getElem?_eq_getElem h2] at this;exact UInt8.toNat_inj.1 this
 ·rintro rfl
  exact ⟨(vR _ _ _).2 fun _ _=>rfl,rfl⟩
theorem uQ (a b:Nat) (ha:a < 256) (hb:b < 256):bits .or .u8 (a:Int) (b:Int)=((a ||| b:Nat):Int):=by
 have hx:a ||| b < 2 ^ 8:=Nat.or_lt_two_pow (by omega) (by omega)
 have h8:∀ a:Nat,a < 256→(BitVec.ofInt 8 (a:Int)).toNat=a:=fun a ha=>by
  rw [BitVec.ofInt_natCast,BitVec.toNat_ofNat]; exact Nat.mod_eq_of_lt (by omega)
 show IntKind.u8.wrap ((BitVec.ofInt 8 (a:Int) ||| BitVec.ofInt 8 (b:Int)).toNat:Int)=_
 rw [BitVec.toNat_or,h8 a ha,h8 b hb,IntKind.wrap_u8];omega
theorem ZO (a b:ByteArray) (v:Bool) (w:World) (ha:a.size≤9223372036854775807) (hb:b.size≤9223372036854775807) (hab:(a.size:Int) < (b.size:Int)) (hv:Hid (decide (iY a b b.size=0∧a.size=b.size)=v)) :
  Calls Tryz.prog 70 #[.string a,.string b] w fun e w' => e=.returned (.bool v)∧w=w' := by
 go_enter Tryz.func70,Tryz.ntmps70;go_wp2_with fail
 go_loop [5,12] (fun d i=>∃ n:Nat,n≤b.size∧d=.int .u8 (iY a b n:Int)∧i=.int .i64 (n:Int)) (fun _ i=>b.size + 1 - (intOf i).toNat)
 case atStart=>exact ⟨0,by omega,rfl,rfl⟩
 case round =>
  obtain ⟨n,hn,rfl,rfl⟩:=hrel
  by_cases hlt:n < b.size
  ·have hli:(n:Int) < (b.size:Int):=by omega
   have hx:=kG (atN a n) (atN b n) (jO _ _) (jO _ _);have ho:=uQ (iY a b n) (atN a n ^^^ atN b n) (LP _ _ _) (vZ (jO _ _) (jO _ _));have ST:Hid (iY a b (n + 1)=iY a b n ||| (atN a n ^^^ atN b n)):=Hd rfl;have A1:=fun w:World=>xQ a n w
   have A2:=fun w:World=>xQ b n w
   generalize atN a n=x at *;generalize atN b n=y at *;generalize x ^^^ y=z at *;generalize iY a b n=d at *;generalize d ||| z=d2 at *
   go_wp2_with fail;refine (A1 _).mono ?_;rintro e w1 ⟨rfl,rfl⟩;go_wp2_with fail;refine (A2 _).mono ?_;rintro e w1 ⟨rfl,rfl⟩;go_wp2_with fail
   go_round
   case rel=>exact ⟨n + 1,by omega,by rw [ST.out],by go_num⟩
   case measure=>simp [intOf]; omega
  ·obtain rfl:n=b.size:=by omega
   have hli:¬ ((b.size:Int) < (b.size:Int)):=by omega
   generalize iY a b b.size=d at *
   by_cases h0:d=0
   ·have h0i:(d:Int)=0:=by omega
    go_wp2_with fail;go_ret;refine ⟨bS ?_,rfl⟩;rw [← hv.out];simp [h0];try (rw [Bool.eq_iff_iff]; simp only [beq_iff_eq,decide_eq_true_eq]; omega)
   ·have h0i:¬ ((d:Int)=0):=by omega
    go_wp2_with fail;go_ret;refine ⟨bS ?_,rfl⟩;rw [← hv.out];simp [h0];try (rw [Bool.eq_iff_iff]; simp only [beq_iff_eq,decide_eq_true_eq]; omega)
theorem ZQ (a b:ByteArray) (v:Bool) (w:World) (ha:a.size≤9223372036854775807) (hb:b.size≤9223372036854775807) (hab:(b.size:Int)≤(a.size:Int)) (hv:Hid (decide (iY a b a.size=0∧a.size=b.size)=v)) :
  Calls Tryz.prog 70 #[.string a,.string b] w fun e w' => e=.returned (.bool v)∧w=w' := by
 go_enter Tryz.func70,Tryz.ntmps70;go_wp2_with fail
 go_loop [5,12] (fun d i=>∃ n:Nat,n≤a.size∧d=.int .u8 (iY a b n:Int)∧i=.int .i64 (n:Int)) (fun _ i=>a.size + 1 - (intOf i).toNat)
 case atStart=>exact ⟨0,by omega,rfl,rfl⟩
 case round =>
  obtain ⟨n,hn,rfl,rfl⟩:=hrel
  by_cases hlt:n < a.size
  ·have hli:(n:Int) < (a.size:Int):=by omega
   have hx:=kG (atN a n) (atN b n) (jO _ _) (jO _ _);have ho:=uQ (iY a b n) (atN a n ^^^ atN b n) (LP _ _ _) (vZ (jO _ _) (jO _ _));have ST:Hid (iY a b (n + 1)=iY a b n ||| (atN a n ^^^ atN b n)):=Hd rfl;have A1:=fun w:World=>xQ a n w
   have A2:=fun w:World=>xQ b n w
   generalize atN a n=x at *;generalize atN b n=y at *;generalize x ^^^ y=z at *;generalize iY a b n=d at *;generalize d ||| z=d2 at *
   go_wp2_with fail;refine (A1 _).mono ?_;rintro e w1 ⟨rfl,rfl⟩;go_wp2_with fail;refine (A2 _).mono ?_;rintro e w1 ⟨rfl,rfl⟩;go_wp2_with fail
   go_round
   case rel=>exact ⟨n + 1,by omega,by rw [ST.out],by go_num⟩
   case measure=>simp [intOf]; omega
  ·obtain rfl:n=a.size:=by omega
   have hli:¬ ((a.size:Int) < (a.size:Int)):=by omega
   generalize iY a b a.size=d at *
   by_cases h0:d=0
   ·have h0i:(d:Int)=0:=by omega
    go_wp2_with fail;go_ret;refine ⟨bS ?_,rfl⟩;rw [← hv.out];simp [h0];try (rw [Bool.eq_iff_iff]; simp only [beq_iff_eq,decide_eq_true_eq]; omega)
   ·have h0i:¬ ((d:Int)=0):=by omega
    go_wp2_with fail;go_ret;refine ⟨bS ?_,rfl⟩;rw [← hv.out];simp [h0];try (rw [Bool.eq_iff_iff]; simp only [beq_iff_eq,decide_eq_true_eq]; omega)
theorem ZP (a b:ByteArray) (w:World) (ha:a.size≤9223372036854775807) (hb:b.size≤9223372036854775807) :
  Calls Tryz.prog 70 #[.string a,.string b] w fun e w' => e=.returned (.bool (decide (a=b)))∧w=w' := by
 rcases Int.lt_or_le (a.size:Int) (b.size:Int) with h | h
 ·exact ZO a b _ w ha hb h (Hd (by rw [decide_eq_decide]; exact zI a b _ (by omega)))
 ·exact ZQ a b _ w ha hb h (Hd (by rw [decide_eq_decide]; exact zI a b _ (by omega)))
open Go Go.RowKit
def NumE (E:List Ent) (q n:Int):Prop:=(iK q E=false∧n=0)∨(iK q E=true∧gX q E=Str (aL n 3)∧0≤n∧n≤16777215)
theorem NumE.range {E:List Ent} {q n:Int} (h:NumE E q n):0≤n∧n≤16777215:=by
 rcases h with ⟨_,rfl⟩ | ⟨_,_,h⟩
 ·decide
 ·exact h
theorem BD {n:Int} (h0:0≤n) (h1:n≤16777215):aC (Str (aL n 3)) 3=n∧aA (Str (aL n 3)) 3=⟨#[]⟩∧cH (Str (aL n 3)) 3=0∧(Str (aL n 3)).size=3:=by
 have hp:cE n 3=true:=by
  obtain ⟨m,rfl⟩:=Int.eq_ofNat_of_zero_le h0;exact (bM m 3).2 ⟨by decide,by decide,by show m < 16777216; omega⟩
 have h2:=qW (n:=n) (k:=3) ⟨#[]⟩ h0 hp;rw [pD] at h2;have h3:=cF hp;refine ⟨h2.1,h2.2,?_,by omega⟩;have hk:cC (Str (aL n 3)) 3=true:=by unfold cC; simp; omega
 unfold cH; rw [if_pos hk]
structure RingE (E:List Ent) (n:Int) (a b:ByteArray):Prop where
 num:NumE E 10376293541461622789 n
 top:n≤65535
 now:gX 10376293541461622790 E=a
 last:gX 10376293541461622791 E=b
theorem RingE.range {E:List Ent} {n:Int} {a b:ByteArray} (h:RingE E n a b):0≤n∧n≤65535:=⟨h.num.range.1,h.top⟩
def fH (n:Nat) (a b:ByteArray):List Ent:=if n=0 then [] else [(10376293541461622789,Str (aL (n:Int) 3)),(10376293541461622790,a),(10376293541461622791,b)]
theorem oD (n:Nat) (a b:ByteArray):MtE (fH n a b):=by
 unfold fH
 split
 ·exact ⟨List.Pairwise.nil,fun e he=>(by cases he),by decide⟩
 ·refine ⟨?_,fun e he=>?_,by show 3≤50; decide⟩
  ·unfold kY
   simp
  ·simp only [List.mem_cons,List.not_mem_nil,or_false] at he
   rcases he with rfl | rfl | rfl
   ·show (5764607523034234880:Int)≤10376293541461622789∧(10376293541461622789:Int)≤18446744073709551615; decide
   ·show (5764607523034234880:Int)≤10376293541461622790∧(10376293541461622790:Int)≤18446744073709551615; decide
   ·show (5764607523034234880:Int)≤10376293541461622791∧(10376293541461622791:Int)≤18446744073709551615; decide
theorem iM {L:List (Int × Int × Int)} (h:L.length≤200) {k:Int} (hk:10376293541461622789≤k):∀ e∈slE 0 L,e.1 < k:=fun e he=>by
 have:=zE h e he;omega
theorem wK {L:List (Int × Int × Int)} (h:L.length≤200) {n:Nat} (hn:n≤65535) {a b:ByteArray} (h0:n=0→a=⟨#[]⟩∧b=⟨#[]⟩):RingE (slE 0 L ++ fH n a b) n a b:=by
 have g5:=pW (M:=fH n a b) (iM h (k:=10376293541461622789) (by decide));have g6:=pW (M:=fH n a b) (iM h (k:=10376293541461622790) (by decide));have g7:=pW (M:=fH n a b) (iM h (k:=10376293541461622791) (by decide))
 by_cases hz:n=0
 ·obtain ⟨rfl,rfl⟩:=h0 hz
  subst hz;refine ⟨.inl ⟨?_,rfl⟩,by decide,?_,?_⟩
  ·unfold iK; rw [g5]; rfl
  ·unfold gX; rw [g6]; rfl
  ·unfold gX; rw [g7]; rfl
 ·have e:fH n a b=[(10376293541461622789,Str (aL (n:Int) 3)),(10376293541461622790,a),(10376293541461622791,b)]:=by unfold fH; rw [if_neg hz]
  rw [e] at g5 g6 g7 ⊢;refine ⟨.inr ⟨?_,?_,by omega,by omega⟩,by omega,?_,?_⟩
  ·unfold iK; rw [g5]; rfl
  ·unfold gX; rw [g5]; rfl
  ·unfold gX; rw [g6]; rfl
  ·unfold gX; rw [g7]; rfl
theorem NQ {L:List (Int × Int × Int)} (h:L.length≤200) {n:Nat} {a b c:ByteArray} (h0:n=0→a=⟨#[]⟩∧b=⟨#[]⟩) :
  bT 10376293541461622790 c (bT 10376293541461622791 a (bT 10376293541461622789 (Str (aL ((n:Int) + 1) 3)) (slE 0 L ++ fH n a b)))=slE 0 L ++ fH (n + 1) c a:=by
 rw [pU (iM h (by decide)),pU (iM h (by decide)),pU (iM h (by decide))]
 congr 1
 have e2:fH (n + 1) c a=[(10376293541461622789,Str (aL ((n:Int) + 1) 3)),(10376293541461622790,c),(10376293541461622791,a)]:=by unfold fH; rw [if_neg (by omega)]; rfl
 rw [e2]
 by_cases hz:n=0
 ·subst hz
  rfl
 ·have e:fH n a b=[(10376293541461622789,Str (aL (n:Int) 3)),(10376293541461622790,a),(10376293541461622791,b)]:=by unfold fH; rw [if_neg hz]
  rw [e]
  rfl
def fF (s ep k:Int):Bool:=inB 1 200 s && inB 1 15 ep && inB 1 65535 k
def hB (s ep nn k:Int):ByteArray:=Str (aL s 2) ++ Str (aL ep 1) ++ Str (aL nn 8) ++ Str (aL k 2)
theorem wY {s ep k:Int} (h:fF s ep k=true):(1≤s∧s≤200)∧(1≤ep∧ep≤15)∧(1≤k∧k≤65535):=by
 unfold fF at h;simp only [Bool.and_eq_true,oS] at h;omega
theorem wZ {s ep nn k:Int} (h:fF s ep k=true) (n0:0≤nn) (n1:nn≤18446744073709551615):(cE s 2=true∧0≤s)∧(cE ep 1=true∧0≤ep)∧(cE nn 8=true∧0≤nn)∧(cE k 2=true∧0≤k):=by
 have:=wY h;obtain ⟨s', rfl⟩:=Int.eq_ofNat_of_zero_le (show 0≤s by omega);obtain ⟨e', rfl⟩:=Int.eq_ofNat_of_zero_le (show 0≤ep by omega);obtain ⟨n', rfl⟩:=Int.eq_ofNat_of_zero_le n0;obtain ⟨k', rfl⟩:=Int.eq_ofNat_of_zero_le (show 0≤k by omega);refine ⟨⟨(bM s' 2).2 ⟨by decide,by decide,?_⟩,by omega⟩,⟨(bM e' 1).2 ⟨by decide,by decide,?_⟩,by omega⟩,⟨(bM n' 8).2 ⟨by decide,by decide,?_⟩,by omega⟩,⟨(bM k' 2).2 ⟨by decide,by decide,?_⟩,by omega⟩⟩
 ·show s' < 65536; omega
 ·show e' < 256; omega
 ·show n' < 18446744073709551616; omega
 ·show k' < 65536; omega
theorem oT {s ep nn k:Int} (h:fF s ep k=true) (n0:0≤nn) (n1:nn≤18446744073709551615):(hB s ep nn k).size=13:=by
 obtain ⟨p0,p1,p2,p3⟩:=wZ h n0 n1;have q0:=cF p0.1;have q1:=cF p1.1;have q2:=cF p2.1;have q3:=cF p3.1;unfold hB;rw [ByteArray.size_append,ByteArray.size_append,ByteArray.size_append];omega
def hr1 (s:ByteArray):ByteArray:=aA s 2
def hr2 (s:ByteArray):ByteArray:=aA (hr1 s) 1
def hr3 (s:ByteArray):ByteArray:=aA (hr2 s) 8
def hr4 (s:ByteArray):ByteArray:=aA (hr3 s) 2
def hfS (s:ByteArray):Int:=aC s 2
def hfE (s:ByteArray):Int:=aC (hr1 s) 1
def hfN (s:ByteArray):Int:=aC (hr2 s) 8
def hfK (s:ByteArray):Int:=aC (hr3 s) 2
def hOk (s:ByteArray):Bool:=decide (s.size=29) && fF (hfS s) (hfE s) (hfK s)
theorem aBC {s ep nn k:Int} (h:fF s ep k=true) (n0:0≤nn) (n1:nn≤18446744073709551615) (t:ByteArray):hfS (hB s ep nn k ++ t)=s∧hfE (hB s ep nn k ++ t)=ep∧hfN (hB s ep nn k ++ t)=nn∧hfK (hB s ep nn k ++ t)=k∧hr4 (hB s ep nn k ++ t)=t:=by
 obtain ⟨p0,p1,p2,p3⟩:=wZ h n0 n1;have q0:=fun rest=>qW (n:=s) (k:=2) rest p0.2 p0.1
 have q1:=fun rest=>qW (n:=ep) (k:=1) rest p1.2 p1.1
 have q2:=fun rest=>qW (n:=nn) (k:=8) rest p2.2 p2.1
 have q3:=fun rest=>qW (n:=k) (k:=2) rest p3.2 p3.1
 have e:hB s ep nn k ++ t=Str (aL s 2) ++ (Str (aL ep 1) ++ (Str (aL nn 8) ++ (Str (aL k 2) ++ t))):=by
  unfold hB; rw [ByteArray.append_assoc,ByteArray.append_assoc,ByteArray.append_assoc]
 unfold hfS hfE hfN hfK hr4 hr3 hr2 hr1;rw [e,(q0 _).2,(q1 _).2,(q2 _).2,(q3 _).2];exact ⟨(q0 _).1,(q1 _).1,(q2 _).1,(q3 _).1,rfl⟩
theorem LF {s:ByteArray} (h:s.size=29):hB (hfS s) (hfE s) (hfN s) (hfK s) ++ hr4 s=s∧(hr4 s).size=16:=by
 have b0:=jF s (k:=2) (by decide) (by decide) (by omega);have b1:=jF (hr1 s) (k:=1) (by decide) (by decide) (by unfold hr1; omega);have b2:=jF (hr2 s) (k:=8) (by decide) (by decide) (by unfold hr2; unfold hr1 at b1 ⊢; omega);have b3:=jF (hr3 s) (k:=2) (by decide) (by decide) (by unfold hr3; unfold hr2 at b2 ⊢; unfold hr1 at b1 b2 ⊢; omega);refine ⟨?_,?_⟩
 ·unfold hB
  rw [ByteArray.append_assoc,ByteArray.append_assoc,ByteArray.append_assoc];have e3:Str (aL (hfK s) 2) ++ hr4 s=hr3 s:=b3.1;rw [e3];have e2:Str (aL (hfN s) 8) ++ hr3 s=hr2 s:=b2.1;rw [e2];have e1:Str (aL (hfE s) 1) ++ hr2 s=hr1 s:=b1.1;rw [e1];exact b0.1
 ·unfold hr4
  unfold hr3 at b3 ⊢;unfold hr2 at b2 b3 ⊢;unfold hr1 at b1 b2 b3 ⊢;omega
theorem jZ (s:ByteArray):(0≤hfS s∧hfS s≤65535)∧(0≤hfE s∧hfE s≤255)∧(0≤hfN s∧hfN s≤18446744073709551615)∧(0≤hfK s∧hfK s≤65535):=by
 have h0:=kL s (k:=2) (by decide) (by decide);have h1:=kL (hr1 s) (k:=1) (by decide) (by decide);have h2:=kL (hr2 s) (k:=8) (by decide) (by decide);have h3:=kL (hr3 s) (k:=2) (by decide) (by decide);unfold hfS hfE hfN hfK;generalize aC s 2=x0 at *;generalize aC (hr1 s) 1=x1 at *;generalize aC (hr2 s) 8=x2 at *;generalize aC (hr3 s) 2=x3 at *;obtain ⟨y0,rfl⟩:=Int.eq_ofNat_of_zero_le h0.2;obtain ⟨y1,rfl⟩:=Int.eq_ofNat_of_zero_le h1.2;obtain ⟨y2,rfl⟩:=Int.eq_ofNat_of_zero_le h2.2;obtain ⟨y3,rfl⟩:=Int.eq_ofNat_of_zero_le h3.2
 have g0:y0 < 65536:=((bM y0 2).1 h0.1).2.2;have g1:y1 < 256:=((bM y1 1).1 h1.1).2.2;have g2:y2 < 18446744073709551616:=((bM y2 8).1 h2.1).2.2;have g3:y3 < 65536:=((bM y3 2).1 h3.1).2.2;omega
def lC (key s:ByteArray):ByteArray:=(BI key s).extract 0 16
theorem lZ (key s:ByteArray):(lC key s).size=16:=by
 unfold lC;rw [ByteArray.size_extract,pS]
 rfl
def cM (s ep nn k:Int) (key:ByteArray):ByteArray:=hB s ep nn k ++ lC key (hB s ep nn k)
theorem vM {s ep nn k:Int} (h:fF s ep k=true) (n0:0≤nn) (n1:nn≤18446744073709551615) (key:ByteArray):(cM s ep nn k key).size=29∧hOk (cM s ep nn k key)=true∧hfS (cM s ep nn k key)=s∧hfE (cM s ep nn k key)=ep∧hfN (cM s ep nn k key)=nn∧hfK (cM s ep nn k key)=k∧hr4 (cM s ep nn k key)=lC key (hB s ep nn k):=by
 have h1:=oT h n0 n1;have h2:=lZ key (hB s ep nn k);obtain ⟨e1,e2,e3,e4,e5⟩:=aBC h n0 n1 (lC key (hB s ep nn k));have hs:(cM s ep nn k key).size=29:=by unfold cM; rw [ByteArray.size_append]; omega
 refine ⟨hs,?_,e1,e2,e3,e4,e5⟩;unfold hOk;rw [hs]
 show (decide (29=29) && fF (hfS (cM s ep nn k key)) (hfE (cM s ep nn k key)) (hfK (cM s ep nn k key)))=true
 unfold cM;rw [e1,e2,e4,h]
 rfl
theorem mB:(Tryz.prog.info? 115).map (·.size)=some 3:=by kernel_rfl
theorem gI {w:World} {g:Nat} {v0 v1 v2:Value} {t:TypeId} (h:w.heap[g]?=some (.cells #[v0,v1,v2] t)):(w.cell? ⟨g,0,none⟩=some v0∧w.cell? ⟨g,1,none⟩=some v1∧w.cell? ⟨g,2,none⟩=some v2)∧w.frozen? ⟨g,0,none⟩=false∧w.frozen? ⟨g,1,none⟩=false∧w.frozen? ⟨g,2,none⟩=false:=by
 refine ⟨⟨?_,?_,?_⟩,ufb h 0,ufb h 1,ufb h 2⟩ <;> (rw [cob h]; rfl)
def stR (w:World) (g:Nat) (u0 u1 u2:Value):World:=(((w.setCell ⟨g,0,none⟩ u0).setCell ⟨g,1,none⟩ u1).setCell ⟨g,2,none⟩ u2)
theorem ZE {w:World} {g:Nat} {v0 v1 v2:Value} {t:TypeId} (h:w.heap[g]?=some (.cells #[v0,v1,v2] t)) (u0 u1 u2:Value):(stR w g u0 u1 u2).heap[g]?=some (.cells #[u0,u1,u2] t)∧Frm (fun k=>k=g) w (stR w g u0 u1 u2):=by
 refine ⟨?_,((((Frm.refl (fun k=>k=g) w).setCell ⟨g,0,none⟩ _ (.inl rfl)).setCell ⟨g,1,none⟩ _ (.inl rfl)).setCell ⟨g,2,none⟩ _ (.inl rfl))⟩;unfold stR;rw [(hss _ _ 2 _ _ _ (hss _ _ 1 _ _ _ (hss _ _ 0 _ _ _ h)))]
 rfl
theorem VZ {w0 w:World} {R:List Nat} {t d s n b c:Nat} {E E' : List Ent} {k:Nat} {caps:Array Value} {e:Int} {c0:Int} {c1:ByteArray} {c2:ByteArray} (h:TxS w0 R w t d s n E) (hb:w.heap[b]?=some (.cells #[.func (.func k) #[] caps] 160)) (hc:w.heap[c]?=some (.cells #[.int .i64 0,.string ⟨#[]⟩,.string ⟨#[]⟩] 115)) (hcR:c∈R) (hct:c≠t) (hc0:w0.heap.size≤c)
  (hk:∀ w,(callFunc k caps).run Tryz.prog w=.ok (.enter k caps) w) (HC:Calls Tryz.prog k caps w fun e' w' => e'=.returned (.tuple #[.agg #[.int .i64 c0,.string c1,.string c2],.int .i64 e])∧TxS w0 R w' t d s n E'∧KeptT R t w w') :
  Calls Tryz.prog 134 #[.pointer (some ⟨b,0,none⟩),.pointer (some ⟨c,0,none⟩)] w fun e' w' => e'=.returned (.int .i64 e)∧TxS w0 R w' t d s n E'∧w'.heap[c]?=some (.cells #[.int .i64 c0,.string c1,.string c2] 115)∧∀ k∈R,k≠t→k≠c→w'.heap[k]?=w.heap[k]?:=by
 have cb:=(aM hb).1;have H:=Hd HC;have HX:=Hd (And.intro hc (And.intro hcR (And.intro hct hc0)));clear h hb hc hcR hct hc0 HC;go_enter Tryz.func134,Tryz.ntmps134;go_wp2_with fail;refine H.out.mono ?_;rintro e' w1 ⟨rfl,h1,h2⟩;have hc1:=(h2 c HX.out.2.1 HX.out.2.2.1).trans HX.out.1;obtain ⟨⟨d0,d1,d2⟩,g0,g1,g2⟩:=gI hc1;obtain ⟨n1,n2⟩:=ZE hc1 (.int .i64 c0) (.string c1) (.string c2)
 have FIN:Hid (TxS w0 R (stR w1 c (.int .i64 c0) (.string c1) (.string c2)) t d s n E'∧(stR w1 c (.int .i64 c0) (.string c1) (.string c2)).heap[c]?=some (.cells #[.int .i64 c0,.string c1,.string c2] 115)∧∀ k∈R,k≠t→k≠c→(stR w1 c (.int .i64 c0) (.string c1) (.string c2)).heap[k]?=w.heap[k]?):=Hd
  ⟨h1.turn HX.out.2.1 HX.out.2.2.1 HX.out.2.2.2 n2,n1,fun k hk hn hnc=>(n2.block k (h1.lt.1 k hk) hnc).trans (h2 k hk hn)⟩
 unfold stR at FIN;clear h1 h2 hc1 cb n1 n2;go_wp2_with fail;go_ret;exact ⟨rfl,FIN.out⟩
theorem PN {w0 w:World} {R:List Nat} {t d s n:Nat} {E E' : List Ent} {k:Nat} {caps:Array Value} {e:Int} {c0:Int} {c1:ByteArray} {c2:ByteArray} {y0:Int} {y1:ByteArray} {y2:ByteArray} (h:TxS w0 R w t d s n E) (he:(e=0∧y0=c0∧y1=c1∧y2=c2)∨(e≠0∧y0=0∧y1=⟨#[]⟩∧y2=⟨#[]⟩))
  (hk:∀ w,(callFunc k caps).run Tryz.prog w=.ok (.enter k caps) w) (HC:∀ R' wa,(∀ k∈R,k∈R')→TxS w0 R' wa t d s n E→KeptT R t w wa→Calls Tryz.prog k caps wa fun e' w' => e'=.returned (.tuple #[.agg #[.int .i64 c0,.string c1,.string c2],.int .i64 e])∧TxS w0 R' w' t d s n E'∧KeptT R' t wa w') :
  Calls Tryz.prog 112 #[.pointer (some ⟨t,0,none⟩),.func (.func k) #[] caps] w fun e' w' => e'=.returned (.tuple #[.agg #[.int .i64 y0,.string y1,.string y2],.int .i64 e])∧TxS w0 R w' t d s n E'∧KeptT R t w w' := by
 obtain ⟨a1,a2,a3,a4,a5,a6,a7⟩:=h.box (.cells #[.func (.func k) #[] caps] 160);obtain ⟨x1,hx1⟩:∃ x1,w.alloc (.cells #[.func (.func k) #[] caps] 160)=x1:=⟨_,rfl⟩
 rw [hx1] at a1 a2 a3 a5;obtain ⟨b1,b2,b3,b4,b5,b6,b7⟩:=a1.box (.cells #[.int .i64 0,.string ⟨#[]⟩,.string ⟨#[]⟩] 115);obtain ⟨x2,hx2⟩:∃ x2,x1.alloc (.cells #[.int .i64 0,.string ⟨#[]⟩,.string ⟨#[]⟩] 115)=x2:=⟨_,rfl⟩
 rw [hx2] at b1 b2 b3 b5;rw [a5] at b1 b3 b4 b5 b6 b7;obtain ⟨c1,c2,c3,c4,c5,c6,c7⟩:=b1.box (.cells #[.int .i64 0,.string ⟨#[]⟩,.string ⟨#[]⟩] 115);obtain ⟨x3,hx3⟩:∃ x3,x2.alloc (.cells #[.int .i64 0,.string ⟨#[]⟩,.string ⟨#[]⟩] 115)=x3:=⟨_,rfl⟩
 rw [hx3] at c1 c2 c3 c5;rw [b5] at c1 c3 c4 c5 c6 c7;obtain ⟨d1,d2,d3,d4,d5,d6,d7⟩:=c1.box (.cells #[.int .i64 0,.string ⟨#[]⟩,.string ⟨#[]⟩] 115);obtain ⟨x4,hx4⟩:∃ x4,x3.alloc (.cells #[.int .i64 0,.string ⟨#[]⟩,.string ⟨#[]⟩] 115)=x4:=⟨_,rfl⟩
 rw [hx4] at d1 d2 d3 d5;rw [c5] at d1 d3 d4 d5 d6 d7;have hf:=(d2 w.heap.size (by simp) a4).trans ((c2 w.heap.size (by simp) a4).trans ((b2 w.heap.size (by simp) a4).trans a3));have hr:=(d2 (w.heap.size + 1) (by simp) b4).trans ((c2 (w.heap.size + 1) (by simp) b4).trans b3);have hz:=(d2 (w.heap.size + 1 + 1) (by simp) c4).trans c3;have hkw:KeptT R t w x4:=a2.trans ((b2.sub (fun k hk=>by simp [hk])).trans ((c2.sub (fun k hk=>by simp [hk])).trans (d2.sub (fun k hk=>by simp [hk]))))
 have HK:=HC ((w.heap.size + 1 + 1 + 1) :: (w.heap.size + 1 + 1) :: (w.heap.size + 1) :: w.heap.size :: R) x4 (fun k hk=>by simp [hk]) d1 hkw;have V1:=Hd (oX d1 (fun w=>by kernel_rfl) (VZ d1 hf d3 (by simp) d4 d6 hk HK));have KP:=Hd (And.intro hkw (And.intro hr (And.intro hz (And.intro b4 (And.intro c4 d7)))));have KQ:=Hd (And.intro a5 (And.intro b5 (And.intro c5 (And.intro a6 (And.intro a7 (And.intro b6 (And.intro b7 (And.intro c7 d4))))))));have HE:=Hd he;have X1:=Hd (And.intro hx1 (And.intro hx2 (And.intro hx3 hx4)))
 clear h he HC a1 a2 a3 a4 a5 a6 a7 b1 b2 b3 b4 b5 b6 b7 c1 c2 c3 c4 c5 c6 c7 d1 d2 d3 d4 d5 d6 d7 hf hr hz hkw HK hx1 hx2 hx3 hx4;go_enter Tryz.func112,Tryz.ntmps112;go_upto_region 2 with fail
 try simp only [World.heap_size_alloc]
 rw [X1.out.1,X1.out.2.1,X1.out.2.2.1,X1.out.2.2.2];go_wp2_with fail;refine V1.out.mono ?_;rintro e' w4 ⟨rfl,h1,h2,h3⟩;have r4:=(h3 (w.heap.size + 1) (by simp) KP.out.2.2.2.1 (by omega)).trans KP.out.2.1;have z4:=(h3 (w.heap.size + 1 + 1) (by simp) KP.out.2.2.2.2.1 (by omega)).trans KP.out.2.2.1;obtain ⟨⟨d0,d1,d2⟩,g0,g1,g2⟩:=gI r4;obtain ⟨⟨z0,z1,z2⟩,_⟩:=gI z4;obtain ⟨⟨v0,v1,v2⟩,_⟩:=gI h2;obtain ⟨n1,n2⟩:=ZE r4 (.int .i64 y0) (.string y1) (.string y2)
 have FIN:Hid ((stR w4 (w.heap.size + 1) (.int .i64 y0) (.string y1) (.string y2)).heap[w.heap.size + 1]?=some (.cells #[.int .i64 y0,.string y1,.string y2] 115)∧TxS w0 R (stR w4 (w.heap.size + 1) (.int .i64 y0) (.string y1) (.string y2)) t d s n E'∧KeptT R t w (stR w4 (w.heap.size + 1) (.int .i64 y0) (.string y1) (.string y2))):=Hd (by
  have g1:=h1.turn (k:=w.heap.size + 1) (by simp) KP.out.2.2.2.1 (by have:=KQ.out.2.2.2.1; omega) n2;refine ⟨n1,g1.sub (fun k hk=>by simp [hk]),fun k hk hn=>?_⟩
  have hk1:k≠w.heap.size + 1:=fun e=>by
   have:=KQ.out.2.2.2.2.2.2.1 k (by simp [hk]);exact this e
  refine (n2.block k (h1.lt.1 k (by simp [hk])) hk1).trans ((h3 k (by simp [hk]) hn (KP.out.2.2.2.2.2 k (by simp [hk]))).trans (KP.out.1 k hk hn)))
 clear h1 h2 h3 V1 r4 z4 n1 n2 KP KQ;unfold stR at FIN
 rcases HE.out with ⟨rfl,rfl,rfl,rfl⟩ | ⟨hne,rfl,rfl,rfl⟩
 ·go_wp2_with fail
  exact bodyPost_ret (v:=.tuple #[.agg #[.int .i64 y0,.string y1,.string y2],.int .i64 0]) (aQ (fn:=Tryz.f112) rfl _ _ (w.heap.size + 1) 115 _ (0,0) _ _ rfl rfl FIN.out.1 Tryz.underlying115 rfl mB) rfl ⟨rfl,FIN.out.2⟩
 ·have hn1:(e == 0)=false:=by simpa using hne
  have hn2:(e != 0)=true:=by simp [hne]
  clear hne;go_wp2_with fail;exact bodyPost_ret (v:=.tuple #[.agg #[.int .i64 0,.string ⟨#[]⟩,.string ⟨#[]⟩],.int .i64 e]) (aQ (fn:=Tryz.f112) rfl _ _ (w.heap.size + 1) 115 _ (0,0) _ _ rfl rfl FIN.out.1 Tryz.underlying115 rfl mB) rfl ⟨rfl,FIN.out.2⟩
theorem aBM {w0 w:World} {R:List Nat} {t d s n:Nat} {E E' : List Ent} {m:Int} {x e y:Int} (h:TxS w0 R w t d s n E) (he:(e=0∧y=x)∨(e≠0∧y=0))
  (HC:∀ (R' : List Nat) (wa:World) (b0 b1:Nat),TxS w0 R' wa t d s n E→(wa.heap[b0]?=some (.cells #[.pointer (some ⟨t,0,none⟩)] 24))→(wa.heap[b1]?=some (.cells #[.int .i64 m] 3))→((b0∈R'∧b0≠t)∧(b1∈R'∧b1≠t))→Calls Tryz.prog 135 #[.pointer (some ⟨b1,0,none⟩),.pointer (some ⟨b0,0,none⟩)] wa fun e' w' => e'=.returned (.tuple #[.int .i64 x,.int .i64 e])∧TxS w0 R' w' t d s n E'∧KeptT R' t wa w') :
  Calls Tryz.prog 114 #[.pointer (some ⟨t,0,none⟩),.int .i64 m] w fun e' w' => e'=.returned (.tuple #[.int .i64 y,.int .i64 e])∧TxS w0 R w' t d s n E'∧KeptT R t w w' := by
 obtain ⟨a1,a2,a3,a4,a5,a6,a7⟩:=h.box (.cells #[.pointer (some ⟨t,0,none⟩)] 24);obtain ⟨x1,hx1⟩:∃ x1,w.alloc (.cells #[.pointer (some ⟨t,0,none⟩)] 24)=x1:=⟨_,rfl⟩
 rw [hx1] at a1 a2 a3 a5;obtain ⟨b1,b2,b3,b4,b5,b6,b7⟩:=a1.box (.cells #[.int .i64 m] 3);obtain ⟨x2,hx2⟩:∃ x2,x1.alloc (.cells #[.int .i64 m] 3)=x2:=⟨_,rfl⟩
 rw [hx2] at b1 b2 b3 b5;rw [a5] at b1 b3 b4 b5 b6 b7;have hkw:KeptT R t w x2:=a2.trans (b2.sub (fun k hk=>by simp [hk]))
 have VC:=Hd (pT (hk:=fun w=>by kernel_rfl) (n:=n) (E' := E') (x:=x) (e:=e) (y:=y) (caps:=#[.pointer (some ⟨w.heap.size + 1,0,none⟩),.pointer (some ⟨w.heap.size,0,none⟩)]) b1 he (fun R' wa hs hT hK=>HC R' wa (w.heap.size) (w.heap.size + 1) hT ((hK (w.heap.size) (by simp) a4).trans ((b2 (w.heap.size) (by simp) a4).trans (a3))) ((hK (w.heap.size + 1) (by simp) b4).trans (b3)) ⟨⟨hs (w.heap.size) (by simp),a4⟩,⟨hs (w.heap.size + 1) (by simp),b4⟩⟩));have KP:=Hd hkw;have bx:=(aM ((b2 (w.heap.size) (by simp) a4).trans (a3))).1;have X1:=Hd (And.intro hx1 hx2)
 clear h he HC hkw a1 a2 a3 a4 a5 a6 a7 b1 b2 b3 b4 b5 b6 b7 hx1 hx2;go_enter Tryz.func114,Tryz.ntmps114;go_upto_region 1 with fail
 try simp only [World.heap_size_alloc]
 rw [X1.out.1,X1.out.2];go_wp2_with fail;refine VC.out.mono ?_;rintro e' w2 ⟨rfl,h1,h2⟩;have FIN:Hid (TxS w0 R w2 t d s n E'∧KeptT R t w w2):=Hd ⟨h1.sub (fun k hk=>by simp [hk]),KP.out.trans (h2.sub (fun k hk=>by simp [hk]))⟩;clear h1 h2 VC bx;go_wp2_with fail;go_ret2;exact ⟨rfl,FIN.out⟩
theorem WQ {w0 w:World} {R:List Nat} {t d s n:Nat} {E E' : List Ent}  {e:Int} {c0:Int} {c1:ByteArray} {c2:ByteArray} {y0:Int} {y1:ByteArray} {y2:ByteArray} (h:TxS w0 R w t d s n E) (he:(e=0∧y0=c0∧y1=c1∧y2=c2)∨(e≠0∧y0=0∧y1=⟨#[]⟩∧y2=⟨#[]⟩))
  (HC:∀ (R' : List Nat) (wa:World) (p0:Nat),TxS w0 R' wa t d s n E→(wa.heap[p0]?=some (.cells #[.pointer (some ⟨t,0,none⟩)] 24))→((p0∈R'∧p0≠t))→Calls Tryz.prog 113 #[.pointer (some ⟨p0,0,none⟩)] wa fun e' w' => e'=.returned (.tuple #[.agg #[.int .i64 c0,.string c1,.string c2],.int .i64 e])∧TxS w0 R' w' t d s n E'∧KeptT R' t wa w') :
  Calls Tryz.prog 72 #[.pointer (some ⟨t,0,none⟩)] w fun e' w' => e'=.returned (.tuple #[.agg #[.int .i64 y0,.string y1,.string y2],.int .i64 e])∧TxS w0 R w' t d s n E'∧KeptT R t w w' := by
 obtain ⟨a1,a2,a3,a4,a5,a6,a7⟩:=h.box (.cells #[.pointer (some ⟨t,0,none⟩)] 24);obtain ⟨x1,hx1⟩:∃ x1,w.alloc (.cells #[.pointer (some ⟨t,0,none⟩)] 24)=x1:=⟨_,rfl⟩
 rw [hx1] at a1 a2 a3 a5;obtain ⟨b1,b2,b3,b4,b5,b6,b7⟩:=a1.box (.cells #[.int .i64 0,.string ⟨#[]⟩,.string ⟨#[]⟩] 115);obtain ⟨x2,hx2⟩:∃ x2,x1.alloc (.cells #[.int .i64 0,.string ⟨#[]⟩,.string ⟨#[]⟩] 115)=x2:=⟨_,rfl⟩
 rw [hx2] at b1 b2 b3 b5;rw [a5] at b1 b3 b4 b5 b6 b7;have hkw:KeptT R t w x2:=a2.trans (b2.sub (fun k hk=>by simp [hk]));have VC:=Hd (PN (hk:=fun w=>by kernel_rfl) (n:=n) (E' := E') (caps:=#[.pointer (some ⟨w.heap.size,0,none⟩)]) b1 he (fun R' wa hs hT hK=>HC R' wa (w.heap.size) hT ((hK (w.heap.size) (by simp) a4).trans ((b2 (w.heap.size) (by simp) a4).trans (a3))) ⟨hs (w.heap.size) (by simp),a4⟩));have KP:=Hd (And.intro hkw (And.intro b3 (And.intro b4 (And.intro b6 (show ∀ k∈R,k≠w.heap.size + 1 from fun k hk=>b7 k (by simp [hk]))))))
 have bx:=(aM ((b2 (w.heap.size) (by simp) a4).trans (a3))).1;have X1:=Hd (And.intro hx1 hx2);clear h he HC hkw a1 a2 a3 a4 a5 a6 a7 b1 b2 b3 b4 b5 b6 b7 hx1 hx2;go_enter Tryz.func72,Tryz.ntmps72;go_upto_region 1 with fail
 try simp only [World.heap_size_alloc]
 rw [X1.out.1,X1.out.2];go_wp2_with fail;refine VC.out.mono ?_;rintro e' w2 ⟨rfl,h1,h2⟩;have r4:=(h2 (w.heap.size + 1) (by simp) KP.out.2.2.1).trans KP.out.2.1;obtain ⟨⟨q0,q1,q2⟩,u0,u1,u2⟩:=gI r4;obtain ⟨n1,n2⟩:=ZE r4 (.int .i64 y0) (.string y1) (.string y2)
 have FIN:Hid ((stR w2 (w.heap.size + 1) (.int .i64 y0) (.string y1) (.string y2)).heap[w.heap.size + 1]?=some (.cells #[.int .i64 y0,.string y1,.string y2] 115)∧TxS w0 R (stR w2 (w.heap.size + 1) (.int .i64 y0) (.string y1) (.string y2)) t d s n E'∧KeptT R t w (stR w2 (w.heap.size + 1) (.int .i64 y0) (.string y1) (.string y2))):=Hd (by
  refine ⟨n1,(h1.turn (k:=w.heap.size + 1) (by simp) KP.out.2.2.1 KP.out.2.2.2.1 n2).sub (fun k hk=>by simp [hk]),fun k hk hn=>?_⟩;exact (n2.block k (h1.lt.1 k (by simp [hk])) (KP.out.2.2.2.2 k hk)).trans ((h2 k (by simp [hk]) hn).trans (KP.out.1 k hk hn)))
 clear h1 h2 VC r4 n1 n2 bx;unfold stR at FIN;go_wp2_with fail;exact bodyPost_ret (v:=.tuple #[.agg #[.int .i64 y0,.string y1,.string y2],.int .i64 e]) (aQ (fn:=Tryz.f72) rfl _ _ (w.heap.size + 1) 115 _ (0,0) _ _ rfl rfl FIN.out.1 Tryz.underlying115 rfl mB) rfl ⟨rfl,FIN.out.2⟩
theorem oN (m q:Int) (w:World) (hq:iJ 9 0 m=q) :
  Calls Tryz.prog 73 #[.int .i64 m] w fun e w' => e=.returned (.int .u64 q)∧w=w' := by
 have HQ:=Hd hq;clear hq;go_enter Tryz.func73,Tryz.ntmps73;go_wp2_with fail;refine (oQ _ _ _ _).mono ?_;rw [HQ.out];rintro e w1 ⟨rfl,rfl⟩;go_wp2_with fail;go_ret;exact ⟨rfl,rfl⟩
theorem wV {w0 w:World} {R:List Nat} {t d s n:Nat} {E:List Ent} {bn bt:Nat} {m q:Int} (h:TxS w0 R w t d s n E) (hn:w.heap[bn]?=some (.cells #[.int .i64 m] 3)) (hb:w.heap[bt]?=some (.cells #[.pointer (some ⟨t,0,none⟩)] 24)) (hm:(bn∈R∧bn≠t)∧(bt∈R∧bt≠t)) (hE:E.length≤600) (hq:iJ 9 0 m=q∧fZ 9 0 m=true) (hg:iK q E=false) :
  Calls Tryz.prog 135 #[.pointer (some ⟨bn,0,none⟩),.pointer (some ⟨bt,0,none⟩)] w fun e w' => e=.returned (.tuple #[.int .i64 0,.int .i64 0])∧TxS w0 R w' t d s n E∧KeptT R t w w' := by
 have hqr:=rE 9 0 m;rw [hq.1] at hqr;have GE:=Hd (CH (key:=q) h hE hqr ⟨#[]⟩ false (by unfold gX iK at *; revert hg; cases mK q E <;> simp) hg);clear hg;have KY:=Hd (fun w=>by have:=oQ 9 0 m w; rw [hq.1,hq.2] at this; exact this);have c0:=(aM hn).1;have c1:=(aM hb).1;clear h hn hb hm hE hq hqr;go_enter Tryz.func135,Tryz.ntmps135;go_wp2_with fail;refine (KY.out _).mono ?_;rintro e w1 ⟨rfl,rfl⟩;go_wp2_with fail;refine GE.out.mono ?_;rintro e w2 ⟨rfl,h1,h2⟩;have FIN:=Hd (And.intro h1 h2);clear h1 h2 GE c0 c1;go_wp2_with fail;go_ret2
 exact ⟨rfl,FIN.out⟩
theorem wU {w0 w:World} {R:List Nat} {t d s n:Nat} {E:List Ent} {bn bt:Nat} {m q:Int} (h:TxS w0 R w t d s n E) (hn:w.heap[bn]?=some (.cells #[.int .i64 m] 3)) (hb:w.heap[bt]?=some (.cells #[.pointer (some ⟨t,0,none⟩)] 24)) (hm:(bn∈R∧bn≠t)∧(bt∈R∧bt≠t)) (hE:E.length≤600) (hq:iJ 9 0 m=q∧fZ 9 0 m=true) {v:Int} (hg:iK q E=true) (hv:gX q E=Str (aL v 3)) (h0:0≤v) (h1:v≤16777215) :
  Calls Tryz.prog 135 #[.pointer (some ⟨bn,0,none⟩),.pointer (some ⟨bt,0,none⟩)] w fun e w' => e=.returned (.tuple #[.int .i64 v,.int .i64 0])∧TxS w0 R w' t d s n E∧KeptT R t w w' := by
 have hqr:=rE 9 0 m;rw [hq.1] at hqr;obtain ⟨q1,q2,q3,q4⟩:=BD h0 h1;obtain ⟨X,hX⟩:∃ X,Str (aL v 3)=X:=⟨_,rfl⟩
 rw [hX] at q1 q2 q3 hv;have TA:=Hd (fun w=>by have:=dQ X 3 w; rw [q1,q2,q3] at this; exact this);have GE:=Hd (CH (key:=q) h hE hqr X true hv hg);have hw1:IntKind.i64.wrap v=v:=IntWalk.i64_in _ (by omega);clear hg hv h0 h1 q1 q2 q3 q4 hX;have KY:=Hd (fun w=>by have:=oQ 9 0 m w; rw [hq.1,hq.2] at this; exact this);have c0:=(aM hn).1;have c1:=(aM hb).1;clear h hn hb hm hE hq hqr;go_enter Tryz.func135,Tryz.ntmps135;go_wp2_with fail;refine (KY.out _).mono ?_;rintro e w1 ⟨rfl,rfl⟩;go_wp2_with fail;refine GE.out.mono ?_;rintro e w2 ⟨rfl,h1,h2⟩
 have FIN:=Hd (And.intro h1 h2);clear h1 h2 GE c0 c1;go_wp2_with fail;refine (TA.out _).mono ?_;rintro e w8 ⟨rfl,b8⟩;have F8:=Hd (And.intro (FIN.out.1.below b8) (FIN.out.2.trans (FIN.out.1.kept b8)));clear b8 FIN;go_wp2_with fail;go_ret2;exact ⟨rfl,F8.out⟩
theorem aBN {w0 w:World} {R:List Nat} {t d s n:Nat} {E:List Ent} {m q v:Int} (h:TxS w0 R w t d s n E) (hE:E.length≤600) (hq:iJ 9 0 m=q∧fZ 9 0 m=true) (hn:NumE E q v) :
  Calls Tryz.prog 114 #[.pointer (some ⟨t,0,none⟩),.int .i64 m] w fun e w' => e=.returned (.tuple #[.int .i64 v,.int .i64 0])∧TxS w0 R w' t d s n E∧KeptT R t w w' :=
 aBM h (.inl ⟨rfl,rfl⟩) fun R' wa b0 b1 hT g0 g1 gm=>by
  rcases hn with ⟨k1,rfl⟩ | ⟨k1,k2,k3,k4⟩
  ·exact wV hT g1 g0 ⟨gm.2,gm.1⟩ hE hq k1
  ·exact wU hT g1 g0 ⟨gm.2,gm.1⟩ hE hq k1 k2 k3 k4
theorem WA {w0 w:World} {R:List Nat} {t d s n:Nat} {E:List Ent} {bt:Nat} {v:Int} {a b:ByteArray} (h:TxS w0 R w t d s n E) (hb:w.heap[bt]?=some (.cells #[.pointer (some ⟨t,0,none⟩)] 24)) (hm:bt∈R∧bt≠t) (hE:E.length≤600) (hr:RingE E v a b) :
  Calls Tryz.prog 113 #[.pointer (some ⟨bt,0,none⟩)] w fun e w' => e=.returned (.tuple #[.agg #[.int .i64 v,.string a,.string b],.int .i64 0])∧TxS w0 R w' t d s n E∧KeptT R t w w' := by
 obtain ⟨a1,a2,a3,a4,a5,a6,a7⟩:=h.box (.cells #[.int .i64 0,.string ⟨#[]⟩,.string ⟨#[]⟩] 115);obtain ⟨r3,hr3⟩:∃ r3,w.heap.size=r3:=⟨_,rfl⟩
 obtain ⟨x1,hx1⟩:∃ x1,w.alloc (.cells #[.int .i64 0,.string ⟨#[]⟩,.string ⟨#[]⟩] 115)=x1:=⟨_,rfl⟩
 rw [hx1] at a1 a2 a3 a5;rw [hr3] at a1 a3 a4 a5 a6 a7;have X1:=Hd hx1;have HR4:=Hd (And.intro a6 a7);have A3:=Hd (And.intro a3 a4);have A2:=Hd a2;have hb1:=(a2 bt hm.1 hm.2).trans hb;have d0:=(aM hb1).1;have HB1:=Hd hb1;have HM:=Hd hm;have HE:=Hd hE;have HR:=Hd hr;have e1:¬ (65535:Int) < v:=by have:=hr.range; omega
 have NU:=Hd (aBN (m:=5) (q:=10376293541461622789) a1 hE ⟨by decide,by decide⟩ hr.num);clear h hb hm hE hr a1 a2 a3 a4 a5 a6 a7 hx1 hb1;go_enter Tryz.func113,Tryz.ntmps113;go_upto_region 1 with fail
 rw [X1.out];clear hr3;go_wp2_with fail;refine NU.out.mono ?_;rintro e w3 ⟨rfl,h1,h2⟩;have F3:=Hd (And.intro (h1.below Br.drew) (show KeptT (r3 :: R) t x1 w3.drew from h2));have hA:=Hd (show w3.drew.heap[bt]?=some (.cells #[.pointer (some ⟨t,0,none⟩)] 24) from (h2 bt (by simp [HM.out.1]) HM.out.2).trans HB1.out);have GN:=Hd (CH (key:=10376293541461622790) (h1.below Br.drew) HE.out (by decide) a (iK 10376293541461622790 E) HR.out.now rfl);clear h1 h2 NU d0;go_upto_region 4 with fail
 refine wp_region_held_drew (S:=fun w' => w'.heap[bt]?=some (.cells #[.pointer (some ⟨t,0,none⟩)] 24)) (by kernel_rfl) hA.out (fun hS=>?_);refine Hv 0 21 ?va0x1 hS ?ha0x1 ?_
 case ha0x1 =>
  intro w9 s9;have k9:=(aM s9).1;clear s9;go_simp;try (with_reducible rfl)
 simp only [SL];refine Hs 1 (fun K HK=>?_);go_simp;go_wp2_with fail;refine (oN 6 10376293541461622790 _ (by decide)).mono ?_;rintro e w6 ⟨rfl,rfl⟩;refine HK.out _ _ ?_ ?_
 ·exact hS
 clear HK K;try simp only [Act.put,SL]
 refine Hs 2 (fun K HK=>?_);go_simp;go_wp2_with fail;refine GN.out.mono ?_;rintro e w7 ⟨rfl,h1,h2⟩;refine HK.out _ _ ?_ ?_
 ·exact (h2 bt (by simp [HM.out.1]) HM.out.2).trans hS
 clear HK K;try simp only [Act.put,SL]
 have hS9:=(h2 bt (by simp [HM.out.1]) HM.out.2).trans hS;clear hS;have hS:=hS9;clear hS9;have F4:=Hd (And.intro h1 (F3.out.2.trans (h2)));clear h1 h2 GN F3;refine Hu 3 20 hS ?_;simp only [SL];refine Hu 4 24 hS ?_;simp only [SL];refine Hu 5 25 hS ?_;simp only [SL];refine Hu 6 5 hS ?_;simp only [SL];refine Hu 7 6 hS ?_;simp only [SL];refine wpAnyH_done (by kernel_rfl) ?_ _;have hB:=Hd (show w7.drew.heap[bt]?=some (.cells #[.pointer (some ⟨t,0,none⟩)] 24) from hS);clear hS
 have GL:=Hd (CH (key:=10376293541461622791) (F4.out.1.below Br.drew) HE.out (by decide) b (iK 10376293541461622791 E) HR.out.last rfl);go_upto_region 5 with fail
 refine wp_region_held_drew (S:=fun w' => w'.heap[bt]?=some (.cells #[.pointer (some ⟨t,0,none⟩)] 24)) (by kernel_rfl) hB.out (fun hS=>?_);refine Hv 0 27 ?vb0x1 hS ?hb0x1 ?_
 case hb0x1 =>
  intro w9 s9;have k9:=(aM s9).1;clear s9;go_simp;try (with_reducible rfl)
 simp only [SL];refine Hs 1 (fun K HK=>?_);go_simp;go_wp2_with fail;refine (oN 7 10376293541461622791 _ (by decide)).mono ?_;rintro e w6 ⟨rfl,rfl⟩;refine HK.out _ _ ?_ ?_
 ·exact hS
 clear HK K;try simp only [Act.put,SL]
 refine Hs 2 (fun K HK=>?_);go_simp;go_wp2_with fail;refine GL.out.mono ?_;rintro e w7 ⟨rfl,h1,h2⟩;refine HK.out _ _ ?_ ?_
 ·exact (h2 bt (by simp [HM.out.1]) HM.out.2).trans hS
 clear HK K;try simp only [Act.put,SL]
 have hS9:=(h2 bt (by simp [HM.out.1]) HM.out.2).trans hS;clear hS;have hS:=hS9;clear hS9;have F5:=Hd (And.intro h1 (F4.out.2.trans (h2)));clear h1 h2 GL F4;refine Hu 3 26 hS ?_;simp only [SL];refine Hu 4 30 hS ?_;simp only [SL];refine Hu 5 31 hS ?_;simp only [SL];refine Hu 6 7 hS ?_;simp only [SL];refine Hu 7 8 hS ?_;simp only [SL];refine wpAnyH_done (by kernel_rfl) ?_ _;have r7:=(F5.out.2 r3 (by simp) A3.out.2).trans A3.out.1;obtain ⟨⟨y0,y1,y2⟩,u0,u1,u2⟩:=gI r7;obtain ⟨n1,n2⟩:=ZE r7 (.int .i64 v) (.string a) (.string b)
 have FIN:Hid ((stR w7 r3 (.int .i64 v) (.string a) (.string b)).heap[r3]?=some (.cells #[.int .i64 v,.string a,.string b] 115)∧TxS w0 R (stR w7 r3 (.int .i64 v) (.string a) (.string b)) t d s n E∧KeptT R t w (stR w7 r3 (.int .i64 v) (.string a) (.string b))):=Hd (by
  refine ⟨n1,(F5.out.1.turn (k:=r3) (by simp) A3.out.2 HR4.out.1 n2).sub (fun k hk=>by simp [hk]),fun k hk hn=>?_⟩;exact (n2.block k (F5.out.1.lt.1 k (by simp [hk])) (HR4.out.2 k hk)).trans ((F5.out.2 k (by simp [hk]) hn).trans (A2.out k hk hn)))
 unfold stR at FIN;clear n1 n2 r7 hS;go_wp2_with fail;exact bodyPost_ret (v:=.tuple #[.agg #[.int .i64 v,.string a,.string b],.int .i64 0]) (aQ (fn:=Tryz.f113) rfl _ _ r3 115 _ (0,0) _ _ rfl rfl FIN.out.1 Tryz.underlying115 rfl mB) rfl ⟨rfl,FIN.out.2⟩
theorem tI {w0 w:World} {R:List Nat} {t d s n:Nat} {E:List Ent} {v:Int} {a b:ByteArray} (h:TxS w0 R w t d s n E) (hE:E.length≤600) (hr:RingE E v a b) :
  Calls Tryz.prog 72 #[.pointer (some ⟨t,0,none⟩)] w fun e w' => e=.returned (.tuple #[.agg #[.int .i64 v,.string a,.string b],.int .i64 0])∧TxS w0 R w' t d s n E∧KeptT R t w w' :=
 WQ h (.inl ⟨rfl,rfl,rfl,rfl⟩) fun R' wa p0 hT g0 gm=>WA hT g0 gm hE hr
theorem aCT {w0 w:World} {R:List Nat} {t d s n:Nat} {E E' : List Ent} {c:ByteArray} {x e y:Int} (h:TxS w0 R w t d s n E) (he:(e=0∧y=x)∨(e≠0∧y=0))
  (HC:∀ (R' : List Nat) (wa:World) (b0 b1:Nat),TxS w0 R' wa t d s n E→(wa.heap[b0]?=some (.cells #[.pointer (some ⟨t,0,none⟩)] 24))→(wa.heap[b1]?=some (.cells #[.string c] 9))→((b0∈R'∧b0≠t)∧(b1∈R'∧b1≠t))→Calls Tryz.prog 71 #[.pointer (some ⟨b1,0,none⟩),.pointer (some ⟨b0,0,none⟩)] wa fun e' w' => e'=.returned (.tuple #[.int .i64 x,.int .i64 e])∧TxS w0 R' w' t d s n E'∧KeptT R' t wa w') :
  Calls Tryz.prog 34 #[.pointer (some ⟨t,0,none⟩),.string c] w fun e' w' => e'=.returned (.tuple #[.int .i64 y,.int .i64 e])∧TxS w0 R w' t d s n E'∧KeptT R t w w' := by
 obtain ⟨a1,a2,a3,a4,a5,a6,a7⟩:=h.box (.cells #[.pointer (some ⟨t,0,none⟩)] 24);obtain ⟨x1,hx1⟩:∃ x1,w.alloc (.cells #[.pointer (some ⟨t,0,none⟩)] 24)=x1:=⟨_,rfl⟩
 rw [hx1] at a1 a2 a3 a5;obtain ⟨b1,b2,b3,b4,b5,b6,b7⟩:=a1.box (.cells #[.string c] 9);obtain ⟨x2,hx2⟩:∃ x2,x1.alloc (.cells #[.string c] 9)=x2:=⟨_,rfl⟩
 rw [hx2] at b1 b2 b3 b5;rw [a5] at b1 b3 b4 b5 b6 b7;have hkw:KeptT R t w x2:=a2.trans (b2.sub (fun k hk=>by simp [hk]))
 have VC:=Hd (pT (hk:=fun w=>by kernel_rfl) (n:=n) (E' := E') (x:=x) (e:=e) (y:=y) (caps:=#[.pointer (some ⟨w.heap.size + 1,0,none⟩),.pointer (some ⟨w.heap.size,0,none⟩)]) b1 he (fun R' wa hs hT hK=>HC R' wa (w.heap.size) (w.heap.size + 1) hT ((hK (w.heap.size) (by simp) a4).trans ((b2 (w.heap.size) (by simp) a4).trans (a3))) ((hK (w.heap.size + 1) (by simp) b4).trans (b3)) ⟨⟨hs (w.heap.size) (by simp),a4⟩,⟨hs (w.heap.size + 1) (by simp),b4⟩⟩));have KP:=Hd hkw;have bx:=(aM ((b2 (w.heap.size) (by simp) a4).trans (a3))).1;have X1:=Hd (And.intro hx1 hx2)
 clear h he HC hkw a1 a2 a3 a4 a5 a6 a7 b1 b2 b3 b4 b5 b6 b7 hx1 hx2;go_enter Tryz.func34,Tryz.ntmps34;go_upto_region 1 with fail
 try simp only [World.heap_size_alloc]
 rw [X1.out.1,X1.out.2];go_wp2_with fail;refine VC.out.mono ?_;rintro e' w2 ⟨rfl,h1,h2⟩;have FIN:Hid (TxS w0 R w2 t d s n E'∧KeptT R t w w2):=Hd ⟨h1.sub (fun k hk=>by simp [hk]),KP.out.trans (h2.sub (fun k hk=>by simp [hk]))⟩;clear h1 h2 VC bx;go_wp2_with fail;go_ret2;exact ⟨rfl,FIN.out⟩
theorem zN {w0 w:World} {R:List Nat} {t d s:Nat} {E:List Ent} {bs bt:Nat} {c:ByteArray} {v m:Int} {a b X:ByteArray} (h:TxS w0 R w t d s 640 E) (hs:w.heap[bs]?=some (.cells #[.string c] 9)) (hb:w.heap[bt]?=some (.cells #[.pointer (some ⟨t,0,none⟩)] 24)) (hm:(bs∈R∧bs≠t)∧(bt∈R∧bt≠t)) (hE:E.length≤290) (hr:RingE E v a b) (hc:c.size=32) (ha:a.size≤40) (hv:v < 65535) (hvm:v + 1=m) (hX:Str (aL m 3)=X) :
  Calls Tryz.prog 71 #[.pointer (some ⟨bs,0,none⟩),.pointer (some ⟨bt,0,none⟩)] w fun e w' => e=.returned (.tuple #[.int .i64 m,.int .i64 0])∧TxS w0 R w' t d s 640 (bT 10376293541461622790 c (bT 10376293541461622791 a (bT 10376293541461622789 X E)))∧KeptT R t w w' := by
 have c0:=(aM hs).1;have c1:=(aM hb).1;have e1:(c.size:Int)=32:=by omega
 have hrr:=hr.range;have e2:¬ v=65535:=by omega
 have e3:IntKind.i64.wrap (v + 1)=m:=by rw [hvm]; exact IntWalk.i64_in _ (by omega)
 have e4:IntKind.u64.wrap m=m:=IntWalk.u64_in _ (by omega);have hm0:0≤m:=by omega
 have hXs:=(BD hm0 (show m≤16777215 by omega)).2.2.2;have PT:=Hd (fun w=>by have:=jE m 3 w hm0; rw [hX] at this; exact this);rw [hX] at hXs;have HZ:=Hd (And.intro hE (And.intro (And.intro ha (show X.size≤40 by omega)) (show c.size≤40 by omega)));have KY:=Hd (tI h (show E.length≤600 by omega) hr);have HM:=Hd hm;have HBX:=Hd (And.intro hs hb);clear h hs hb hm hE hr hc ha hv hrr hm0 hX hXs hvm;go_enter Tryz.func71,Tryz.ntmps71;go_wp2_with fail;refine KY.out.mono ?_;rintro e w2 ⟨rfl,h1,h2⟩
 obtain ⟨a1,a2,a3,a4,a5,a6,a7⟩:=h1.box (.cells #[.int .i64 v,.string a,.string b] 115);obtain ⟨br,hbr⟩:∃ r3,w2.heap.size=r3:=⟨_,rfl⟩
 obtain ⟨x1,hx1⟩:∃ x1,w2.alloc (.cells #[.int .i64 v,.string a,.string b] 115)=x1:=⟨_,rfl⟩
 rw [hx1] at a1 a2 a3 a5;rw [hbr] at a1 a3 a4 a5 a6 a7;have X1:=Hd (And.intro hx1 hbr);have HB:=Hd a4;have m1:=(a2 bs HM.out.1.1 HM.out.1.2).trans ((h2 bs HM.out.1.1 HM.out.1.2).trans HBX.out.1);have m2:=(a2 bt HM.out.2.1 HM.out.2.2).trans ((h2 bt HM.out.2.1 HM.out.2.2).trans HBX.out.2);have F1:=Hd (And.intro a1 (And.intro (h2.trans a2) (And.intro m1 (And.intro m2 a3))));clear c0 c1;obtain ⟨⟨y0,y1,y2⟩,_⟩:=gI a3;clear h1 h2 KY a1 a2 a3 a4 a5 a6 a7 hx1 hbr m1 m2;go_upto_region 8 with fail
 rw [X1.out.1,X1.out.2];go_wp2_with fail;refine (PT.out _).mono ?_;rintro e w3 ⟨rfl,b3⟩;have hA:=Hd (show (fun w' => w'.heap[bt]?=some (.cells #[.pointer (some ⟨t,0,none⟩)] 24)∧w'.heap[bs]?=some (.cells #[.string c] 9)∧w'.heap[br]?=some (.cells #[.int .i64 v,.string a,.string b] 115)) w3.drew from ⟨bG F1.out.2.2.2.1 b3.drew,bG F1.out.2.2.1 b3.drew,bG F1.out.2.2.2.2 b3.drew⟩);have PU:=Hd (KO (key:=10376293541461622789) (val:=X) ((F1.out.1.below b3).below Br.drew) (show E.length≤300 by have:=HZ.out.1; omega) (by decide) HZ.out.2.1.2)
 have G:=Hd (And.intro ((F1.out.1.below b3).below Br.drew) (show KeptT (br :: R) t w3 w3.drew from fun _ _ _=>rfl));have HK3:Hid (KeptT R t w w3):=Hd (F1.out.2.1.trans ((F1.out.1.kept b3).sub fun k hk=>by simp [hk]));clear b3 F1 y0 y1 y2;go_upto_region 9 with fail
 refine wp_region_held_drew (S:=fun w' => w'.heap[bt]?=some (.cells #[.pointer (some ⟨t,0,none⟩)] 24)∧w'.heap[bs]?=some (.cells #[.string c] 9)∧w'.heap[br]?=some (.cells #[.int .i64 v,.string a,.string b] 115)) (by kernel_rfl) hA.out (fun hS=>?_);refine Hv 0 30 ?va0x1 hS ?ha0x1 ?_
 case ha0x1 =>
  intro w9 s9;have k9:=(aM s9.1).1;clear s9;go_simp;try (with_reducible rfl)
 simp only [SL];refine Hu 2 32 hS ?_;simp only [SL];refine Hs 1 (fun K HK=>?_);go_simp;go_wp2_with fail;refine (oN 5 10376293541461622789 _ (by decide)).mono ?_;rintro e w6 ⟨rfl,rfl⟩;refine HK.out _ _ ?_ ?_
 ·exact hS
 clear HK K;try simp only [Act.put,SL]
 refine Hs 3 (fun K HK=>?_);go_simp;go_wp2_with fail;refine PU.out.mono ?_;rintro e w7 ⟨rfl,h1,h2⟩;refine HK.out _ _ ?_ ?_
 ·exact ⟨(h2 bt (by simp [HM.out.2.1]) HM.out.2.2).trans hS.1,(h2 bs (by simp [HM.out.1.1]) HM.out.1.2).trans hS.2.1,(h2 br (by simp) HB.out).trans hS.2.2⟩
 clear HK K;try simp only [Act.put,SL]
 have hS9:=(show (_∧_∧_) from ⟨(h2 bt (by simp [HM.out.2.1]) HM.out.2.2).trans hS.1,(h2 bs (by simp [HM.out.1.1]) HM.out.1.2).trans hS.2.1,(h2 br (by simp) HB.out).trans hS.2.2⟩)
 clear hS;have hS:=hS9;clear hS9;have F9:=Hd (And.intro h1 (G.out.2.trans h2));clear h1 h2 PU G;refine wpAnyH_done (by kernel_rfl) ?_ _;have hA:=Hd (show (fun w' => w'.heap[bt]?=some (.cells #[.pointer (some ⟨t,0,none⟩)] 24)∧w'.heap[bs]?=some (.cells #[.string c] 9)∧w'.heap[br]?=some (.cells #[.int .i64 v,.string a,.string b] 115)) w7.drew from hS);clear hS;have PU:=Hd (KO (key:=10376293541461622791) (val:=a) (F9.out.1.below Br.drew) (by have:=HZ.out.1; have:=tF 10376293541461622789 X E; omega) (by decide) HZ.out.2.1.1)
 have G:=Hd (And.intro (F9.out.1.below Br.drew) (show KeptT (br :: R) t w3 w7.drew from F9.out.2));clear F9;go_upto_region 10 with fail
 refine wp_region_held_drew (S:=fun w' => w'.heap[bt]?=some (.cells #[.pointer (some ⟨t,0,none⟩)] 24)∧w'.heap[bs]?=some (.cells #[.string c] 9)∧w'.heap[br]?=some (.cells #[.int .i64 v,.string a,.string b] 115)) (by kernel_rfl) hA.out (fun hS=>?_);refine Hv 0 34 ?vb0x1 hS ?hb0x1 ?_
 case hb0x1 =>
  intro w9 s9;have k9:=(aM s9.1).1;clear s9;go_simp;try (with_reducible rfl)
 simp only [SL];refine Hu 2 36 hS ?_;simp only [SL];refine Hv 3 37 ?vb3x3 hS ?hb3x3 ?_
 case hb3x3 =>
  intro w9 s9;obtain ⟨⟨k0,k1,k2⟩,_⟩:=gI s9.2.2;clear s9;go_simp;try (with_reducible rfl)
 simp only [SL];refine Hs 1 (fun K HK=>?_);go_simp;go_wp2_with fail;refine (oN 7 10376293541461622791 _ (by decide)).mono ?_;rintro e w6 ⟨rfl,rfl⟩;refine HK.out _ _ ?_ ?_
 ·exact hS
 clear HK K;try simp only [Act.put,SL]
 refine Hs 4 (fun K HK=>?_);go_simp;go_wp2_with fail;refine PU.out.mono ?_;rintro e w7 ⟨rfl,h1,h2⟩;refine HK.out _ _ ?_ ?_
 ·exact ⟨(h2 bt (by simp [HM.out.2.1]) HM.out.2.2).trans hS.1,(h2 bs (by simp [HM.out.1.1]) HM.out.1.2).trans hS.2.1,(h2 br (by simp) HB.out).trans hS.2.2⟩
 clear HK K;try simp only [Act.put,SL]
 have hS9:=(show (_∧_∧_) from ⟨(h2 bt (by simp [HM.out.2.1]) HM.out.2.2).trans hS.1,(h2 bs (by simp [HM.out.1.1]) HM.out.1.2).trans hS.2.1,(h2 br (by simp) HB.out).trans hS.2.2⟩)
 clear hS;have hS:=hS9;clear hS9;have F10:=Hd (And.intro h1 (G.out.2.trans h2));clear h1 h2 PU G;refine wpAnyH_done (by kernel_rfl) ?_ _;have hA:=Hd (show (fun w' => w'.heap[bt]?=some (.cells #[.pointer (some ⟨t,0,none⟩)] 24)∧w'.heap[bs]?=some (.cells #[.string c] 9)∧w'.heap[br]?=some (.cells #[.int .i64 v,.string a,.string b] 115)) w7.drew from hS);clear hS
 have PU:=Hd (KO (key:=10376293541461622790) (val:=c) (F10.out.1.below Br.drew) (by have:=HZ.out.1; have:=tF 10376293541461622789 X E; have:=tF 10376293541461622791 a (bT 10376293541461622789 X E); omega) (by decide) HZ.out.2.2);have G:=Hd (And.intro (F10.out.1.below Br.drew) (show KeptT (br :: R) t w3 w7.drew from F10.out.2));clear F10;go_upto_region 11 with fail
 refine wp_region_held_drew (S:=fun w' => w'.heap[bt]?=some (.cells #[.pointer (some ⟨t,0,none⟩)] 24)∧w'.heap[bs]?=some (.cells #[.string c] 9)∧w'.heap[br]?=some (.cells #[.int .i64 v,.string a,.string b] 115)) (by kernel_rfl) hA.out (fun hS=>?_);refine Hv 0 39 ?vc0x1 hS ?hc0x1 ?_
 case hc0x1 =>
  intro w9 s9;have k9:=(aM s9.1).1;clear s9;go_simp;try (with_reducible rfl)
 simp only [SL];refine Hv 2 41 ?vc2x2 hS ?hc2x2 ?_
 case hc2x2 =>
  intro w9 s9;have k9:=(aM s9.2.1).1;clear s9;go_simp;try (with_reducible rfl)
 simp only [SL];refine Hs 1 (fun K HK=>?_);go_simp;go_wp2_with fail;refine (oN 6 10376293541461622790 _ (by decide)).mono ?_;rintro e w6 ⟨rfl,rfl⟩;refine HK.out _ _ ?_ ?_
 ·exact hS
 clear HK K;try simp only [Act.put,SL]
 refine Hs 3 (fun K HK=>?_);go_simp;go_wp2_with fail;refine PU.out.mono ?_;rintro e w7 ⟨rfl,h1,h2⟩;refine HK.out _ _ ?_ ?_
 ·exact ⟨(h2 bt (by simp [HM.out.2.1]) HM.out.2.2).trans hS.1,(h2 bs (by simp [HM.out.1.1]) HM.out.1.2).trans hS.2.1,(h2 br (by simp) HB.out).trans hS.2.2⟩
 clear HK K;try simp only [Act.put,SL]
 have hS9:=(show (_∧_∧_) from ⟨(h2 bt (by simp [HM.out.2.1]) HM.out.2.2).trans hS.1,(h2 bs (by simp [HM.out.1.1]) HM.out.1.2).trans hS.2.1,(h2 br (by simp) HB.out).trans hS.2.2⟩)
 clear hS;have hS:=hS9;clear hS9;have F11:=Hd (And.intro h1 (G.out.2.trans h2));clear h1 h2 PU G;refine wpAnyH_done (by kernel_rfl) ?_ _;obtain ⟨⟨k0,k1,k2⟩,_⟩:=gI hS.2.2;clear hS;have FIN:Hid (TxS w0 R w7 t d s 640 (bT 10376293541461622790 c (bT 10376293541461622791 a (bT 10376293541461622789 X E)))∧KeptT R t w w7):=Hd ⟨F11.out.1.sub fun k hk=>by simp [hk],fun k hk hn=>(F11.out.2 k (by simp [hk]) hn).trans (HK3.out k hk hn)⟩;go_wp2_with fail;go_ret2;exact ⟨rfl,FIN.out⟩
theorem IL {w0 w:World} {R:List Nat} {t d s:Nat} {L:List (Int × Int × Int)} {n:Nat} {a b c:ByteArray} (h:TxS w0 R w t d s 640 (slE 0 L ++ fH n a b)) (hL:L.length≤200) (hn:n < 65535) (h0:n=0→a=⟨#[]⟩∧b=⟨#[]⟩) (ha:a.size≤40) (hc:c.size=32) :
  Calls Tryz.prog 34 #[.pointer (some ⟨t,0,none⟩),.string c] w fun e w' => e=.returned (.tuple #[.int .i64 ((n:Int) + 1),.int .i64 0])∧TxS w0 R w' t d s 640 (slE 0 L ++ fH (n + 1) c a)∧KeptT R t w w' := by
 have hm:=(oD n a b).n;have:=aCT (x:=(n:Int) + 1) (e:=0) (y:=(n:Int) + 1) h (.inl ⟨rfl,rfl⟩) (fun R' wa b0 b1 hT g0 g1 gm=>zN hT g1 g0 ⟨gm.2,gm.1⟩ (by rw [List.length_append,kJ]; omega) (wK hL (by omega) h0) hc ha (by omega) rfl rfl);rw [NQ hL h0] at this;exact this
theorem aC9 (n last:Int) (v:Bool) (w:World) (hv:inB 1 last n=v) :
  Calls Tryz.prog 106 #[.int .i64 n,.int .i64 last] w fun e w' => e=.returned (.bool v)∧w=w' := by
 have H:=Hd hv;clear hv
 by_cases h:1≤n
 all_goals
  go_enter Tryz.func106,Tryz.ntmps106
  go_wp2
  go_ret;refine ⟨?_,rfl⟩;rw [← H.out];exact bS (by rw [Bool.eq_iff_iff]; simp [inB]; omega)
theorem iP (s ep nn k:Int) (v:Bool) (w:World) (hv:fF s ep k=v) :
  Calls Tryz.prog 64 #[.agg #[.int .i64 s,.int .i64 ep,.int .u64 nn,.int .i64 k]] w fun e w' => e=.returned (.bool v)∧Below w.heap.size w w' := by
 have hf:v=(inB 1 200 s && inB 1 15 ep && inB 1 65535 k):=hv.symm;clear hv
 cases h1:inB 1 200 s
 all_goals cases h2:inB 1 15 ep
 all_goals cases h3:inB 1 65535 k
 all_goals
  rw [h1,h2,h3] at hf;simp only [Bool.and_true,Bool.and_false,Bool.true_and,Bool.false_and] at hf;have H1:=Hd h1;have H2:=Hd h2;have H3:=Hd h3;have HF:=Hd hf;clear h1 h2 h3 hf;go_enter Tryz.func64,Tryz.ntmps64
  go_wp2_with ((go_at_call 106; refine (aC9 _ _ _ _ (by first | exact H1.out | exact H2.out | exact H3.out)).mono ?_; rintro e w9 ⟨rfl,rfl⟩))
  go_ret;exact ⟨by rw [HF.out]; rfl,Br.alloc (Nat.le_refl _) _⟩
theorem kQ (n size:Int) (x:ByteArray) (w:World) (h0:0≤n) (hx:Str (aL n size)=x) :
  Calls Tryz.prog 107 #[.int .u64 n,.int .i64 size] w fun e w' => e=.returned (.string x)∧Below w.heap.size w w' := by
 have HX:=Hd hx;clear hx;go_enter Tryz.func107,Tryz.ntmps107;go_wp2_with fail;refine (jE _ _ _ h0).mono ?_;rw [HX.out];rintro e w1 ⟨rfl,b1⟩;go_wp2_with fail;go_ret;exact ⟨rfl,b1⟩
theorem CG (s ep nn k:Int) (v:ByteArray) (w:World) (hk:fF s ep k=true) (n0:0≤nn) (n1:nn≤18446744073709551615) (hv:hB s ep nn k=v) :
  Calls Tryz.prog 65 #[.agg #[.int .i64 s,.int .i64 ep,.int .u64 nn,.int .i64 k]] w fun e w' => e=.returned (.string v)∧Below w.heap.size w w' := by
 have hi:=wY hk;obtain ⟨p0,p1,p2,p3⟩:=wZ hk n0 n1;have g0:=cF p0.1;have g1:=cF p1.1;have g2:=cF p2.1;have g3:=cF p3.1;unfold hB at hv;obtain ⟨x,hx⟩:∃ x,Str (aL s 2)=x:=⟨_,rfl⟩
 obtain ⟨y,hy⟩:∃ x,Str (aL ep 1)=x:=⟨_,rfl⟩
 obtain ⟨z,hz⟩:∃ x,Str (aL nn 8)=x:=⟨_,rfl⟩
 obtain ⟨u,hu⟩:∃ x,Str (aL k 2)=x:=⟨_,rfl⟩
 rw [hx,hy,hz,hu] at hv;rw [hx] at g0;rw [hy] at g1;rw [hz] at g2;rw [hu] at g3;have Hx:=Hd hx;have Hy:=Hd hy;have Hz:=Hd hz;have Hq:=Hd hu;have HV:=Hd hv;have e1:IntKind.u64.wrap s=s:=IntWalk.u64_in _ (by omega);have e2:IntKind.u64.wrap ep=ep:=IntWalk.u64_in _ (by omega);have e3:IntKind.u64.wrap k=k:=IntWalk.u64_in _ (by omega);have s1:(9223372036854775807 < x.size + y.size)=False:=by rw [eq_iff_iff,iff_false]; omega
 have s2:(9223372036854775807 < x.size + y.size + z.size)=False:=by rw [eq_iff_iff,iff_false]; omega
 have s3:(9223372036854775807 < x.size + y.size + z.size + u.size)=False:=by rw [eq_iff_iff,iff_false]; omega
 have t1:(x ++ y).size=x.size + y.size:=ByteArray.size_append;have t2:(x ++ y ++ z).size=x.size + y.size + z.size:=by rw [ByteArray.size_append,t1]
 obtain ⟨x1,hx1⟩:∃ x1,w.alloc (.cells #[.int .i64 s,.int .i64 ep,.int .u64 nn,.int .i64 k] 48)=x1:=⟨_,rfl⟩
 obtain ⟨q1,q2,q3⟩:=aV hx1 rfl;have HC:Hid (∀ w', Below x1.heap.size x1 w'→w'.heap[w.heap.size]?=some (.cells #[.int .i64 s,.int .i64 ep,.int .u64 nn,.int .i64 k] 48)):=Hd fun w' hb=>bG q2 hb
 have HB:Hid (∀ w', Below x1.heap.size x1 w'→Below w.heap.size w w'):=Hd fun w' hb=>q3.trans (hb.mono (by omega))
 have X1:=Hd hx1;have S0:=Hd (Below.refl x1.heap.size x1).drew;have hi0:0≤s:=by omega
 have hi1:0≤ep:=by omega
 have hi3:0≤k:=by omega
 clear hx hy hz hu hk hi p0 p1 p2 p3 hv g0 g1 g2 g3 q1 q2 q3 hx1;go_enter Tryz.func65,Tryz.ntmps65;go_upto_region 1 with fail
 rw [X1.out];refine wp_region_held_drew (S:=fun w' => Below x1.heap.size x1 w') (by kernel_rfl) S0.out (fun hS=>?_);refine Hu 0 3 hS ?_;simp only [SL];refine Hv 1 4 ?va1x2 hS ?ha1x2 ?_
 case ha1x2 =>
  intro w9 s9;have k9:=HC.out _ s9;obtain ⟨⟨q0,q1,q2,q3⟩,_⟩:=aG k9;clear s9;go_simp;try (with_reducible rfl)
 simp only [SL];refine Hu 2 5 hS ?_;simp only [SL];refine Hu 4 7 hS ?_;simp only [SL];refine Hv 5 8 ?va5x5 hS ?ha5x5 ?_
 case ha5x5 =>
  intro w9 s9;have k9:=HC.out _ s9;obtain ⟨⟨q0,q1,q2,q3⟩,_⟩:=aG k9;clear s9;go_simp;try (with_reducible rfl)
 simp only [SL];refine Hu 6 9 hS ?_;simp only [SL];refine Hu 9 12 hS ?_;simp only [SL];refine Hv 10 13 ?va10x8 hS ?ha10x8 ?_
 case ha10x8 =>
  intro w9 s9;have k9:=HC.out _ s9;obtain ⟨⟨q0,q1,q2,q3⟩,_⟩:=aG k9;clear s9;go_simp;try (with_reducible rfl)
 simp only [SL];refine Hu 13 16 hS ?_;simp only [SL];refine Hv 14 17 ?va14x10 hS ?ha14x10 ?_
 case ha14x10 =>
  intro w9 s9;have k9:=HC.out _ s9;obtain ⟨⟨q0,q1,q2,q3⟩,_⟩:=aG k9;clear s9;go_simp;try (with_reducible rfl)
 simp only [SL];refine Hu 15 18 hS ?_;simp only [SL];refine Hs 3 (fun K HK=>?_);go_simp;go_wp2_with fail;refine (kQ _ _ x _ (by omega) Hx.out).mono ?_;rintro e w6 ⟨rfl,b6⟩;refine HK.out _ _ ?_ ?_
 ·exact chain hS b6
 clear HK K;try simp only [Act.put,SL]
 have hS9:=chain hS b6;clear hS b6;have hS:=hS9;clear hS9;refine Hs 7 (fun K HK=>?_);go_simp;go_wp2_with fail;refine (kQ _ _ y _ (by omega) Hy.out).mono ?_;rintro e w6 ⟨rfl,b6⟩;refine HK.out _ _ ?_ ?_
 ·exact chain hS b6
 clear HK K;try simp only [Act.put,SL]
 have hS9:=chain hS b6;clear hS b6;have hS:=hS9;clear hS9;refine Hu 8 11 hS ?_;simp only [SL];refine Hs 11 (fun K HK=>?_);go_simp;go_wp2_with fail;refine (kQ _ _ z _ (by omega) Hz.out).mono ?_;rintro e w6 ⟨rfl,b6⟩;refine HK.out _ _ ?_ ?_
 ·exact chain hS b6
 clear HK K;try simp only [Act.put,SL]
 have hS9:=chain hS b6;clear hS b6;have hS:=hS9;clear hS9;refine Hu 12 15 hS ?_;simp only [SL];refine Hs 16 (fun K HK=>?_);go_simp;go_wp2_with fail;refine (kQ _ _ u _ (by omega) Hq.out).mono ?_;rintro e w6 ⟨rfl,b6⟩;refine HK.out _ _ ?_ ?_
 ·exact chain hS b6
 clear HK K;try simp only [Act.put,SL]
 have hS9:=chain hS b6;clear hS b6;have hS:=hS9;clear hS9;refine Hu 17 20 hS ?_;simp only [SL];refine Hu 18 2 hS ?_;simp only [SL];refine wpAnyH_done (by kernel_rfl) ?_ _;have FIN:=HB.out _ hS;clear hS;have FIN:=Hd FIN;go_wp2_with fail;go_ret;exact ⟨by rw [← HV.out]; rfl,FIN.out⟩
theorem aA5 (s ep nn k:Int) (key:ByteArray) (w:World) (hk:fF s ep k=false) :
  Calls Tryz.prog 26 #[.agg #[.int .i64 s,.int .i64 ep,.int .u64 nn,.int .i64 k],.string key] w fun e w' => e=.returned (.tuple #[.string ⟨#[]⟩,.int .i64 1])∧Below w.heap.size w w' := by
 have RG:=Hd (fun w=>iP s ep nn k false w hk);clear hk;obtain ⟨x1,hx1⟩:∃ x1,w.alloc (.cells #[.int .i64 s,.int .i64 ep,.int .u64 nn,.int .i64 k] 48)=x1:=⟨_,rfl⟩
 obtain ⟨q1,q2,q3⟩:=aV hx1 rfl;obtain ⟨⟨c0,c1,c2,c3⟩,_⟩:=aG q2;have X1:=Hd hx1;have Q3:=Hd q3;clear hx1 q1 q2 q3;go_enter Tryz.func26,Tryz.ntmps26;go_upto_region 1 with fail
 rw [X1.out];go_wp2_with fail;refine (RG.out _).mono ?_;rintro e w2 ⟨rfl,b2⟩;have B2:=Hd (chain Q3.out b2);clear b2 c0 c1 c2 c3;go_wp2_with fail;go_ret2;exact ⟨rfl,B2.out⟩
theorem CF (s ep nn k:Int) (key v:ByteArray) (w:World) (hk:fF s ep k=true) (n0:0≤nn) (n1:nn≤18446744073709551615) (hkey:key.size≤140737488351232) (hv:cM s ep nn k key=v) :
  Calls Tryz.prog 26 #[.agg #[.int .i64 s,.int .i64 ep,.int .u64 nn,.int .i64 k],.string key] w fun e w' => e=.returned (.tuple #[.string v,.int .i64 0])∧Below w.heap.size w w' := by
 have hb:=oT hk n0 n1;have RG:=Hd (fun w=>iP s ep nn k true w hk);obtain ⟨b,hbb⟩:∃ b,hB s ep nn k=b:=⟨_,rfl⟩
 have BG:=Hd (fun w=>CG s ep nn k b w hk n0 n1 hbb);unfold cM at hv;rw [hbb] at hv hb;obtain ⟨g,hg⟩:∃ g,lC key b=g:=⟨_,rfl⟩
 have hgs:=lZ key b;rw [hg] at hv hgs;have TG:=Hd (fun w=>by have:=SX key b w hkey (by omega); unfold lC at hg; rw [hg] at this; exact this);have HV:=Hd hv;have s1:(9223372036854775807 < b.size + g.size)=False:=by rw [eq_iff_iff,iff_false]; omega
 clear hk n0 n1 hkey hv hbb hg hb hgs;obtain ⟨x1,hx1⟩:∃ x1,w.alloc (.cells #[.int .i64 s,.int .i64 ep,.int .u64 nn,.int .i64 k] 48)=x1:=⟨_,rfl⟩
 obtain ⟨q1,q2,q3⟩:=aV hx1 rfl;obtain ⟨⟨c0,c1,c2,c3⟩,_⟩:=aG q2;have X1:=Hd hx1;have Q2:=Hd q2;have Q3:=Hd q3;clear hx1 q1 q2 q3;go_enter Tryz.func26,Tryz.ntmps26;go_upto_region 1 with fail
 rw [X1.out];go_wp2_with fail;refine (RG.out _).mono ?_;rintro e w2 ⟨rfl,b2⟩;clear c0 c1 c2 c3;obtain ⟨⟨c0,c1,c2,c3⟩,_⟩:=aG (bG Q2.out b2);have B2:=Hd (chain Q3.out b2);clear b2;go_wp2_with fail;refine (BG.out _).mono ?_;rintro e w3 ⟨rfl,b3⟩;have B3:=Hd (chain B2.out b3);clear b3 c0 c1 c2 c3;go_wp2_with fail;refine (TG.out _).mono ?_;rintro e w4 ⟨rfl,b4⟩;have B4:=Hd (chain B3.out b4);clear b4;go_wp2_with fail;go_ret2;exact ⟨by rw [← HV.out]; rfl,B4.out⟩
theorem fG:(Tryz.prog.info? 48).map (·.size)=some 4:=by kernel_rfl
theorem cJ {P:Program} {fn:Func} {p u v:Tmp} {ty:TypeId} (h:fn.results=#[.cell p ty,.tmp u,.tmp v]) (tmps:Array Value) (w:World) (g:Nat) (t:TypeId) (cs:Array Value) (fr:Nat × Nat) (d:TypeDesc) (x y:Value)
  (hp:tmps.getD p undef=.pointer (some ⟨g,0,none⟩)) (hx:tmps.getD u undef=x) (hy:tmps.getD v undef=y) (hg:w.heap[g]?=some (.cells cs t fr))
  (hu:P.underlying ty=some d) (hd:(match d with | .struct _ | .array _ _=>true | _=>false)=true) (hi:(P.info? ty).map (·.size)=some cs.size) :
  (results fn tmps).run P w=.ok (.tuple #[.agg cs,x,y]) w:=by
 have e:(results fn tmps).run P w=(((asAddr (tmps.getD p undef)).run P w).andThen fun a w₁=>(loadVar ty a).run P w₁).andThen fun z w₂=>.ok (.tuple #[z,tmps.getD u undef,tmps.getD v undef]) w₂:=by
  simp only [results,h];simp [Sem.run_bind,Result.andThen];generalize Sem.run P (asAddr (tmps[p]?.getD undef)) w=r
  cases r with
  | ok a w1 =>
   dsimp only
  | halt x w1=>rfl
 rw [e,hp,hx,hy];simp [asAddr,run_loadVar_row w g t ty cs fr d hg hu hd hi,Result.andThen]
theorem IJ (s:ByteArray) (vs ve vn vk:Int) (r1 r2 r3 r4:ByteArray) (w:World) (hs:s.size=29) (hvs:hfS s=vs) (hve:hfE s=ve) (hvn:hfN s=vn) (hvk:hfK s=vk) (hr1' : hr1 s=r1) (hr2' : hr2 s=r2) (hr3' : hr3 s=r3) (hr4' : hr4 s=r4) (hok:fF vs ve vk=false) :
  Calls Tryz.prog 28 #[.string s] w fun e w' => e=.returned (.tuple #[.agg #[.int .i64 0,.int .i64 0,.int .u64 0,.int .i64 0],.string ⟨#[]⟩,.int .i64 2])∧Below w.heap.size w w' := by
 obtain ⟨⟨l1,l2⟩,⟨l3,l4⟩,⟨l5,l6⟩,⟨l7,l8⟩⟩:=jZ s;rw [hvs] at l1 l2;rw [hve] at l3 l4;rw [hvn] at l5 l6;rw [hvk] at l7 l8;have c1:IntKind.i64.wrap vs=vs:=IntWalk.i64_in _ (by omega);have c2:IntKind.i64.wrap ve=ve:=IntWalk.i64_in _ (by omega);have c3:IntKind.i64.wrap vk=vk:=IntWalk.i64_in _ (by omega);have RG:=Hd (fun w=>iP vs ve vn vk _ w hok);unfold hfS at hvs;unfold hr1 at hr1';unfold hfE hr1 at hve;unfold hr2 hr1 at hr2';unfold hfN hr2 hr1 at hvn;unfold hr3 hr2 hr1 at hr3';unfold hfK hr3 hr2 hr1 at hvk;unfold hr4 hr3 hr2 hr1 at hr4'
 have T1:=Hd (fun w=>by have:=dQ s 2 w; rw [show aC s 2=vs from hvs,show aA s 2=r1 from hr1'] at this; exact this);have T2:=Hd (fun w=>by have:=dQ r1 1 w; rw [← hr1', show aC (aA s 2) 1=ve from hve,show aA (aA s 2) 1=r2 from hr2', hr1'] at this; exact this);have T3:=Hd (fun w=>by have:=dQ r2 8 w; rw [← hr2', show aC (aA (aA s 2) 1) 8=vn from hvn,show aA (aA (aA s 2) 1) 8=r3 from hr3', hr2'] at this; exact this)
 have T4:=Hd (fun w=>by have:=dQ r3 2 w; rw [← hr3', show aC (aA (aA (aA s 2) 1) 8) 2=vk from hvk,show aA (aA (aA (aA s 2) 1) 8) 2=r4 from hr4', hr3'] at this; exact this);obtain ⟨g1,g2,g3⟩:True∧True∧True:=⟨trivial,trivial,trivial⟩
 have e29:(s.size:Int)=29:=by omega
 obtain ⟨r,hr⟩:∃ r,w.heap.size=r:=⟨_,rfl⟩
 obtain ⟨x1,hx1⟩:∃ x1,w.alloc (.cells #[.int .i64 0,.int .i64 0,.int .u64 0,.int .i64 0] 48)=x1:=⟨_,rfl⟩
 obtain ⟨q1,q2,q3⟩:=aV hx1 hr;have X1:=Hd hx1;have HR:Hid (w.heap.size≤r):=Hd (by omega);have Q2:=Hd q2;have Q3:=Hd q3;clear hx1 q1 q2 q3;clear hs hvs hve hvn hvk hr1' hr2' hr3' hr4' hok l1 l2 l3 l4 l5 l6 l7 l8 g1 g2 g3;go_enter Tryz.func28,Tryz.ntmps28;go_upto_region 1 with fail
 rw [X1.out];go_wp2_with fail;refine (T1.out _).mono ?_;rintro e w2 ⟨rfl,b2⟩;go_wp2_with fail;refine (T2.out _).mono ?_;rintro e w3 ⟨rfl,b3⟩;go_wp2_with fail;refine (T3.out _).mono ?_;rintro e w4 ⟨rfl,b4⟩;go_wp2_with fail;refine (T4.out _).mono ?_;rintro e w5 ⟨rfl,b5⟩;have m5:=bG (bG (bG (bG Q2.out b2) b3) b4) b5;have B5:=Hd (chain (chain (chain (chain Q3.out b2) b3) b4) b5);obtain ⟨⟨y0,y1,y2,y3⟩,u0,u1,u2,u3⟩:=aG m5;obtain ⟨n1,n2⟩:=set4 m5 (.int .i64 vs) (.int .i64 ve) (.int .u64 vn) (.int .i64 vk)
 have G6:=Hd (And.intro n1 (B5.out.trans (n2.below (fun k hk=>by rw [hk]; exact HR.out) B5.out.size)));obtain ⟨w6,hw6⟩:∃ w6,st4 w5 r (.int .i64 vs) (.int .i64 ve) (.int .u64 vn) (.int .i64 vk)=w6:=⟨_,rfl⟩
 rw [hw6] at G6;unfold st4 at hw6;have HW6:=Hd hw6;clear b2 b3 b4 b5 m5 n1 n2 B5 T1 T2 T3 T4 hw6;go_upto_region 8 with fail
 rw [HW6.out];clear y0 y1 y2 y3 u0 u1 u2 u3;obtain ⟨⟨y0,y1,y2,y3⟩,u0,u1,u2,u3⟩:=aG G6.out.1;go_wp2_with fail;refine (RG.out _).mono ?_;rintro e w7 ⟨rfl,b7⟩;have m7:=bG G6.out.1 b7;have B7:=Hd (chain G6.out.2 b7);clear y0 y1 y2 y3 u0 u1 u2 u3 b7;obtain ⟨n1,n2⟩:=set4 m7 (.int .i64 0) (.int .i64 0) (.int .u64 0) (.int .i64 0);obtain ⟨⟨y0,y1,y2,y3⟩,u0,u1,u2,u3⟩:=aG m7
 have FIN:Hid ((st4 w7 r (.int .i64 0) (.int .i64 0) (.int .u64 0) (.int .i64 0)).heap[r]?=some (.cells #[.int .i64 0,.int .i64 0,.int .u64 0,.int .i64 0] 48)∧Below w.heap.size w (st4 w7 r (.int .i64 0) (.int .i64 0) (.int .u64 0) (.int .i64 0))):=Hd ⟨n1,B7.out.trans (n2.below (fun k hk=>by rw [hk]; exact HR.out) B7.out.size)⟩;unfold st4 at FIN;clear n1 n2 m7;go_wp2_with fail
 exact bodyPost_ret (v:=.tuple #[.agg #[.int .i64 0,.int .i64 0,.int .u64 0,.int .i64 0],.string ⟨#[]⟩,.int .i64 2]) (cJ (fn:=Tryz.f28) rfl _ _ r 48 _ (0,0) _ _ _ rfl rfl rfl FIN.out.1 Tryz.underlying48 rfl fG) rfl ⟨rfl,FIN.out.2⟩
theorem CD (s:ByteArray) (vs ve vn vk:Int) (r1 r2 r3 r4:ByteArray) (w:World) (hs:s.size=29) (hvs:hfS s=vs) (hve:hfE s=ve) (hvn:hfN s=vn) (hvk:hfK s=vk) (hr1' : hr1 s=r1) (hr2' : hr2 s=r2) (hr3' : hr3 s=r3) (hr4' : hr4 s=r4) (hok:fF vs ve vk=true) :
  Calls Tryz.prog 28 #[.string s] w fun e w' => e=.returned (.tuple #[.agg #[.int .i64 vs,.int .i64 ve,.int .u64 vn,.int .i64 vk],.string r4,.int .i64 0])∧Below w.heap.size w w' := by
 obtain ⟨⟨l1,l2⟩,⟨l3,l4⟩,⟨l5,l6⟩,⟨l7,l8⟩⟩:=jZ s;rw [hvs] at l1 l2;rw [hve] at l3 l4;rw [hvn] at l5 l6;rw [hvk] at l7 l8;have c1:IntKind.i64.wrap vs=vs:=IntWalk.i64_in _ (by omega);have c2:IntKind.i64.wrap ve=ve:=IntWalk.i64_in _ (by omega);have c3:IntKind.i64.wrap vk=vk:=IntWalk.i64_in _ (by omega);have RG:=Hd (fun w=>iP vs ve vn vk _ w hok);unfold hfS at hvs;unfold hr1 at hr1';unfold hfE hr1 at hve;unfold hr2 hr1 at hr2';unfold hfN hr2 hr1 at hvn;unfold hr3 hr2 hr1 at hr3';unfold hfK hr3 hr2 hr1 at hvk;unfold hr4 hr3 hr2 hr1 at hr4'
 have T1:=Hd (fun w=>by have:=dQ s 2 w; rw [show aC s 2=vs from hvs,show aA s 2=r1 from hr1'] at this; exact this);have T2:=Hd (fun w=>by have:=dQ r1 1 w; rw [← hr1', show aC (aA s 2) 1=ve from hve,show aA (aA s 2) 1=r2 from hr2', hr1'] at this; exact this);have T3:=Hd (fun w=>by have:=dQ r2 8 w; rw [← hr2', show aC (aA (aA s 2) 1) 8=vn from hvn,show aA (aA (aA s 2) 1) 8=r3 from hr3', hr2'] at this; exact this)
 have T4:=Hd (fun w=>by have:=dQ r3 2 w; rw [← hr3', show aC (aA (aA (aA s 2) 1) 8) 2=vk from hvk,show aA (aA (aA (aA s 2) 1) 8) 2=r4 from hr4', hr3'] at this; exact this);obtain ⟨g1,g2,g3⟩:True∧True∧True:=⟨trivial,trivial,trivial⟩
 have e29:(s.size:Int)=29:=by omega
 obtain ⟨r,hr⟩:∃ r,w.heap.size=r:=⟨_,rfl⟩
 obtain ⟨x1,hx1⟩:∃ x1,w.alloc (.cells #[.int .i64 0,.int .i64 0,.int .u64 0,.int .i64 0] 48)=x1:=⟨_,rfl⟩
 obtain ⟨q1,q2,q3⟩:=aV hx1 hr;have X1:=Hd hx1;have HR:Hid (w.heap.size≤r):=Hd (by omega);have Q2:=Hd q2;have Q3:=Hd q3;clear hx1 q1 q2 q3;clear hs hvs hve hvn hvk hr1' hr2' hr3' hr4' hok l1 l2 l3 l4 l5 l6 l7 l8 g1 g2 g3;go_enter Tryz.func28,Tryz.ntmps28;go_upto_region 1 with fail
 rw [X1.out];go_wp2_with fail;refine (T1.out _).mono ?_;rintro e w2 ⟨rfl,b2⟩;go_wp2_with fail;refine (T2.out _).mono ?_;rintro e w3 ⟨rfl,b3⟩;go_wp2_with fail;refine (T3.out _).mono ?_;rintro e w4 ⟨rfl,b4⟩;go_wp2_with fail;refine (T4.out _).mono ?_;rintro e w5 ⟨rfl,b5⟩;have m5:=bG (bG (bG (bG Q2.out b2) b3) b4) b5;have B5:=Hd (chain (chain (chain (chain Q3.out b2) b3) b4) b5);obtain ⟨⟨y0,y1,y2,y3⟩,u0,u1,u2,u3⟩:=aG m5;obtain ⟨n1,n2⟩:=set4 m5 (.int .i64 vs) (.int .i64 ve) (.int .u64 vn) (.int .i64 vk)
 have G6:=Hd (And.intro n1 (B5.out.trans (n2.below (fun k hk=>by rw [hk]; exact HR.out) B5.out.size)));obtain ⟨w6,hw6⟩:∃ w6,st4 w5 r (.int .i64 vs) (.int .i64 ve) (.int .u64 vn) (.int .i64 vk)=w6:=⟨_,rfl⟩
 rw [hw6] at G6;unfold st4 at hw6;have HW6:=Hd hw6;clear b2 b3 b4 b5 m5 n1 n2 B5 T1 T2 T3 T4 hw6;go_upto_region 8 with fail
 rw [HW6.out];clear y0 y1 y2 y3 u0 u1 u2 u3;obtain ⟨⟨y0,y1,y2,y3⟩,u0,u1,u2,u3⟩:=aG G6.out.1;go_wp2_with fail;refine (RG.out _).mono ?_;rintro e w7 ⟨rfl,b7⟩;have m7:=bG G6.out.1 b7;have B7:=Hd (chain G6.out.2 b7);clear y0 y1 y2 y3 u0 u1 u2 u3 b7;obtain ⟨n1,n2⟩:=set4 m7 (.int .i64 vs) (.int .i64 ve) (.int .u64 vn) (.int .i64 vk);obtain ⟨⟨y0,y1,y2,y3⟩,u0,u1,u2,u3⟩:=aG m7
 have FIN:Hid ((st4 w7 r (.int .i64 vs) (.int .i64 ve) (.int .u64 vn) (.int .i64 vk)).heap[r]?=some (.cells #[.int .i64 vs,.int .i64 ve,.int .u64 vn,.int .i64 vk] 48)∧Below w.heap.size w (st4 w7 r (.int .i64 vs) (.int .i64 ve) (.int .u64 vn) (.int .i64 vk))):=Hd ⟨n1,B7.out.trans (n2.below (fun k hk=>by rw [hk]; exact HR.out) B7.out.size)⟩;unfold st4 at FIN;clear n1 n2 m7;go_wp2_with fail
 exact bodyPost_ret (v:=.tuple #[.agg #[.int .i64 vs,.int .i64 ve,.int .u64 vn,.int .i64 vk],.string r4,.int .i64 0]) (cJ (fn:=Tryz.f28) rfl _ _ r 48 _ (0,0) _ _ _ rfl rfl rfl FIN.out.1 Tryz.underlying48 rfl fG) rfl ⟨rfl,FIN.out.2⟩
theorem II (s:ByteArray) (w:World) (hs:s.size≠29) :
  Calls Tryz.prog 28 #[.string s] w fun e w' => e=.returned (.tuple #[.agg #[.int .i64 0,.int .i64 0,.int .u64 0,.int .i64 0],.string ⟨#[]⟩,.int .i64 2])∧Below w.heap.size w w' := by
 have e29:¬ (s.size:Int)=29:=by omega
 obtain ⟨r,hr⟩:∃ r,w.heap.size=r:=⟨_,rfl⟩
 obtain ⟨x1,hx1⟩:∃ x1,w.alloc (.cells #[.int .i64 0,.int .i64 0,.int .u64 0,.int .i64 0] 48)=x1:=⟨_,rfl⟩
 obtain ⟨q1,q2,q3⟩:=aV hx1 hr;have X1:=Hd hx1;have HR:Hid (w.heap.size≤r):=Hd (by omega);have Q2:=Hd q2;have Q3:=Hd q3;clear hx1 q1 q2 q3;clear hs;go_enter Tryz.func28,Tryz.ntmps28;go_upto_region 1 with fail
 rw [X1.out];obtain ⟨n1,n2⟩:=set4 Q2.out (.int .i64 0) (.int .i64 0) (.int .u64 0) (.int .i64 0);obtain ⟨⟨y0,y1,y2,y3⟩,u0,u1,u2,u3⟩:=aG Q2.out;have FIN:Hid ((st4 x1 r (.int .i64 0) (.int .i64 0) (.int .u64 0) (.int .i64 0)).heap[r]?=some (.cells #[.int .i64 0,.int .i64 0,.int .u64 0,.int .i64 0] 48)∧Below w.heap.size w (st4 x1 r (.int .i64 0) (.int .i64 0) (.int .u64 0) (.int .i64 0))):=Hd ⟨n1,Q3.out.trans (n2.below (fun k hk=>by rw [hk]; exact HR.out) Q3.out.size)⟩;unfold st4 at FIN;clear n1 n2;go_wp2_with fail
 exact bodyPost_ret (v:=.tuple #[.agg #[.int .i64 0,.int .i64 0,.int .u64 0,.int .i64 0],.string ⟨#[]⟩,.int .i64 2]) (cJ (fn:=Tryz.f28) rfl _ _ r 48 _ (0,0) _ _ _ rfl rfl rfl FIN.out.1 Tryz.underlying48 rfl fG) rfl ⟨rfl,FIN.out.2⟩
theorem CB (s:ByteArray) (w:World) (h:hOk s=false) :
  Calls Tryz.prog 28 #[.string s] w fun e w' => e=.returned (.tuple #[.agg #[.int .i64 0,.int .i64 0,.int .u64 0,.int .i64 0],.string ⟨#[]⟩,.int .i64 2])∧Below w.heap.size w w' := by
 by_cases hs:s.size=29
 ·refine IJ s _ _ _ _ _ _ _ _ w hs rfl rfl rfl rfl rfl rfl rfl rfl ?_
  unfold hOk at h;rw [hs] at h
  simpa using h
 ·exact II s w hs
theorem vL (s:ByteArray) (w:World) (h:hOk s=true) :
  Calls Tryz.prog 28 #[.string s] w fun e w' => e=.returned (.tuple #[.agg #[.int .i64 (hfS s),.int .i64 (hfE s),.int .u64 (hfN s),.int .i64 (hfK s)],.string (hr4 s),.int .i64 0])∧Below w.heap.size w w' := by
 unfold hOk at h;simp only [Bool.and_eq_true,decide_eq_true_eq] at h;exact CD s _ _ _ _ _ _ _ _ w h.1 rfl rfl rfl rfl rfl rfl rfl rfl h.2
theorem nI (s ep nn k:Int) (tag key:ByteArray) (v:Bool) (w:World) (hk:fF s ep k=true) (n0:0≤nn) (n1:nn≤18446744073709551615) (hkey:key.size≤140737488351232) (htag:tag.size≤140737488355328) (hv:decide (tag=lC key (hB s ep nn k))=v) :
  Calls Tryz.prog 30 #[.agg #[.int .i64 s,.int .i64 ep,.int .u64 nn,.int .i64 k],.string tag,.string key] w fun e w' => e=.returned (.bool v)∧Below w.heap.size w w' := by
 have hb:=oT hk n0 n1;have RG:=Hd (fun w=>iP s ep nn k true w hk);obtain ⟨b,hbb⟩:∃ b,hB s ep nn k=b:=⟨_,rfl⟩
 have BG:=Hd (fun w=>CG s ep nn k b w hk n0 n1 hbb);rw [hbb] at hv hb;obtain ⟨g,hg⟩:∃ g,lC key b=g:=⟨_,rfl⟩
 have hgs:=lZ key b;rw [hg] at hv hgs;have TG:=Hd (fun w=>by have:=SX key b w hkey (by omega); unfold lC at hg; rw [hg] at this; exact this);have SG:=Hd (fun w=>by have:=ZP tag g w (by omega) (by omega); rw [hv] at this; exact this);clear hk n0 n1 hkey htag hv hbb hg hb hgs;obtain ⟨x1,hx1⟩:∃ x1,w.alloc (.cells #[.int .i64 s,.int .i64 ep,.int .u64 nn,.int .i64 k] 48)=x1:=⟨_,rfl⟩
 obtain ⟨q1,q2,q3⟩:=aV hx1 rfl;obtain ⟨⟨c0,c1,c2,c3⟩,_⟩:=aG q2;have X1:=Hd hx1;have Q2:=Hd q2;have Q3:=Hd q3;clear hx1 q1 q2 q3;go_enter Tryz.func30,Tryz.ntmps30;go_upto_region 1 with fail
 rw [X1.out];go_wp2_with fail;refine (RG.out _).mono ?_;rintro e w2 ⟨rfl,b2⟩;clear c0 c1 c2 c3;obtain ⟨⟨c0,c1,c2,c3⟩,_⟩:=aG (bG Q2.out b2);have B2:=Hd (chain Q3.out b2);clear b2;go_wp2_with fail;refine (BG.out _).mono ?_;rintro e w3 ⟨rfl,b3⟩;have B3:=Hd (chain B2.out b3);clear b3 c0 c1 c2 c3;go_wp2_with fail;refine (TG.out _).mono ?_;rintro e w4 ⟨rfl,b4⟩;have B4:=Hd (chain B3.out b4);clear b4;go_wp2_with fail;refine (SG.out _).mono ?_;rintro e w5 ⟨rfl,rfl⟩;go_wp2_with fail;go_ret;exact ⟨rfl,B4.out⟩
theorem vN (s ep nn k:Int) (tag key:ByteArray) (w:World) (hk:fF s ep k=false) :
  Calls Tryz.prog 30 #[.agg #[.int .i64 s,.int .i64 ep,.int .u64 nn,.int .i64 k],.string tag,.string key] w fun e w' => e=.returned (.bool false)∧Below w.heap.size w w' := by
 have RG:=Hd (fun w=>iP s ep nn k false w hk);clear hk;obtain ⟨x1,hx1⟩:∃ x1,w.alloc (.cells #[.int .i64 s,.int .i64 ep,.int .u64 nn,.int .i64 k] 48)=x1:=⟨_,rfl⟩
 obtain ⟨q1,q2,q3⟩:=aV hx1 rfl;obtain ⟨⟨c0,c1,c2,c3⟩,_⟩:=aG q2;have X1:=Hd hx1;have Q3:=Hd q3;clear hx1 q1 q2 q3;go_enter Tryz.func30,Tryz.ntmps30;go_upto_region 1 with fail
 rw [X1.out];go_wp2_with fail;refine (RG.out _).mono ?_;rintro e w2 ⟨rfl,b2⟩;have B2:=Hd (chain Q3.out b2);clear b2 c0 c1 c2 c3;go_wp2_with fail;go_ret;exact ⟨rfl,B2.out⟩
def byR (v:Int) (a b:ByteArray) (k:Int) (ky:ByteArray) (is:Bool):Prop:=(k=v∧ky=a∧is=true)∨(k≠v∧k=v - 1∧ky=b∧is=true)∨(k≠v∧k≠v - 1∧ky=⟨#[]⟩∧is=false)
theorem VL {w0 w:World} {R:List Nat} {t d s n:Nat} {E E' : List Ent} {c:ByteArray} {x e y:Int} (h:TxS w0 R w t d s n E) (he:(e=0∧y=x)∨(e≠0∧y=0))
  (HC:∀ (R' : List Nat) (wa:World) (b0 b1:Nat),TxS w0 R' wa t d s n E→(wa.heap[b0]?=some (.cells #[.pointer (some ⟨t,0,none⟩)] 24))→(wa.heap[b1]?=some (.cells #[.string c] 9))→((b0∈R'∧b0≠t)∧(b1∈R'∧b1≠t))→Calls Tryz.prog 78 #[.pointer (some ⟨b1,0,none⟩),.pointer (some ⟨b0,0,none⟩)] wa fun e' w' => e'=.returned (.tuple #[.int .i64 x,.int .i64 e])∧TxS w0 R' w' t d s n E'∧KeptT R' t wa w') :
  Calls Tryz.prog 37 #[.pointer (some ⟨t,0,none⟩),.string c] w fun e' w' => e'=.returned (.tuple #[.int .i64 y,.int .i64 e])∧TxS w0 R w' t d s n E'∧KeptT R t w w' := by
 obtain ⟨a1,a2,a3,a4,a5,a6,a7⟩:=h.box (.cells #[.pointer (some ⟨t,0,none⟩)] 24);obtain ⟨x1,hx1⟩:∃ x1,w.alloc (.cells #[.pointer (some ⟨t,0,none⟩)] 24)=x1:=⟨_,rfl⟩
 rw [hx1] at a1 a2 a3 a5;obtain ⟨b1,b2,b3,b4,b5,b6,b7⟩:=a1.box (.cells #[.string c] 9);obtain ⟨x2,hx2⟩:∃ x2,x1.alloc (.cells #[.string c] 9)=x2:=⟨_,rfl⟩
 rw [hx2] at b1 b2 b3 b5;rw [a5] at b1 b3 b4 b5 b6 b7;have hkw:KeptT R t w x2:=a2.trans (b2.sub (fun k hk=>by simp [hk]))
 have VC:=Hd (pT (hk:=fun w=>by kernel_rfl) (n:=n) (E' := E') (x:=x) (e:=e) (y:=y) (caps:=#[.pointer (some ⟨w.heap.size + 1,0,none⟩),.pointer (some ⟨w.heap.size,0,none⟩)]) b1 he (fun R' wa hs hT hK=>HC R' wa (w.heap.size) (w.heap.size + 1) hT ((hK (w.heap.size) (by simp) a4).trans ((b2 (w.heap.size) (by simp) a4).trans (a3))) ((hK (w.heap.size + 1) (by simp) b4).trans (b3)) ⟨⟨hs (w.heap.size) (by simp),a4⟩,⟨hs (w.heap.size + 1) (by simp),b4⟩⟩));have KP:=Hd hkw;have bx:=(aM ((b2 (w.heap.size) (by simp) a4).trans (a3))).1;have X1:=Hd (And.intro hx1 hx2)
 clear h he HC hkw a1 a2 a3 a4 a5 a6 a7 b1 b2 b3 b4 b5 b6 b7 hx1 hx2;go_enter Tryz.func37,Tryz.ntmps37;go_upto_region 1 with fail
 try simp only [World.heap_size_alloc]
 rw [X1.out.1,X1.out.2];go_wp2_with fail;refine VC.out.mono ?_;rintro e' w2 ⟨rfl,h1,h2⟩;have FIN:Hid (TxS w0 R w2 t d s n E'∧KeptT R t w w2):=Hd ⟨h1.sub (fun k hk=>by simp [hk]),KP.out.trans (h2.sub (fun k hk=>by simp [hk]))⟩;clear h1 h2 VC bx;go_wp2_with fail;go_ret2;exact ⟨rfl,FIN.out⟩
theorem aDA (v k:Int) (a b ky:ByteArray) (is:Bool) (w:World) (hv:0≤v∧v≤65535) (h:byR v a b k ky is) :
  Calls Tryz.prog 79 #[.agg #[.int .i64 v,.string a,.string b],.int .i64 k] w fun e w' => e=.returned (.tuple #[.string ky,.bool is])∧Below w.heap.size w w' := by
 obtain ⟨x1,hx1⟩:∃ x1,w.alloc (.cells #[.int .i64 v,.string a,.string b] 115)=x1:=⟨_,rfl⟩
 obtain ⟨q1,q2,q3⟩:=aV hx1 rfl;obtain ⟨⟨c0,c1,c2⟩,_⟩:=gI q2;have X1:=Hd hx1;have Q3:=Hd q3;obtain ⟨u,hu⟩:∃ u,v - 1=u:=⟨_,rfl⟩
 have hw:IntKind.i64.wrap (v - 1)=u:=(IntWalk.i64_in _ (by omega)).trans hu;have hw2:wrap64 (v - 1)=u:=(IntWalk.wrap64_in _ (by omega)).trans hu;unfold byR at h;rw [hu] at h;have HU:=Hd hu;clear hx1 q1 q2 q3 hv hu
 rcases h with ⟨rfl,rfl,rfl⟩ | ⟨h1,rfl,rfl,rfl⟩ | ⟨h1,h2,rfl,rfl⟩
 ·clear hw hw2
  go_enter Tryz.func79,Tryz.ntmps79;go_upto_region 1 with fail
  rw [X1.out];go_wp2_with fail;go_ret2;exact ⟨rfl,Q3.out⟩
 ·have g1:(k == v)=false:=by simpa using h1
  clear h1;go_enter Tryz.func79,Tryz.ntmps79;go_upto_region 1 with fail
  rw [X1.out];go_wp2_with fail;go_ret2;exact ⟨rfl,Q3.out⟩
 ·have g1:(k == v)=false:=by simpa using h1
  have g2:(k == u)=false:=by simpa using h2
  clear h1 h2;go_enter Tryz.func79,Tryz.ntmps79;go_upto_region 1 with fail
  rw [X1.out];go_wp2_with fail;go_ret2;exact ⟨rfl,Q3.out⟩
def aB6 (x:Int × Int × Int) (ep nn c e:Int):Prop:=(ep < x.2.1∧c=0∧e=10)∨(¬ ep < x.2.1∧x.1=0∧c=0∧e=10)∨(x.2.1=ep∧x.2.2=nn∧x.1≠0∧c=x.1∧e=0)
theorem WP {w0 w:World} {R:List Nat} {t d s:Nat} {L:List (Int × Int × Int)} {M:List Ent} {i:Nat} {x:Int × Int × Int} {sl ep nn k c e:Int} (h:TxS w0 R w t d s 640 (slE 0 L ++ M)) (hL:SlL L) (hM:MtE M) (hx:L[i]?=some x) (hsl:sl=((i + 1:Nat):Int)) (hr:aB6 x ep nn c e) :
  Calls Tryz.prog 80 #[.pointer (some ⟨t,0,none⟩),.agg #[.int .i64 sl,.int .i64 ep,.int .u64 nn,.int .i64 k]] w fun e' w' => e'=.returned (.tuple #[.int .i64 c,.int .i64 e])∧TxS w0 R w' t d s 640 (slE 0 L ++ M)∧KeptT R t w w' := by
 obtain ⟨a1,a2,a3,a4,a5,a6,a7⟩:=h.box (.cells #[.int .i64 sl,.int .i64 ep,.int .u64 nn,.int .i64 k] 48);obtain ⟨bh,hbh⟩:∃ r3,w.heap.size=r3:=⟨_,rfl⟩
 obtain ⟨x1,hx1⟩:∃ x1,w.alloc (.cells #[.int .i64 sl,.int .i64 ep,.int .u64 nn,.int .i64 k] 48)=x1:=⟨_,rfl⟩
 rw [hx1] at a1 a2 a3 a5;rw [hbh] at a1 a3 a4 a5 a6 a7;have X1:=Hd hx1;have A3:=Hd (And.intro a3 a4);have A2:=Hd a2;have AT:=aEG a1 hL hM hx;rw [← hsl] at AT;have AT:=Hd AT;obtain ⟨⟨y0,y1,y2,y3⟩,_⟩:=aG a3;have HR:=Hd hr;clear h hL hM hx hsl hr a1 a2 a3 a4 a5 a6 a7 hx1;go_enter Tryz.func80,Tryz.ntmps80;go_upto_region 1 with fail
 rw [X1.out];clear hbh;go_wp2_with fail;refine AT.out.mono ?_;rintro e' w3 ⟨rfl,h1,h2⟩;obtain ⟨c1,c2,c3,c4,c5,c6,c7⟩:=h1.box (.cells #[.int .i64 sl,.int .i64 x.1,.int .i64 x.2.1,.int .u64 x.2.2] 37);obtain ⟨bx,hbx⟩:∃ r3,w3.heap.size=r3:=⟨_,rfl⟩
 obtain ⟨x2,hx2⟩:∃ x1,w3.alloc (.cells #[.int .i64 sl,.int .i64 x.1,.int .i64 x.2.1,.int .u64 x.2.2] 37)=x1:=⟨_,rfl⟩
 rw [hx2] at c1 c2 c3 c5;rw [hbx] at c1 c3 c4 c5 c6 c7;have X2:=Hd (And.intro hx2 hbx);have m2:=(c2 bh (by simp) A3.out.2).trans ((h2 bh (by simp) A3.out.2).trans A3.out.1);have FIN:Hid (TxS w0 R x2 t d s 640 (slE 0 L ++ M)∧KeptT R t w x2):=Hd ⟨c1.sub (fun k hk=>by simp [hk]),A2.out.trans ((h2.sub (fun k hk=>by simp [hk])).trans (c2.sub (fun k hk=>by simp [hk])))⟩;clear y0 y1 y2 y3;obtain ⟨⟨y0,y1,y2,y3⟩,_⟩:=aG m2;obtain ⟨⟨z0,z1,z2,z3⟩,_⟩:=aG c3;obtain ⟨xc,xe,xn⟩:=x;clear h1 h2 AT c1 c2 c3 c4 c5 c6 c7 hx2 hbx m2;go_upto_region 4 with fail
 rw [X2.out.1,X2.out.2];clear X2
 rcases HR.out with ⟨g1,rfl,rfl⟩ | ⟨g1,g2,rfl,rfl⟩ | ⟨g1,g2,g3,rfl,rfl⟩
 ·have g1' : ep < xe:=g1
  clear g1 HR;go_wp2_with fail;go_ret2;exact ⟨rfl,FIN.out⟩
 ·have g1' : ¬ ep < xe:=g1
  have g2' : (xc == 0)=true:=by simpa using g2
  clear g1 g2 HR;go_wp2_with fail;go_ret2;exact ⟨rfl,FIN.out⟩
 ·have g1' : ¬ ep < xe:=by have:xe=ep:=g1; omega
  have g2' : (c == 0)=false:=by simpa using g3
  have g3' : (xe != ep)=false:=by have:xe=ep:=g1; simp [this]
  have g4' : (xn != nn)=false:=by have:xn=nn:=g2; simp [this]
  clear g1 g2 g3 HR;go_wp2_with fail;go_ret2;exact ⟨rfl,FIN.out⟩
theorem GJ {w0 w:World} {R:List Nat} {t d s n:Nat} {E:List Ent} {bs bt:Nat} {c:ByteArray} (h:TxS w0 R w t d s n E) (hs:w.heap[bs]?=some (.cells #[.string c] 9)) (hb:w.heap[bt]?=some (.cells #[.pointer (some ⟨t,0,none⟩)] 24)) (hm:(bs∈R∧bs≠t)∧(bt∈R∧bt≠t)) (hc:hOk c=false) :
  Calls Tryz.prog 78 #[.pointer (some ⟨bs,0,none⟩),.pointer (some ⟨bt,0,none⟩)] w fun e w' => e=.returned (.tuple #[.int .i64 0,.int .i64 2])∧TxS w0 R w' t d s n E∧KeptT R t w w' := by
 have c0:=(aM hs).1;have TK:=Hd (fun w=>CB c w hc);have HT:=Hd h;clear h hs hb hm hc;go_enter Tryz.func78,Tryz.ntmps78;go_wp2_with fail;refine (TK.out _).mono ?_;rintro e w2 ⟨rfl,b2⟩;have h1:=HT.out.below b2;have k1:=HT.out.kept b2;obtain ⟨a1,a2,a3,a4,a5,a6,a7⟩:=h1.box (.cells #[.int .i64 0,.int .i64 0,.int .u64 0,.int .i64 0] 48);obtain ⟨bh,hbh⟩:∃ r3,w2.heap.size=r3:=⟨_,rfl⟩
 obtain ⟨x1,hx1⟩:∃ xx,w2.alloc (.cells #[.int .i64 0,.int .i64 0,.int .u64 0,.int .i64 0] 48)=xx:=⟨_,rfl⟩
 rw [hx1] at a1 a2 a3 a5;rw [hbh] at a1 a3 a4 a5 a6 a7;have Xx1:=Hd (And.intro hx1 hbh);have FIN:Hid (TxS w0 R x1 t d s n E∧KeptT R t w x1):=Hd ⟨a1.sub (fun k hk=>by simp [hk]),k1.trans a2⟩;clear b2 h1 k1 a1 a2 a3 a4 a5 a6 a7 hx1 hbh c0;go_upto_region 2 with fail
 rw [Xx1.out.1,Xx1.out.2];go_wp2_with fail;go_ret2;exact ⟨rfl,FIN.out⟩
def aB4 (w0:World) (t d s:Nat) (E:List Ent) (sl ep nn k:Int) (tg ky:ByteArray) (is:Bool) (c e:Int):Prop :=
 (is=false∧c=0∧e=3)∨(is=true∧tg≠lC ky (hB sl ep nn k)∧c=0∧e=15) ∨
 (is=true∧tg=lC ky (hB sl ep nn k)∧∀ R w,TxS w0 R w t d s 640 E→Calls Tryz.prog 80 #[.pointer (some ⟨t,0,none⟩),.agg #[.int .i64 sl,.int .i64 ep,.int .u64 nn,.int .i64 k]] w fun e' w' => e'=.returned (.tuple #[.int .i64 c,.int .i64 e])∧TxS w0 R w' t d s 640 E∧KeptT R t w w')
theorem VR {w0 w:World} {R:List Nat} {t d s:Nat} {E:List Ent} {bs bt:Nat} {c:ByteArray} {sl ep nn k:Int} {tg:ByteArray} {v:Int} {a b ky:ByteArray} {is:Bool} {rc re:Int} (h:TxS w0 R w t d s 640 E) (hs:w.heap[bs]?=some (.cells #[.string c] 9)) (hb:w.heap[bt]?=some (.cells #[.pointer (some ⟨t,0,none⟩)] 24)) (hm:(bs∈R∧bs≠t)∧(bt∈R∧bt≠t)) (hc:hOk c=true) (hfs:hfS c=sl∧hfE c=ep∧hfN c=nn∧hfK c=k∧hr4 c=tg) (hE:E.length≤600) (hr:RingE E v a b) (hky:byR v a b k ky is) (hks:ky.size≤140737488351232) (hR:aB4 w0 t d s E sl ep nn k tg ky is rc re) :
  Calls Tryz.prog 78 #[.pointer (some ⟨bs,0,none⟩),.pointer (some ⟨bt,0,none⟩)] w fun e w' => e=.returned (.tuple #[.int .i64 rc,.int .i64 re])∧TxS w0 R w' t d s 640 E∧KeptT R t w w' := by
 have c0:=(aM hs).1;obtain ⟨f1,f2,f3,f4,f5⟩:=hfs;have hok:=hc;unfold hOk at hok;rw [f1,f2,f4] at hok;simp only [Bool.and_eq_true,decide_eq_true_eq] at hok;have hn:=(jZ c).2.2.1;rw [f3] at hn;have htg:=(LF hok.1).2;rw [f5] at htg;have TK:=Hd (fun w=>by have:=vL c w hc; rw [f1,f2,f3,f4,f5] at this; exact this);have CK:=Hd (fun (v:Bool) w (hv:decide (tg=lC ky (hB sl ep nn k))=v)=>nI sl ep nn k tg ky v w hok.2 hn.1 hn.2 hks (by omega) hv);have BG:=Hd (fun w=>aDA v k a b ky is w hr.range hky);have HT:=Hd h
 have HKY:=Hd (fun R w (h:TxS w0 R w t d s 640 E)=>tI h hE hr);have HRR:=Hd hR;have HM:=Hd hm;have HB:=Hd hb;clear h hs hb hm hc f1 f2 f3 f4 f5 hok hn htg hE hr hky hks hR;go_enter Tryz.func78,Tryz.ntmps78;go_wp2_with fail;refine (TK.out _).mono ?_;rintro e w2 ⟨rfl,b2⟩;have h1:=HT.out.below b2;have k1:=HT.out.kept b2;obtain ⟨a1,a2,a3,a4,a5,a6,a7⟩:=h1.box (.cells #[.int .i64 sl,.int .i64 ep,.int .u64 nn,.int .i64 k] 48);obtain ⟨bh,hbh⟩:∃ r3,w2.heap.size=r3:=⟨_,rfl⟩
 obtain ⟨x1,hx1⟩:∃ xx,w2.alloc (.cells #[.int .i64 sl,.int .i64 ep,.int .u64 nn,.int .i64 k] 48)=xx:=⟨_,rfl⟩
 rw [hx1] at a1 a2 a3 a5;rw [hbh] at a1 a3 a4 a5 a6 a7;have Xx1:=Hd (And.intro hx1 hbh);have m1:=(a2 bt HM.out.2.1 HM.out.2.2).trans ((k1 bt HM.out.2.1 HM.out.2.2).trans HB.out);have A3:=Hd (And.intro a3 (And.intro a4 m1));have A2:=Hd (k1.trans a2);have KY:=Hd (HKY.out _ _ a1);have c1:=(aM m1).1;clear b2 h1 k1 a1 a2 a3 a4 a5 a6 a7 hx1 hbh c0 TK m1;go_upto_region 2 with fail
 rw [Xx1.out.1,Xx1.out.2];go_wp2_with fail;refine KY.out.mono ?_;rintro e w3 ⟨rfl,h1,k1⟩;obtain ⟨a1,a2,a3,a4,a5,a6,a7⟩:=h1.box (.cells #[.int .i64 v,.string a,.string b] 115);obtain ⟨br,hbr⟩:∃ r3,w3.heap.size=r3:=⟨_,rfl⟩
 obtain ⟨x2,hx2⟩:∃ xx,w3.alloc (.cells #[.int .i64 v,.string a,.string b] 115)=xx:=⟨_,rfl⟩
 rw [hx2] at a1 a2 a3 a5;rw [hbr] at a1 a3 a4 a5 a6 a7;have Xx2:=Hd (And.intro hx2 hbr);have m1:=(a2 bh (by simp) A3.out.2.1).trans ((k1 bh (by simp) A3.out.2.1).trans A3.out.1);have m2:=(a2 bt (by simp [HM.out.2.1]) HM.out.2.2).trans ((k1 bt (by simp [HM.out.2.1]) HM.out.2.2).trans A3.out.2.2);have A4:=Hd (And.intro a1 (And.intro m1 m2));have A5:=Hd (A2.out.trans ((k1.sub (fun k hk=>by simp [hk])).trans (a2.sub (fun k hk=>by simp [hk]))));obtain ⟨⟨y0,y1,y2⟩,_⟩:=gI a3;obtain ⟨⟨z0,z1,z2,z3⟩,_⟩:=aG m1;clear h1 k1 a1 a2 a3 a4 a5 a6 a7 hx2 hbr c1 KY m1 m2
 go_upto_region 7 with fail
 rw [Xx2.out.1,Xx2.out.2];go_wp2_with fail;refine (BG.out _).mono ?_;rintro e w4 ⟨rfl,b4⟩;have m1:=bG A4.out.2.1 b4;have m2:=bG A4.out.2.2 b4;have T4:=Hd (A4.out.1.below b4);have K4:=Hd (A5.out.trans ((A4.out.1.kept b4).sub fun k hk=>by simp [hk]));have M4:=Hd (And.intro m1 m2);clear y0 y1 y2 z0 z1 z2 z3 b4 m1 m2
 rcases HRR.out with ⟨rfl,rfl,rfl⟩ | ⟨rfl,ht,rfl,rfl⟩ | ⟨rfl,ht,hl⟩
 ·have FIN:Hid (TxS w0 R w4 t d s 640 E∧KeptT R t w w4):=Hd ⟨T4.out.sub fun k hk=>by simp [hk],K4.out⟩
  go_wp2_with fail;go_ret2;exact ⟨rfl,FIN.out⟩
 ·have CC:=Hd (fun w=>CK.out false w (by simpa using ht))
  obtain ⟨⟨z0,z1,z2,z3⟩,_⟩:=aG M4.out.1;clear ht CK HRR;go_wp2_with fail;refine (CC.out _).mono ?_;rintro e w5 ⟨rfl,b5⟩;have FIN:Hid (TxS w0 R w5 t d s 640 E∧KeptT R t w w5):=Hd ⟨(T4.out.below b5).sub fun k hk=>by simp [hk],K4.out.trans ((T4.out.kept b5).sub fun k hk=>by simp [hk])⟩;clear b5 z0 z1 z2 z3;go_wp2_with fail;go_ret2;exact ⟨rfl,FIN.out⟩
 ·have CC:=Hd (fun w=>CK.out true w (by simpa using ht))
  have HL:=Hd hl;obtain ⟨⟨z0,z1,z2,z3⟩,_⟩:=aG M4.out.1;clear ht CK HRR hl;go_wp2_with fail;refine (CC.out _).mono ?_;rintro e w5 ⟨rfl,b5⟩;have T5:=Hd (And.intro (T4.out.below b5) (K4.out.trans ((T4.out.kept b5).sub fun k hk=>by simp [hk])));have LD:=Hd (HL.out _ _ T5.out.1);have c1:=(aM (bG M4.out.2 b5)).1;have m1:=bG M4.out.1 b5;clear z0 z1 z2 z3;obtain ⟨⟨z0,z1,z2,z3⟩,_⟩:=aG m1;clear b5 m1;go_wp2_with fail;refine LD.out.mono ?_;rintro e w6 ⟨rfl,h1,k1⟩
  have FIN:Hid (TxS w0 R w6 t d s 640 E∧KeptT R t w w6):=Hd ⟨h1.sub fun k hk=>by simp [hk],T5.out.2.trans (k1.sub fun k hk=>by simp [hk])⟩;clear h1 k1 z0 z1 z2 z3 c1 LD;go_wp2_with fail;go_ret2;exact ⟨rfl,FIN.out⟩
theorem IP {w0 w:World} {R:List Nat} {t d s n:Nat} {E:List Ent} {c:ByteArray} (h:TxS w0 R w t d s n E) (hc:hOk c=false) :
  Calls Tryz.prog 37 #[.pointer (some ⟨t,0,none⟩),.string c] w fun e w' => e=.returned (.tuple #[.int .i64 0,.int .i64 2])∧TxS w0 R w' t d s n E∧KeptT R t w w' :=
 VL (x:=0) (e:=2) (y:=0) h (.inr ⟨by decide,rfl⟩) fun R' wa b0 b1 hT g0 g1 gm=>GJ hT g1 g0 ⟨gm.2,gm.1⟩ hc
theorem WO {w0 w:World} {R:List Nat} {t d s:Nat} {E:List Ent} {c:ByteArray} {v:Int} {a b ky:ByteArray} {is:Bool} {rc re y:Int} (h:TxS w0 R w t d s 640 E) (hy:(re=0∧y=rc)∨(re≠0∧y=0)) (hc:hOk c=true) (hE:E.length≤600) (hr:RingE E v a b) (hky:byR v a b (hfK c) ky is) (hks:ky.size≤140737488351232) (hR:aB4 w0 t d s E (hfS c) (hfE c) (hfN c) (hfK c) (hr4 c) ky is rc re) :
  Calls Tryz.prog 37 #[.pointer (some ⟨t,0,none⟩),.string c] w fun e w' => e=.returned (.tuple #[.int .i64 y,.int .i64 re])∧TxS w0 R w' t d s 640 E∧KeptT R t w w' :=
 VL (x:=rc) (e:=re) (y:=y) h hy fun R' wa b0 b1 hT g0 g1 gm=>VR hT g1 g0 ⟨gm.2,gm.1⟩ hc ⟨rfl,rfl,rfl,rfl,rfl⟩ hE hr hky hks hR
def DrwS (R:List Nat) (t:Nat) (w:World) (a:Option Addr) (D:List Int):Prop:=∀ (j:Nat) (z:Int),D[j]?=some z→∃ g,a=some ⟨g,0,none⟩∧g∈R∧g≠t∧w.cell? ⟨g,j,none⟩=some (.int .u64 z)
theorem RN {w w' : World} {g j:Nat} (h:w'.heap[g]?=w.heap[g]?):w'.cell? ⟨g,j,none⟩=w.cell? ⟨g,j,none⟩:=by
 unfold World.cell?;rw [h]
theorem DrwS.kept {R:List Nat} {t:Nat} {w w' : World} {a:Option Addr} {D:List Int} (h:DrwS R t w a D) (k:KeptT R t w w'):DrwS R t w' a D:=fun j z hz=>by
 obtain ⟨g,h1,h2,h3,h4⟩:=h j z hz;exact ⟨g,h1,h2,h3,(RN (k g h2 h3)).trans h4⟩
theorem DrwS.sub {R R' : List Nat} {t:Nat} {w:World} {a:Option Addr} {D:List Int} (h:DrwS R t w a D) (hs:∀ k∈R,k∈R'):DrwS R' t w a D:=fun j z hz=>by
 obtain ⟨g,h1,h2,h3,h4⟩:=h j z hz;exact ⟨g,h1,hs g h2,h3,h4⟩
theorem ZI {w0 w:World} {R:List Nat} {t d s cp:Nat} {E E' : List Ent} {a:Option Addr} {D:List Int} {ca v sl ep z:Int} {ka kb:ByteArray} {k:Nat} (h:TxS w0 R w t d s 640 E) (hd:DrwS R t w a D) (hE:E.length≤600) (hr:RingE E v ka kb) (hv:v≠0) (hln:D.length≤1000)
  (hbusy:∀ j z,j < k→D[j]?=some z→∀ R w,TxS w0 R w t d s 640 E→Calls Tryz.prog 22 #[.pointer (some ⟨t,0,none⟩),.int .i64 ca,.int .u64 z] w fun e w' => e=.returned (.tuple #[.agg #[.int .i64 0,.int .i64 0,.int .i64 0,.int .u64 0],.int .i64 13])∧TxS w0 R w' t d s 640 E∧KeptT R t w w')
  (hk8:k < 8) (hz:D[k]?=some z) (hnz:0≤z∧z≤18446744073709551615) (hks:ka.size≤140737488351232) (hok:fF sl ep v=true)
  (htake:∀ R w,TxS w0 R w t d s 640 E→Calls Tryz.prog 22 #[.pointer (some ⟨t,0,none⟩),.int .i64 ca,.int .u64 z] w fun e w' => e=.returned (.tuple #[.agg #[.int .i64 sl,.int .i64 ca,.int .i64 ep,.int .u64 z],.int .i64 0])∧TxS w0 R w' t d s 640 E'∧KeptT R t w w') :
  Calls Tryz.prog 76 #[.pointer (some ⟨t,0,none⟩),.int .i64 ca,.slice a D.length cp] w fun e w' => e=.returned (.tuple #[.string (cM sl ep z v ka),.int .i64 ((k:Int) + 1),.int .i64 0])∧TxS w0 R w' t d s 640 E'∧KeptT R t w w' := by
 obtain ⟨sv,hsv⟩:∃ x,cM sl ep z v ka=x:=⟨_,rfl⟩
 have PU:=Hd (fun w=>CF sl ep z v ka sv w hok hnz.1 hnz.2 hks hsv);have HTK:=Hd htake;have HZ:=Hd hz;have hkl:k < D.length:=(List.getElem?_eq_some_iff.1 hz).1;rw [hsv];obtain ⟨mn,hmn⟩:∃ m:Int,min (D.length:Int) 8=m:=⟨_,rfl⟩
 have HMN:Hid ((k:Int) < mn∧mn≤8):=Hd (by omega);have HLN:Hid (k≤D.length∧k≤8):=Hd ⟨by omega,by omega⟩;have HBU:=Hd hbusy;have KY:=Hd (tI h hE hr);have m1:min (D.length:Int) 8=mn:=hmn;have m2:(if 8 < (D.length:Int) then 8 else (D.length:Int))=mn:=by rw [← hmn]; split <;> omega
 have m3:(if (D.length:Int)≤8 then (D.length:Int) else 8)=mn:=by rw [← hmn]; split <;> omega
 have hv0:(v == 0)=false:=by simpa using hv
 have HD:=Hd hd;clear h hd hE hr hv hbusy hmn hk8 hz hnz hks hok htake hsv hkl;go_enter Tryz.func76,Tryz.ntmps76;go_wp2_with fail
 go_step3
 go_wp2_with fail;refine KY.out.mono ?_;rintro e w2 ⟨rfl,h1,k1⟩;obtain ⟨a1,a2,a3,a4,a5,a6,a7⟩:=h1.box (.cells #[.int .i64 v,.string ka,.string kb] 115);obtain ⟨br,hbr⟩:∃ r3,w2.heap.size=r3:=⟨_,rfl⟩
 obtain ⟨x1,hx1⟩:∃ xx,w2.alloc (.cells #[.int .i64 v,.string ka,.string kb] 115)=xx:=⟨_,rfl⟩
 rw [hx1] at a1 a2 a3 a5;rw [hbr] at a1 a3 a4 a5 a6 a7;have Xx1:=Hd (And.intro hx1 hbr);have K1:=Hd (k1.trans a2);have A3:=Hd (And.intro a3 (And.intro a4 a7));obtain ⟨⟨z0,z1,z2⟩,_⟩:=gI a3;have h2:=a1;clear h1 k1 a2 a3 a4 a5 a6 a7 hx1 hbr KY a1;go_upto_region 7 with fail
 rw [Xx1.out.1,Xx1.out.2];obtain ⟨a1,a2,a3,a4,a5,a6,a7⟩:=h2.box (.cells #[.int .i64 0,.int .i64 0,.int .i64 0,.int .u64 0] 37);obtain ⟨bx,hbx⟩:∃ r3,x1.heap.size=r3:=⟨_,rfl⟩
 obtain ⟨wl,hwl⟩:∃ xx,x1.alloc (.cells #[.int .i64 0,.int .i64 0,.int .i64 0,.int .u64 0] 37)=xx:=⟨_,rfl⟩
 rw [hwl] at a1 a2 a3 a5;rw [hbx] at a1 a3 a4 a5 a6 a7;have Xwl:=Hd (And.intro hwl hbx);have mr:=(a2 br (by simp) A3.out.2.1).trans A3.out.1;have KW:Hid (KeptT R t w wl):=Hd (K1.out.trans (a2.sub fun k hk=>by simp [hk]));have HNB:Hid (bx≠t∧w0.heap.size≤bx∧∀ k∈br :: R,k≠bx):=Hd ⟨a4,a6,a7⟩;have HNB2:=Hd (And.intro A3.out.2.1 mr);have HT0:=Hd a1;have BX0:=Hd a3;have DR0:Hid (DrwS (br :: R) t wl a D):=Hd ((HD.out.kept KW.out).sub fun k hk=>by simp [hk]);have KL0:Hid (KeptT (br :: R) t wl wl):=Hd (KeptT.refl _ _ _)
 clear a1 a2 a3 a4 a5 a6 a7 hwl hbx mr h2 z0 z1 z2;go_wp2_with fail;rw [Xwl.out.1,Xwl.out.2]
 go_step3
 go_wp2_with fail
 go_loopw [10,11] (fun e i wr=>∃ (j:Nat) (q c1 c2 c3:Int) (c4:Int),e=.int .i64 q∧i=.int .i64 (j:Int)∧j≤k∧Hid (TxS w0 (bx :: br :: R) wr t d s 640 E)∧Hid (KeptT (br :: R) t wl wr)∧Hid (DrwS (br :: R) t wr a D)∧Hid (wr.heap[bx]?=some (.cells #[.int .i64 c1,.int .i64 c2,.int .i64 c3,.int .u64 c4] 37))) (fun _ i _=>9 - (intOf i).toNat)
 case atStart=>exact ⟨0,0,0,0,0,0,rfl,rfl,Nat.zero_le _,HT0,KL0,DR0,BX0⟩
 case round =>
  obtain ⟨j,q,c1,c2,c3,c4,rfl,rfl,hj,HT,KL,DR,BXc⟩:=hrel
  by_cases hjk:j < k
  ·obtain ⟨zj,hzj⟩:∃ z,D[j]?=some z:=⟨_,List.getElem?_eq_getElem (by have:=HLN.out.1; omega)⟩
   obtain ⟨gd,hga,hgR,hgt,hgc⟩:=DR.out j zj hzj;subst hga;have hjl:(j:Int) < (D.length:Int):=by have:=HLN.out.1; omega
   have e3:(13:Int)=0→False:=by decide
   have e4:IntKind.i64.wrap ((j:Int) + 1)=((j + 1:Nat):Int):=by rw [show (j:Int) + 1=((j + 1:Nat):Int) by omega]; exact IntWalk.i64_in _ (by have:=HLN.out.2; omega)
   have hjm:((j:Int) == mn)=false:=by have:=HMN.out; simp; omega
   have BU:=Hd (HBU.out j zj hjk hzj _ _ HT.out);have HJ:=Hd hjk;have HXB:=BXc;clear hj hjk hzj hgR hgt BXc;go_wp2_with fail;refine BU.out.mono ?_;rintro e wb ⟨rfl,h1,k1⟩;have mb:=(k1 bx (by simp) HNB.out.1).trans HXB.out;obtain ⟨⟨y0,y1,y2,y3⟩,u0,u1,u2,u3⟩:=aG mb;obtain ⟨n1,n2⟩:=set4 mb (.int .i64 0) (.int .i64 0) (.int .i64 0) (.int .u64 0)
   have FINb:Hid (TxS w0 (bx :: br :: R) (st4 wb bx (.int .i64 0) (.int .i64 0) (.int .i64 0) (.int .u64 0)) t d s 640 E∧KeptT (br :: R) t wl (st4 wb bx (.int .i64 0) (.int .i64 0) (.int .i64 0) (.int .u64 0))∧(st4 wb bx (.int .i64 0) (.int .i64 0) (.int .i64 0) (.int .u64 0)).heap[bx]?=some (.cells #[.int .i64 0,.int .i64 0,.int .i64 0,.int .u64 0] 37)):=Hd
    ⟨h1.turn (k:=bx) (by simp) HNB.out.1 HNB.out.2.1 n2,fun k hk hn=>(n2.block k (h1.lt.1 k (by simp only [List.mem_cons] at hk ⊢; exact .inr hk)) (HNB.out.2.2 k hk)).trans ((k1 k (by simp only [List.mem_cons] at hk ⊢; exact .inr hk) hn).trans (KL.out k hk hn)),n1⟩
   have DR2:=Hd (DR0.out.kept FINb.out.2.1);unfold st4 at FINb DR2;clear h1 k1 mb n1 n2 BU hgc;go_wp2_with fail;go_roundw
   case rel=>exact ⟨j + 1,_,_,_,_,_,rfl,rfl,HJ.out,Hd FINb.out.1,Hd FINb.out.2.1,DR2,Hd FINb.out.2.2⟩
   case measure=>have:=HJ.out; have:=HLN.out; simp [intOf]; omega
  ·obtain rfl:j=k:=by omega
   obtain ⟨gd,hga,hgR,hgt,hgc⟩:=DR.out j z HZ.out;subst hga;have hjl:(j:Int) < (D.length:Int):=by have:=(List.getElem?_eq_some_iff.1 HZ.out).1; omega
   have e4:IntKind.i64.wrap ((j:Int) + 1)=(j:Int) + 1:=IntWalk.i64_in _ (by have:=HLN.out.2; omega);have hjm:((j:Int) == mn)=false:=by have:=HMN.out; simp; omega
   have TA:=Hd (HTK.out _ _ HT.out);clear hj hjk hgR hgt;go_wp2_with fail;refine TA.out.mono ?_;rintro e wb ⟨rfl,h1,k1⟩;have mb:=(k1 bx (by simp) HNB.out.1).trans BXc.out;have mr:=(k1 br (by simp) HNB2.out.1).trans ((KL.out br (by simp) HNB2.out.1).trans HNB2.out.2);obtain ⟨⟨y0,y1,y2,y3⟩,u0,u1,u2,u3⟩:=aG mb;obtain ⟨n1,n2⟩:=set4 mb (.int .i64 sl) (.int .i64 ca) (.int .i64 ep) (.int .u64 z);obtain ⟨wc,hwc⟩:∃ wc,st4 wb bx (.int .i64 sl) (.int .i64 ca) (.int .i64 ep) (.int .u64 z)=wc:=⟨_,rfl⟩
   have mr2:=(n2.block br (h1.lt.1 br (by simp)) (HNB.out.2.2 br (by simp))).trans mr;rw [hwc] at n1 n2 mr2
   have FINb:Hid (TxS w0 (bx :: br :: R) wc t d s 640 E'∧KeptT (br :: R) t wl wc∧wc.heap[bx]?=some (.cells #[.int .i64 sl,.int .i64 ca,.int .i64 ep,.int .u64 z] 37)∧wc.heap[br]?=some (.cells #[.int .i64 v,.string ka,.string kb] 115)):=Hd
    ⟨h1.turn (k:=bx) (by simp) HNB.out.1 HNB.out.2.1 n2,fun k hk hn=>(n2.block k (h1.lt.1 k (by simp only [List.mem_cons] at hk ⊢; exact .inr hk)) (HNB.out.2.2 k hk)).trans ((k1 k (by simp only [List.mem_cons] at hk ⊢; exact .inr hk) hn).trans (KL.out k hk hn)),n1,mr2⟩
   have HWC:Hid ((((wb.setCell ⟨bx,0,none⟩ (.int .i64 sl)).setCell ⟨bx,1,none⟩ (.int .i64 ca)).setCell ⟨bx,2,none⟩ (.int .i64 ep)).setCell ⟨bx,3,none⟩ (.int .u64 z)=wc):=Hd hwc;clear h1 k1 mb mr mr2 n1 n2 TA hgc hwc;go_upto_region 16 with fail
   rw [HWC.out];clear y0 y1 y2 y3 u0 u1 u2 u3;obtain ⟨⟨y0,y1,y2,y3⟩,_⟩:=aG FINb.out.2.2.1;obtain ⟨⟨z0,z1,z2⟩,_⟩:=gI FINb.out.2.2.2;go_wp2_with fail;refine (PU.out _).mono ?_;rintro e wd ⟨rfl,bd⟩;have FIN:Hid (TxS w0 R wd t d s 640 E'∧KeptT R t w wd):=Hd ⟨(FINb.out.1.below bd).sub fun k hk=>by simp [hk],KW.out.trans ((FINb.out.2.1.sub fun k hk=>by simp [hk]).trans ((FINb.out.1.kept bd).sub fun k hk=>by simp [hk]))⟩;clear bd y0 y1 y2 y3 z0 z1 z2;go_wp2_with fail;try rw [Exit.noGoto_ret]
   go_ret3;exact ⟨rfl,FIN.out⟩
end Go.Proofs.YthcejfnngkmojaaGreatDoor
