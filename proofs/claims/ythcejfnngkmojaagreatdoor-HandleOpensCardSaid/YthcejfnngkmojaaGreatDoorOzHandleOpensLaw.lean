/-
 HandleOpensLaw.
-/
import Derived.Test.YthcejfnngkmojaaGreatDoorOzHom
import Derived.Test.YthcejfnngkmojaaGreatDoorOzRw
import Derived.Test.YthcejfnngkmojaaGreatDoorOzSlV
import Derived.Test.YthcejfnngkmojaaGreatDoorOzHpk
import Derived.Test.YthcejfnngkmojaaGreatDoorOzHub
import Derived.Deep.DeepCutAuto
import Derived.Deep.CutBlock
namespace Go.Proofs.YthcejfnngkmojaaGreatDoor
open Go Go.RowKit
set_option maxRecDepth 20000
set_option maxHeartbeats 12800000
set_option linter.unusedVariables false
set_option linter.unusedSimpArgs false
theorem handleOpens_law (a:Option Addr) (len cap:Nat) (zs:List Int) (keys fr at_ by_:Int) (w:World) (hk:IsInts .u8 w a len cap zs) (vk:(Lit.int .i64 keys).wf = true) (vf:(Lit.int .u8 fr).wf = true) (va_:(Lit.int .i64 at_).wf = true) (vb:(Lit.int .u8 by_).wf = true) :
  Calls Tryz.prog 10 #[.slice a len cap,.int .i64 keys,.int .u8 fr,.int .i64 at_,.int .u8 by_] w fun e w' => e = .returned (.bool true) ∧ Below w.heap.size w w' := by
 have CELLS:=Hd (sF hk);have hlenL:=DX hk;obtain ⟨cs,hcs⟩:∃ f:Nat → Int,(fun i=>zs.getD i 0) = f:=⟨_,rfl⟩
 have HCS:=Hd hcs;obtain ⟨m,hpk⟩:=AU keys 4 (by decide);obtain ⟨r1,r2⟩:=qZ keys vk;have PK4:=Hd (fun w=>UK keys m w hpk r1 r2);have HMM:=Hd hpk.1;obtain ⟨pp,hpp⟩:=AU at_ 16 (by decide);obtain ⟨r3,r4⟩:=qZ at_ va_;have PK16:=Hd (fun w=>NW at_ pp w hpp r3 r4);have HP16:=Hd hpp.1
 have uf:0 ≤ fr ∧ fr ≤ 255:=by
  simp only [Lit.wf,Bool.and_eq_true,decide_eq_true_eq] at vf;exact vf
 have ub:0 ≤ by_ ∧ by_ ≤ 255:=by
  simp only [Lit.wf,Bool.and_eq_true,decide_eq_true_eq] at vb;exact vb
 have HFR:=Hd uf;have f1:IntKind.i64.wrap fr = fr:=IntWalk.i64_in _ (by omega);have f2:IntKind.i64.wrap (1 + fr) = 1 + fr:=IntWalk.i64_in _ (by omega)
 obtain ⟨m8,hm8,hmx⟩:∃ m8:UInt8,1 ≤ m8.toNat ∧ (m8.toNat:Int) = max by_ 1:=by
  refine ⟨UInt8.ofNat (max by_ 1).toNat,?_,?_⟩
  ·rw [UInt8.toNat_ofNat']; omega
  ·rw [UInt8.toNat_ofNat']; omega
 obtain ⟨mx,hmx2⟩:∃ x:Int,max by_ 1 = x:=⟨_,rfl⟩
 have x1' : max by_ 1 = mx:=hmx2;have x2' : (if by_ < 1 then 1 else by_) = mx:=by rw [← hmx2]; split <;> omega
 have x3' : (if 1 < by_ then by_ else 1) = mx:=by rw [← hmx2]; split <;> omega
 have x4' : (if by_ ≤ 1 then 1 else by_) = mx:=by rw [← hmx2]; split <;> omega
 have HM8:Hid (1 ≤ m8.toNat ∧ (m8.toNat:Int) = mx):=Hd ⟨hm8,hmx.trans hmx2⟩;have KK:=Hd (fun w=>rO 7 7 rfl w);have hks:=mI 7;obtain ⟨K,hK⟩:∃ K,BK 7 = K:=⟨_,rfl⟩
 rw [hK] at KK hks;have HKS:=Hd hks
 have HCR:Hid (∀ i,i < len → 0 ≤ cs i ∧ cs i ≤ 255):=Hd fun i hi=>by
  obtain ⟨x,z,_,hz0,hz,_⟩:=CELLS.out i hi;rw [← hcs]
  show 0 ≤ zs.getD i 0 ∧ zs.getD i 0 ≤ 255
  rw [hz0];exact hz
 clear hk hcs hpk r1 r2 hpp r3 r4 vk vf va_ vb uf ub hm8 hmx hmx2 hK hks;go_enter Tryz.func10,Tryz.ntmps10;try simp only [List.append_eq,List.cons_append,List.nil_append]
 go_wp2_with fail;refine (lU _).mono ?_;rintro e w1 ⟨rfl,b1⟩;have B1:=Hd b1;clear b1;go_wp2_with fail;refine (pZ _).mono ?_;rintro e w2 ⟨t,d,s,rfl,h1⟩;have sn:=tB ⟨t,0,none⟩;have HT0:=Hd h1;clear h1;go_wp2_with fail;refine (KK.out _).mono ?_;rintro e w3 ⟨rfl,b3⟩;have RO:=Hd (kK (n:=0) (L:=[]) (a:=⟨#[]⟩) (b:=⟨#[]⟩) (c:=K) (by rw [sY]; exact HT0.out.below b3) (by decide) (by decide) (fun _=>⟨rfl,rfl⟩) (by decide) HKS.out);clear b3;go_wp2_with fail;refine RO.out.mono ?_;rintro e w4 ⟨rfl,h1,_⟩
 have HR0:Hid (RowS w1 [] 9 w4 t d s (slE 0 (opL cs 0) ++ bI 1 K ⟨#[]⟩) (.slice none ([]:List Value).length 0) []):=Hd (RowS.nil h1);clear h1 RO KK
 go_upto_block 0 with fail
 go_cut [15,16] (fun x _ wc=>∃ (j:Nat) (va:Option Addr) (vc:Nat) (xs:List Value),x = .slice va xs.length vc ∧ j ≤ len ∧ j ≤ 10 ∧ Hid (RowS w1 [] 9 wc t d s (slE 0 (opL cs j) ++ bI 1 K ⟨#[]⟩) (.slice va xs.length vc) xs) ∧ Hid (xs = uN K j))
 case first =>
  go_wp2_with fail
  go_loopw [15,16] (fun x i wr=>∃ (j:Nat) (va:Option Addr) (vc:Nat) (xs:List Value),x = .slice va xs.length vc ∧ i = .int .i64 (j:Int) ∧ j ≤ len ∧ j ≤ 10 ∧ Hid (RowS w1 [] 9 wr t d s (slE 0 (opL cs j) ++ bI 1 K ⟨#[]⟩) (.slice va xs.length vc) xs) ∧ Hid (xs = uN K j)) (fun _ i _=>11 - (intOf i).toNat)
  case atStart=>exact ⟨0,none,0,[],rfl,rfl,Nat.zero_le _,Nat.zero_le _,HR0,Hd rfl⟩
  case round =>
   obtain ⟨j,va,vc,xs,rfl,rfl,hj1,hj2,HR,HXL⟩:=hrel
   by_cases hjl:j < len
   ·have hjli:(j:Int) < (len:Int):=by omega
    by_cases hlt:j < 10
    ·have hli:(j:Int) < 10:=by omega
     obtain ⟨x,z,hax,hz0,⟨hz1,hz2⟩,CELL⟩:=CELLS.out j hjl;subst hax;have hcj:cs j = z:=by rw [← HCS.out]; exact hz0
     have HJ:Hid (j + 1 ≤ len ∧ j + 1 ≤ 10):=Hd ⟨by omega,by omega⟩;have e4:IntKind.i64.wrap ((j:Int) + 1) = ((j + 1:Nat):Int):=by rw [show (j:Int) + 1 = ((j + 1:Nat):Int) by omega]; exact IntWalk.i64_in _ (by omega)
     have e5:IntKind.u64.wrap (j:Int) = (j:Int):=IntWalk.u64_in _ (by omega);have e6:IntKind.i64.wrap z = z:=IntWalk.i64_in _ (by omega);obtain ⟨ca,hca⟩:∃ ca:Int,1 + z = ca:=⟨_,rfl⟩
     have e7:IntKind.i64.wrap (1 + z) = ca:=by rw [hca]; exact IntWalk.i64_in _ (by omega)
     have HTK:=Hd (fun (R:List Nat) (w:World) (h:TxS w1 R w t d s 640 (slE 0 (opL cs j) ++ bI 1 K ⟨#[]⟩))=>YL h (dY 1 K ⟨#[]⟩) (by omega) (fun i hi=>HCR.out i (by omega)));rw [show 1 + cs j = ca by omega] at HTK;have HLJ:Hid (SlL (opL cs j)):=Hd (FQ (by omega) fun i hi=>HCR.out i (by omega));have HOKJ:Hid (iL ((j + 1:Nat):Int) 1 1 = true):=Hd (VQ (by omega));obtain ⟨p,hp⟩:∃ p:Int,((j + 1:Nat):Int) = p:=⟨_,rfl⟩
     have HNX:=Hd (PK K j);have HJZ:Hid (0 ≤ (j:Int) ∧ (j:Int) ≤ 18446744073709551615):=Hd (by omega);obtain ⟨S,hS⟩:∃ S,hsK K j = S:=⟨_,rfl⟩
     rw [hS] at HNX;have HS:Hid (bC ((j + 1:Nat):Int) 1 (j:Int) 1 K = S):=Hd hS;have hcl:=CELL.out wr (chain B1.out HR.out.tx.from);clear hj1 hj2 hjl hlt hz0 hz1 hz2 hcj hca hp hS;obtain ⟨a1,a2,a3,a4,a5,a6,a7⟩:=HR.out.tx.box (.cells #[.int .u64 (j:Int)] 35);obtain ⟨bd,hbd⟩:∃ r3,wr.heap.size = r3:=⟨_,rfl⟩
     obtain ⟨x1,hx1⟩:∃ xx,wr.alloc (.cells #[.int .u64 (j:Int)] 35) = xx:=⟨_,rfl⟩
     rw [hx1] at a1 a2 a3 a5;rw [hbd] at a1 a3 a4 a5 a6 a7;have X1:=Hd (And.intro hx1 hbd);have K1:=Hd a2;have SE:=tR (D:=[(j:Int)]) (k:=0) (ca:=ca) (v:=1) (sl:=((j + 1:Nat):Int)) (ep:=1) (z:=(j:Int)) (ka:=K) (kb:=⟨#[]⟩) (cp:=1) a1 (KV (by simp) a4 a3) (Nat.le_trans (kD HLJ.out 1 K ⟨#[]⟩) (by decide)) (kG HLJ.out.1 (by decide) (fun h=>by cases h)) (by decide) (by show 1 ≤ 1000; decide) (fun j z hj=>by omega) (by decide) rfl HJZ.out (by have:=HKS.out; omega) HOKJ.out (HTK.out);rw [HS.out] at SE;have SE:=Hd SE
     clear hx1 hbd a1 a2 a3 a4 a5 a6 a7;go_wp2_with fail;rw [X1.out.1,X1.out.2];refine SE.out.mono ?_;rintro e w4 ⟨rfl,h1,k1⟩;have HR4:=Hd (HR.out.txn (h1.sub fun k hk=>by simp only [List.mem_cons]; exact .inr hk) (K1.out.trans (k1.sub fun k hk=>by simp only [List.mem_cons]; exact .inr hk)));clear h1 k1 SE X1 K1 hcl;go_upto_region 15 with fail
     obtain ⟨v,hv⟩:∃ v,Value.slice va xs.length vc = v:=⟨_,rfl⟩
     rw [hv] at HR4 ⊢;obtain ⟨i0,hi,hz0,hz1,hz2⟩:=info_parts xH;obtain ⟨v2,w5,hap,hro,hfr⟩:=HR4.out.app (ty:=63) (by_:=16) (by decide) Tryz.underlying63 hi hz0 hz1 hz2 rfl (.string S) rfl (by have:=HXL.out; rw [this,BZ]; have:=HJ.out; omega);have HXN:Hid (xs ++ [.string S] = uN K (j + 1)):=Hd (by rw [HXL.out]; exact HNX.out);obtain ⟨va2,vc2,hsh⟩:=hro.shape;subst hsh;have HR5:=Hd hro;clear hro hfr hi hz0 hz1 hz2 hv HR4
     go_wp2_with (at_builtin; refine gD rfl (.tmp 78) (.tmp 80) 63 rfl _ _ _ rfl rfl hap ?_)
     clear hap;go_wp2_with fail;go_roundw
     case rel=>exact ⟨j + 1,va2,vc2,xs ++ [.string S],by rw [List.length_append]; rfl,rfl,HJ.out.1,HJ.out.2,HR5,HXN⟩
     case measure=>have:=HJ.out; simp [intOf]; omega
    ·have hli:¬ (j:Int) < 10:=by omega
     go_wp2_with fail
     go_meet
     exact ⟨j,va,vc,xs,rfl,hj1,hj2,HR,HXL⟩
   ·have hjli:¬ (j:Int) < (len:Int):=by omega
    go_wp2_with fail
    go_meet
    exact ⟨j,va,vc,xs,rfl,hj1,hj2,HR,HXL⟩
 case rest =>
  obtain ⟨j,va,vc,xs,rfl,hj1,hj2,HR,HXL⟩:=hcut;have HJL:=Hd hj1;have HN1:Hid (j ≤ 10):=Hd hj2;have HXN:=HXL;have hxl:xs.length = j:=by rw [HXL.out,BZ]
  have HXJ:=Hd hxl;obtain ⟨v,hv⟩:∃ v,Value.slice va xs.length vc = v:=⟨_,rfl⟩
  have HV:=Hd hv;have HLJ:Hid (SlL (opL cs j)):=Hd (FQ hj2 fun i hi=>HCR.out i (by omega));have FR:=Hd (aAR (1 + fr) HR.out.tx HLJ.out (dY 1 K ⟨#[]⟩));have HLF:=Hd (HLJ.out.free (1 + fr));obtain ⟨cnt,hcnt⟩:∃ c:Int,(((opL cs j).filter (nB (1 + fr))).length:Int) = c:=⟨_,rfl⟩
  rw [hcnt] at FR;obtain ⟨LF,hLF⟩:∃ L,(opL cs j).map (jB (1 + fr)) = L:=⟨_,rfl⟩
  rw [hLF] at FR HLF;have HLA:Hid (∀ i,i < j → LF[i]? = some (if cs i = fr then (0,2,0) else (1 + cs i,1,(i:Int)))):=Hd fun i hi=>by rw [← hLF]; exact aAL cs fr HFR.out.1 hi
  clear hcnt hLF hv hj1 hj2 hxl;go_wp2_with fail;refine FR.out.mono ?_;rintro e w3 ⟨rfl,h1,k1⟩;have HR3:=Hd (HR.out.txn h1 k1);clear h1 k1 FR;go_wp2_with fail;refine (PK4.out _).mono ?_;rintro e w9 ⟨rfl,rfl⟩;go_wp2_with fail
  go_loopw [23] (fun i wr=>∃ (n:Nat) (ka kb:ByteArray),i = .int .i64 (n:Int) ∧ n ≤ m ∧ Hid (RowS w1 [] 9 wr t d s (slE 0 LF ++ bI (n + 1) ka kb) (.slice va xs.length vc) xs) ∧ Hid (ka.size ≤ 40 ∧ (n = 0 → ka = K) ∧ (n = 1 → kb = K))) (fun i _=>5 - (intOf i).toNat)
  case atStart=>exact ⟨0,K,⟨#[]⟩,rfl,Nat.zero_le _,HR3,Hd ⟨by have:=HKS.out; omega,fun _=>rfl,fun h=>by cases h⟩⟩
  case round =>
   obtain ⟨n,ka,kb,rfl,hn,HRn,HKn⟩:=hrel
   by_cases hnm:n < m
   ·have hln:(n:Int) < (m:Int):=by omega
    have HM4:=HMM.out;have e8:IntKind.u8.wrap (n:Int) = (n:Int):=IntWalk.u8_in _ (by omega);have e9:IntKind.i64.wrap ((n:Int) + 1) = ((n + 1:Nat):Int):=by rw [show (n:Int) + 1 = ((n + 1:Nat):Int) by omega]; exact IntWalk.i64_in _ (by omega)
    have e10:IntKind.i64.wrap ((n:Int) + 2) = (n:Int) + 2:=IntWalk.i64_in _ (by omega);have HNM:=Hd hnm;obtain ⟨b,hb⟩:=aDW (z:=(n:Int)) (by omega) (by omega);have KK:=Hd (fun w=>rO b (n:Int) hb w);have hks:=mI b;obtain ⟨Kn,hK⟩:∃ K,BK b = K:=⟨_,rfl⟩
    rw [hK] at KK hks;have HKSn:=Hd hks;have n2:(((n + 1:Nat)):Int) + 1 = (n:Int) + 2:=by omega
    have HN2:=Hd n2;clear hn hnm hb hK hks HM4 n2;go_wp2_with fail;refine (KK.out _).mono ?_;rintro e w4 ⟨rfl,b4⟩;have HR4:=Hd (HRn.out.below b4);have RO:=kK (n:=n + 1) (L:=LF) (a:=ka) (b:=kb) (c:=Kn) HR4.out.tx HLF.out.1 (by have:=HNM.out; have:=HMM.out; omega) (fun h=>by omega) HKn.out.1 HKSn.out;rw [HN2.out] at RO;have RO:=Hd RO;clear b4;go_wp2_with fail;refine RO.out.mono ?_;rintro e w5 ⟨rfl,h1,k1⟩;have HR5:=Hd (HR4.out.txn h1 k1);clear h1 k1 RO HR4;go_wp2_with fail;go_roundw
    case rel=>exact ⟨n + 1,Kn,ka,rfl,HNM.out,HR5,Hd ⟨by have:=HKSn.out; omega,fun h=>by omega,fun h=>HKn.out.2.1 (by omega)⟩⟩
    case measure=>have:=HNM.out; have:=HMM.out; simp [intOf]; omega
   ·have hnm2:n = m:=by omega
    have hln:¬ (n:Int) < (m:Int):=by omega
    subst hnm2;clear hn hnm;go_wp2_with fail
    go_loopw [26] (fun i wr=>∃ q:Nat,i = .int .i64 (q:Int) ∧ q ≤ j ∧ Hid (RowS w1 [] 9 wr t d s (slE 0 LF ++ bI (n + 1) ka kb) (.slice va xs.length vc) xs)) (fun i _=>11 - (intOf i).toNat)
    case atStart=>exact ⟨0,rfl,Nat.zero_le _,HRn⟩
    case round =>
     obtain ⟨q,rfl,hq,HRq⟩:=hrel
     by_cases hqj:q < j
     ·have hlq:(q:Int) < (xs.length:Int):=by have:=HXJ.out; omega
      have hq10:q < 10:=by have:=HN1.out; omega
      have HQ:=Hd (And.intro hqj hq10);have hql:(q:Int) < (len:Int):=by have:=HJL.out; omega
      obtain ⟨x,z,hax,hz0,⟨hz1,hz2⟩,CELL⟩:=CELLS.out q (by omega);subst hax;have hcq:cs q = z:=by rw [← HCS.out]; exact hz0
      have e4:IntKind.i64.wrap ((q:Int) + 1) = ((q + 1:Nat):Int):=by rw [show (q:Int) + 1 = ((q + 1:Nat):Int) by omega]; exact IntWalk.i64_in _ (by omega)
      have e6:IntKind.i64.wrap z = z:=IntWalk.i64_in _ (by omega);obtain ⟨ca,hca⟩:∃ ca:Int,1 + z = ca:=⟨_,rfl⟩
      have e7:IntKind.i64.wrap (1 + z) = ca:=by rw [hca]; exact IntWalk.i64_in _ (by omega)
      have hxq:xs[q]? = some (.string (hsK K q)):=by rw [HXN.out]; exact aA4 K hqj
      obtain ⟨gx,hgx,hcx⟩:=HRq.out.cell hxq;subst hgx;have hok:=VQ hq10;have hz29:=(jV hok (show (0:Int) ≤ (q:Int) by omega) (by omega) K).1;obtain ⟨xb,hxb,hqo,hqk,hqt⟩:=TF hok (show (0:Int) ≤ (q:Int) by omega) (by omega) K HP16.out m8 HM8.out.1;have HLQ:=Hd (HLA.out q hqj);rw [hcq] at HLQ;obtain ⟨S,hS⟩:∃ S,hsK K q = S:=⟨_,rfl⟩
      have hS2:bC ((q + 1:Nat):Int) 1 (q:Int) 1 K = S:=hS;rw [hS] at hcx;rw [hS2] at hz29 hxb hqo hqk hqt;obtain ⟨v1,v2,v3⟩:=YB xb m8 HM8.out.1;rw [HM8.out.2] at v2 v3;have e29:(S.size:Int) = 29:=by omega
      obtain ⟨T,hT⟩:∃ T,Str (S.data.toList.set (13 + pp) (xb + m8)) = T:=⟨_,rfl⟩
      rw [hT] at hqo hqk hqt
      have OPS:Hid (∃ (rc re rh:Int),(∀ w,TxS w1 ((Value.slice (some ⟨gx,0,none⟩) xs.length vc).ownBlock.toList ++ []) w t d s 640 (slE 0 LF ++ bI (n + 1) ka kb) → Calls Tryz.prog 37 #[.pointer (some ⟨t,0,none⟩),.string S] w fun e' w' => e' = .returned (.tuple #[.int .i64 rc,.int .i64 re]) ∧ TxS w1 ((Value.slice (some ⟨gx,0,none⟩) xs.length vc).ownBlock.toList ++ []) w' t d s 640 (slE 0 LF ++ bI (n + 1) ka kb) ∧ KeptT ((Value.slice (some ⟨gx,0,none⟩) xs.length vc).ownBlock.toList ++ []) t w w') ∧
        (∀ w,TxS w1 ((Value.slice (some ⟨gx,0,none⟩) xs.length vc).ownBlock.toList ++ []) w t d s 640 (slE 0 LF ++ bI (n + 1) ka kb) → Calls Tryz.prog 37 #[.pointer (some ⟨t,0,none⟩),.string T] w fun e' w' => e' = .returned (.tuple #[.int .i64 0,.int .i64 rh]) ∧ TxS w1 ((Value.slice (some ⟨gx,0,none⟩) xs.length vc).ownBlock.toList ++ []) w' t d s 640 (slE 0 LF ++ bI (n + 1) ka kb) ∧ KeptT ((Value.slice (some ⟨gx,0,none⟩) xs.length vc).ownBlock.toList ++ []) t w w') ∧
        ((1 < (n:Int) ∧ re = 3 ∧ rh = 3 ∧ rc = 0) ∨ (¬ 1 < (n:Int) ∧ z = fr ∧ rc = 0 ∧ re = 10 ∧ rh = 15) ∨ (¬ 1 < (n:Int) ∧ z ≠ fr ∧ rc = ca ∧ re = 0 ∧ rh = 15))):=Hd (by
       have hn4:=HMM.out
       by_cases hold:1 < n
       ·have hby:byR ((n + 1:Nat):Int) ka kb 1 ⟨#[]⟩ false:=.inr (.inr ⟨by omega,by omega,rfl,rfl⟩)
        refine ⟨0,3,3,fun w h=>?_,fun w h=>?_,.inl ⟨by omega,rfl,rfl,rfl⟩⟩
        ·rw [← hS2]
         obtain ⟨z1,z2,z3,z4,z5,z6,z7⟩:=jV hok (show (0:Int) ≤ (q:Int) by omega) (by omega) K;exact tT (ky:=⟨#[]⟩) h HLF.out (by omega) (fun h=>by omega) z2 (by rw [z6]; exact hby)
        ·exact tT (ky:=⟨#[]⟩) h HLF.out (by omega) (fun h=>by omega) hqo (by rw [hqk]; exact hby)
       ·have hby:byR ((n + 1:Nat):Int) ka kb 1 K true:=by
         by_cases h0:n = 0
         ·exact .inl ⟨by omega,(HKn.out.2.1 h0).symm,rfl⟩
         ·exact .inr (.inl ⟨by omega,by omega,(HKn.out.2.2 (by omega)).symm,rfl⟩)
        have hks:K.size ≤ 140737488351232:=by have:=HKS.out; omega
        have TAM:=fun w (h:TxS w1 ((Value.slice (some ⟨gx,0,none⟩) xs.length vc).ownBlock.toList ++ []) w t d s 640 (slE 0 LF ++ bI (n + 1) ka kb))=>OY (ky:=K) h HLF.out (by omega) (fun h=>by omega) hqo (by rw [hqk]; exact hby) hks hqt
        by_cases hfz:z = fr
        ·have hLQ:=HLQ.out
         rw [if_pos hfz] at hLQ;refine ⟨0,10,15,fun w h=>?_,TAM,.inr (.inl ⟨by omega,hfz,rfl,rfl,rfl⟩)⟩;rw [← hS2];exact kL h HLF.out (by omega) (fun h=>by omega) hok (by omega) (by omega) hby hks hLQ rfl (.inl ⟨by show (1:Int) < 2; decide,rfl,rfl⟩)
        ·have hLQ:=HLQ.out
         rw [if_neg hfz,hca] at hLQ;refine ⟨ca,0,15,fun w h=>?_,TAM,.inr (.inr ⟨by omega,hfz,rfl,rfl,rfl⟩)⟩;rw [← hS2];exact kL h HLF.out (by omega) (fun h=>by omega) hok (by omega) (by omega) hby hks hLQ rfl (.inr (.inr ⟨rfl,rfl,by show ca ≠ 0; omega,rfl,rfl⟩)))
      obtain ⟨rc,re,rh,OP1,OP2,hcase⟩:=OPS.out;have HO1:=Hd OP1;have HO2:=Hd OP2;have HCASE:=Hd hcase;have hcl:=CELL.out wr (chain B1.out HRq.out.tx.from);have HBY:=Hd (And.intro hxb (And.intro hT e29));have HV3:=Hd v3;have HRI:=Hd (And.intro hz1 hz2);have OPN:=Hd (HO1.out _ HRq.out.tx);clear hq hqj hq10 hz0 hz1 hz2 hcq hca hxq hok hz29 hqo hqk hqt HLQ hS hS2 v1 v3 hT OPS OP1 OP2 hcase hxb;go_wp2_with fail;refine OPN.out.mono ?_;rintro e w4 ⟨rfl,h1,k1⟩;have HR4:=Hd (HRq.out.txn h1 k1)
      have hcx4:w4.cell? ⟨gx,q,none⟩ = some (.string S):=(mQ (k1 gx (by show gx ∈ [gx] ++ []; simp) (HRq.out.ob gx rfl).2.1)).trans hcx;have HC4:=Hd hcx4;clear h1 k1 OPN hcx hcl;obtain ⟨cap2,w5,g,hcv,hbuf,b5,hgw⟩:=Buf.openedS w4 S;have HBF:=Hd (And.intro hbuf hgw);have HR5:=Hd (HR4.out.below b5);have B5:=Hd b5;clear hbuf b5 hgw;go_upto_region 31 with fail
      clear hcv hcx4;go_wp2_with fail;refine (PK16.out _).mono ?_;rintro e w9 ⟨rfl,rfl⟩;have hil:13 + pp < S.data.toList.length:=(List.getElem?_eq_some_iff.1 HBY.out.1).1;have hc:=HBF.out.1.cell (13 + pp) hil;rw [(List.getElem?_eq_some_iff.1 HBY.out.1).2] at hc;have hf:=HBF.out.1.free (13 + pp) hil;have v3:=HV3.out;obtain ⟨y,hy⟩:∃ y:Int,(((xb + m8).toNat:Nat):Int) = y:=⟨_,rfl⟩
      have hb2:=HBF.out.1.set (13 + pp) hil (xb + m8);rw [hy] at hb2 v2 v3;have hcv:=hb2.conv cap2;rw [List.length_set,HBY.out.2.1,show S.data.toList.length = S.size by simp] at hcv
      have HR6:Hid (RowS w1 [] 9 (w5.setCell ⟨g,13 + pp,none⟩ (.int .u8 y)) t d s (slE 0 LF ++ bI (n + 1) ka kb) (.slice (some ⟨gx,0,none⟩) xs.length vc) xs):=Hd (by
       have hlt:=HR4.out.tx.lt;have hlg:=HBF.out.2;have htx:=HR5.out.tx;have f:=cT (w:=w5) (b:=g) (i:=13 + pp) (.int .u8 y);have hgt:g < w5.heap.size:=HBF.out.1.1;have h0:w1.heap.size ≤ g:=by have:=HR4.out.tx.from.size; omega
       have hnt:g ≠ t:=by have:=hlt.2; omega
       have htx2:=((HR4.out.tx.more B5.out g hlg hgt).turn (k:=g) (by simp) hnt h0 f).sub (R' := (Value.slice (some ⟨gx,0,none⟩) xs.length vc).ownBlock.toList ++ []) (fun k hk=>by simp only [List.mem_cons]; exact .inr hk);exact HR5.out.txn htx2 (fun k hk hn=>f.block k (htx.lt.1 k hk) (fun e=>by have:=hlt.1 k hk; omega)))
      have p13:IntKind.i64.wrap (13 + (pp:Int)) = ((13 + pp:Nat):Int):=by rw [show 13 + (pp:Int) = ((13 + pp:Nat):Int) by omega]; exact IntWalk.i64_in _ (by have:=HP16.out; omega)
      have p29:((13 + pp:Nat):Int) < (S.size:Int):=by have:=HBY.out.2.2; have:=HP16.out; omega
      obtain ⟨ii,hii⟩:∃ i,13 + pp = i:=⟨_,rfl⟩
      rw [hii] at p13 p29 hc hf hcv HR6;have OPT:=Hd (HO2.out _ HR6.out.tx);have e29:=HBY.out.2.2;clear hil hb2 hy hii;go_wp2_with fail;refine OPT.out.mono ?_;rintro e w6 ⟨rfl,h1,k1⟩;have HR7:=Hd (HR6.out.txn h1 k1);have hcl:=CELL.out w6 (chain B1.out h1.from);clear h1 k1 OPT hc hf hcv
      rcases HCASE.out with ⟨g1,rfl,rfl,rfl⟩ | ⟨g1,rfl,rfl,rfl,rfl⟩ | ⟨g1,g2,rfl,rfl,rfl⟩
      all_goals
       try have g3:(z == fr) = false:=by simpa using g2
       clear HCASE;try clear g2
       go_wp2_with fail;go_roundw
       case rel=>exact ⟨q + 1,rfl,HQ.out.1,HR7⟩
       case measure=>have:=HQ.out; simp [intOf]; omega
     ·have hlq:¬ (q:Int) < (xs.length:Int):=by have:=HXJ.out; omega
      have FIN:=Hd (chain B1.out HRq.out.tx.from);clear hq hqj;go_wp2_with fail;go_ret;exact ⟨rfl,FIN.out⟩
end Go.Proofs.YthcejfnngkmojaaGreatDoor
