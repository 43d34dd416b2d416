/-
 HandleReusedLaw.
-/
import Derived.Test.YthcejfnngkmojaaGreatDoorR22
import Derived.Test.YthcejfnngkmojaaGreatDoorRzHe
import Derived.Test.YthcejfnngkmojaaGreatDoorRzHpk
namespace Go.Proofs.YthcejfnngkmojaaGreatDoor
open Go Go.RowKit
set_option maxRecDepth 20000
set_option maxHeartbeats 12800000
set_option linter.unusedVariables false
set_option linter.unusedSimpArgs false
theorem handleReused_law (a0 a1 a2:Int) (w:World) (v0:(Lit.int .i64 a0).wf = true) (v1:(Lit.int .u16 a1).wf = true) (v2:(Lit.int .u16 a2).wf = true) :
  Calls Tryz.prog 12 #[.int .i64 a0,.int .u16 a1,.int .u16 a2] w fun e w' => e = .returned (.bool true) ∧ Below w.heap.size w w' := by
 obtain ⟨m,hpk⟩:=SV a0 21 (by decide);obtain ⟨r1,r2⟩:=AJ a0 v0;have PKK:=Hd (fun w=>MG a0 m w hpk r1 r2);have hm:=hpk.1
 have u1:0 ≤ a1 ∧ a1 ≤ 65535:=by
  simp only [Lit.wf,Bool.and_eq_true,decide_eq_true_eq] at v1;exact v1
 have u2:0 ≤ a2 ∧ a2 ≤ 65535:=by
  simp only [Lit.wf,Bool.and_eq_true,decide_eq_true_eq] at v2;exact v2
 have e1:IntKind.i64.wrap a1 = a1:=IntWalk.i64_in _ (by omega);have e2:IntKind.i64.wrap a2 = a2:=IntWalk.i64_in _ (by omega);have U1:=Hd u1;have U2:=Hd u2;have HM:=Hd hm;have KK:=Hd (fun w=>IZ 3 3 rfl w);have hks:=uU 3;obtain ⟨K,hK⟩:∃ K,MY 3 = K:=⟨_,rfl⟩
 rw [hK] at KK hks;have HKS:=Hd hks;clear hK hks hpk r1 r2 v0 v1 v2 u1 u2 hm;go_enter Tryz.func12,Tryz.ntmps12;try simp only [List.append_eq,List.cons_append,List.nil_append]
 go_wp2_with fail;refine (tE _).mono ?_;rintro e w1 ⟨rfl,b1⟩;have B1:=Hd b1;clear b1;go_wp2_with fail;refine (uQ _).mono ?_;rintro e w2 ⟨t,d,s,rfl,h1⟩;have sn:=zR ⟨t,0,none⟩;have HT0:=Hd h1;clear h1;go_wp2_with fail;refine (KK.out _).mono ?_;rintro e w3 ⟨rfl,b3⟩;have RO:=Hd (sS (n:=0) (L:=[]) (a:=⟨#[]⟩) (b:=⟨#[]⟩) (c:=K) (by rw [zB]; exact HT0.out.below b3) (by decide) (by decide) (fun _=>⟨rfl,rfl⟩) (by decide) HKS.out);clear b3;go_wp2_with fail;refine RO.out.mono ?_;rintro e w4 ⟨rfl,h1,_⟩
 have HT1:Hid (TxS w1 [] w4 t d s 640 (slE 0 (epL 0) ++ dV 1 K ⟨#[]⟩)):=Hd h1;clear h1 RO KK;go_wp2_with fail
 go_loopw [11,12] (fun x i wr=>∃ (j:Nat) (old:ByteArray),x = .string old ∧ i = .int .i64 (j:Int) ∧ j ≤ m ∧ Hid (TxS w1 [] wr t d s 640 (slE 0 (epL j) ++ dV 1 K ⟨#[]⟩)) ∧ Hid (SlL (epL j)) ∧ Hid ((j = 0 ∧ old = ⟨#[]⟩) ∨ (0 < j ∧ old = cF (((j - 1) / 15 + 1:Nat):Int) ((((j - 1) % 15:Nat):Int) + 1) 77 1 K))) (fun _ i _=>m - (intOf i).toNat)
 case atStart=>exact ⟨0,_,rfl,rfl,Nat.zero_le _,HT1,Hd pF,Hd (.inl ⟨rfl,rfl⟩)⟩
 case round =>
  obtain ⟨j,old,rfl,rfl,hj,HT,HL,HOLD⟩:=hrel
  by_cases hjm:j < m
  ·have hli:(j:Int) < (m:Int):=by omega
   have e5:IntKind.i64.wrap ((j:Int) + 1) = (j:Int) + 1:=IntWalk.i64_in _ (by have:=HM.out; omega);have HN:Hid ((((j + 1:Nat)):Int) = (j:Int) + 1):=Hd (by omega);obtain ⟨par,hpar⟩:∃ x:Nat,j % 2 = x:=⟨_,rfl⟩
   have hp2:par < 2:=by omega
   obtain ⟨ca,hca,hpc⟩:∃ ca:Int,(1 ≤ ca ∧ ca ≤ 65536) ∧ ((par = 1 ∧ 1 + a2 = ca) ∨ (par = 0 ∧ 1 + a1 = ca)):=by
    have u1:=U1.out;have u2:=U2.out
    by_cases h1:par = 1
    ·exact ⟨1 + a2,by omega,.inl ⟨h1,rfl⟩⟩
    ·exact ⟨1 + a1,by omega,.inr ⟨by omega,rfl⟩⟩
   have HTK:=Hd (fun (R:List Nat) (w:World) (h:TxS w1 R w t d s 640 (slE 0 (epL j) ++ dV 1 K ⟨#[]⟩))=>(WQ (ca:=ca) (nc:=77) h HL.out (gR 1 K ⟨#[]⟩) (by have:=HM.out; omega) (by omega) (by decide)).mono fun _ _ g=>And.intro g.1 (And.intro g.2.1 g.2.2.1));have AT2:=aCA j;have ATM:=aB8 ca 77 j;have HLM:Hid (SlL (epN ca 77 j)):=Hd (aB7 HL.out hca.1 (by omega) (by decide) (by decide) (by have:=HM.out; omega));obtain ⟨q,hq⟩:∃ q,j / 15 = q:=⟨_,rfl⟩
   obtain ⟨r,hr15⟩:∃ r,j % 15 = r:=⟨_,rfl⟩
   have HQR:=Hd (And.intro hq hr15);rw [hq,hr15] at HTK AT2 ATM;have HA2:=Hd AT2;have HAM:=Hd ATM;obtain ⟨p,hp⟩:∃ p:Int,((q + 1:Nat):Int) = p:=⟨_,rfl⟩
   rw [hp] at HTK;have HP:=Hd hp.symm;have HOK:Hid (jV p ((r:Int) + 1) 1 = true):=Hd (wH (by have:=HM.out; omega));have q2:(j:Int) % 15 = (r:Int):=by omega
   have q4:(j:Int).tmod 15 = (r:Int):=by rw [Int.tmod_eq_emod_of_nonneg (by omega)]; exact q2
   have HCR:=Hd hca;have HJ:=Hd hjm;obtain ⟨S,hS⟩:∃ S,cF p ((r:Int) + 1) 77 1 K = S:=⟨_,rfl⟩
   have hsz:=(mB (s:=p) (ep:=(r:Int) + 1) (nn:=77) (k:=1) HOK.out (by decide) (by decide) K).1;rw [hS] at hsz;have HSZ:=Hd hsz;have HSE:=Hd hS;clear AT2 ATM hq hr15 hp hj hjm hS hsz hca
   obtain ⟨pv,e3,e4,p1,p2,hpv⟩:∃ pv:Int,IntKind.i64.wrap (1 + a1) = (if pv = 1 then 1 + a1 else ca) ∧ IntKind.i64.wrap (1 + a2) = (if pv = 1 then ca else 1 + a2) ∧ (j:Int) % 2 = pv ∧ (j:Int).tmod 2 = pv ∧ (pv = 1 ∨ pv = 0):=by
    have u1:=U1.out;have u2:=U2.out;have w1:IntKind.i64.wrap (1 + a1) = 1 + a1:=IntWalk.i64_in _ (by omega);have w2:IntKind.i64.wrap (1 + a2) = 1 + a2:=IntWalk.i64_in _ (by omega);have t2:(j:Int).tmod 2 = (j:Int) % 2:=Int.tmod_eq_emod_of_nonneg (by omega)
    rcases hpc with ⟨h1,h2⟩ | ⟨h1,h2⟩
    ·exact ⟨1,by rw [w1,if_pos rfl],by rw [w2,if_pos rfl,h2],by omega,by omega,.inl rfl⟩
    ·exact ⟨0,by rw [w1,if_neg (by decide),h2],by rw [w2,if_neg (by decide)],by omega,by omega,.inr rfl⟩
   clear hpar hpc hp2
   rcases hpv with rfl | rfl
   all_goals
    first | rw [if_pos rfl] at e3 e4 | rw [if_neg (by decide)] at e3 e4
    go_wp2_with fail;refine (PKK.out _).mono ?_;rintro e w9 ⟨rfl,rfl⟩;obtain ⟨a1,a2,a3,a4,a5,a6,a7⟩:=HT.out.box (.cells #[.int .u64 77] 35);obtain ⟨bd,hbd⟩:∃ r3,wr.heap.size = r3:=⟨_,rfl⟩
    obtain ⟨x1,hx1⟩:∃ xx,wr.alloc (.cells #[.int .u64 77] 35) = xx:=⟨_,rfl⟩
    rw [hx1] at a1 a2 a3 a5;rw [hbd] at a1 a3 a4 a5 a6 a7;have X1:=Hd (And.intro hx1 hbd);have SE:=AM (D:=[77]) (k:=0) (ca:=ca) (v:=1) (sl:=p) (ep:=(r:Int) + 1) (z:=77) (ka:=K) (kb:=⟨#[]⟩) (cp:=1) a1 (JF (by simp) a4 a3) (Nat.le_trans (vX HL.out 1 K ⟨#[]⟩) (by decide)) (qS HL.out.1 (by decide) (fun h=>by cases h)) (by decide) (by decide) (fun j z hj=>by omega) (by decide) rfl (by decide) (by have:=HKS.out; omega) HOK.out (HTK.out);rw [HSE.out] at SE;have SE:=Hd SE;clear hx1 hbd a1 a2 a3 a4 a5 a6 a7;go_wp2_with fail;rw [X1.out.1,X1.out.2]
    refine SE.out.mono ?_;rintro e w4 ⟨rfl,h1,_⟩;have OP:=gC (sl:=p) (ep:=(r:Int) + 1) (nn:=77) (k:=1) (c:=ca) (e:=0) (ky:=K) (i:=q) (x:=(ca,(r:Int) + 1,77)) h1 HLM.out (by decide) (fun h=>by cases h) HOK.out (by decide) (by decide) (.inl ⟨rfl,rfl,rfl⟩) (by have:=HKS.out; omega) HAM.out HP.out (.inr (.inr ⟨rfl,rfl,by have:=HCR.out.1; intro h; have h' : ca = 0:=h; omega,rfl,rfl⟩));rw [HSE.out] at OP;have OP:=Hd (And.intro OP trivial);have HS29:=HSZ.out;clear h1 SE X1;go_wp2_with fail;refine OP.out.1.mono ?_;rintro e w5 ⟨rfl,h1,_⟩
    have T5:=Hd h1;clear h1 OP
    rcases HOLD.out with ⟨hj0,ho⟩ | ⟨hj0,ho⟩
    ·subst ho
     have FR:=Hd (wM T5.out HLM.out (gR 1 K ⟨#[]⟩) HCR.out.1);clear hj0 HOLD;go_wp2_with fail;refine FR.out.mono ?_;rintro e w8 ⟨rfl,h1,_,hL⟩;have OP:=gC (sl:=p) (ep:=(r:Int) + 1) (nn:=77) (k:=1) (c:=0) (e:=10) (ky:=K) (i:=q) (x:=(0,(r:Int) + 1 + 1,0)) h1 hL (by decide) (fun h=>by cases h) HOK.out (by decide) (by decide) (.inl ⟨rfl,rfl,rfl⟩) (by have:=HKS.out; omega) HA2.out HP.out (.inl ⟨by show (r:Int) + 1 < (r:Int) + 1 + 1; omega,rfl,rfl⟩);rw [HSE.out] at OP;have OP:=Hd OP;have HL9:=Hd hL;clear h1 FR hL;go_wp2_with fail
     refine OP.out.mono ?_;rintro e w9 ⟨rfl,h1,_⟩;have T9:=Hd h1;clear h1 OP;go_wp2_with fail;go_roundw
     case rel=>exact ⟨j + 1,S,rfl,by rw [HN.out],HJ.out,Hd (T9.out.sub fun k hk=>by cases hk),HL9,Hd (.inr ⟨by omega,by rw [← HSE.out,show j + 1 - 1 = j by omega,HQR.out.1,HQR.out.2,HP.out]⟩)⟩
     case measure=>have:=HJ.out; simp [intOf]; omega
    ·have hoz:=(mB (s:=(((j - 1) / 15 + 1:Nat):Int)) (ep:=(((j - 1) % 15:Nat):Int) + 1) (nn:=77) (k:=1) (wH (by have:=HJ.out; have:=HM.out; omega)) (by decide) (by decide) K).1
     rw [← ho] at hoz;have hne:old.toList.isEmpty = false:=jR _ (by omega);have HOZ:=Hd ho;have HJ0:=Hd hj0;clear ho hj0 HOLD hoz
     by_cases hr0:r = 0
     ·have hr0' : (r:Int) = 0:=by omega
      have hr1:((r:Int) != 0) = false:=by simp [hr0']
      have FR:=Hd (wM T5.out HLM.out (gR 1 K ⟨#[]⟩) HCR.out.1);clear hr0 hr0';go_wp2_with fail;refine FR.out.mono ?_;rintro e w8 ⟨rfl,h1,_,hL⟩;have OP:=gC (sl:=p) (ep:=(r:Int) + 1) (nn:=77) (k:=1) (c:=0) (e:=10) (ky:=K) (i:=q) (x:=(0,(r:Int) + 1 + 1,0)) h1 hL (by decide) (fun h=>by cases h) HOK.out (by decide) (by decide) (.inl ⟨rfl,rfl,rfl⟩) (by have:=HKS.out; omega) HA2.out HP.out (.inl ⟨by show (r:Int) + 1 < (r:Int) + 1 + 1; omega,rfl,rfl⟩);rw [HSE.out] at OP;have OP:=Hd OP;have HL9:=Hd hL;clear h1 FR hL;go_wp2_with fail
      refine OP.out.mono ?_;rintro e w9 ⟨rfl,h1,_⟩;have T9:=Hd h1;clear h1 OP;go_wp2_with fail;go_roundw
      case rel=>exact ⟨j + 1,S,rfl,by rw [HN.out],HJ.out,Hd (T9.out.sub fun k hk=>by cases hk),HL9,Hd (.inr ⟨by omega,by rw [← HSE.out,show j + 1 - 1 = j by omega,HQR.out.1,HQR.out.2,HP.out]⟩)⟩
      case measure=>have:=HJ.out; simp [intOf]; omega
     ·have hr1:((r:Int) != 0) = true:=by simp; omega
      have HR0:=Hd hr0;have OL:=gC (sl:=p) (ep:=(r:Int)) (nn:=77) (k:=1) (c:=0) (e:=10) (ky:=K) (i:=q) (x:=(ca,(r:Int) + 1,77)) T5.out HLM.out (by decide) (fun h=>by cases h) (wH (by have:=wI HOK.out; omega)) (by decide) (by decide) (.inl ⟨rfl,rfl,rfl⟩) (by have:=HKS.out; omega) HAM.out HP.out (.inl ⟨by show (r:Int) < (r:Int) + 1; omega,rfl,rfl⟩)
      rw [show cF p (r:Int) 77 1 K = old from by
       rw [HOZ.out,HP.out];have:=HQR.out;have h1:(j - 1) / 15 = q:=by omega
       have h2:(j - 1) % 15 + 1 = r:=by omega
       rw [h1,show (((j - 1) % 15:Nat):Int) + 1 = (r:Int) by omega]] at OL
      have OL:=Hd OL;clear hr0;go_wp2_with fail;refine OL.out.mono ?_;rintro e w7 ⟨rfl,h1,_⟩;have FR:=Hd (wM h1 HLM.out (gR 1 K ⟨#[]⟩) HCR.out.1);clear h1 OL;go_wp2_with fail;refine FR.out.mono ?_;rintro e w8 ⟨rfl,h1,_,hL⟩;have OP:=gC (sl:=p) (ep:=(r:Int) + 1) (nn:=77) (k:=1) (c:=0) (e:=10) (ky:=K) (i:=q) (x:=(0,(r:Int) + 1 + 1,0)) h1 hL (by decide) (fun h=>by cases h) HOK.out (by decide) (by decide) (.inl ⟨rfl,rfl,rfl⟩) (by have:=HKS.out; omega) HA2.out HP.out (.inl ⟨by show (r:Int) + 1 < (r:Int) + 1 + 1; omega,rfl,rfl⟩)
      rw [HSE.out] at OP;have OP:=Hd OP;have HL9:=Hd hL;clear h1 FR hL;go_wp2_with fail;refine OP.out.mono ?_;rintro e w9 ⟨rfl,h1,_⟩;have T9:=Hd h1;clear h1 OP;go_wp2_with fail;go_roundw
      case rel=>exact ⟨j + 1,S,rfl,by rw [HN.out],HJ.out,Hd (T9.out.sub fun k hk=>by cases hk),HL9,Hd (.inr ⟨by omega,by rw [← HSE.out,show j + 1 - 1 = j by omega,HQR.out.1,HQR.out.2,HP.out]⟩)⟩
      case measure=>have:=HJ.out; simp [intOf]; omega
  ·have hli:¬ (j:Int) < (m:Int):=by omega
   have FIN:=Hd (chain B1.out HT.out.from);clear hj hjm;go_wp2_with fail;refine (PKK.out _).mono ?_;rintro e w9 ⟨rfl,rfl⟩;go_wp2_with fail;go_ret;exact ⟨rfl,FIN.out⟩
end Go.Proofs.YthcejfnngkmojaaGreatDoor
