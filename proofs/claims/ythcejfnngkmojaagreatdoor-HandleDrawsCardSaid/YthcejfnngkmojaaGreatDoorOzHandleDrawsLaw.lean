/-
 HandleDrawsLaw.
-/
import Derived.Test.YthcejfnngkmojaaGreatDoorOzHdm
import Derived.Deep.DeepCutAuto
import Derived.Deep.CutBlock
namespace Go.Proofs.YthcejfnngkmojaaGreatDoor
open Go Go.RowKit
set_option maxRecDepth 20000
set_option maxHeartbeats 12800000
set_option linter.unusedVariables false
set_option linter.unusedSimpArgs false
theorem handleDraws_law (a:Option Addr) (len cap:Nat) (zs:List Int) (a2:Option Addr) (len2 cap2:Nat) (zs2:List Int) (w:World) (hk:IsInts .u8 w a len cap zs) (hk2:IsInts .u8 w a2 len2 cap2 zs2) :
  Calls Tryz.prog 11 #[.slice a len cap,.slice a2 len2 cap2] w fun e w' => e = .returned (.bool true) ∧ Below w.heap.size w w' := by
 have CELLS:=Hd (sF hk);have hlenL:=DX hk;have CELLS2:=Hd (sF hk2);have hlenL2:=DX hk2;have KK:=Hd (fun w=>rO 7 7 rfl w);have hks:=mI 7;obtain ⟨K,hK⟩:∃ K,BK 7 = K:=⟨_,rfl⟩
 rw [hK] at KK hks;have HKS:=Hd hks;clear hk hk2 hK hks;go_enter Tryz.func11,Tryz.ntmps11;try simp only [List.append_eq,List.cons_append,List.nil_append]
 go_wp2_with fail;refine (lU _).mono ?_;rintro e w1 ⟨rfl,b1⟩;have B1:=Hd b1;clear b1;go_wp2_with fail;refine (pZ _).mono ?_;rintro e w2 ⟨t,d,s,rfl,h1⟩;have sn:=tB ⟨t,0,none⟩;have HT0:=Hd h1;clear h1;go_wp2_with fail;refine (KK.out _).mono ?_;rintro e w3 ⟨rfl,b3⟩;have RO:=Hd (kK (n:=0) (L:=[]) (a:=⟨#[]⟩) (b:=⟨#[]⟩) (c:=K) (by rw [sY]; exact HT0.out.below b3) (by decide) (by decide) (fun _=>⟨rfl,rfl⟩) (by decide) HKS.out);clear b3 HT0;go_wp2_with fail;refine RO.out.mono ?_;rintro e w4 ⟨rfl,h1,_⟩
 obtain ⟨g,hg⟩:∃ b,w4.heap.size = b:=⟨_,rfl⟩
 obtain ⟨x0,hx0⟩:∃ x,w4.alloc (.cells (VB (mV [])) 68) = x:=⟨_,rfl⟩
 obtain ⟨c1,c2,c3,c4,c5,c6,c7⟩:=h1.box (.cells (VB (mV [])) 68);rw [hx0] at c1 c2 c3 c5;rw [hg] at c1 c3 c4 c5 c6 c7;have X0:=Hd (And.intro hx0 hg);have HT0:Hid (TxS w1 [g] x0 t d s 640 (slE 0 (drL []) ++ bI 1 K ⟨#[]⟩)):=Hd c1;have AR0:Hid (ArB 68 x0 g []):=Hd c3;have HG:=Hd (And.intro c4 c6);clear h1 hx0 hg c1 c2 c3 c4 c5 c6 c7 RO KK;go_upto_region 9 with fail
 rw [show (#[Value.bool false,Value.bool false,Value.bool false,Value.bool false,Value.bool false,Value.bool false,Value.bool false,Value.bool false,Value.bool false,Value.bool false,Value.bool false,Value.bool false,Value.bool false,Value.bool false,Value.bool false,Value.bool false]:Array Value) = VB (mV []) from MA.symm,X0.out.1,X0.out.2]
 go_upto_block 0 with fail
 go_cut [10] (fun _ wc=>∃ U:List Int,Hid (TxS w1 [g] wc t d s 640 (slE 0 (drL U) ++ bI 1 K ⟨#[]⟩)) ∧ Hid (DrU U 12) ∧ Hid (ArB 68 wc g U))
 case first =>
  go_wp2_with fail
  go_loopw [10] (fun i wr=>∃ (j:Nat) (U:List Int),i = .int .i64 (j:Int) ∧ j ≤ len ∧ j ≤ 12 ∧ Hid (TxS w1 [g] wr t d s 640 (slE 0 (drL U) ++ bI 1 K ⟨#[]⟩)) ∧ Hid (DrU U j) ∧ Hid (ArB 68 wr g U)) (fun i _=>13 - (intOf i).toNat)
  case atStart=>exact ⟨0,[],rfl,Nat.zero_le _,Nat.zero_le _,HT0,Hd ⟨by decide,fun x h=>by cases h⟩,AR0⟩
  case round =>
   obtain ⟨j,U,rfl,hj1,hj2,HT,HU,AR⟩:=hrel
   by_cases hjl:j < len
   ·have hjli:(j:Int) < (len:Int):=by omega
    by_cases hlt:j < 12
    ·have hli:(j:Int) < 12:=by omega
     obtain ⟨x,z,hax,_,⟨hz1,hz2⟩,CELL⟩:=CELLS.out j hjl;subst hax;have HJ:Hid (j + 1 ≤ len ∧ j + 1 ≤ 12):=Hd ⟨by omega,by omega⟩;have e4:IntKind.i64.wrap ((j:Int) + 1) = ((j + 1:Nat):Int):=by rw [show (j:Int) + 1 = ((j + 1:Nat):Int) by omega]; exact IntWalk.i64_in _ (by omega)
     obtain ⟨m,hm⟩:∃ m:Nat,(z % 8).toNat = m:=⟨_,rfl⟩
     have z1:z % 8 = (m:Int):=by omega
     have z2:z.tmod 8 = (m:Int):=by rw [Int.tmod_eq_emod_of_nonneg hz1]; exact z1
     have z3:IntKind.u8.wrap (m:Int) = (m:Int):=IntWalk.u8_in _ (by omega);have z4:IntKind.u64.wrap (m:Int) = (m:Int):=IntWalk.u64_in _ (by omega);have z5:IntKind.i64.wrap (m:Int) = (m:Int):=IntWalk.i64_in _ (by omega);have hml:(m:Int) < 16:=by omega
     have hcl:=CELL.out wr (chain B1.out HT.out.from);have hm16:m < 16:=by omega
     have hm7:m ≤ 7:=by omega
     have hj12:j ≤ 12:=by omega
     clear hm hj1 hj2 hjl hlt
     by_cases hmU:(m:Int) ∈ U
     ·have HMU:=Hd hmU
      have HU2:=Hd (HU.out.more);have TK:=xP (c:=1) HT.out (dY 1 K ⟨#[]⟩) HU.out hj12 hmU (by decide);have TK:=Hd TK;have hdu:decide ((m:Int) ∈ U) = true:=decide_eq_true hmU;have hca:=AR.out.cell hm16;rw [hdu] at hca;have HCA:=Hd hca;have HM16:=Hd hm16;clear hmU hdu hca hm16 hj12 hm7;go_wp2_with fail;refine TK.out.mono ?_;rintro e w3 ⟨rfl,h1,k1⟩;obtain ⟨bx,hbx⟩:∃ b,w3.heap.size = b:=⟨_,rfl⟩
      obtain ⟨x1,hx1⟩:∃ x,w3.alloc (.cells #[.int .i64 0,.int .i64 0,.int .i64 0,.int .u64 0] 37) = x:=⟨_,rfl⟩
      obtain ⟨c1,c2,c3,c4,c5,c6,c7⟩:=h1.box (.cells #[.int .i64 0,.int .i64 0,.int .i64 0,.int .u64 0] 37);rw [hx1] at c1 c2 c3 c5;rw [hbx] at c1 c3 c4 c5 c6 c7;have X1:=Hd (And.intro hx1 hbx);have kg:=(c2 g (by simp) HG.out.1).trans (k1 g (by simp) HG.out.1);have AR3:=Hd (AR.out.kept kg);have T3:=Hd (c1.sub (R' := [g]) fun k hk=>by simp only [List.mem_cons] at hk ⊢; exact .inr hk);have hca:=(mQ (j:=m) kg).trans HCA.out;have hfa:=AR3.out.free m
      have T4:Hid (TxS w1 [g] (x1.setCell ⟨g,m,none⟩ (.bool true)) t d s 640 (slE 0 (drL (U)) ++ bI 1 K ⟨#[]⟩) ∧ ArB 68 (x1.setCell ⟨g,m,none⟩ (.bool true)) g (U)):=Hd ⟨T3.out.turn (k:=g) (by simp) HG.out.1 HG.out.2 (cT _),AR3.out.set HM16.out (fun x=>⟨.inl,fun h=>h.elim id fun e=>e ▸ HMU.out⟩)⟩;clear h1 k1 hx1 hbx c1 c2 c3 c4 c5 c6 c7 kg TK;go_upto_region 14 with fail
      rw [X1.out.1,X1.out.2];go_wp2_with fail;go_roundw
      case rel=>exact ⟨j + 1,U,rfl,HJ.out.1,HJ.out.2,Hd T4.out.1,HU2,Hd T4.out.2⟩
      case measure=>have:=HJ.out; simp [intOf]; omega
     ·have HMU:=Hd hmU
      have HU2:=Hd (HU.out.next (n:=(m:Int)) (by omega) (by omega));have TK:=WW (c:=1) HT.out (dY 1 K ⟨#[]⟩) HU.out hj12 hmU (by omega) (by decide);obtain ⟨p,hp⟩:∃ p:Int,((U.length + 1:Nat):Int) = p:=⟨_,rfl⟩
      rw [hp] at TK;clear hp;have TK:=Hd TK;have hdu:decide ((m:Int) ∈ U) = false:=decide_eq_false hmU;have hca:=AR.out.cell hm16;rw [hdu] at hca;have HCA:=Hd hca;have HM16:=Hd hm16;clear hmU hdu hca hm16 hj12 hm7;go_wp2_with fail;refine TK.out.mono ?_;rintro e w3 ⟨rfl,h1,k1,_⟩;rw [WZ] at h1;obtain ⟨bx,hbx⟩:∃ b,w3.heap.size = b:=⟨_,rfl⟩
      obtain ⟨x1,hx1⟩:∃ x,w3.alloc (.cells #[.int .i64 p,.int .i64 1,.int .i64 1,.int .u64 (m:Int)] 37) = x:=⟨_,rfl⟩
      obtain ⟨c1,c2,c3,c4,c5,c6,c7⟩:=h1.box (.cells #[.int .i64 p,.int .i64 1,.int .i64 1,.int .u64 (m:Int)] 37);rw [hx1] at c1 c2 c3 c5;rw [hbx] at c1 c3 c4 c5 c6 c7;have X1:=Hd (And.intro hx1 hbx);have kg:=(c2 g (by simp) HG.out.1).trans (k1 g (by simp) HG.out.1);have AR3:=Hd (AR.out.kept kg);have T3:=Hd (c1.sub (R' := [g]) fun k hk=>by simp only [List.mem_cons] at hk ⊢; exact .inr hk);have hca:=(mQ (j:=m) kg).trans HCA.out;have hfa:=AR3.out.free m
      have T4:Hid (TxS w1 [g] (x1.setCell ⟨g,m,none⟩ (.bool true)) t d s 640 (slE 0 (drL (U ++ [(m:Int)])) ++ bI 1 K ⟨#[]⟩) ∧ ArB 68 (x1.setCell ⟨g,m,none⟩ (.bool true)) g (U ++ [(m:Int)])):=Hd ⟨T3.out.turn (k:=g) (by simp) HG.out.1 HG.out.2 (cT _),AR3.out.set HM16.out (fun x=>by simp)⟩;clear h1 k1 hx1 hbx c1 c2 c3 c4 c5 c6 c7 kg TK;go_upto_region 14 with fail
      rw [X1.out.1,X1.out.2];go_wp2_with fail;go_roundw
      case rel=>exact ⟨j + 1,U ++ [(m:Int)],rfl,HJ.out.1,HJ.out.2,Hd T4.out.1,HU2,Hd T4.out.2⟩
      case measure=>have:=HJ.out; simp [intOf]; omega
    ·have hli:¬ (j:Int) < 12:=by omega
     go_wp2_with fail
     go_meet
     exact ⟨U,HT,Hd ⟨by have:=HU.out.len; omega,HU.out.rng⟩,AR⟩
   ·have hjli:¬ (j:Int) < (len:Int):=by omega
    go_wp2_with fail
    go_meet
    exact ⟨U,HT,Hd ⟨by have:=HU.out.len; omega,HU.out.rng⟩,AR⟩
 case rest =>
  obtain ⟨U,HT,HU,AR⟩:=hcut;have HR0:Hid (RowS w1 [g] 35 wc t d s (slE 0 (drL U) ++ bI 1 K ⟨#[]⟩) (.slice none ([]:List Int).length 0) (lX [])):=Hd (RowS.nil HT.out);clear CELLS hlenL
  go_upto_block 2 with fail
  go_cut [14,15,16] (fun x y _ wd=>∃ (va:Option Addr) (vc:Nat) (D:List Int) (W:Int),x = .slice va D.length vc ∧ y = .int .i64 W ∧ Hid (RowS w1 [g] 35 wd t d s (slE 0 (drL U) ++ bI 1 K ⟨#[]⟩) (.slice va D.length vc) (lX D)) ∧ Hid (WantR U D W) ∧ Hid (D.length ≤ 12 ∧ ∀ x ∈ D,0 ≤ x ∧ x ≤ 15))
  case first =>
   go_wp2_with fail
   go_loopw [14,15,16] (fun x y i wr=>∃ (j:Nat) (va:Option Addr) (vc:Nat) (D:List Int) (W:Int),x = .slice va D.length vc ∧ y = .int .i64 W ∧ i = .int .i64 (j:Int) ∧ j ≤ len2 ∧ j ≤ 12 ∧ Hid (RowS w1 [g] 35 wr t d s (slE 0 (drL U) ++ bI 1 K ⟨#[]⟩) (.slice va D.length vc) (lX D)) ∧ Hid (WantR U D W) ∧ Hid (D.length = j ∧ ∀ x ∈ D,0 ≤ x ∧ x ≤ 15) ∧ Hid (ArB 68 wr g U)) (fun _ _ i _=>13 - (intOf i).toNat)
   case atStart=>exact ⟨0,none,0,[],-1,rfl,rfl,rfl,Nat.zero_le _,Nat.zero_le _,HR0,Hd (WantR.nil U),Hd ⟨rfl,fun x h=>by cases h⟩,AR⟩
   case round =>
    obtain ⟨j,va,vc,D,W,rfl,rfl,rfl,hj1,hj2,HR,HW,HDL', ARr⟩:=hrel;have HDL:Hid (D.length = j):=Hd HDL'.out.1
    by_cases hjl:j < len2
    ·have hjli:(j:Int) < (len2:Int):=by omega
     by_cases hlt:j < 12
     ·have hli:(j:Int) < 12:=by omega
      obtain ⟨x,z,hax,_,⟨hz1,hz2⟩,CELL⟩:=CELLS2.out j hjl;subst hax;have HJ:Hid (j + 1 ≤ len2 ∧ j + 1 ≤ 12):=Hd ⟨by omega,by omega⟩;have e4:IntKind.i64.wrap ((j:Int) + 1) = ((j + 1:Nat):Int):=by rw [show (j:Int) + 1 = ((j + 1:Nat):Int) by omega]; exact IntWalk.i64_in _ (by omega)
      obtain ⟨m,hm⟩:∃ m:Nat,(z % 16).toNat = m:=⟨_,rfl⟩
      have z1:z % 16 = (m:Int):=by omega
      have z2:z.tmod 16 = (m:Int):=by rw [Int.tmod_eq_emod_of_nonneg hz1]; exact z1
      have z3:IntKind.u8.wrap (m:Int) = (m:Int):=IntWalk.u8_in _ (by omega);have z4:IntKind.u64.wrap (m:Int) = (m:Int):=IntWalk.u64_in _ (by omega);have z5:IntKind.i64.wrap (m:Int) = (m:Int):=IntWalk.i64_in _ (by omega);have hml:(m:Int) < 16:=by omega
      have hcl:=CELL.out wr (chain B1.out HR.out.tx.from);have hm16:m < 16:=by omega
      have HDL2:Hid ((D ++ [(m:Int)]).length = j + 1 ∧ ∀ x ∈ D ++ [(m:Int)],0 ≤ x ∧ x ≤ 15):=Hd ⟨by rw [List.length_append,HDL.out]; rfl,fun x hx=>by
       rcases List.mem_append.1 hx with hx | hx
       ·exact HDL'.out.2 x hx
       ·rw [List.mem_singleton.1 hx]; omega⟩
      clear hm hj1 hj2 hjl hlt hz1 hz2;go_upto_region 23 with fail
      clear hcl;obtain ⟨v,hv⟩:∃ v,Value.slice va D.length vc = v:=⟨_,rfl⟩
      have HRv:=HR.out;rw [hv] at HRv ⊢;obtain ⟨i0,hi,hi0,hi1,hi2⟩:=info_parts xG;obtain ⟨v2,w5,hap,hro,hfr⟩:=HRv.app (ty:=66) (by_:=8) (by decide) Tryz.underlying66 hi hi0 hi1 hi2 rfl (.int .u64 (m:Int)) rfl (by rw [qD,HDL.out]; have:=HJ.out; omega);rw [IR] at hro;obtain ⟨va2,vc2,hsh⟩:=hro.shape;rw [qD] at hsh;have HSH:Hid (Value.slice va2 (D.length + 1) vc2 = .slice va2 (D ++ [(m:Int)]).length vc2):=Hd (by rw [List.length_append]; rfl);subst hsh
      have AR5:=Hd (ARr.out.kept (hfr.block g (HRv.tx.lt.1 g (by simp)) (fun e=>(HRv.ob g e).2.2 (by simp))));have HR5:=Hd hro;clear hro hfr hi hi0 hi1 hi2 hv HRv
      rcases Int.lt_or_le W 0 with hW | hW
      ·rcases Nat.lt_or_ge j 8 with h8 | h8
       ·by_cases hmU:(m:Int) ∈ U
        ·have hwb:W < 0:=hW
         have h8b:(j:Int) < 8:=by omega
         have HW2:Hid (WantR U (D ++ [(m:Int)]) (W)):=Hd (HW.out.same (.inr (.inr hmU)));have hdu:decide ((m:Int) ∈ U) = true:=decide_eq_true hmU;have hca:=AR5.out.cell hm16;rw [hdu] at hca;clear hdu hW hm16
         go_wp2_with (at_builtin; refine gD rfl (.tmp 85) (.tmp 88) 66 rfl _ _ _ rfl rfl hap ?_)
         clear hap;try go_wp2_with fail
         go_roundw
         case rel=>exact ⟨j + 1,va2,vc2,D ++ [(m:Int)],W,HSH.out,rfl,rfl,HJ.out.1,HJ.out.2,HR5,HW2,HDL2,AR5⟩
         case measure=>have:=HJ.out; simp [intOf]; omega
        ·have hwb:W < 0:=hW
         have h8b:(j:Int) < 8:=by omega
         have HW2:Hid (WantR U (D ++ [(m:Int)]) ((j:Int))):=Hd (by have:=HW.out.hit hW (by have:=HDL.out; omega) hmU; rw [HDL.out] at this; exact this);have hdu:decide ((m:Int) ∈ U) = false:=decide_eq_false hmU;have hca:=AR5.out.cell hm16;rw [hdu] at hca;clear hdu hW hm16
         go_wp2_with (at_builtin; refine gD rfl (.tmp 85) (.tmp 88) 66 rfl _ _ _ rfl rfl hap ?_)
         clear hap;try go_wp2_with fail
         go_roundw
         case rel=>exact ⟨j + 1,va2,vc2,D ++ [(m:Int)],(j:Int),HSH.out,rfl,rfl,HJ.out.1,HJ.out.2,HR5,HW2,HDL2,AR5⟩
         case measure=>have:=HJ.out; simp [intOf]; omega
       ·have hwb:W < 0:=hW
        have h8b:¬ (j:Int) < 8:=by omega
        have HW2:Hid (WantR U (D ++ [(m:Int)]) (W)):=Hd (HW.out.same (.inr (.inl (by have:=HDL.out; omega))));have hdu:decide ((m:Int) ∈ U) = decide ((m:Int) ∈ U):=rfl;have hca:=AR5.out.cell hm16;rw [hdu] at hca;clear hdu hW hm16
        go_wp2_with (at_builtin; refine gD rfl (.tmp 85) (.tmp 88) 66 rfl _ _ _ rfl rfl hap ?_)
        clear hap;try go_wp2_with fail
        go_roundw
        case rel=>exact ⟨j + 1,va2,vc2,D ++ [(m:Int)],W,HSH.out,rfl,rfl,HJ.out.1,HJ.out.2,HR5,HW2,HDL2,AR5⟩
        case measure=>have:=HJ.out; simp [intOf]; omega
      ·have hW:¬ W < 0:=by omega
       have hwb:¬ W < 0:=hW;have HW2:Hid (WantR U (D ++ [(m:Int)]) (W)):=Hd (HW.out.same (.inl (by omega)));have hdu:decide ((m:Int) ∈ U) = decide ((m:Int) ∈ U):=rfl;have hca:=AR5.out.cell hm16;rw [hdu] at hca;clear hdu hW hm16
       go_wp2_with (at_builtin; refine gD rfl (.tmp 85) (.tmp 88) 66 rfl _ _ _ rfl rfl hap ?_)
       clear hap;try go_wp2_with fail
       go_roundw
       case rel=>exact ⟨j + 1,va2,vc2,D ++ [(m:Int)],W,HSH.out,rfl,rfl,HJ.out.1,HJ.out.2,HR5,HW2,HDL2,AR5⟩
       case measure=>have:=HJ.out; simp [intOf]; omega
     ·have hli:¬ (j:Int) < 12:=by omega
      go_wp2_with fail
      go_meet
      exact ⟨va,vc,D,W,rfl,rfl,HR,HW,Hd ⟨by have:=HDL.out; omega,HDL'.out.2⟩⟩
    ·have hjli:¬ (j:Int) < (len2:Int):=by omega
     go_wp2_with fail
     go_meet
     exact ⟨va,vc,D,W,rfl,rfl,HR,HW,Hd ⟨by have:=HDL.out; omega,HDL'.out.2⟩⟩
  case rest =>
   obtain ⟨va,vc,D,W,rfl,rfl,HR,HW,HD⟩:=hcut;have HSL:=Hd (IS HU.out (Nat.le_refl _));have HLE:=Hd (kD HSL.out 1 K ⟨#[]⟩);obtain ⟨LS,hLS⟩:∃ LS,(aS 0 (slE 0 (drL U) ++ bI 1 K ⟨#[]⟩)).take (1000:Int).toNat = LS:=⟨_,rfl⟩
   have HLS:=Hd hLS;have SC:=Hd (EM (key:=0) (most:=1000) HR.out.tx (Nat.le_trans HLE.out (by decide)) LS hLS);have HRI:=Hd (kG (L:=drL U) (n:=1) (a:=K) (b:=⟨#[]⟩) HSL.out.1 (by decide) (fun h=>by cases h));clear hLS CELLS2 hlenL2;go_wp2_with fail;refine SC.out.mono ?_;rintro e w5 ⟨sa,sc,rfl,h1,k1⟩;have HR5:=Hd (HR.out.txn h1 k1);clear h1 k1 SC
   rcases HW.out with ⟨rfl,hall⟩ | ⟨i,x,rfl,hi8,hDx,hxU,hbe⟩
   ·have HALL:=Hd hall
    obtain ⟨kk,hkk⟩:∃ k:Nat,(k:Int) = min (D.length:Int) 8:=⟨min D.length 8,by omega⟩
    have SE:=Hd (GY (D:=D) (k:=kk) (ca:=9) (v:=1) (cp:=vc) HR5.out.tx HR5.out.drws (Nat.le_trans HLE.out (by decide)) HRI.out (by decide) (by have:=HD.out.1; omega) (fun j z hj hz R w h=>xP h (dY 1 K ⟨#[]⟩) HU.out (Nat.le_refl _) (HALL.out j z (by omega) hz) (by decide)) hkk);have m1:min (D.length:Int) 8 = (kk:Int):=hkk.symm;have m2:(if 8 < (D.length:Int) then 8 else (D.length:Int)) = (kk:Int):=by rw [hkk]; split <;> omega
    have m3:(if (D.length:Int) ≤ 8 then (D.length:Int) else 8) = (kk:Int):=by rw [hkk]; split <;> omega
    clear hall hkk;go_wp2_with fail;refine SE.out.mono ?_;rintro e w6 ⟨rfl,h1,k1⟩;have SC:=Hd (EM (key:=0) (most:=1000) h1 (Nat.le_trans HLE.out (by decide)) LS HLS.out);clear h1 k1 SE;go_wp2_with fail;refine SC.out.mono ?_;rintro e w7 ⟨sa2,sc2,rfl,h1,_⟩;have FIN:=Hd (chain B1.out h1.from);clear h1 SC;go_wp2_with fail;go_ret;exact ⟨rfl,FIN.out⟩
   ·have hx15:=HD.out.2 x (List.mem_of_getElem? hDx)
    have HX:Hid (0 ≤ x ∧ x ≤ 18446744073709551615):=Hd (by omega);have hul:=HU.out.len;have HOK:Hid (iL ((U.length + 1:Nat):Int) 1 1 = true):=Hd (KG (by omega))
    have HSN:Hid (SlL (drL U ++ [(9,1,x)])):=Hd (HSL.out.snoc (by rw [jC]; omega) ⟨by
     rw [jC];unfold bV;simp only [Bool.and_eq_true,gL];exact ⟨⟨⟨by omega,by decide⟩,by decide⟩,by simp⟩,by show (0:Int) ≤ x; omega,by show x ≤ _; omega⟩)
    have SE:=tR (D:=D) (k:=i) (ca:=9) (v:=1) (sl:=((U.length + 1:Nat):Int)) (ep:=1) (z:=x) (ka:=K) (kb:=⟨#[]⟩) (cp:=vc) HR5.out.tx HR5.out.drws (Nat.le_trans HLE.out (by decide)) HRI.out (by decide) (by have:=HD.out.1; omega) (fun j z hj hz R w h=>xP h (dY 1 K ⟨#[]⟩) HU.out (Nat.le_refl _) (hbe j z hj hz) (by decide)) hi8 hDx HX.out (by have:=HKS.out; omega) HOK.out (fun R w h=>(WW (c:=9) h (dY 1 K ⟨#[]⟩) HU.out (Nat.le_refl _) hxU (by omega) (by decide)).mono fun _ _ g=>⟨g.1,g.2.1,g.2.2.1⟩)
    obtain ⟨z1,z2,z3,z4,z5,z6,z7⟩:=jV HOK.out HX.out.1 HX.out.2 K;obtain ⟨S,hS⟩:∃ S,bC ((U.length + 1:Nat):Int) 1 x 1 K = S:=⟨_,rfl⟩
    rw [hS] at SE z1 z2 z3 z4 z5 z6 z7;have SE:=Hd SE;have HSE:=Hd hS;obtain ⟨sn_,hsn⟩:∃ q,hr4 S = q:=⟨_,rfl⟩
    obtain ⟨p,hp⟩:∃ p:Int,((U.length + 1:Nat):Int) = p:=⟨_,rfl⟩
    have HTK:=Hd (fun w=>by have:=vU S w z2; rw [z3,z4,z5,z6,hsn,hp] at this; exact this);have HDX:=Hd hDx;have HI8:=Hd hi8;have hiw:¬ (i:Int) < 0:=by omega
    have e5:IntKind.i64.wrap ((i:Int) + 1) = (i:Int) + 1:=IntWalk.i64_in _ (by omega);have hil:(i:Int) < (D.length:Int):=by have:=(List.getElem?_eq_some_iff.1 hDx).1; omega
    clear z1 z2 z3 z4 z5 z6 z7 hS hsn hp hi8 hDx hxU hbe hx15 hul;go_wp2_with fail;refine SE.out.mono ?_;rintro e w6 ⟨rfl,h1,k1⟩;have HR6:=Hd (HR5.out.txn h1 k1);have SC:=Hd (EM (key:=0) (most:=1000) h1 (Nat.le_trans (kD HSN.out 1 K ⟨#[]⟩) (by decide)) _ rfl);clear h1 k1 SE;go_wp2_with fail;refine SC.out.mono ?_;rintro e w7 ⟨sa2,sc2,rfl,h1,k1⟩;have HR7:=Hd (HR6.out.txn h1 k1);clear h1 k1 SC;go_wp2_with fail;refine (HTK.out _).mono ?_;rintro e w8 ⟨rfl,b8⟩;have HR8:=HR7.out.below b8
    obtain ⟨c1,c2,c3,c4,c5,c6,c7⟩:=HR8.tx.box (.cells #[.int .i64 p,.int .i64 1,.int .u64 x,.int .i64 1] 48);obtain ⟨bx,hbx⟩:∃ b,w8.heap.size = b:=⟨_,rfl⟩
    obtain ⟨x1,hx1⟩:∃ xx,w8.alloc (.cells #[.int .i64 p,.int .i64 1,.int .u64 x,.int .i64 1] 48) = xx:=⟨_,rfl⟩
    rw [hx1] at c1 c2 c3 c5;rw [hbx] at c1 c3 c4 c5 c6 c7;have X1:=Hd (And.intro hx1 hbx);have HB3:=Hd (And.intro c3 c4);have HR9:=Hd (HR8.txn (c1.sub fun k hk=>by simp only [List.mem_cons]; exact .inr hk) c2)
    have OP:=kL (sl:=((U.length + 1:Nat):Int)) (ep:=1) (nn:=x) (k:=1) (c:=9) (e:=0) (ky:=K) (i:=U.length) (x:=(9,1,x)) c1 HSN.out (by decide) (fun h=>by cases h) HOK.out HX.out.1 HX.out.2 (.inl ⟨rfl,rfl,rfl⟩) (by have:=HKS.out; omega) (by rw [List.getElem?_append_right (by rw [jC]; exact Nat.le_refl _),jC,Nat.sub_self]; rfl) rfl (.inr (.inr ⟨rfl,rfl,by show (9:Int) ≠ 0; decide,rfl,rfl⟩));rw [HSE.out] at OP;have OP:=Hd OP;clear b8 HR8 c1 c2 c3 c4 c5 c6 c7 hx1 hbx;go_upto_region 32 with fail
    rw [X1.out.1,X1.out.2];go_wp2_with fail;refine OP.out.mono ?_;rintro e w9 ⟨rfl,h1,k1⟩;have mb:=(k1 bx (by simp) HB3.out.2).trans HB3.out.1;have HRA:=HR9.out.txn (h1.sub fun k hk=>by simp only [List.mem_cons]; exact .inr hk) (k1.sub fun k hk=>by simp only [List.mem_cons]; exact .inr hk);obtain ⟨gd,hga,_,_,hgc⟩:=HRA.drws i x HDX.out;subst hga;have FIN:=Hd (chain B1.out h1.from);have HMB:=Hd (show (fun w' : World=>w'.heap[bx]? = some (.cells #[.int .i64 p,.int .i64 1,.int .u64 x,.int .i64 1] 48) ∧ w'.cell? ⟨gd,i,none⟩ = some (.int .u64 x)) w9.drew from ⟨mb,hgc⟩)
    clear h1 k1 OP mb HRA hgc;go_upto_region 33 with fail
    refine wp_region_held_drew (S:=fun w' => w'.heap[bx]? = some (.cells #[.int .i64 p,.int .i64 1,.int .u64 x,.int .i64 1] 48) ∧ w'.cell? ⟨gd,i,none⟩ = some (.int .u64 x)) (by kernel_rfl) HMB.out (fun hS=>?_);refine Hu 0 155 hS ?_;simp only [SL];refine Hu 1 156 hS ?_;simp only [SL];refine Hu 2 157 hS ?_;simp only [SL];refine Hu 3 158 hS ?_;simp only [SL];refine Hu 4 159 hS ?_;simp only [SL];refine Hu 5 160 hS ?_;simp only [SL];refine Hu 6 161 hS ?_;simp only [SL];refine Hu 7 162 hS ?_;simp only [SL];refine Hu 8 163 hS ?_;simp only [SL];refine Hu 9 164 hS ?_;simp only [SL]
    refine Hu 10 165 hS ?_;simp only [SL];refine Hu 11 166 hS ?_;simp only [SL];refine Hu 12 167 hS ?_;simp only [SL];refine Hu 13 168 hS ?_;simp only [SL];refine Hu 14 169 hS ?_;simp only [SL];refine Hu 15 170 hS ?_;simp only [SL];refine Hu 16 171 hS ?_;simp only [SL];refine Hu 17 172 hS ?_;simp only [SL];refine Hu 18 173 hS ?_;simp only [SL];refine Hu 19 174 hS ?_;simp only [SL];refine Hu 20 175 hS ?_;simp only [SL];refine Hv 21 176 ?va21x22 hS ?ha21x22 ?_
    case ha21x22 =>
     intro w9 s9;obtain ⟨⟨q0,q1,q2,q3⟩,_⟩:=aR s9.1;have q9:=s9.2;clear s9;go_simp;try (with_reducible rfl)
    simp only [SL];refine Hu 22 177 hS ?_;simp only [SL];refine Hu 23 178 hS ?_;simp only [SL];refine Hu 24 179 hS ?_;simp only [SL];refine Hv 25 180 ?va25x26 hS ?ha25x26 ?_
    case ha25x26 =>
     intro w9 s9;obtain ⟨⟨q0,q1,q2,q3⟩,_⟩:=aR s9.1;have q9:=s9.2;clear s9;go_simp;try (with_reducible rfl)
    simp only [SL];refine Hu 26 181 hS ?_;simp only [SL];refine Hu 27 182 hS ?_;simp only [SL];refine Hu 28 183 hS ?_;simp only [SL];refine Hu 29 184 hS ?_;simp only [SL];refine Hu 30 185 hS ?_;simp only [SL];refine Hu 31 186 hS ?_;simp only [SL];refine Hu 32 187 hS ?_;simp only [SL];refine Hu 33 188 hS ?_;simp only [SL];refine Hu 34 189 hS ?_;simp only [SL];refine Hu 35 190 hS ?_;simp only [SL];refine Hu 36 4 hS ?_;simp only [SL];refine wpAnyH_done (by kernel_rfl) ?_ _;clear hS;go_wp2_with fail;go_ret;exact ⟨rfl,FIN.out.drew⟩
end Go.Proofs.YthcejfnngkmojaaGreatDoor
