/-
 Hx.
-/
import Derived.Test.YthcejfnngkmojaaGreatDoorR21
import Derived.Test.YthcejfnngkmojaaGreatDoorR19
import Derived.Deep.DeepCutAuto
namespace Go.Proofs.YthcejfnngkmojaaGreatDoor
open Go Go.RowKit
set_option maxRecDepth 20000
set_option maxHeartbeats 12800000
set_option linter.unusedVariables false
set_option linter.unusedSimpArgs false
theorem uQ (w:World) :
  Calls Tryz.prog 33 #[] w fun e w' => ∃ t d s,e = .returned (.pointer (some ⟨t,0,none⟩)) ∧ TxS w [] w' t d s 640 []:=by
 have NY:=Hd fun w=>ZB w 640 (by decide) (by decide)
 have hln:(DkS.fresh 640).S.length = 640:=by show (List.replicate 640 zs).length = 640; rw [List.length_replicate]
 have FG:=Hd (UU (DkS.fresh 640) rfl rfl (by rw [hln]; decide) (by rw [hln]; decide));rw [hln] at FG;clear hln;go_enter Tryz.func33,Tryz.ntmps33;go_wp2_with fail;refine (NY.out _).mono ?_;intro e w1 hm;obtain ⟨d,rfl,hd⟩:=aBS Br hm;clear hm NY;have HD:=Hd hd;clear hd;have pn:=SS ⟨d,0,none⟩;go_wp2_with fail;refine (UT HD.out FG.out.1).mono ?_;rintro e w3 ⟨s,rfl,hs⟩;have BG:=Hd (aAI hs FG.out.2.1 FG.out.2.2.1 FG.out.2.2.2);clear hs HD;have sn:=SR ⟨s,0,none⟩;go_wp2_with fail;refine BG.out.mono ?_;rintro e w4 ⟨t,rfl,h1,h2,h3⟩
 have FIN:=Hd (show TxS w [] w4 t d s 640 [] from ⟨⟨0,h1,h2⟩,h3⟩);clear h1 h2 h3 BG;go_wp2_with fail;go_ret;exact ⟨t,d,s,rfl,FIN.out⟩
theorem vX {L:List (Int × Int × Int)} (hL:SlL L) (n:Nat) (a b:ByteArray):(slE 0 L ++ dV n a b).length ≤ 290:=by
 have h1:=(gR n a b).n;have h2:=hL.1;rw [List.length_append,iU];omega
theorem gC {w0 w:World} {R:List Nat} {t d s n:Nat} {L:List (Int × Int × Int)} {a b ky:ByteArray} {sl ep nn k c e:Int} (h:TxS w0 R w t d s 640 (slE 0 L ++ dV n a b)) (hL:SlL L) (hn:n ≤ 65535) (h0:n = 0 → a = ⟨#[]⟩ ∧ b = ⟨#[]⟩) (hok:jV sl ep k = true) (n0:0 ≤ nn) (n1:nn ≤ 18446744073709551615) (hky:byR (n:Int) a b k ky true) (hks:ky.size ≤ 140737488351232) {i:Nat} {x:Int × Int × Int} (hx:L[i]? = some x) (hsl:sl = ((i + 1:Nat):Int)) (hr:aAW x ep nn c e) :
  Calls Tryz.prog 37 #[.pointer (some ⟨t,0,none⟩),.string (cF sl ep nn k ky)] w fun e' w' => e' = .returned (.tuple #[.int .i64 c,.int .i64 e]) ∧ TxS w0 R w' t d s 640 (slE 0 L ++ dV n a b) ∧ KeptT R t w w' := by
 obtain ⟨z1,z2,z3,z4,z5,z6,z7⟩:=mB hok n0 n1 ky;have hE:=vX hL n a b;refine UD (c:=cF sl ep nn k ky) (v:=(n:Int)) (a:=a) (b:=b) (ky:=ky) (is:=true) (rc:=c) (re:=e) (y:=c) h ?_ z2 (by omega) (qS hL.1 hn h0) (by rw [z6]; exact hky) hks ?_
 ·rcases hr with ⟨_,h1,h2⟩ | ⟨_,_,h1,h2⟩ | ⟨_,_,_,h1,h2⟩
  ·exact .inr ⟨by rw [h2]; decide,h1⟩
  ·exact .inr ⟨by rw [h2]; decide,h1⟩
  ·exact .inl ⟨h2,rfl⟩
 ·rw [z3,z4,z5,z6,z7]
  exact .inr (.inr ⟨rfl,rfl,fun R w h=>UE h hL (gR n a b) hx hsl hr⟩)
def oP (b:UInt8) (n:Nat):List UInt8:=List.replicate n b ++ List.replicate (32 - n) 0
def MY (b:UInt8):ByteArray:=Str (List.replicate 32 b)
theorem uU (b:UInt8):(MY b).size = 32:=by unfold MY; rw [bV,List.length_replicate]
theorem uT (b:UInt8) (n:Nat) (h:n ≤ 32):(oP b n).length = 32:=by
 unfold oP;rw [List.length_append,List.length_replicate,List.length_replicate];omega
theorem MX (b:UInt8) (n:Nat) (h:n < 32):(oP b n).set n b = oP b (n + 1):=by
 unfold oP;rw [List.set_append_right _ _ (by simp),List.length_replicate,Nat.sub_self]
 have e:List.replicate (32 - n) (0:UInt8) = 0 :: List.replicate (32 - (n + 1)) 0:=by
  rw [← List.replicate_succ]
  congr 1
  omega
 rw [e,List.set_cons_zero,List.replicate_succ', List.append_assoc]
 rfl
theorem IZ (b:UInt8) (z:Int) (hz:(b.toNat:Int) = z) (w:World) :
  Calls Tryz.prog 35 #[.int .u8 z] w fun e w' => e = .returned (.string (MY b)) ∧ Below w.heap.size w w' := by
 obtain ⟨w2,hmk,hrow,hbel⟩:=sH w 32 32 (Nat.le_refl _) (by decide);have hmk' : (Instr.makeSlice 31 (.int .i64 32) (.int .i64 32)).run Tryz.prog w = .ok (.slice (some ⟨w.heap.size,0,none⟩) 32 32) w2:=hmk;have HR:Hid (Byt 5 w2 w.heap.size (oP b 0)):=Hd hrow;have HB:=Hd hbel;have HZ:=Hd hz;obtain ⟨kt,hkt⟩:∃ x,MY b = x:=⟨_,rfl⟩
 have HKT:=Hd hkt;rw [hkt];clear hmk hrow hbel hz hkt;go_enter Tryz.func35,Tryz.ntmps35;go_wp2_with fail
 go_loopw [4] (fun i wr=>∃ n:Nat,n ≤ 32 ∧ i = .int .i64 (n:Int) ∧ Hid (Byt 5 wr w.heap.size (oP b n)) ∧ Hid (Below w.heap.size w wr)) (fun i _=>33 - (intOf i).toNat)
 case atStart=>exact ⟨0,by omega,rfl,HR,HB⟩
 case round =>
  obtain ⟨n,hn,rfl,HY,HBW⟩:=hrel
  by_cases hlt:n < 32
  ·have hli:(n:Int) < 32:=by omega
   have FIN:=Hd (HY.out.set n b);rw [MX b n hlt] at FIN;have FB:Hid (Below w.heap.size w (wr.setCell ⟨w.heap.size,n,none⟩ (vb b))):=Hd (HBW.out.setCell (Nat.le_refl _) _);obtain ⟨y,c9⟩:∃ y,wr.cell? ⟨w.heap.size,n,none⟩ = some y:=⟨_,HY.out.cell n (by rw [uT _ _ hn]; exact hlt)⟩
   have f9:=HY.out.free n;unfold vb at FIN FB;rw [HZ.out] at FIN FB;have HL:=Hd hlt;clear HY HBW hlt hn;go_wp2_with fail;go_roundw
   case rel=>exact ⟨n + 1,HL.out,by go_num,FIN,FB⟩
   case measure=>have:=HL.out; simp [intOf]; omega
  ·obtain rfl:n = 32:=by omega
   have hcv:=HY.out.conv 32 32 (by rw [uT _ _ (Nat.le_refl _)]; exact Nat.le_refl _)
   rw [show (oP b 32).take 32 = List.replicate 32 b from by
    unfold oP;rw [Nat.sub_self,List.replicate_zero,List.append_nil,List.take_of_length_le (by rw [List.length_replicate]; exact Nat.le_refl _)],show Str (List.replicate 32 b) = kt from HKT.out] at hcv
   go_wp2_with fail;go_ret;exact ⟨rfl,HBW.out⟩
theorem JF {R:List Nat} {t:Nat} {w:World} {g:Nat} {T:TypeId} {z:Int} (hg:g ∈ R) (hn:g ≠ t) (h:w.heap[g]? = some (.cells #[.int .u64 z] T)):DrwS R t w (some ⟨g,0,none⟩) [z]:=fun j y hy=>by
 cases j with
 | zero =>
  obtain rfl:z = y:=by simpa using hy
  exact ⟨g,rfl,hg,hn,(aG h).1⟩
 | succ j=>simp at hy
theorem pF:SlL []:=⟨by decide,fun j x h=>by simp at h⟩
theorem zB (L:List (Int × Int × Int)):slE 0 L ++ dV 0 ⟨#[]⟩ ⟨#[]⟩ = slE 0 L:=List.append_nil _
theorem tE (w:World) :
  Calls Tryz.prog 25 #[] w fun e w' => e = .returned (.bool true) ∧ Below w.heap.size w w' := by
 have MD:=Hd (uQ w);have KK:=Hd (fun w=>IZ 1 1 rfl w);have hks:=uU 1;obtain ⟨K,hK⟩:∃ K,MY 1 = K:=⟨_,rfl⟩
 rw [hK] at KK hks;have HKS:=Hd hks;clear hK hks;go_enter Tryz.func25,Tryz.ntmps25;try simp only [List.append_eq,List.cons_append,List.nil_append]
 go_wp2_with fail;refine MD.out.mono ?_;rintro e w1 ⟨t,d,s,rfl,h1⟩;have pn:=zR ⟨t,0,none⟩;have HT1:=Hd h1;clear h1 MD;go_wp2_with fail;refine (KK.out _).mono ?_;rintro e w2 ⟨rfl,b2⟩;have RO:=Hd (sS (n:=0) (L:=[]) (a:=⟨#[]⟩) (b:=⟨#[]⟩) (c:=K) (by rw [zB]; exact HT1.out.below b2) (by decide) (by decide) (fun _=>⟨rfl,rfl⟩) (by decide) HKS.out);clear b2;go_wp2_with fail;refine RO.out.mono ?_;rintro e w3 ⟨rfl,h1,_⟩;obtain ⟨a1,a2,a3,a4,a5,a6,a7⟩:=h1.box (.cells #[.int .u64 9] 35);obtain ⟨bd,hbd⟩:∃ r3,w3.heap.size = r3:=⟨_,rfl⟩
 obtain ⟨x1,hx1⟩:∃ xx,w3.alloc (.cells #[.int .u64 9] 35) = xx:=⟨_,rfl⟩
 rw [hx1] at a1 a2 a3 a5;rw [hbd] at a1 a3 a4 a5 a6 a7;have X1:=Hd (And.intro hx1 hbd);have hRI:=qS (L:=[]) (n:=1) (a:=K) (b:=⟨#[]⟩) (by decide) (by decide) (fun h=>by cases h);have hLL:=pF
 have SE:=Hd (AM (D:=[9]) (k:=0) (ca:=5) (v:=1) (sl:=1) (ep:=1) (z:=9) (ka:=K) (kb:=⟨#[]⟩) (cp:=1) a1 (JF (by simp) a4 a3) (Nat.le_trans (vX hLL 1 K ⟨#[]⟩) (by decide)) hRI (by decide) (by decide) (fun j z hj=>by omega) (by decide) rfl (by decide) (by have:=HKS.out; omega) (by decide) (fun R w h=>by
  have:=uP (ca:=5) (nc:=9) h hLL (gR 1 K ⟨#[]⟩) (by decide) (by decide) (fun x hx=>by cases hx) (by decide) (fun x hx=>by cases hx);exact this.mono fun _ _ g=>⟨g.1,g.2.1,g.2.2.1⟩))
 have hL1:SlL ([] ++ [(5,1,9)]):=pF.snoc (by decide) (by decide);have HL1:=Hd hL1;obtain ⟨S,hS⟩:∃ S,cF 1 1 9 1 K = S:=⟨_,rfl⟩
 have hsz:=(mB (s:=1) (ep:=1) (nn:=9) (k:=1) (by decide) (by decide) (by decide) K).1;rw [hS] at SE hsz;have HSZ:=Hd (show (S.size:Int) = 29 by omega);have HS:=Hd hS;clear h1 RO hx1 hbd a1 a2 a3 a4 a5 a6 a7 hRI hLL hL1 hsz hS;go_upto_region 5 with fail
 go_wp2_with fail;rw [X1.out.1,X1.out.2];refine SE.out.mono ?_;rintro e w4 ⟨rfl,h1,_⟩;have OP:=gC (sl:=1) (ep:=1) (nn:=9) (k:=1) (c:=5) (e:=0) (ky:=K) (i:=0) (x:=(5,1,9)) h1 HL1.out (by decide) (fun h=>by cases h) (by decide) (by decide) (by decide) (.inl ⟨rfl,rfl,rfl⟩) (by have:=HKS.out; omega) rfl rfl (.inr (.inr ⟨rfl,rfl,by decide,rfl,rfl⟩));rw [HS.out] at OP;have OP:=Hd OP;clear h1 SE;go_wp2_with fail;refine OP.out.mono ?_;rintro e w5 ⟨rfl,h1,_⟩;have OF:=Hd (EX (c:=⟨#[]⟩) h1 (by decide));clear h1 OP;go_wp2_with fail
 refine OF.out.mono ?_;rintro e w6 ⟨rfl,h1,_⟩;have FIN:=Hd h1.from;have hsz:=HSZ.out;clear h1 OF;go_wp2_with fail;go_ret;exact ⟨rfl,FIN.out⟩
end Go.Proofs.YthcejfnngkmojaaGreatDoor
