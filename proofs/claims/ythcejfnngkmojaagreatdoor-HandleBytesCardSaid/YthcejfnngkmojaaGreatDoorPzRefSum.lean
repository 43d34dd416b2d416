/-
 RefSum.
-/
import Derived.Test.YthcejfnngkmojaaGreatDoorPzRefSpread
import Derived.Test.YthcejfnngkmojaaGreatDoorPzRefPad
import Derived.Test.YthcejfnngkmojaaGreatDoorPzRefRightQ
import Derived.Test.YthcejfnngkmojaaGreatDoorPzSumFacts
import Derived.StillTailTactics
import Derived.Outline
namespace Go.Proofs.YthcejfnngkmojaaGreatDoor
open Go.RowKit
set_option maxRecDepth 20000
set_option maxHeartbeats 12800000
set_option linter.unusedVariables false
set_option linter.unusedSimpArgs false
structure Tri (w w0:World) (gh gk:Nat) (L:List Nat):Prop where
 h:Arr 43 w gh L
 k:Arr 43 w gk S.KS
 below:Below w0.heap.size w0 w
 h0:w0.heap.size≤gh
 k0:w0.heap.size≤gk
 ne:gk≠gh
theorem Tri.then {w w' w0:World} {gh gk:Nat} {L:List Nat} (t:Tri w w0 gh gk L) (b:Below w.heap.size w w'):Tri w' w0 gh gk L :=
 ⟨t.h.below b,t.k.below b,chain t.below b,t.h0,t.k0,t.ne⟩
theorem Tri.drew {w w0:World} {gh gk:Nat} {L:List Nat} (t:Tri w w0 gh gk L):Tri w.drew w0 gh gk L:=⟨t.h,t.k,t.below.drew,t.h0,t.k0,t.ne⟩
theorem Tri.set {w w0:World} {gh gk:Nat} {L:List Nat} (t:Tri w w0 gh gk L) (j v:Nat):Tri (w.setCell ⟨gh,j,none⟩ (.int .u32 (v:Int))) w0 gh gk (L.set j v) :=
 ⟨t.h.set j v,t.k.other _ _ t.ne,t.below.setCell t.h0 _,t.h0,t.k0,t.ne⟩
theorem AY (s:ByteArray) (hz:s.size≤1000000):(S.padded s.data.toList).length % 64=0∧(S.padded s.data.toList).length≤1000128:=by
 have h:=uT s.data.toList _ rfl
 have hl:(S.padded s.data.toList).length=s.data.toList.length / 64 * 64 + (S.tail (s.data.toList.drop (s.data.toList.length / 64 * 64)) s.data.toList.length).length:=by
  unfold S.padded;rw [List.length_append,List.length_take];omega
 have hs:s.data.toList.length=s.size:=by simp
 omega
def Vs (gh:Nat) (w:World) (v:Value) (l:List Nat):Prop:=∃ gv cap,v=.slice (some ⟨gv,0,none⟩) 8 cap∧gh < gv∧gv < w.heap.size∧∀ j (h:j < l.length),w.cell? ⟨gv,j,none⟩=some (.int .u32 ((l[j]:Nat):Int))
def WsR (w:World) (gw:Nat) (W:List Nat):Prop:=gw < w.heap.size∧∀ j (h:j < W.length),w.cell? ⟨gw,j,none⟩=some (.int .u32 ((W[j]:Nat):Int))
theorem WsR.below {w w' : World} {gw:Nat} {W:List Nat} (h:WsR w gw W) (b:Below w.heap.size w w'):WsR w' gw W :=
 ⟨Nat.lt_of_lt_of_le h.1 b.size,fun j hj=>(b.cell (p:=⟨gw,j,none⟩) h.1).trans (h.2 j hj)⟩
theorem be4 (x:Nat):M.be 4 x=[UInt8.ofNat (x / 256 ^ 3 % 256),UInt8.ofNat (x / 256 ^ 2 % 256),UInt8.ofNat (x / 256 ^ 1 % 256),UInt8.ofNat (x / 256 ^ 0 % 256)]:=by
 apply List.ext_getElem?;intro i
 rcases (by omega:i=0∨i=1∨i=2∨i=3∨4≤i) with rfl | rfl | rfl | rfl | h
 ·rw [M.be_get 4 x 0 (by decide)]; rfl
 ·rw [M.be_get 4 x 1 (by decide)]; rfl
 ·rw [M.be_get 4 x 2 (by decide)]; rfl
 ·rw [M.be_get 4 x 3 (by decide)]; rfl
 ·rw [List.getElem?_eq_none (by rw [M.be_length]; exact h),List.getElem?_eq_none (by simpa using h)]
theorem CI (w:World) (a b c d:UInt8) (T:TypeId):∀ j u,[vby a,vby b,vby c,vby d][j]?=some u→(w.alloc (.cells #[vby a,vby b,vby c,vby d] T)).cell? ((⟨w.heap.size,0,none⟩:Addr).add j)=some u:=by
 intro j u hj;rw [bU,World.cell?_alloc_new]
 match j,hj with
 | 0,hj=>simpa using hj
 | 1,hj=>simpa using hj
 | 2,hj=>simpa using hj
 | 3,hj=>simpa using hj
def GH (F:List Nat) (k:Nat):List UInt8:=((F.take k).map (M.be 4)).flatten
theorem OS (F:List Nat) (k x:Nat) (h:F[k]?=some x):GH F (k + 1)=GH F k ++ M.be 4 x:=by
 unfold GH;rw [List.take_add_one,h];simp
theorem aC1 (gh:Nat) (w:World) (l:List Nat) (h:gh < w.heap.size):Vs gh (w.alloc (.cells (U l) 43)) (.slice (some ⟨w.heap.size,0,none⟩) 8 8) l :=
 ⟨w.heap.size,8,rfl,h,by simp,fun j hj=>(Arr.new w l).cell j hj⟩
theorem OH (s t:S.St):S.plus s t=S.plus t s:=by
 unfold S.plus S.add;simp only [Nat.add_comm]
theorem zV (s:ByteArray) (hz:s.size≤1000000) (w:World) (P:List UInt8) (pb:ByteArray) (hP:Hid (S.padded s.data.toList=P)) (hpb:Hid (Str P=pb)) (L:List UInt8) (HL:Hid (S.sum s.data.toList=L)) :
  Calls Tryz.prog 132 #[.string s] w fun e w' => e=.returned (.string (Str L))∧Below w.heap.size w w' := by
 obtain ⟨i0,hi,hz0,hz1,hz2⟩:=info_parts BZ;go_enter Tryz.func132,Tryz.ntmps132;try simp only [List.append_eq,List.cons_append,List.nil_append]
 go_wp2_with fail;refine (wR _).mono ?_;rintro e w1 ⟨gh,rfl,ah,h0,b1⟩;go_wp2_with fail;refine (wL _).mono ?_;rintro e w2 ⟨gk,rfl,ak,k0,b2⟩;have hne:gk≠gh:=by have:=ah.lt; omega
 have T2:Tri w2 w gh gk S.HS.list:=⟨ah.below b2,ak,chain b1 b2,h0,Nat.le_trans b1.size k0,hne⟩
 clear ah ak b1 b2 h0 k0 hne;go_wp2_with fail;refine (uC _ _ (by omega)).mono ?_;rw [hP.out,hpb.out];rintro e w3 ⟨rfl,b3⟩;have T3:=Hd (T2.then b3);clear T2 b3
 obtain ⟨hm,hmax⟩:pb.size % 64=0∧pb.size≤1000128:=by
  rw [← hpb.out,aK,← hP.out];exact AY s hz
 go_wp2_with fail;obtain ⟨N,hN⟩:∃ N,pb.size=64 * N:=⟨pb.size / 64,by omega⟩
 have hPd:Hid (pb.data.toList=P):=Hd (by rw [← hpb.out,aP]);have hPN:Hid (P.length / 64=N):=Hd (by rw [← hPd.out]; simp; omega);have hT0:Hid (Tri w3 w gh gk (SB P 0)):=T3;clear T3 hm;have hszi:(pb.size:Int)=64 * (N:Int):=by omega
 have hN1:N≤15627:=by omega
 clear hmax hN
 go_loopw [6] (fun i wr=>∃ n:Nat,n≤N∧i=.int .i64 (64 * (n:Int))∧Hid (Tri wr w gh gk (SB P n))) (fun i _=>64 * N + 1 - (intOf i).toNat)
 case atStart=>exact ⟨0,by omega,rfl,hT0⟩
 clear hT0
 case round =>
  obtain ⟨n,hn,rfl,HT⟩:=hrel
  by_cases hlt:n < N
  ·have hli:64 * (n:Int) < (pb.size:Int):=by omega
   have e1:(64 * (n:Int)).toNat=64 * n:=by omega
   have e2:(64 * (n:Int) + 64).toNat=64 * n + 64:=by omega
   have hblk:Hid ((pb.extract (64 * n) (64 * n + 64)).data.toList=(P.drop (64 * n)).take 64):=Hd (by
    rw [ByteArray.data_extract,Array.toList_extract,List.extract_eq_take_drop,hPd.out]
    congr 1
    omega)
   have hbs:Hid ((pb.extract (64 * n) (64 * n + 64)).size=64):=Hd (by rw [ByteArray.size_extract]; omega);go_wp2_with fail;generalize pb.extract (64 * n) (64 * n + 64)=blk at *;refine (uB blk _ hbs.out).mono ?_;rw [hblk.out];have hWl:=S.wds_length ((P.drop (64 * n)).take 64) 64;have hstepN:Hid (SB P (n + 1)=(S.plus (S.steps S.KS (S.wds ((P.drop (64 * n)).take 64) 64) (S.blocks P n) 64) (S.blocks P n)).list):=Hd rfl;generalize S.wds ((P.drop (64 * n)).take 64) 64=W at *;rintro e w4 hsp;unfold SPr at hsp;obtain ⟨gw,capw,rfl,hgw0,hgw,hcw,b4⟩:=hsp
   have HT4:=Hd (HT.out.then b4);have HW4:Hid (WsR w4 gw W):=Hd ⟨hgw,hcw⟩;clear HT b4 hcw hgw hgw0 hbs hblk e1 e2;have hL8:(SB P n).length=8:=rfl;have hL0:Hid (SB P n=(S.blocks P n).list):=Hd rfl;have hOK:=Hd (pY P n);generalize S.blocks P n=st at *;generalize SB P n=L0 at *
   go_wp2_with (at_builtin; refine wpList_append_own _ rfl _ _ 230 rfl w4.heap.size 43 i0 (.int .u32 0) 1 4 Tryz.underlying230 hi hz0 hz1 hz2 rfl (by decide) (.slice none 0 0) 0 [] rfl (World.ownsRow_nil _ _ _ _) ⟨gh,0,none⟩ 8 8 (L0.map vw) rfl (by rw [List.length_map,hL8]) ?c1 ?c2 ?c3 ?c4 ?c5 ?_)
   case c1 =>
    intro j u hj;rw [List.getElem?_map] at hj
    cases hq:L0[j]? with
    | none=>rw [hq] at hj; cases hj
    | some x =>
     rw [hq] at hj;obtain ⟨hj', rfl⟩:=List.getElem?_eq_some_iff.1 hq;rw [bU,Nat.zero_add,HT4.out.h.cell j hj'];exact hj
   case c2 =>
    intro u hu;obtain ⟨x,_,rfl⟩:=List.mem_map.1 hu
    rfl
   case c3=>unfold maxLen; omega
   case c4=>omega
   case c5=>exact Nat.le_refl _
   intro v' w5 hown' hgrow _;have hgh4:=HT4.out.h.lt;have b5:Below w4.heap.size w4 w5:=Br.grown hgrow (Nat.le_refl _) (fun k h=>by cases h);have HT5:=Hd (HT4.out.then b5);have HW5:=Hd (HW4.out.below b5)
   have HV5:Hid (Vs gh w5 v' L0):=Hd (by
    obtain ⟨gv,cap,hv,hc⟩:=pM hown' (by omega) hL8;have hlt2:=hown'.lt gv (by rw [hv]; rfl);exact ⟨gv,cap,hv,Nat.lt_of_lt_of_le hgh4 hlt2.1,hlt2.2,hc⟩)
   clear hown' hgrow b5 HT4 HW4 hgh4;obtain ⟨gv,capv,rfl,-,-,-⟩:=HV5.out;go_wp2_with fail
   go_loopw [8,9] (fun v i wr2=>∃ m:Nat,m≤64∧i=.int .i64 (m:Int)∧Hid (Vs gh wr2 v (S.steps S.KS W st m).list)∧Hid (Tri wr2 w gh gk L0)∧Hid (WsR wr2 gw W)) (fun _ i _=>65 - (intOf i).toNat)
   case atStart=>exact ⟨0,by omega,rfl,Hd (by have:=HV5.out; rw [hL0.out] at this; exact this),HT5,HW5⟩
   clear HV5 HT5 HW5
   case round =>
    obtain ⟨m,hm,rfl,HV,HT,HW⟩:=hrel
    by_cases hlt2:m < 64
    ·have hli2:(m:Int) < 64:=by omega
     have hok:=S.steps_ok S.KS W st m hOK.out;have NXT:S.steps S.KS W st (m + 1)=S.step (S.steps S.KS W st m) (S.KS.getD m 0) (W.getD m 0):=rfl;obtain ⟨gv,cap,rfl,hghv,hgv,hcv⟩:=HV.out;generalize S.steps S.KS W st m=q at *;obtain ⟨ta,tb,tc,td,te,tf,tg,th⟩:=q;obtain ⟨oa,ob,oc,od,oe,of', og,oh⟩:=hok;simp only at oa ob oc od oe of' og oh;have c0:wr.cell? ⟨gv,0,none⟩=some (.int .u32 ((ta:Nat):Int)):=hcv 0 (by simp [S.St.list]);have c1:wr.cell? ⟨gv,1,none⟩=some (.int .u32 ((tb:Nat):Int)):=hcv 1 (by simp [S.St.list])
     have c2:wr.cell? ⟨gv,2,none⟩=some (.int .u32 ((tc:Nat):Int)):=hcv 2 (by simp [S.St.list]);have c3:wr.cell? ⟨gv,3,none⟩=some (.int .u32 ((td:Nat):Int)):=hcv 3 (by simp [S.St.list]);have c4:wr.cell? ⟨gv,4,none⟩=some (.int .u32 ((te:Nat):Int)):=hcv 4 (by simp [S.St.list]);have c5:wr.cell? ⟨gv,5,none⟩=some (.int .u32 ((tf:Nat):Int)):=hcv 5 (by simp [S.St.list]);have c6:wr.cell? ⟨gv,6,none⟩=some (.int .u32 ((tg:Nat):Int)):=hcv 6 (by simp [S.St.list])
     have c7:wr.cell? ⟨gv,7,none⟩=some (.int .u32 ((th:Nat):Int)):=hcv 7 (by simp [S.St.list]);have ck:=HT.out.k.cell m (by rw [show S.KS.length=64 from rfl]; exact hlt2);have cw:=HW.out.2 m (by omega);have ek:S.KS.getD m 0=S.KS[m]'(by rw [show S.KS.length=64 from rfl]; exact hlt2):=by rw [List.getD_eq_getElem?_getD,List.getElem?_eq_getElem (by rw [show S.KS.length=64 from rfl]; exact hlt2)]; rfl
     have ew:W.getD m 0=W[m]'(by omega):=by rw [List.getD_eq_getElem?_getD,List.getElem?_eq_getElem (by omega)]; rfl
     rw [ek,ew] at NXT;generalize S.KS[m]'(by rw [show S.KS.length=64 from rfl]; exact hlt2)=kv at *;generalize W[m]'(by omega)=wv at *;clear ek ew hlt2 hcv HV;have NX:=Hd NXT;clear NXT;have hkl:(S.KS.length)=64:=rfl;clear hkl;go_wp2_with fail
     go_quiet ((go_at_call 160; exact lI _ _ _ _ oe (by omega)))
     obtain ⟨wq,hwq⟩:∃ wq,wr.drewN nq=wq:=⟨_,rfl⟩
     rw [hwq]
     replace c0:wq.cell? ⟨gv,0,none⟩=some (.int .u32 ((ta:Nat):Int)):=by rw [← hwq]; exact c0
     replace c1:wq.cell? ⟨gv,1,none⟩=some (.int .u32 ((tb:Nat):Int)):=by rw [← hwq]; exact c1
     replace c2:wq.cell? ⟨gv,2,none⟩=some (.int .u32 ((tc:Nat):Int)):=by rw [← hwq]; exact c2
     replace c3:wq.cell? ⟨gv,3,none⟩=some (.int .u32 ((td:Nat):Int)):=by rw [← hwq]; exact c3
     replace c4:wq.cell? ⟨gv,4,none⟩=some (.int .u32 ((te:Nat):Int)):=by rw [← hwq]; exact c4
     replace c5:wq.cell? ⟨gv,5,none⟩=some (.int .u32 ((tf:Nat):Int)):=by rw [← hwq]; exact c5
     replace c6:wq.cell? ⟨gv,6,none⟩=some (.int .u32 ((tg:Nat):Int)):=by rw [← hwq]; exact c6
     replace c7:wq.cell? ⟨gv,7,none⟩=some (.int .u32 ((th:Nat):Int)):=by rw [← hwq]; exact c7
     replace HT:Hid (Tri wq w gh gk L0):=Hd (by rw [← hwq]; exact HT.out.then (aD Br _))
     replace HW:Hid (WsR wq gw W):=Hd (by rw [← hwq]; exact HW.out.below (aD Br _))
     clear hwq ck cw;have hT:=JY ⟨ta,tb,tc,td,te,tf,tg,th⟩ kv wv oe of' og;have hU:=JW ⟨ta,tb,tc,td,te,tf,tg,th⟩ oa ob oc;have hstep:S.step ⟨ta,tb,tc,td,te,tf,tg,th⟩ kv wv=⟨S.add (S.t1 ⟨ta,tb,tc,td,te,tf,tg,th⟩ kv wv) (S.t2 ⟨ta,tb,tc,td,te,tf,tg,th⟩),ta,tb,tc,S.add td (S.t1 ⟨ta,tb,tc,td,te,tf,tg,th⟩ kv wv),te,tf,tg⟩:=rfl;generalize S.t1 ⟨ta,tb,tc,td,te,tf,tg,th⟩ kv wv=T1 at *;generalize S.t2 ⟨ta,tb,tc,td,te,tf,tg,th⟩=T2 at *;simp only at hT hU
     have hT' : ((((th:Int) + bits .xor .u32 (bits .xor .u32 (S.rot te 6:Int) (S.rot te 11:Int)) (S.rot te 25:Int) + bits .xor .u32 (bits .and .u32 (te:Int) (tf:Int)) (bits .and .u32 (bits .xor .u32 (if IntKind.u32.signed=true then -1 else IntKind.u32.max) (te:Int)) (tg:Int)) + (kv:Int)) % 4294967296 + (wv:Int)) % 4294967296)=(T1:Int):=by
      rw [show (if IntKind.u32.signed=true then (-1:Int) else IntKind.u32.max)=IntKind.u32.max from rfl,← hT];omega
     rw [hT'];clear hT';have HU:=Hd hU;have NX2:=Hd (NX.out.trans hstep);have g1:=cO T1 T2;have g2:=cO td T1;clear hT hU hstep NX;generalize S.add T1 T2=q1 at *;generalize S.add td T1=q2 at *;go_wp2_with fail
     go_quiet ((go_at_call 160; exact lI _ _ _ _ oa (by omega)))
     rw [HU.out];obtain ⟨wz,hwz⟩:∃ wz,wq.drewN nq=wz:=⟨_,rfl⟩
     rw [hwz]
     replace c1:wz.cell? ⟨gv,1,none⟩=some (.int .u32 ((tb:Nat):Int)):=by rw [← hwz]; exact c1
     replace c2:wz.cell? ⟨gv,2,none⟩=some (.int .u32 ((tc:Nat):Int)):=by rw [← hwz]; exact c2
     replace c3:wz.cell? ⟨gv,3,none⟩=some (.int .u32 ((td:Nat):Int)):=by rw [← hwz]; exact c3
     replace c5:wz.cell? ⟨gv,5,none⟩=some (.int .u32 ((tf:Nat):Int)):=by rw [← hwz]; exact c5
     replace c6:wz.cell? ⟨gv,6,none⟩=some (.int .u32 ((tg:Nat):Int)):=by rw [← hwz]; exact c6
     replace HT:Hid (Tri wz w gh gk L0):=Hd (by rw [← hwz]; exact HT.out.then (aD Br _))
     replace HW:Hid (WsR wz gw W):=Hd (by rw [← hwz]; exact HW.out.below (aD Br _))
     obtain ⟨-,g1w⟩:=g1;obtain ⟨-,g2w⟩:=g2;clear hwz HU c0 c4 c7;have hb0:Below wz.heap.size wz (wz.drew.alloc (.cells (U [q1,ta,tb,tc,q2,te,tf,tg]) 43)):=(Br.drew).alloc (Nat.le_refl _) _;have FT:Hid (Tri (wz.drew.alloc (.cells (U [q1,ta,tb,tc,q2,te,tf,tg]) 43)) w gh gk L0):=Hd (HT.out.then hb0);have FW:Hid (WsR (wz.drew.alloc (.cells (U [q1,ta,tb,tc,q2,te,tf,tg]) 43)) gw W):=Hd (HW.out.below hb0)
     have FV:Hid (Vs gh (wz.drew.alloc (.cells (U [q1,ta,tb,tc,q2,te,tf,tg]) 43)) (.slice (some ⟨wz.heap.size,0,none⟩) 8 8) (S.steps S.KS W st (m + 1)).list):=Hd (by
      rw [NX2.out];exact aC1 gh wz.drew [q1,ta,tb,tc,q2,te,tf,tg] HT.out.h.lt)
     clear hb0 HT HW NX2 oa ob oc od oe of' og oh;go_wp2_with fail;refine wp_region_still_tail 22 (by kernel_rfl) (by kernel_rfl) ?_;simp only [List.take_succ_cons,List.take_zero,List.drop_succ_cons,List.drop_zero]
     repeat still_step
     refine wpStill_nil ?_;change wpList _ _ _ _ _ wz.drew;go_wp2_with fail;go_roundw
     case rel=>exact ⟨m + 1,by omega,by go_num,FV,FT,FW⟩
     case measure=>simp [intOf]; omega
    ·obtain rfl:m=64:=by omega
     have hli2:¬ (((64:Nat):Int) < 64):=by omega
     clear hlt2 hm;obtain ⟨gv,cap,rfl,hghv,hgv,hcv⟩:=HV.out;have hfin:Hid (SB P (n + 1)=(S.plus (S.steps S.KS W st 64) st).list):=hstepN;generalize S.steps S.KS W st 64=fin at *;have HV2:Hid (gv < wr.heap.size∧∀ j (h:j < fin.list.length),wr.cell? ⟨gv,j,none⟩=some (.int .u32 ((fin.list[j]:Nat):Int))):=Hd ⟨hgv,hcv⟩;clear hcv HV HW;go_wp2_with fail;have hHT:Hid (Tri wr w gh gk (fI L0 fin.list 0)):=HT
     go_loopw [14] (fun i wr2=>∃ m:Nat,m≤8∧i=.int .i64 (m:Int)∧Hid (Tri wr2 w gh gk (fI L0 fin.list m))∧Hid (gv < wr2.heap.size∧∀ j (h:j < fin.list.length),wr2.cell? ⟨gv,j,none⟩=some (.int .u32 ((fin.list[j]:Nat):Int)))) (fun i _=>9 - (intOf i).toNat)
     case atStart=>exact ⟨0,by omega,rfl,hHT,HV2⟩
     clear HV2 hHT HT
     case round =>
      obtain ⟨m,hm,rfl,HT,HV⟩:=hrel
      by_cases hlt3:m < 8
      ·have hli3:(m:Int) < 8:=by omega
       have hl8:m < (fI L0 fin.list m).length:=by rw [oI,hL8]; exact hlt3
       have hls:m < fin.list.length:=hlt3;have ch:=HT.out.h.cell m hl8;have fh:=HT.out.h.free m;have cv:=HV.out.2 m hls;have e8:(fI L0 fin.list m)[m]=L0.getD m 0:=sQ _ _ m hl8;have e3:fin.list[m]=fin.list.getD m 0:=by rw [List.getD_eq_getElem?_getD,List.getElem?_eq_getElem hls]; rfl
       rw [e8] at ch;rw [e3] at cv;have ST:Hid (fI L0 fin.list (m + 1)=(fI L0 fin.list m).set m (S.add (L0.getD m 0) (fin.list.getD m 0))):=Hd rfl;have A:=(cO (L0.getD m 0) (fin.list.getD m 0)).2;have FT:=Hd (HT.out.set m (S.add (L0.getD m 0) (fin.list.getD m 0)));rw [← ST.out] at FT
       have FV:Hid (gv < (wr.setCell ⟨gh,m,none⟩ (.int .u32 ((S.add (L0.getD m 0) (fin.list.getD m 0):Nat):Int))).heap.size∧∀ j (h:j < fin.list.length),(wr.setCell ⟨gh,m,none⟩ (.int .u32 ((S.add (L0.getD m 0) (fin.list.getD m 0):Nat):Int))).cell? ⟨gv,j,none⟩=some (.int .u32 ((fin.list[j]:Nat):Int))):=Hd ⟨by simpa [World.setCell] using HV.out.1,fun j hj=>by
        rw [World.cell?_setCell_other _ _ _ _ (by intro he; injection he with he _; omega)];exact HV.out.2 j hj⟩
       generalize S.add (L0.getD m 0) (fin.list.getD m 0)=r at *;generalize L0.getD m 0=x at *;generalize fin.list.getD m 0=y at *;clear e8 e3 hl8 hls HT HV ST;go_wp2_with fail;refine wp_region_still_tail 12 (by kernel_rfl) (by kernel_rfl) ?_;simp only [List.take_succ_cons,List.take_zero,List.drop_succ_cons,List.drop_zero]
       repeat still_step
       refine wpStill_nil ?_;change wpList _ _ _ _ _ wr.drew;go_wp2_with fail;go_roundw
       case rel=>exact ⟨m + 1,by omega,by go_num,Hd FT.out.drew,Hd FV.out⟩
       case measure=>simp [intOf]; omega
      ·obtain rfl:m=8:=by omega
       have hli3:¬ (((8:Nat):Int) < 8):=by omega
       have FIN:Hid (Tri wr w gh gk (SB P (n + 1))):=Hd (by
        have h:=HT.out;rw [hL0.out,KR,OH,← hfin.out] at h;exact h)
       clear HT HV;go_wp2_with fail;go_roundw
       case rel=>exact ⟨n + 1,by omega,by go_num,FIN⟩
       case measure=>simp [intOf]; omega
  ·obtain rfl:n=N:=by omega
   have hli:¬ (64 * (n:Int) < (pb.size:Int)):=by omega
   clear hlt;obtain ⟨j0,hj,hjz0,hjz1,hjz2⟩:=info_parts QD
   have hFL:Hid (GH (SB P n) 8=L):=Hd (by
    rw [← HL.out];unfold GH S.sum S.digest;rw [hP.out,hPN.out]
    rfl)
   have hF8:(SB P n).length=8:=rfl;have hFlt:=Hd (aCA P n);generalize SB P n=F at *;go_wp2_with fail;generalize hW0:wr=W0 at *;clear hW0
   go_loopw [15,16] (fun v i wr2=>∃ k:Nat,k≤8∧i=.int .i64 (k:Int)∧Hid (wr2.ownsRow W0.heap.size 5 1 v (4 * k) ((GH F k).map vby))∧Hid (Below W0.heap.size W0 wr2)) (fun _ i _=>9 - (intOf i).toNat)
   case atStart=>exact ⟨0,by omega,rfl,Hd (World.ownsRow_nil _ _ _ _),Hd Br⟩
   case round =>
    obtain ⟨k,hk,rfl,HO,HB⟩:=hrel
    by_cases hlt4:k < 8
    ·have hli4:(k:Int) < 8:=by omega
     have hkF:k < F.length:=by omega
     have cx:=(HT.out.h.below HB.out).cell k hkF;have hx:=hFlt.out F[k] (List.getElem_mem hkF);have ST:=Hd (OS F k F[k] (List.getElem?_eq_getElem hkF));generalize F[k]=x at *;rw [be4] at ST;have y0:IntKind.u8.wrap ((x:Int) / 16777216)=(((UInt8.ofNat (x / 256 ^ 3 % 256)).toNat:Nat):Int):=by rw [IntKind.wrap_u8,cT _ (by omega)]; omega
     have y1:IntKind.u8.wrap ((x:Int) / 65536)=(((UInt8.ofNat (x / 256 ^ 2 % 256)).toNat:Nat):Int):=by rw [IntKind.wrap_u8,cT _ (by omega)]; omega
     have y2:IntKind.u8.wrap ((x:Int) / 256)=(((UInt8.ofNat (x / 256 ^ 1 % 256)).toNat:Nat):Int):=by rw [IntKind.wrap_u8,cT _ (by omega)]; omega
     have y3:IntKind.u8.wrap (x:Int)=(((UInt8.ofNat (x / 256 ^ 0 % 256)).toNat:Nat):Int):=by rw [IntKind.wrap_u8,cT _ (by omega)]; omega
     generalize UInt8.ofNat (x / 256 ^ 3 % 256)=d0 at *;generalize UInt8.ofNat (x / 256 ^ 2 % 256)=d1 at *;generalize UInt8.ofNat (x / 256 ^ 1 % 256)=d2 at *;generalize UInt8.ofNat (x / 256 ^ 0 % 256)=d3 at *;clear hkF hx;go_wp2_with fail
     go_region_law (refine gW rfl (.tmp 151) (.tmp 175) 31 rfl W0.heap.size 5 j0 (.int .u8 0) 1 1 Tryz.underlying31 hj hjz0 hjz1 hjz2 rfl (by decide) _ (4 * k) _ rfl (HO.out.alloc _) ⟨wr.heap.size,0,none⟩ 4 4 [vby d0,vby d1,vby d2,vby d3] rfl rfl (CI wr d0 d1 d2 d3 _) (by intro u hu; simp at hu; rcases hu with rfl | rfl | rfl | rfl <;> rfl) (by unfold maxLen; omega) (by omega) (by have:=HB.out.size; simp; omega) ?_; intro v' w' hown' hgrow _)
     all_goals
      have HB2:Hid (Below W0.heap.size W0 w'):=Hd ((((HB.out.alloc HB.out.size _).drew)).grown hgrow (by have:=HB.out.size; simp; omega) (fun g hg=>(HO.out.lt g hg).1));have HO2:Hid (w'.ownsRow W0.heap.size 5 1 v' (4 * (k + 1)) ((GH F (k + 1)).map vby)):=Hd (by rw [ST.out,List.map_append]; exact hown');clear hown' hgrow;go_wp2_with fail;go_roundw
      case rel=>exact ⟨k + 1,by omega,by go_num,HO2,HB2⟩
      case measure=>simp [intOf]; omega
    ·obtain rfl:k=8:=by omega
     have hli4:¬ (((8:Nat):Int) < 8):=by omega
     have hcv:=tT L (by
      have ho:=HO.out;rw [hFL.out] at ho;exact ho)
     have hfb:=Hd (chain HT.out.below HB.out);clear HO HB HT;go_wp2_with fail;go_ret;exact ⟨rfl,hfb.out⟩
theorem jT (s:ByteArray) (w:World) (hz:s.size≤1000000) :
  Calls Tryz.prog 132 #[.string s] w fun e w' => e=.returned (.string (pG s))∧Below w.heap.size w w' :=
 zV s hz w _ _ (Hd rfl) (Hd rfl) _ (Hd rfl)
end Go.Proofs.YthcejfnngkmojaaGreatDoor
