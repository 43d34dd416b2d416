/-
 SlotApartLaw.
-/
import Derived.Test.YtblbiihpfjjhhaaGreatDoorS20
import Derived.Test.YtblbiihpfjjhhaaGreatDoorS02
import Derived.StillTailTactics
namespace Go.Proofs.YtblbiihpfjjhhaaGreatDoor
open Go Go.RowKit
set_option maxRecDepth 20000
set_option maxHeartbeats 12800000
set_option linter.unusedVariables false
set_option linter.unusedSimpArgs false
def MpI (w:World) (m:Nat) (f:Int→Int):Prop:=∃ L,Map8 w m L∧∀ k,(lM L k).getD (.int .i64 0)=.int .i64 (f k)
theorem BZ (w:World):(zeroValue 3).run Tryz.prog w=.ok (.int .i64 0) w:=by kernel_rfl
theorem MpI.kept {w w' : World} {m:Nat} {f:Int→Int} (h:MpI w m f) (e:w'.heap[m]?=w.heap[m]?):MpI w' m f:=by
 obtain ⟨L,h1,h2⟩:=h;exact ⟨L,h1.kept e,h2⟩
theorem MpI.look {w:World} {m:Nat} {f:Int→Int} (h:MpI w m f) (k:Int):(Instr.lookup 26 (.map (some m)) (.int .u8 k) false).run Tryz.prog w=.ok (.int .i64 (f k)) w:=by
 obtain ⟨L,h1,h2⟩:=h;have:=PQ (P:=Tryz.prog) Tryz.underlying26 Tryz.underlying5 h1 k (.int .i64 0) (BZ w) false;rw [h2] at this;exact this
theorem MpI.put {w:World} {m:Nat} {f:Int→Int} (h:MpI w m f) (k v:Int):∃ w', (Instr.mapUpdate 26 (.map (some m)) (.int .u8 k) (.int .i64 v)).run Tryz.prog w=.ok () w'∧MpI w' m (upd f k v)∧Frm (fun x=>x=m) w w' := by
 obtain ⟨L,h1,h2⟩:=h;obtain ⟨w', g1,g2,_,_,g5⟩:=IP (P:=Tryz.prog) Tryz.underlying26 Tryz.underlying5 h1 k (.int .i64 v);refine ⟨w', g1,⟨_,g2,fun x=>?_⟩,g5⟩;rw [LZ];unfold upd
 by_cases e:x=k
 ·rw [if_pos e,if_pos e]; rfl
 ·rw [if_neg e,if_neg e,h2]
theorem MpI.new (w:World):MpI (w.alloc (.map #[] 0)) w.heap.size (fun _=>0):=⟨[],⟨#[],0,heap_alloc_new w _,rfl⟩,fun k=>rfl⟩
def iI (lv cp:Int→Int) (gone:Int) (K:Nat):Int→Int:=fun x=>if x < (K:Int)∧0 < lv x∧cp x=gone then 0 else lv x
theorem LF {L:List (Int × Int × Int)} {lv cp:Int→Int} (h:ApI L lv cp) (gone:Int):iI lv cp gone 0=lv:=by
 funext x
 unfold iI
 by_cases e:x < ((0:Nat):Int)∧0 < lv x∧cp x=gone
 ·obtain ⟨j,y,h1,h2,h3⟩:=h.has x e.2.1
  have:=(h.live j y h1 h2).1;rw [h3] at this;omega
 ·rw [if_neg e]
theorem vY {L:List (Int × Int × Int)} {lv cp:Int→Int} (h:ApI L lv cp) (gone:Int):iI lv cp gone 256=fun k=>if 0 < lv k∧cp k=gone then 0 else lv k:=by
 funext x
 unfold iI
 by_cases e:0 < lv x∧cp x=gone
 ·obtain ⟨j,y,h1,h2,h3⟩:=h.has x e.1
  have:=(h.live j y h1 h2).1;rw [h3] at this;rw [if_pos e,if_pos ⟨by omega,e⟩]
 ·rw [if_neg e,if_neg fun q=>e q.2]
theorem AY (lv cp:Int→Int) (gone:Int) (K:Nat):iI lv cp gone K (K:Int)=lv (K:Int):=by unfold iI; rw [if_neg (by omega)]
theorem vX {lv cp:Int→Int} {gone:Int} {K:Nat} (h:0 < lv (K:Int)∧cp (K:Int)=gone):upd (iI lv cp gone K) (K:Int) 0=iI lv cp gone (K + 1):=by
 funext x
 unfold upd iI
 by_cases e:x=(K:Int)
 ·rw [if_pos e,if_pos ⟨by omega,by rw [e]; exact h⟩]
 ·rw [if_neg e]
  by_cases e2:0 < lv x∧cp x=gone
  ·by_cases e3:x < (K:Int)
   ·rw [if_pos ⟨e3,e2⟩,if_pos ⟨by omega,e2⟩]
   ·rw [if_neg fun q=>e3 q.1,if_neg fun q=>e3 (by have:=q.1; omega)]
  ·rw [if_neg fun q=>e2 q.2,if_neg fun q=>e2 q.2]
theorem AX {lv cp:Int→Int} {gone:Int} {K:Nat} (h:¬ (0 < lv (K:Int)∧cp (K:Int)=gone)):iI lv cp gone K=iI lv cp gone (K + 1):=by
 funext x
 unfold iI
 by_cases e:x=(K:Int)
 ·rw [if_neg (by omega),if_neg (fun q=>h (by rw [← e]; exact q.2))]
 ·by_cases e2:0 < lv x∧cp x=gone
  ·by_cases e3:x < (K:Int)
   ·rw [if_pos ⟨e3,e2⟩,if_pos ⟨by omega,e2⟩]
   ·rw [if_neg fun q=>e3 q.1,if_neg fun q=>e3 (by have:=q.1; omega)]
  ·rw [if_neg fun q=>e2 q.2,if_neg fun q=>e2 q.2]
theorem MY (L:List (Int × Int × Int)) (go k:Int):kM L go k≤L.length:=List.length_filter_le ..
theorem slotApart_law (a:Option Addr) (len cap:Nat) (zs:List Int) (a2:Option Addr) (len2 cap2:Nat) (zs2:List Int) (w:World) (hk:IsInts .u8 w a len cap zs) (hk2:IsInts .u8 w a2 len2 cap2 zs2) :
  Calls Tryz.prog 3 #[.slice a len cap,.slice a2 len2 cap2] w fun e w' => e=.returned (.bool true)∧Below w.heap.size w w' := by
 have CELLS:=Hd (uE hk);have hlenL:=IQ hk;have CELLS2:=Hd (uE hk2);have hlenL2:=IQ hk2;clear hk hk2;go_enter Tryz.func3,Tryz.ntmps3;try simp only [List.append_eq,List.cons_append,List.nil_append]
 go_wp2_with fail;refine (qN _).mono ?_;rintro e w1 ⟨rfl,b1⟩;have B1:=Hd b1;clear b1;go_wp2_with fail;refine (rX _).mono ?_;rintro e w2 ⟨t,d,s,rfl,h1⟩;have sn:=vS ⟨t,0,none⟩;have hm1:(Instr.makeMap 26 none).run Tryz.prog w2=.ok (.map (some w2.heap.size)) (w2.alloc (.map #[] 0)):=by simp [Instr.makeMap]
 obtain ⟨a1,a2', a3,a4,a5,a6,a7⟩:=h1.box (.map #[] 0);have n1:=MpI.new w2;obtain ⟨g1,hg1⟩:∃ b,w2.heap.size=b:=⟨_,rfl⟩
 obtain ⟨x1,hx1⟩:∃ x,w2.alloc (.map #[] 0)=x:=⟨_,rfl⟩
 rw [hx1] at a1 a2' a3 a5 n1 hm1;rw [hg1] at a1 a3 a4 a5 a6 a7 n1 hm1;have hm2:(Instr.makeMap 26 none).run Tryz.prog x1=.ok (.map (some x1.heap.size)) (x1.alloc (.map #[] 0)):=by simp [Instr.makeMap]
 obtain ⟨b1,b2,b3,b4,b5,b6,b7⟩:=a1.box (.map #[] 0);have n2:=MpI.new x1;obtain ⟨g2,hg2⟩:∃ b,x1.heap.size=b:=⟨_,rfl⟩
 obtain ⟨x2,hx2⟩:∃ x,x1.alloc (.map #[] 0)=x:=⟨_,rfl⟩
 rw [hx2] at b1 b2 b3 b5 n2 hm2;rw [hg2] at b1 b3 b4 b5 b6 b7 n2 hm2;have HT0:=Hd b1;have HM0:Hid (MpI x2 g1 (fun _=>0)∧MpI x2 g2 (fun _=>0)):=Hd ⟨n1.kept (b2 g1 (by simp) a4),n2⟩;have GT:Hid (g1≠t∧g2≠t∧w1.heap.size≤g1∧w1.heap.size≤g2∧g2≠g1):=Hd ⟨a4,b4,a6,b6,fun e=>b7 g1 (by simp) e.symm⟩;clear h1 a1 a2' a3 a4 a5 a6 a7 b1 b2 b3 b4 b5 b6 b7 n1 n2 hg1 hx1 hg2 hx2;go_wp2_with fail
 go_loopw [9] (fun i wr=>∃ (j:Nat) (L:List (Int × Int × Int)) (lv cp:Int→Int),i=.int .i64 (j:Int)∧j≤len∧j≤40∧Hid (TxS w1 [g2,g1] wr t d s 640 (slE 0 L))∧Hid (SlL L∧L.length≤j∧ApI L lv cp)∧Hid (MpI wr g1 lv∧MpI wr g2 cp)) (fun i _=>41 - (intOf i).toNat)
 case atStart=>exact ⟨0,[],_,_,rfl,Nat.zero_le _,Nat.zero_le _,HT0,Hd ⟨AO,Nat.le_refl _,ApI.nil⟩,HM0⟩
 case round =>
  obtain ⟨j,L,lv,cp,rfl,hj1,hj2,HT,HI,HM⟩:=hrel
  by_cases hjl:j < len
  ·have hjli:(j:Int) < (len:Int):=by omega
   by_cases hlt:j < 40
   ·have hli:(j:Int) < 40:=by omega
    obtain ⟨x,z,hax,_,⟨hz1,hz2⟩,CELL⟩:=CELLS.out j hjl;subst hax;have HJ:Hid (j + 1≤len∧j + 1≤40):=Hd ⟨by omega,by omega⟩;have HZ:=Hd (And.intro hz1 hz2);have e4:IntKind.i64.wrap ((j:Int) + 1)=((j + 1:Nat):Int):=by rw [show (j:Int) + 1=((j + 1:Nat):Int) by omega]; exact IntWalk.i64_in _ (by omega)
    have e5:IntKind.u64.wrap z=z:=IntWalk.u64_in _ (by omega);have hcl:=CELL.out wr (chain B1.out HT.out.from);obtain ⟨m,hm⟩:∃ m:Nat,j % 5=m:=⟨_,rfl⟩
    have z1:(j:Int) % 5=(m:Int):=by omega
    have z2:(j:Int).tmod 5=(m:Int):=by rw [Int.tmod_eq_emod_of_nonneg (by omega)]; exact z1
    have z4:IntKind.i64.wrap (m:Int)=(m:Int):=IntWalk.i64_in _ (by omega);obtain ⟨ca,hca⟩:∃ ca:Int,(m:Int) + 1=ca:=⟨_,rfl⟩
    have z5:IntKind.i64.wrap (1 + (m:Int))=ca:=by rw [show 1 + (m:Int)=ca by omega]; exact IntWalk.i64_in _ (by omega)
    have HCR:Hid (1≤ca∧ca≤16777215):=Hd (by omega);clear hj1 hj2 hjl hlt hm hca hz1 hz2
    by_cases hlp:0 < lv z
    ·obtain ⟨jx,xx,hjx,hbx'⟩:=HI.out.2.2.used hlp
     have US:=Hd (DF HT.out HI.out.1 hjx hbx');have HLP:=Hd hlp;have HXX:=Hd (And.intro hjx hbx');clear hjx hbx';have hd:decide (0 < lv z)=true:=decide_eq_true hlp;go_wp2_with fail;refine US.out.mono ?_;rintro e w3 ⟨rfl,h1,k1⟩;have TB:=Hd (pI h1 HI.out.1 HCR.out HXX.out.1 HXX.out.2);have K3:=Hd k1;have hcl:=CELL.out w3 (chain B1.out h1.from);clear h1 k1 US;go_wp2_with fail;refine TB.out.mono ?_;rintro e w4 ⟨rfl,h1,k1⟩;obtain ⟨bx,hbx⟩:∃ b,w4.heap.size=b:=⟨_,rfl⟩
     obtain ⟨x1,hx1⟩:∃ x,w4.alloc (.cells #[.int .i64 0,.int .i64 0,.int .i64 0,.int .u64 0] 32)=x:=⟨_,rfl⟩
     obtain ⟨c1,c2,c3,c4,c5,c6,c7⟩:=h1.box (.cells #[.int .i64 0,.int .i64 0,.int .i64 0,.int .u64 0] 32);rw [hx1] at c1 c2 c3 c5;rw [hbx] at c1 c3 c4 c5 c6 c7;have Xx1:=Hd (And.intro hx1 hbx);clear hx1 hbx;have M4:Hid (MpI x1 g1 lv∧MpI x1 g2 cp):=Hd ⟨HM.out.1.kept ((c2 g1 (by simp) GT.out.1).trans ((k1 g1 (by simp) GT.out.1).trans (K3.out g1 (by simp) GT.out.1))),HM.out.2.kept ((c2 g2 (by simp) GT.out.2.1).trans ((k1 g2 (by simp) GT.out.2.1).trans (K3.out g2 (by simp) GT.out.2.1)))⟩
     have S0:=Hd (show (fun w' => Below w1.heap.size w1 w'∧MpI w' g1 lv∧w'.heap[bx]?=some (.cells #[.int .i64 0,.int .i64 0,.int .i64 0,.int .u64 0] 32)) x1.drew from ⟨c1.from.drew,M4.out.1.kept rfl,c3⟩);have T9:=Hd ((c1.sub (R' := [g2,g1]) fun k hk=>by simp only [List.mem_cons] at hk ⊢; exact .inr hk).below Br.drew);have I9:Hid (SlL L∧L.length≤j + 1∧ApI L lv cp):=Hd ⟨HI.out.1,Nat.le_succ_of_le HI.out.2.1,HI.out.2.2⟩;have M9:Hid (MpI x1.drew g1 lv∧MpI x1.drew g2 cp):=Hd ⟨M4.out.1.kept rfl,M4.out.2.kept rfl⟩;clear h1 k1 c1 c2 c3 c4 c5 c6 c7 TB
     go_upto_region 14 with fail
     rw [Xx1.out.1,Xx1.out.2];refine wp_region_held_drew (S:=fun w' => Below w1.heap.size w1 w'∧MpI w' g1 lv∧w'.heap[bx]?=some (.cells #[.int .i64 0,.int .i64 0,.int .i64 0,.int .u64 0] 32)) (by kernel_rfl) S0.out (fun hS=>?_);refine Hu 0 63 hS ?_;simp only [SL];refine Hu 1 64 hS ?_;simp only [SL];refine Hu 2 65 hS ?_;simp only [SL];refine Hu 3 66 hS ?_;simp only [SL];refine Hu 4 67 hS ?_;simp only [SL];refine Hu 5 68 hS ?_;simp only [SL];refine Hu 6 69 hS ?_;simp only [SL];refine Hu 7 70 hS ?_;simp only [SL];refine Hv 8 71 ?va8x9 hS ?ha8x9 ?_
     case ha8x9 =>
      intro w9 s9;have k9:=CELL.out w9 (chain B1.out s9.1);clear s9;go_simp;try (with_reducible rfl)
     simp only [SL];refine Hv 9 72 ?va9x10 hS ?ha9x10 ?_
     case ha9x10 =>
      intro w9 s9;have k9:=s9.2.1.look z;clear s9;go_simp;try (with_reducible rfl)
     simp only [SL];refine Hu 10 73 hS ?_;simp only [SL];refine Hu 11 74 hS ?_;simp only [SL];refine Hu 12 75 hS ?_;simp only [SL];refine Hu 13 76 hS ?_;simp only [SL];refine Hu 14 77 hS ?_;simp only [SL];refine Hu 15 78 hS ?_;simp only [SL];refine Hu 16 79 hS ?_;simp only [SL];refine Hu 17 80 hS ?_;simp only [SL];refine Hu 18 81 hS ?_;simp only [SL];refine Hu 19 82 hS ?_;simp only [SL];refine Hu 20 83 hS ?_;simp only [SL];refine Hu 21 84 hS ?_;simp only [SL];refine Hu 22 85 hS ?_;simp only [SL];refine Hu 23 86 hS ?_;simp only [SL];refine Hn 24 87 hS ?_;simp only [SL];refine Hn 25 88 hS ?_
     simp only [SL];refine Hn 26 89 hS ?_;simp only [SL];refine Hn 27 90 hS ?_;simp only [SL];refine Hn 28 91 hS ?_;simp only [SL];refine Hn 29 92 hS ?_;simp only [SL];refine Hn 30 93 hS ?_;simp only [SL];refine Hn 31 94 hS ?_;simp only [SL];refine Hn 32 95 hS ?_;simp only [SL];refine Hn 33 96 hS ?_;simp only [SL];refine Hn 34 97 hS ?_;simp only [SL];refine Hn 35 98 hS ?_;simp only [SL];refine Hn 36 99 hS ?_;simp only [SL];refine Hn 37 100 hS ?_;simp only [SL];refine Hn 38 101 hS ?_;simp only [SL];refine Hn 39 102 hS ?_;simp only [SL];refine Hn 40 103 hS ?_;simp only [SL];refine Hn 41 104 hS ?_
     simp only [SL];refine Hn 42 105 hS ?_;simp only [SL];refine Hn 43 106 hS ?_;simp only [SL];refine Hu 44 107 hS ?_;simp only [SL];refine Hu 45 108 hS ?_;simp only [SL];refine wpAnyH_done (by kernel_rfl) ?_ _;clear hS
     by_cases hf:j < len2
     ·have hfi:¬ (len2:Int)≤(j:Int):=by omega
      obtain ⟨y,zf,hay,_,⟨hy1,hy2⟩,CELLF⟩:=CELLS2.out j hf;subst hay;have hcf:=CELLF.out x1.drew (chain B1.out T9.out.from);obtain ⟨m8,hm8⟩:∃ m:Nat,(zf % 8).toNat=m:=⟨_,rfl⟩
      have y1:zf % 8=(m8:Int):=by omega
      have y2:zf.tmod 8=(m8:Int):=by rw [Int.tmod_eq_emod_of_nonneg hy1]; exact y1
      have y3:IntKind.u8.wrap (m8:Int)=(m8:Int):=IntWalk.u8_in _ (by omega);have y4:IntKind.i64.wrap (m8:Int)=(m8:Int):=IntWalk.i64_in _ (by omega);obtain ⟨go,hgo⟩:∃ go:Int,(m8:Int) + 1=go:=⟨_,rfl⟩
      have y5:IntKind.i64.wrap (1 + (m8:Int))=go:=by rw [show 1 + (m8:Int)=go by omega]; exact IntWalk.i64_in _ (by omega)
      have FR:=Hd (sY go T9.out I9.out.1);have HG:=Hd hgo;clear hm8 hgo hf;go_wp2_with fail;refine FR.out.mono ?_;rintro e w6 ⟨rfl,h1,k1⟩;obtain ⟨n0,hn0⟩:∃ n0,((L).filter (cG go)).length=n0:=⟨_,rfl⟩
      rw [hn0];have C0:Hid ((n0:Int)=((kM (L) go 0:Nat):Int)):=Hd (by rw [I9.out.2.2.cnt_start go,hn0]);have T6:=Hd h1;have M6:Hid (MpI w6 g1 (iI (lv) (cp) go 0)∧MpI w6 g2 (cp)):=Hd ⟨by rw [LF I9.out.2.2]; exact M9.out.1.kept (k1 g1 (by simp) GT.out.1),M9.out.2.kept (k1 g2 (by simp) GT.out.2.1)⟩;clear h1 k1 FR hn0;go_wp2_with fail
      go_loopw [15,17] (fun cv kv wr=>∃ (K:Nat) (c:Int),kv=.int .i64 (K:Int)∧cv=.int .i64 c∧K≤256∧c=((kM (L) go (K:Int):Nat):Int)∧Hid (TxS w1 [g2,g1] wr t d s 640 (slE 0 ((L).map (cW go))))∧Hid (MpI wr g1 (iI (lv) (cp) go K)∧MpI wr g2 (cp))) (fun _ kv _=>256 - (intOf kv).toNat)
      case atStart=>exact ⟨0,_,rfl,rfl,by decide,C0.out,T6,M6⟩
      case round =>
       obtain ⟨K,c,rfl,rfl,hK,hc,TK,MK⟩:=hrel
       by_cases hlt:K < 256
       ·have hli:(K:Int) < 256:=by omega
        have e8:IntKind.u8.wrap (K:Int)=(K:Int):=IntWalk.u8_in _ (by omega);have e4k:IntKind.i64.wrap ((K:Int) + 1)=((K + 1:Nat):Int):=by rw [show (K:Int) + 1=((K + 1:Nat):Int) by omega]; exact IntWalk.i64_in _ (by omega)
        have lk1:=MK.out.1.look (K:Int);rw [AY] at lk1;have lk2:=MK.out.2.look (K:Int);obtain ⟨la,hla⟩:∃ la,(lv) (K:Int)=la:=⟨_,rfl⟩
        obtain ⟨ca', hca'⟩:∃ la,(cp) (K:Int)=la:=⟨_,rfl⟩
        have ST:=I9.out.2.2.cnt_step go (K:Int)
        by_cases hgone:0 < (lv) (K:Int)∧(cp) (K:Int)=go
        ·have MN:=vX hgone
         rw [if_pos hgone] at ST;obtain ⟨w7,mu,mm,mf⟩:=MK.out.1.put (K:Int) 0;rw [MN] at mm;have FINk:Hid (TxS w1 [g2,g1] w7 t d s 640 (slE 0 ((L).map (cW go)))∧MpI w7 g1 (iI (lv) (cp) go (K + 1))∧MpI w7 g2 (cp)):=Hd ⟨TK.out.turn (k:=g1) (by simp) GT.out.1 GT.out.2.2.1 mf,mm,MK.out.2.kept (mf.block g2 (TK.out.lt.1 g2 (by simp)) (fun e=>GT.out.2.2.2.2 e))⟩;have hpos:=hgone.1;have heq:=hgone.2;rw [hla] at lk1 hpos;rw [hca'] at lk2 heq;subst heq
         have NX:Hid (K + 1≤256∧c - 1=((kM (L) ca' ((K + 1:Nat):Int):Nat):Int)):=Hd ⟨hlt,by rw [hc,ST,show ((K + 1:Nat):Int)=(K:Int) + 1 by omega]; omega⟩;have e9:IntKind.i64.wrap (c - 1)=c - 1:=IntWalk.i64_in _ (by rw [NX.out.2]; have:=MY (L) ca' ((K + 1:Nat):Int); have:=I9.out.1.1; omega);clear hK hc hlt ST hgone MN mm mf hla hca';go_wp2_with fail;go_roundw
         case rel=>exact ⟨K + 1,_,rfl,rfl,NX.out.1,NX.out.2,Hd FINk.out.1,Hd FINk.out.2⟩
         case measure=>have:=NX.out.1; simp [intOf]; omega
        ·rw [if_neg hgone] at ST
         have MN:Hid (MpI wr g1 (iI (lv) (cp) go (K + 1))∧MpI wr g2 (cp)):=Hd ⟨by rw [← AX hgone]; exact MK.out.1,MK.out.2⟩;have NX:Hid (K + 1≤256∧c=((kM (L) go ((K + 1:Nat):Int):Nat):Int)):=Hd ⟨hlt,by rw [hc,ST,show ((K + 1:Nat):Int)=(K:Int) + 1 by omega]; omega⟩;rw [hla] at lk1 hgone;rw [hca'] at lk2 hgone;clear hK hc hlt ST hla hca'
         by_cases hl0:0 < la
         ·have hne:(ca' == go)=false:=by rw [beq_eq_false_iff_ne]; exact fun e=>hgone ⟨hl0,e⟩
          clear hgone;go_wp2_with fail;go_roundw
          case rel=>exact ⟨K + 1,_,rfl,rfl,NX.out.1,NX.out.2,TK,MN⟩
          case measure=>have:=NX.out.1; simp [intOf]; omega
         ·clear hgone
          go_wp2_with fail;go_roundw
          case rel=>exact ⟨K + 1,_,rfl,rfl,NX.out.1,NX.out.2,TK,MN⟩
          case measure=>have:=NX.out.1; simp [intOf]; omega
       ·obtain rfl:K=256:=by omega
        have hli:¬ (((256:Nat):Int) < 256):=by decide
        have c0:c=0:=by rw [hc]; exact congrArg _ (I9.out.2.2.cnt_end go)
        subst c0;have MN:Hid (MpI wr g1 (fun k=>if 0 < (lv) k∧(cp) k=go then 0 else (lv) k)∧MpI wr g2 (cp)):=Hd ⟨by rw [← vY I9.out.2.2]; exact MK.out.1,MK.out.2⟩;have IN:Hid (SlL ((L).map (cW go))∧((L).map (cW go)).length≤j + 1∧ApI ((L).map (cW go)) (fun k=>if 0 < (lv) k∧(cp) k=go then 0 else (lv) k) (cp)):=Hd ⟨I9.out.1.free go,by rw [List.length_map]; exact I9.out.2.1,I9.out.2.2.freed go⟩;clear hK hc hlt;go_wp2_with fail;go_roundw
        case rel=>exact ⟨j + 1,_,_,_,rfl,HJ.out.1,HJ.out.2,TK,IN,MN⟩
        case measure=>have:=HJ.out; simp [intOf]; omega
     ·have hfi:(len2:Int)≤(j:Int):=by omega
      clear hf;go_wp2_with fail;go_roundw
      case rel=>exact ⟨j + 1,_,_,_,rfl,HJ.out.1,HJ.out.2,T9,I9,M9⟩
      case measure=>have:=HJ.out; simp [intOf]; omega
    ·have hz0:lv z=0:=by have:=HI.out.2.2.nn z; omega
     have US:=Hd (JB HT.out HI.out.1 (HI.out.2.2.free hz0));have HZ0:=Hd hz0;have hd:decide (0 < lv z)=false:=decide_eq_false hlp;clear hz0;go_wp2_with fail;refine US.out.mono ?_;rintro e w3 ⟨rfl,h1,k1⟩;obtain ⟨ii,ep,L', g1', g2', g3', g4', g5', g6', TKE⟩:=JE h1 HI.out.1 HCR.out (show 0≤z∧z≤18446744073709551615 by have:=HZ.out; omega) (HI.out.2.2.free HZ0.out) (by have:=HI.out.2.1; have:=HJ.out; omega);obtain ⟨p,hp⟩:∃ p:Int,((ii + 1:Nat):Int)=p:=⟨_,rfl⟩
     rw [hp] at TKE;have TB:=Hd TKE
     have HAT:Hid (ApI L' (upd lv z p) (upd cp z ca)):=Hd (by
      have:=HI.out.2.2.take HZ0.out HZ.out (by have:=HCR.out; omega) g1' g2' g3';rw [show (ii:Int) + 1=p by omega] at this;exact this)
     have HL' : Hid (SlL L'∧L'.length≤j + 1):=Hd ⟨g5', by have:=HI.out.2.1; omega⟩;have K3:=Hd k1;have hcl:=CELL.out w3 (chain B1.out h1.from);clear h1 k1 US TKE g1' g2' g3' g4' g5' g6' hp;go_wp2_with fail;refine TB.out.mono ?_;rintro e w4 ⟨rfl,h1,k1⟩;obtain ⟨bx,hbx⟩:∃ b,w4.heap.size=b:=⟨_,rfl⟩
     obtain ⟨x1,hx1⟩:∃ x,w4.alloc (.cells #[.int .i64 p,.int .i64 ca,.int .i64 ep,.int .u64 z] 32)=x:=⟨_,rfl⟩
     obtain ⟨c1,c2,c3,c4,c5,c6,c7⟩:=h1.box (.cells #[.int .i64 p,.int .i64 ca,.int .i64 ep,.int .u64 z] 32);rw [hx1] at c1 c2 c3 c5;rw [hbx] at c1 c3 c4 c5 c6 c7;have Xx1:=Hd (And.intro hx1 hbx);clear hx1 hbx;have M4:Hid (MpI x1 g1 lv∧MpI x1 g2 cp):=Hd ⟨HM.out.1.kept ((c2 g1 (by simp) GT.out.1).trans ((k1 g1 (by simp) GT.out.1).trans (K3.out g1 (by simp) GT.out.1))),HM.out.2.kept ((c2 g2 (by simp) GT.out.2.1).trans ((k1 g2 (by simp) GT.out.2.1).trans (K3.out g2 (by simp) GT.out.2.1)))⟩
     have S0:=Hd (show (fun w' => Below w1.heap.size w1 w'∧MpI w' g1 lv∧w'.heap[bx]?=some (.cells #[.int .i64 p,.int .i64 ca,.int .i64 ep,.int .u64 z] 32)) x1.drew from ⟨c1.from.drew,M4.out.1.kept rfl,c3⟩);have T4:=Hd (And.intro c1 (And.intro c3 (And.intro c4 (show g1≠bx∧g2≠bx from ⟨c7 g1 (by simp),c7 g2 (by simp)⟩))));clear h1 k1 c1 c2 c3 c4 c5 c6 c7 TB;go_upto_region 14 with fail
     rw [Xx1.out.1,Xx1.out.2];refine wp_region_held_drew (S:=fun w' => Below w1.heap.size w1 w'∧MpI w' g1 lv∧w'.heap[bx]?=some (.cells #[.int .i64 p,.int .i64 ca,.int .i64 ep,.int .u64 z] 32)) (by kernel_rfl) S0.out (fun hS=>?_);refine Hu 0 63 hS ?_;simp only [SL];refine Hu 1 64 hS ?_;simp only [SL];refine Hu 2 65 hS ?_;simp only [SL];refine Hu 3 66 hS ?_;simp only [SL];refine Hu 4 67 hS ?_;simp only [SL];refine Hu 5 68 hS ?_;simp only [SL];refine Hu 6 69 hS ?_;simp only [SL];refine Hu 7 70 hS ?_;simp only [SL];refine Hv 8 71 ?vb8x9 hS ?hb8x9 ?_
     case hb8x9 =>
      intro w9 s9;have k9:=CELL.out w9 (chain B1.out s9.1);clear s9;go_simp;try (with_reducible rfl)
     simp only [SL];refine Hv 9 72 ?vb9x10 hS ?hb9x10 ?_
     case hb9x10 =>
      intro w9 s9;have k9:=s9.2.1.look z;clear s9;go_simp;try (with_reducible rfl)
     simp only [SL];refine Hu 10 73 hS ?_;simp only [SL];refine Hu 11 74 hS ?_;simp only [SL];refine Hu 12 75 hS ?_;simp only [SL];refine Hu 13 76 hS ?_;simp only [SL];refine Hu 14 77 hS ?_;simp only [SL];refine Hu 15 78 hS ?_;simp only [SL];refine Hn 16 79 hS ?_;simp only [SL];refine Hn 17 80 hS ?_;simp only [SL];refine Hu 18 81 hS ?_;simp only [SL];refine Hu 19 82 hS ?_;simp only [SL];refine Hu 20 83 hS ?_;simp only [SL];refine Hu 21 84 hS ?_;simp only [SL];refine Hu 22 85 hS ?_;simp only [SL];refine Hu 23 86 hS ?_;simp only [SL];refine Hu 24 87 hS ?_;simp only [SL]
     refine Hu 25 88 hS ?_;simp only [SL];refine Hu 26 89 hS ?_;simp only [SL];refine Hu 27 90 hS ?_;simp only [SL];refine Hv 28 91 ?vb28x29 hS ?hb28x29 ?_
     case hb28x29 =>
      intro w9 s9;obtain ⟨⟨q0,q1,q2,q3⟩,_⟩:=bV s9.2.2;clear s9;go_simp;try (with_reducible rfl)
     simp only [SL];refine Hu 29 92 hS ?_;simp only [SL];refine Hu 30 93 hS ?_;simp only [SL];refine Hu 31 94 hS ?_;simp only [SL];refine Hu 32 95 hS ?_;simp only [SL];refine Hu 33 96 hS ?_;simp only [SL];refine Hu 34 97 hS ?_;simp only [SL];refine Hu 35 98 hS ?_;simp only [SL];refine Hv 36 99 ?vb36x37 hS ?hb36x37 ?_
     case hb36x37 =>
      intro w9 s9;obtain ⟨⟨q0,q1,q2,q3⟩,_⟩:=bV s9.2.2;clear s9;go_simp;try (with_reducible rfl)
     simp only [SL];refine Hu 37 100 hS ?_;simp only [SL];refine Hu 38 101 hS ?_;simp only [SL];refine Hu 39 102 hS ?_;simp only [SL];refine Hv 40 103 ?vb40x41 hS ?hb40x41 ?_
     case hb40x41 =>
      intro w9 s9;have k9:=CELL.out w9 (chain B1.out s9.1);clear s9;go_simp;try (with_reducible rfl)
     simp only [SL];refine Hu 41 104 hS ?_;simp only [SL];refine Hu 42 105 hS ?_;simp only [SL];refine Hu 43 106 hS ?_;simp only [SL];refine Hu 44 107 hS ?_;simp only [SL];refine Hu 45 108 hS ?_;simp only [SL];refine wpAnyH_done (by kernel_rfl) ?_ _;clear hS;obtain ⟨w5,mu5,mm5,mf5⟩:=(M4.out.1.kept (w' := x1.drew.drew) rfl).put z p;obtain ⟨w6,mu6,mm6,mf6⟩:=((M4.out.2.kept (w' := x1.drew.drew) rfl).kept (mf5.block g2 ((T4.out.1.below Br.drew).lt.1 g2 (by simp)) GT.out.2.2.2.2) |>.kept (w' := w5.drew) rfl).put z ca
     have t5:TxS w1 [bx,g2,g1] w5 t d s 640 (slE 0 L'):=((T4.out.1.below Br.drew).below Br.drew).turn (k:=g1) (by simp) GT.out.1 GT.out.2.2.1 mf5;have b5:w5.heap[bx]?=some (.cells #[.int .i64 p,.int .i64 ca,.int .i64 ep,.int .u64 z] 32):=(mf5.block bx (T4.out.1.lt.1 bx (by simp)) (Ne.symm T4.out.2.2.2.1)).trans T4.out.2.1;have t6:TxS w1 [bx,g2,g1] w6 t d s 640 (slE 0 L'):=(t5.below Br.drew).turn (k:=g2) (by simp) GT.out.2.1 GT.out.2.2.2.1 mf6
     have M6x:MpI w6 g1 (upd lv z p):=(mm5.kept (w' := w5.drew) rfl).kept (mf6.block g1 (t5.lt.1 g1 (by simp)) (fun e=>GT.out.2.2.2.2 e.symm));have T9:=Hd (t6.sub (R' := [g2,g1]) fun k hk=>by simp only [List.mem_cons] at hk ⊢; exact .inr hk);have I9:Hid (SlL L'∧L'.length≤j + 1∧ApI L' (upd lv z p) (upd cp z ca)):=Hd ⟨HL'.out.1,HL'.out.2,HAT.out⟩;have M9:Hid (MpI w6 g1 (upd lv z p)∧MpI w6 g2 (upd cp z ca)):=Hd ⟨M6x,mm6⟩
     obtain ⟨⟨q0,q1,q2,q3⟩,_⟩:=bV (show x1.drew.drew.heap[bx]?=some (.cells #[.int .i64 p,.int .i64 ca,.int .i64 ep,.int .u64 z] 32) from T4.out.2.1);have hz5:=CELL.out x1.drew.drew (chain B1.out ((T4.out.1.from.drew).drew));have FR5:=Hd (And.intro b5 t5.from);clear t5 b5 t6 M6x mm5 mm6 mf5 mf6 hcl hd;go_upto_region 17 with fail
     refine wp_region_still_tail 7 (by kernel_rfl) (by kernel_rfl) ?_;simp only [List.take_succ_cons,List.take_zero,List.drop_succ_cons,List.drop_zero];change wpStill _ _ x1.drew.drew _ _ _
     iterate 7 still_step
     refine wpStill_nil ?_;change wpList _ _ _ _ _ x1.drew.drew;go_wp2_with fail;clear q0 q1 q2 q3 hz5 mu5;obtain ⟨⟨q0,q1,q2,q3⟩,_⟩:=bV (show w5.drew.heap[bx]?=some (.cells #[.int .i64 p,.int .i64 ca,.int .i64 ep,.int .u64 z] 32) from FR5.out.1);have hz5:=CELL.out w5.drew (chain B1.out FR5.out.2.drew);go_upto_region 18 with fail
     refine wp_region_still_tail 7 (by kernel_rfl) (by kernel_rfl) ?_;simp only [List.take_succ_cons,List.take_zero,List.drop_succ_cons,List.drop_zero];change wpStill _ _ w5.drew _ _ _
     iterate 7 still_step
     refine wpStill_nil ?_;change wpList _ _ _ _ _ w5.drew;go_upto_region 19 with fail
     clear q0 q1 q2 q3 hz5 mu6
     by_cases hf:j < len2
     ·have hfi:¬ (len2:Int)≤(j:Int):=by omega
      obtain ⟨y,zf,hay,_,⟨hy1,hy2⟩,CELLF⟩:=CELLS2.out j hf;subst hay;have hcf:=CELLF.out w6 (chain B1.out T9.out.from);obtain ⟨m8,hm8⟩:∃ m:Nat,(zf % 8).toNat=m:=⟨_,rfl⟩
      have y1:zf % 8=(m8:Int):=by omega
      have y2:zf.tmod 8=(m8:Int):=by rw [Int.tmod_eq_emod_of_nonneg hy1]; exact y1
      have y3:IntKind.u8.wrap (m8:Int)=(m8:Int):=IntWalk.u8_in _ (by omega);have y4:IntKind.i64.wrap (m8:Int)=(m8:Int):=IntWalk.i64_in _ (by omega);obtain ⟨go,hgo⟩:∃ go:Int,(m8:Int) + 1=go:=⟨_,rfl⟩
      have y5:IntKind.i64.wrap (1 + (m8:Int))=go:=by rw [show 1 + (m8:Int)=go by omega]; exact IntWalk.i64_in _ (by omega)
      have FR:=Hd (sY go T9.out I9.out.1);have HG:=Hd hgo;clear hm8 hgo hf;go_wp2_with fail;refine FR.out.mono ?_;rintro e w6 ⟨rfl,h1,k1⟩;obtain ⟨n0,hn0⟩:∃ n0,((L').filter (cG go)).length=n0:=⟨_,rfl⟩
      rw [hn0];have C0:Hid ((n0:Int)=((kM (L') go 0:Nat):Int)):=Hd (by rw [I9.out.2.2.cnt_start go,hn0]);have T6:=Hd h1;have M6:Hid (MpI w6 g1 (iI (upd lv z p) (upd cp z ca) go 0)∧MpI w6 g2 (upd cp z ca)):=Hd ⟨by rw [LF I9.out.2.2]; exact M9.out.1.kept (k1 g1 (by simp) GT.out.1),M9.out.2.kept (k1 g2 (by simp) GT.out.2.1)⟩;clear h1 k1 FR hn0;go_wp2_with fail
      go_loopw [15,17] (fun cv kv wr=>∃ (K:Nat) (c:Int),kv=.int .i64 (K:Int)∧cv=.int .i64 c∧K≤256∧c=((kM (L') go (K:Int):Nat):Int)∧Hid (TxS w1 [g2,g1] wr t d s 640 (slE 0 ((L').map (cW go))))∧Hid (MpI wr g1 (iI (upd lv z p) (upd cp z ca) go K)∧MpI wr g2 (upd cp z ca))) (fun _ kv _=>256 - (intOf kv).toNat)
      case atStart=>exact ⟨0,_,rfl,rfl,by decide,C0.out,T6,M6⟩
      case round =>
       obtain ⟨K,c,rfl,rfl,hK,hc,TK,MK⟩:=hrel
       by_cases hlt:K < 256
       ·have hli:(K:Int) < 256:=by omega
        have e8:IntKind.u8.wrap (K:Int)=(K:Int):=IntWalk.u8_in _ (by omega);have e4k:IntKind.i64.wrap ((K:Int) + 1)=((K + 1:Nat):Int):=by rw [show (K:Int) + 1=((K + 1:Nat):Int) by omega]; exact IntWalk.i64_in _ (by omega)
        have lk1:=MK.out.1.look (K:Int);rw [AY] at lk1;have lk2:=MK.out.2.look (K:Int);obtain ⟨la,hla⟩:∃ la,(upd lv z p) (K:Int)=la:=⟨_,rfl⟩
        obtain ⟨ca', hca'⟩:∃ la,(upd cp z ca) (K:Int)=la:=⟨_,rfl⟩
        have ST:=I9.out.2.2.cnt_step go (K:Int)
        by_cases hgone:0 < (upd lv z p) (K:Int)∧(upd cp z ca) (K:Int)=go
        ·have MN:=vX hgone
         rw [if_pos hgone] at ST;obtain ⟨w7,mu,mm,mf⟩:=MK.out.1.put (K:Int) 0;rw [MN] at mm;have FINk:Hid (TxS w1 [g2,g1] w7 t d s 640 (slE 0 ((L').map (cW go)))∧MpI w7 g1 (iI (upd lv z p) (upd cp z ca) go (K + 1))∧MpI w7 g2 (upd cp z ca)):=Hd ⟨TK.out.turn (k:=g1) (by simp) GT.out.1 GT.out.2.2.1 mf,mm,MK.out.2.kept (mf.block g2 (TK.out.lt.1 g2 (by simp)) (fun e=>GT.out.2.2.2.2 e))⟩;have hpos:=hgone.1;have heq:=hgone.2;rw [hla] at lk1 hpos;rw [hca'] at lk2 heq;subst heq
         have NX:Hid (K + 1≤256∧c - 1=((kM (L') ca' ((K + 1:Nat):Int):Nat):Int)):=Hd ⟨hlt,by rw [hc,ST,show ((K + 1:Nat):Int)=(K:Int) + 1 by omega]; omega⟩;have e9:IntKind.i64.wrap (c - 1)=c - 1:=IntWalk.i64_in _ (by rw [NX.out.2]; have:=MY (L') ca' ((K + 1:Nat):Int); have:=I9.out.1.1; omega);clear hK hc hlt ST hgone MN mm mf hla hca';go_wp2_with fail;go_roundw
         case rel=>exact ⟨K + 1,_,rfl,rfl,NX.out.1,NX.out.2,Hd FINk.out.1,Hd FINk.out.2⟩
         case measure=>have:=NX.out.1; simp [intOf]; omega
        ·rw [if_neg hgone] at ST
         have MN:Hid (MpI wr g1 (iI (upd lv z p) (upd cp z ca) go (K + 1))∧MpI wr g2 (upd cp z ca)):=Hd ⟨by rw [← AX hgone]; exact MK.out.1,MK.out.2⟩;have NX:Hid (K + 1≤256∧c=((kM (L') go ((K + 1:Nat):Int):Nat):Int)):=Hd ⟨hlt,by rw [hc,ST,show ((K + 1:Nat):Int)=(K:Int) + 1 by omega]; omega⟩;rw [hla] at lk1 hgone;rw [hca'] at lk2 hgone;clear hK hc hlt ST hla hca'
         by_cases hl0:0 < la
         ·have hne:(ca' == go)=false:=by rw [beq_eq_false_iff_ne]; exact fun e=>hgone ⟨hl0,e⟩
          clear hgone;go_wp2_with fail;go_roundw
          case rel=>exact ⟨K + 1,_,rfl,rfl,NX.out.1,NX.out.2,TK,MN⟩
          case measure=>have:=NX.out.1; simp [intOf]; omega
         ·clear hgone
          go_wp2_with fail;go_roundw
          case rel=>exact ⟨K + 1,_,rfl,rfl,NX.out.1,NX.out.2,TK,MN⟩
          case measure=>have:=NX.out.1; simp [intOf]; omega
       ·obtain rfl:K=256:=by omega
        have hli:¬ (((256:Nat):Int) < 256):=by decide
        have c0:c=0:=by rw [hc]; exact congrArg _ (I9.out.2.2.cnt_end go)
        subst c0;have MN:Hid (MpI wr g1 (fun k=>if 0 < (upd lv z p) k∧(upd cp z ca) k=go then 0 else (upd lv z p) k)∧MpI wr g2 (upd cp z ca)):=Hd ⟨by rw [← vY I9.out.2.2]; exact MK.out.1,MK.out.2⟩;have IN:Hid (SlL ((L').map (cW go))∧((L').map (cW go)).length≤j + 1∧ApI ((L').map (cW go)) (fun k=>if 0 < (upd lv z p) k∧(upd cp z ca) k=go then 0 else (upd lv z p) k) (upd cp z ca)):=Hd ⟨I9.out.1.free go,by rw [List.length_map]; exact I9.out.2.1,I9.out.2.2.freed go⟩;clear hK hc hlt;go_wp2_with fail;go_roundw
        case rel=>exact ⟨j + 1,_,_,_,rfl,HJ.out.1,HJ.out.2,TK,IN,MN⟩
        case measure=>have:=HJ.out; simp [intOf]; omega
     ·have hfi:(len2:Int)≤(j:Int):=by omega
      clear hf;go_wp2_with fail;go_roundw
      case rel=>exact ⟨j + 1,_,_,_,rfl,HJ.out.1,HJ.out.2,T9,I9,M9⟩
      case measure=>have:=HJ.out; simp [intOf]; omega
   ·have hli:¬ (j:Int) < 40:=by omega
    clear hj1 hj2 hjl hlt;go_wp2_with fail
    go_loopw [18] (fun kv wr=>∃ K:Nat,kv=.int .i64 (K:Int)∧K≤256∧Hid (TxS w1 [g2,g1] wr t d s 640 (slE 0 L))∧Hid (MpI wr g1 lv∧MpI wr g2 cp)) (fun kv _=>256 - (intOf kv).toNat)
    case atStart=>exact ⟨0,rfl,by decide,HT,HM⟩
    case round =>
     obtain ⟨K,rfl,hK,TK,MK⟩:=hrel
     by_cases hlt:K < 256
     ·have hli:(K:Int) < 256:=by omega
      have e8:IntKind.u8.wrap (K:Int)=(K:Int):=IntWalk.u8_in _ (by omega);have e6:IntKind.u64.wrap (K:Int)=(K:Int):=IntWalk.u64_in _ (by omega);have e4k:IntKind.i64.wrap ((K:Int) + 1)=((K + 1:Nat):Int):=by rw [show (K:Int) + 1=((K + 1:Nat):Int) by omega]; exact IntWalk.i64_in _ (by omega)
      have NX:Hid (K + 1≤256):=Hd hlt;have lk1:=MK.out.1.look (K:Int);clear hK hlt
      by_cases h0:lv (K:Int)=0
      ·rw [h0] at lk1
       clear h0;go_wp2_with fail;go_roundw
       case rel=>exact ⟨K + 1,rfl,NX.out,TK,MK⟩
       case measure=>have:=NX.out; simp [intOf]; omega
      ·obtain ⟨jx,xx,h1,h2,h3⟩:=HI.out.2.2.has (K:Int) (by have:=HI.out.2.2.nn (K:Int); omega)
       obtain ⟨_,h5,h6⟩:=HI.out.2.2.live jx xx h1 h2;rw [h3] at h5 h6;have AT:=Hd (RC TK.out HI.out.1 h1);rw [show ((jx + 1:Nat):Int)=lv (K:Int) by rw [h5]; omega,h3,← h6] at AT;obtain ⟨la,hla⟩:∃ la,lv (K:Int)=la:=⟨_,rfl⟩
       obtain ⟨cc,hcc⟩:∃ cc,cp (K:Int)=cc:=⟨_,rfl⟩
       rw [hla] at AT lk1 h0;rw [hcc] at AT;have h0' : (la == 0)=false:=by simpa using h0
       have HCC:=Hd hcc;clear h1 h2 h3 h5 h6 hla hcc h0;go_wp2_with fail;refine AT.out.mono ?_;rintro e w4 ⟨rfl,h1,k1⟩;obtain ⟨bx,hbx⟩:∃ b,w4.heap.size=b:=⟨_,rfl⟩
       obtain ⟨x1,hx1⟩:∃ x,w4.alloc (.cells #[.int .i64 la,.int .i64 cc,.int .i64 xx.2.1,.int .u64 (K:Int)] 32)=x:=⟨_,rfl⟩
       obtain ⟨c1,c2,c3,c4,c5,c6,c7⟩:=h1.box (.cells #[.int .i64 la,.int .i64 cc,.int .i64 xx.2.1,.int .u64 (K:Int)] 32);rw [hx1] at c1 c2 c3 c5;rw [hbx] at c1 c3 c4 c5 c6 c7;have Xx1:=Hd (And.intro hx1 hbx);clear hx1 hbx;have M4:Hid (MpI x1 g1 lv∧MpI x1 g2 cp):=Hd ⟨MK.out.1.kept ((c2 g1 (by simp) GT.out.1).trans (k1 g1 (by simp) GT.out.1)),MK.out.2.kept ((c2 g2 (by simp) GT.out.2.1).trans (k1 g2 (by simp) GT.out.2.1))⟩;have lk2:=M4.out.2.look (K:Int);rw [HCC.out] at lk2
       have T4:=Hd (c1.sub (R' := [g2,g1]) fun k hk=>by simp only [List.mem_cons] at hk ⊢; exact .inr hk);obtain ⟨⟨y0,y1,y2,y3⟩,_⟩:=bV c3;clear h1 k1 c1 c2 c3 c4 c5 c6 c7 AT lk1;go_upto_region 36 with fail
       rw [Xx1.out.1,Xx1.out.2];go_wp2_with fail;go_roundw
       case rel=>exact ⟨K + 1,rfl,NX.out,T4,M4⟩
       case measure=>have:=NX.out; simp [intOf]; omega
     ·have hli:¬ (K:Int) < 256:=by omega
      have FIN:=Hd (chain B1.out TK.out.from);clear hK hlt;go_wp2_with fail;go_ret;exact ⟨rfl,FIN.out⟩
  ·have hjli:¬ (j:Int) < (len:Int):=by omega
   clear hj1 hj2 hjl;go_wp2_with fail
   go_loopw [18] (fun kv wr=>∃ K:Nat,kv=.int .i64 (K:Int)∧K≤256∧Hid (TxS w1 [g2,g1] wr t d s 640 (slE 0 L))∧Hid (MpI wr g1 lv∧MpI wr g2 cp)) (fun kv _=>256 - (intOf kv).toNat)
   case atStart=>exact ⟨0,rfl,by decide,HT,HM⟩
   case round =>
    obtain ⟨K,rfl,hK,TK,MK⟩:=hrel
    by_cases hlt:K < 256
    ·have hli:(K:Int) < 256:=by omega
     have e8:IntKind.u8.wrap (K:Int)=(K:Int):=IntWalk.u8_in _ (by omega);have e6:IntKind.u64.wrap (K:Int)=(K:Int):=IntWalk.u64_in _ (by omega);have e4k:IntKind.i64.wrap ((K:Int) + 1)=((K + 1:Nat):Int):=by rw [show (K:Int) + 1=((K + 1:Nat):Int) by omega]; exact IntWalk.i64_in _ (by omega)
     have NX:Hid (K + 1≤256):=Hd hlt;have lk1:=MK.out.1.look (K:Int);clear hK hlt
     by_cases h0:lv (K:Int)=0
     ·rw [h0] at lk1
      clear h0;go_wp2_with fail;go_roundw
      case rel=>exact ⟨K + 1,rfl,NX.out,TK,MK⟩
      case measure=>have:=NX.out; simp [intOf]; omega
     ·obtain ⟨jx,xx,h1,h2,h3⟩:=HI.out.2.2.has (K:Int) (by have:=HI.out.2.2.nn (K:Int); omega)
      obtain ⟨_,h5,h6⟩:=HI.out.2.2.live jx xx h1 h2;rw [h3] at h5 h6;have AT:=Hd (RC TK.out HI.out.1 h1);rw [show ((jx + 1:Nat):Int)=lv (K:Int) by rw [h5]; omega,h3,← h6] at AT;obtain ⟨la,hla⟩:∃ la,lv (K:Int)=la:=⟨_,rfl⟩
      obtain ⟨cc,hcc⟩:∃ cc,cp (K:Int)=cc:=⟨_,rfl⟩
      rw [hla] at AT lk1 h0;rw [hcc] at AT;have h0' : (la == 0)=false:=by simpa using h0
      have HCC:=Hd hcc;clear h1 h2 h3 h5 h6 hla hcc h0;go_wp2_with fail;refine AT.out.mono ?_;rintro e w4 ⟨rfl,h1,k1⟩;obtain ⟨bx,hbx⟩:∃ b,w4.heap.size=b:=⟨_,rfl⟩
      obtain ⟨x1,hx1⟩:∃ x,w4.alloc (.cells #[.int .i64 la,.int .i64 cc,.int .i64 xx.2.1,.int .u64 (K:Int)] 32)=x:=⟨_,rfl⟩
      obtain ⟨c1,c2,c3,c4,c5,c6,c7⟩:=h1.box (.cells #[.int .i64 la,.int .i64 cc,.int .i64 xx.2.1,.int .u64 (K:Int)] 32);rw [hx1] at c1 c2 c3 c5;rw [hbx] at c1 c3 c4 c5 c6 c7;have Xx1:=Hd (And.intro hx1 hbx);clear hx1 hbx;have M4:Hid (MpI x1 g1 lv∧MpI x1 g2 cp):=Hd ⟨MK.out.1.kept ((c2 g1 (by simp) GT.out.1).trans (k1 g1 (by simp) GT.out.1)),MK.out.2.kept ((c2 g2 (by simp) GT.out.2.1).trans (k1 g2 (by simp) GT.out.2.1))⟩;have lk2:=M4.out.2.look (K:Int);rw [HCC.out] at lk2
      have T4:=Hd (c1.sub (R' := [g2,g1]) fun k hk=>by simp only [List.mem_cons] at hk ⊢; exact .inr hk);obtain ⟨⟨y0,y1,y2,y3⟩,_⟩:=bV c3;clear h1 k1 c1 c2 c3 c4 c5 c6 c7 AT lk1;go_upto_region 36 with fail
      rw [Xx1.out.1,Xx1.out.2];go_wp2_with fail;go_roundw
      case rel=>exact ⟨K + 1,rfl,NX.out,T4,M4⟩
      case measure=>have:=NX.out; simp [intOf]; omega
    ·have hli:¬ (K:Int) < 256:=by omega
     have FIN:=Hd (chain B1.out TK.out.from);clear hK hlt;go_wp2_with fail;go_ret;exact ⟨rfl,FIN.out⟩
end Go.Proofs.YtblbiihpfjjhhaaGreatDoor
