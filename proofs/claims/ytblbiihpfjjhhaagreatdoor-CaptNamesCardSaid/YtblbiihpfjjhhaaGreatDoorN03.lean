/-
 Concat, Flow, FlowKit, NodeP, NodeQ.
-/
import Derived.Test.YtblbiihpfjjhhaaGreatDoorN02
import Derived.Lib.AppendZeros
import Derived.Test.YtblbiihpfjjhhaaGreatDoorN01
import Derived.OrdersHeld
import Derived.RegionTactic
import Derived.KernelRfl
import Derived.IntWalk
namespace Go.Proofs.YtblbiihpfjjhhaaGreatDoor
open Go.RowKit
set_option maxRecDepth 20000
set_option maxHeartbeats 12800000
set_option linter.unusedVariables false
set_option linter.unusedSimpArgs false
structure Src where
 a:Option Addr
 L:List Value
 c:Nat
def Src.val (s:Src):Value:=.slice s.a s.L.length s.c
def aR:List Src→List Value
 | []=>[]
 | s :: r=>s.L ++ aR r
theorem oJ (x y:List Src):aR (x ++ y)=aR x ++ aR y:=by
 induction x with
 | nil=>rfl
 | cons a x ih=>simp [aR,ih]
theorem nB (l:List Src) (j:Nat) (h:j < l.length):aR (l.take (j + 1))=aR (l.take j) ++ l[j].L:=by
 rw [List.take_succ_eq_append_getElem h,oJ];simp [aR]
theorem sI (l:List Src) (j:Nat):(aR (l.take j)).length≤(aR l).length:=by
 have:aR l=aR (l.take j) ++ aR (l.drop j):=by rw [← oJ,List.take_append_drop]
 rw [this,List.length_append]; omega
def bO (base:Nat) (T:TypeId) (L:List Value) (e:Ending) (w' : World):Prop:=∃ v,e=.returned v∧w'.ownsRow base T 1 v L.length L
theorem DW:(Tryz.prog.info? 30).map (fun i=>(i.zero,i.size,i.bytes))=some (some (.int .u64 0),1,8):=by kernel_rfl
theorem aA5 (n:Nat) (w:World) (hn:n≤100000) :
  Calls Tryz.prog 220 #[.slice none 0 0,.int .i64 (n:Int)] w fun e w' => bO w.heap.size 30 [] e w'∧Below w.heap.size w w' := by
 obtain ⟨i0,hi,hz0,hz1,hz2⟩:=info_parts DW
 by_cases h0:n=0
 ·subst h0
  clear hi hz0 hz1 hz2;go_enter Tryz.func220,Tryz.ntmps220;go_wp2_with fail;go_ret;exact ⟨⟨_,rfl,World.ownsRow_nil _ _ _ _⟩,Br⟩
 ·have hp:0 < n:=by omega
  have hpi:0 < (n:Int):=by omega
  have hA:=Lib.run_append_nil_zeros (P:=Tryz.prog) w 204 3 204 30 i0 (.int .u64 0) .i64 .i64 Tryz.underlying204 Tryz.underlying3 hi hz0 n hp (by omega) (by omega) (by rw [hz2]; omega);have hge:=grownCap_ge w n 0 30;have hle:=grownCap_le_maxLen w n 0 30 (by unfold maxLen; omega)
  have hsz:(Builtin.zeroCells (.int .u64 0:Value).cells n ++ Builtin.zeroCells (.int .u64 0:Value).cells (grownCap w n 0 30 - n)).size=grownCap w n 0 30:=by
   rw [Array.size_append,size_zeroCells,size_zeroCells]
   show n * 1 + (grownCap w n 0 30 - n) * 1=_
   omega
  generalize Builtin.zeroCells (.int .u64 0:Value).cells n ++ Builtin.zeroCells (.int .u64 0:Value).cells (grownCap w n 0 30 - n)=cs at *;generalize grownCap w n 0 30=cap at *
  have FIN:Hid (bO w.heap.size 30 [] (.returned (.slice (some ⟨w.heap.size,0,none⟩) 0 cap)) (w.drew.alloc (.cells cs 30))∧Below w.heap.size w (w.drew.alloc (.cells cs 30))):=Hd
   ⟨⟨_,rfl,rfl,.inr ⟨w.heap.size,cap,cs,rfl,Nat.le_refl _,han w.drew _,Nat.zero_le _,hle,by rw [hsz]; omega,rfl⟩⟩,(Br.drew).alloc (Nat.le_refl _) _⟩
  have hc0:¬ cap=0:=by omega
  clear hi hz0 hz1 hz2 hge hle hsz h0;have HA:=Hd hA;clear hA;go_enter Tryz.func220,Tryz.ntmps220
  go_wp2_with (at_builtin; refine Lib.wpList_append_run _ rfl _ _ _ _ rfl _ _ rfl rfl _ _ HA.out ?_)
  go_ret;exact FIN.out
theorem DX:(Tryz.prog.info? 9).map (fun i=>(i.zero,i.size,i.bytes))=some (some (.string ByteArray.empty),1,16):=by kernel_rfl
theorem aA6 (n:Nat) (w:World) (hn:n≤100000) :
  Calls Tryz.prog 221 #[.slice none 0 0,.int .i64 (n:Int)] w fun e w' => bO w.heap.size 9 [] e w'∧Below w.heap.size w w' := by
 obtain ⟨i0,hi,hz0,hz1,hz2⟩:=info_parts DX
 by_cases h0:n=0
 ·subst h0
  clear hi hz0 hz1 hz2;go_enter Tryz.func221,Tryz.ntmps221;go_wp2_with fail;go_ret;exact ⟨⟨_,rfl,World.ownsRow_nil _ _ _ _⟩,Br⟩
 ·have hp:0 < n:=by omega
  have hpi:0 < (n:Int):=by omega
  have hA:=Lib.run_append_nil_zeros (P:=Tryz.prog) w 39 3 39 9 i0 (.string ByteArray.empty) .i64 .i64 Tryz.underlying39 Tryz.underlying3 hi hz0 n hp (by omega) (by omega) (by rw [hz2]; omega);have hge:=grownCap_ge w n 0 9;have hle:=grownCap_le_maxLen w n 0 9 (by unfold maxLen; omega)
  have hsz:(Builtin.zeroCells (.string ByteArray.empty:Value).cells n ++ Builtin.zeroCells (.string ByteArray.empty:Value).cells (grownCap w n 0 9 - n)).size=grownCap w n 0 9:=by
   rw [Array.size_append,size_zeroCells,size_zeroCells]
   show n * 1 + (grownCap w n 0 9 - n) * 1=_
   omega
  generalize Builtin.zeroCells (.string ByteArray.empty:Value).cells n ++ Builtin.zeroCells (.string ByteArray.empty:Value).cells (grownCap w n 0 9 - n)=cs at *;generalize grownCap w n 0 9=cap at *
  have FIN:Hid (bO w.heap.size 9 [] (.returned (.slice (some ⟨w.heap.size,0,none⟩) 0 cap)) (w.drew.alloc (.cells cs 9))∧Below w.heap.size w (w.drew.alloc (.cells cs 9))):=Hd
   ⟨⟨_,rfl,rfl,.inr ⟨w.heap.size,cap,cs,rfl,Nat.le_refl _,han w.drew _,Nat.zero_le _,hle,by rw [hsz]; omega,rfl⟩⟩,(Br.drew).alloc (Nat.le_refl _) _⟩
  have hc0:¬ cap=0:=by omega
  clear hi hz0 hz1 hz2 hge hle hsz h0;have HA:=Hd hA;clear hA;go_enter Tryz.func221,Tryz.ntmps221
  go_wp2_with (at_builtin; refine Lib.wpList_append_run _ rfl _ _ _ _ rfl _ _ rfl rfl _ _ HA.out ?_)
  go_ret;exact FIN.out
theorem DY:(Tryz.prog.info? 3).map (fun i=>(i.zero,i.size,i.bytes))=some (some (.int .i64 0),1,8):=by kernel_rfl
theorem aA7 (n:Nat) (w:World) (hn:n≤100000) :
  Calls Tryz.prog 239 #[.slice none 0 0,.int .i64 (n:Int)] w fun e w' => bO w.heap.size 3 [] e w'∧Below w.heap.size w w' := by
 obtain ⟨i0,hi,hz0,hz1,hz2⟩:=info_parts DY
 by_cases h0:n=0
 ·subst h0
  clear hi hz0 hz1 hz2;go_enter Tryz.func239,Tryz.ntmps239;go_wp2_with fail;go_ret;exact ⟨⟨_,rfl,World.ownsRow_nil _ _ _ _⟩,Br⟩
 ·have hp:0 < n:=by omega
  have hpi:0 < (n:Int):=by omega
  have hA:=Lib.run_append_nil_zeros (P:=Tryz.prog) w 48 3 48 3 i0 (.int .i64 0) .i64 .i64 Tryz.underlying48 Tryz.underlying3 hi hz0 n hp (by omega) (by omega) (by rw [hz2]; omega);have hge:=grownCap_ge w n 0 3;have hle:=grownCap_le_maxLen w n 0 3 (by unfold maxLen; omega)
  have hsz:(Builtin.zeroCells (.int .i64 0:Value).cells n ++ Builtin.zeroCells (.int .i64 0:Value).cells (grownCap w n 0 3 - n)).size=grownCap w n 0 3:=by
   rw [Array.size_append,size_zeroCells,size_zeroCells]
   show n * 1 + (grownCap w n 0 3 - n) * 1=_
   omega
  generalize Builtin.zeroCells (.int .i64 0:Value).cells n ++ Builtin.zeroCells (.int .i64 0:Value).cells (grownCap w n 0 3 - n)=cs at *;generalize grownCap w n 0 3=cap at *
  have FIN:Hid (bO w.heap.size 3 [] (.returned (.slice (some ⟨w.heap.size,0,none⟩) 0 cap)) (w.drew.alloc (.cells cs 3))∧Below w.heap.size w (w.drew.alloc (.cells cs 3))):=Hd
   ⟨⟨_,rfl,rfl,.inr ⟨w.heap.size,cap,cs,rfl,Nat.le_refl _,han w.drew _,Nat.zero_le _,hle,by rw [hsz]; omega,rfl⟩⟩,(Br.drew).alloc (Nat.le_refl _) _⟩
  have hc0:¬ cap=0:=by omega
  clear hi hz0 hz1 hz2 hge hle hsz h0;have HA:=Hd hA;clear hA;go_enter Tryz.func239,Tryz.ntmps239
  go_wp2_with (at_builtin; refine Lib.wpList_append_run _ rfl _ _ _ _ rfl _ _ rfl rfl _ _ HA.out ?_)
  go_ret;exact FIN.out
theorem UJ (al:Option Addr) (cl:Nat) (l:List Src) (w:World) (hl:Rd w al (l.map Src.val)) (hs:∀ s∈l,Rd w s.a s.L) (h1:∀ s∈l,∀ u∈s.L,u.oneCell'=true) (hf:(aR l).length≤100000) (hm:l.length≤1000) :
  Calls Tryz.prog 200 #[.slice al l.length cl] w fun e w' => bO w.heap.size 30 (aR l) e w'∧Below w.heap.size w w' := by
 obtain ⟨i0,hi,hz0,hz1,hz2⟩:=info_parts DW;have HL:=Hd hl;have HS:=Hd hs;have H1:=Hd h1;have HT:=Hd (nB l);have HF:=Hd (fun j=>Nat.le_trans (sI l j) hf);have F0:Hid ((aR (l.take 0)).length=0):=Hd rfl;have G:=Hd (fun n w (h:n≤100000)=>aA5 n w h);have APP:=Hd (fun (wr:World) v n xs hown a L c hr h1 h63 hb hbase=>pF (P:=Tryz.prog) wr w.heap.size 204 204 30 i0 (.int .u64 0) 8 Tryz.underlying204 hi hz0 hz1 hz2 rfl v n xs hown a L c hr h1 h63 hb hbase);obtain ⟨m,hm'⟩:∃ m,l.length=m:=⟨_,rfl⟩
 rw [hm'] at hm ⊢;clear hl hs h1 hf hi hz0 hz1 hz2;go_enter Tryz.func200,Tryz.ntmps200;go_wp2_with fail
 go_loop [3,11] (fun s i=>∃ j:Nat,j≤m∧i=.int .i64 (j:Int)∧s=.int .i64 ((aR (l.take j)).length:Int)) (fun _ i=>m + 1 - (intOf i).toNat)
 case atStart=>exact ⟨0,Nat.zero_le _,rfl,by rw [F0.out]; rfl⟩
 case round =>
  obtain ⟨j,hj,rfl,rfl⟩:=hrel
  by_cases hlt:j < m
  ·have hji:(j:Int) < (m:Int):=by omega
   have hjl:j < l.length:=by omega
   obtain ⟨b,off,rfl,hb,hcell⟩:=HL.out.at j (by simpa using hjl);have hcell' : w.cell? ⟨b,off + j,none⟩=some (.slice l[j].a l[j].L.length l[j].c):=by rw [hcell]; simp [Src.val]
   have BT:=Hd (HT.out j hjl);have t1:=HF.out (j + 1);rw [BT.out,List.length_append] at t1;clear hcell hb;generalize hx:l[j]=x at *;obtain ⟨xa,xL,xc⟩:=x
   dsimp only at hcell' t1 BT
   clear hx;generalize hy:(aR (l.take j)).length=y at *;generalize hz:xL.length=z at *;go_wp2_with fail
   go_round
   case rel=>exact ⟨j + 1,by omega,by go_num,by rw [BT.out,List.length_append,hy,hz]; go_num⟩
   case measure=>simp [intOf]; omega
  ·obtain rfl:j=m:=by omega
   have hji:¬ (j:Int) < (j:Int):=by omega
   have t1:=HF.out j;have hyb:Hid (aR (l.take j)=aR l):=Hd (by rw [List.take_of_length_le (by omega)]);go_wp2_with fail;refine (G.out _ w t1).mono ?_;rintro e w1 ⟨⟨v0,rfl,hv0⟩,b1⟩;have B0:=Hd b1;have O0:=Hd hv0;clear b1 hv0 t1;go_wp2_with fail
   go_loopw [6,27] (fun v i wr=>∃ k:Nat,k≤j∧i=.int .i64 (k:Int)∧wr.ownsRow w.heap.size 30 1 v (aR (l.take k)).length (aR (l.take k))∧Below w.heap.size w wr) (fun _ i _=>j + 1 - (intOf i).toNat)
   case atStart=>exact ⟨0,Nat.zero_le _,rfl,O0.out,B0.out⟩
   case round =>
    obtain ⟨k,hk,rfl,hown,hbel⟩:=hrel
    by_cases hlt2:k < j
    ·have hki:(k:Int) < (j:Int):=by omega
     have hkl:k < l.length:=by omega
     have HB:=Hd hbel;obtain ⟨b,off,rfl,hb,hcell⟩:=(HL.out.below hbel).at k (by simpa using hkl);have hcell' : wr.cell? ⟨b,off + k,none⟩=some (.slice l[k].a l[k].L.length l[k].c):=by rw [hcell]; simp [Src.val]
     have BT:=Hd (HT.out k hkl);have t1:=HF.out (k + 1);rw [BT.out,List.length_append] at t1;obtain ⟨v', w5,hap,hown', hgr⟩:=APP.out wr _ _ _ hown l[k].a l[k].L l[k].c ((HS.out _ (List.getElem_mem hkl)).below hbel) (H1.out _ (List.getElem_mem hkl)) (by unfold maxLen; omega) (by omega) hbel.size;have O5:=Hd hown';have B5:=Hd (hbel.grown hgr hbel.size (fun q hq=>(hown.lt q hq).1));have HA:=Hd hap;clear hcell hb hap hown' hgr hown hbel HB
     go_wp2_with (at_builtin; refine Lib.wpList_append_run _ rfl _ _ _ _ rfl _ _ rfl rfl _ _ HA.out ?_)
     go_roundw
     case rel=>exact ⟨k + 1,by omega,by go_num,by rw [BT.out,List.length_append]; exact O5.out,B5.out⟩
     case measure=>simp [intOf]; omega
    ·obtain rfl:k=j:=by omega
     have hki:¬ (k:Int) < (k:Int):=by omega
     have FIN:Hid (bO w.heap.size 30 (aR l) (.returned _) wr∧Below w.heap.size w wr):=Hd ⟨⟨_,rfl,by rw [← hyb.out]; exact hown⟩,hbel⟩;clear hown hbel;go_wp2_with fail;go_ret;exact FIN.out
theorem TG (al:Option Addr) (cl:Nat) (l:List Src) (w:World) (hl:Rd w al (l.map Src.val)) (hs:∀ s∈l,Rd w s.a s.L) (h1:∀ s∈l,∀ u∈s.L,u.oneCell'=true) (hf:(aR l).length≤100000) (hm:l.length≤1000) :
  Calls Tryz.prog 180 #[.slice al l.length cl] w fun e w' => bO w.heap.size 30 (aR l) e w'∧Below w.heap.size w w' := by
 have C:=Hd (UJ al cl l w hl hs h1 hf hm);obtain ⟨m,hm'⟩:∃ m,l.length=m:=⟨_,rfl⟩
 rw [hm'] at C ⊢;clear hl hs h1 hf;go_enter Tryz.func180,Tryz.ntmps180;go_wp2_with fail;refine C.out.mono ?_;rintro e w1 ⟨⟨v0,rfl,hv0⟩,b1⟩;have O0:=Hd hv0;clear hv0;go_wp2_with fail;go_ret;exact ⟨⟨_,rfl,O0.out⟩,b1⟩
theorem UK (al:Option Addr) (cl:Nat) (l:List Src) (w:World) (hl:Rd w al (l.map Src.val)) (hs:∀ s∈l,Rd w s.a s.L) (h1:∀ s∈l,∀ u∈s.L,u.oneCell'=true) (hf:(aR l).length≤100000) (hm:l.length≤1000) :
  Calls Tryz.prog 201 #[.slice al l.length cl] w fun e w' => bO w.heap.size 9 (aR l) e w'∧Below w.heap.size w w' := by
 obtain ⟨i0,hi,hz0,hz1,hz2⟩:=info_parts DX;have HL:=Hd hl;have HS:=Hd hs;have H1:=Hd h1;have HT:=Hd (nB l);have HF:=Hd (fun j=>Nat.le_trans (sI l j) hf);have F0:Hid ((aR (l.take 0)).length=0):=Hd rfl;have G:=Hd (fun n w (h:n≤100000)=>aA6 n w h);have APP:=Hd (fun (wr:World) v n xs hown a L c hr h1 h63 hb hbase=>pF (P:=Tryz.prog) wr w.heap.size 39 39 9 i0 (.string ByteArray.empty) 16 Tryz.underlying39 hi hz0 hz1 hz2 rfl v n xs hown a L c hr h1 h63 hb hbase);obtain ⟨m,hm'⟩:∃ m,l.length=m:=⟨_,rfl⟩
 rw [hm'] at hm ⊢;clear hl hs h1 hf hi hz0 hz1 hz2;go_enter Tryz.func201,Tryz.ntmps201;go_wp2_with fail
 go_loop [3,11] (fun s i=>∃ j:Nat,j≤m∧i=.int .i64 (j:Int)∧s=.int .i64 ((aR (l.take j)).length:Int)) (fun _ i=>m + 1 - (intOf i).toNat)
 case atStart=>exact ⟨0,Nat.zero_le _,rfl,by rw [F0.out]; rfl⟩
 case round =>
  obtain ⟨j,hj,rfl,rfl⟩:=hrel
  by_cases hlt:j < m
  ·have hji:(j:Int) < (m:Int):=by omega
   have hjl:j < l.length:=by omega
   obtain ⟨b,off,rfl,hb,hcell⟩:=HL.out.at j (by simpa using hjl);have hcell' : w.cell? ⟨b,off + j,none⟩=some (.slice l[j].a l[j].L.length l[j].c):=by rw [hcell]; simp [Src.val]
   have BT:=Hd (HT.out j hjl);have t1:=HF.out (j + 1);rw [BT.out,List.length_append] at t1;clear hcell hb;generalize hx:l[j]=x at *;obtain ⟨xa,xL,xc⟩:=x
   dsimp only at hcell' t1 BT
   clear hx;generalize hy:(aR (l.take j)).length=y at *;generalize hz:xL.length=z at *;go_wp2_with fail
   go_round
   case rel=>exact ⟨j + 1,by omega,by go_num,by rw [BT.out,List.length_append,hy,hz]; go_num⟩
   case measure=>simp [intOf]; omega
  ·obtain rfl:j=m:=by omega
   have hji:¬ (j:Int) < (j:Int):=by omega
   have t1:=HF.out j;have hyb:Hid (aR (l.take j)=aR l):=Hd (by rw [List.take_of_length_le (by omega)]);go_wp2_with fail;refine (G.out _ w t1).mono ?_;rintro e w1 ⟨⟨v0,rfl,hv0⟩,b1⟩;have B0:=Hd b1;have O0:=Hd hv0;clear b1 hv0 t1;go_wp2_with fail
   go_loopw [6,27] (fun v i wr=>∃ k:Nat,k≤j∧i=.int .i64 (k:Int)∧wr.ownsRow w.heap.size 9 1 v (aR (l.take k)).length (aR (l.take k))∧Below w.heap.size w wr) (fun _ i _=>j + 1 - (intOf i).toNat)
   case atStart=>exact ⟨0,Nat.zero_le _,rfl,O0.out,B0.out⟩
   case round =>
    obtain ⟨k,hk,rfl,hown,hbel⟩:=hrel
    by_cases hlt2:k < j
    ·have hki:(k:Int) < (j:Int):=by omega
     have hkl:k < l.length:=by omega
     have HB:=Hd hbel;obtain ⟨b,off,rfl,hb,hcell⟩:=(HL.out.below hbel).at k (by simpa using hkl);have hcell' : wr.cell? ⟨b,off + k,none⟩=some (.slice l[k].a l[k].L.length l[k].c):=by rw [hcell]; simp [Src.val]
     have BT:=Hd (HT.out k hkl);have t1:=HF.out (k + 1);rw [BT.out,List.length_append] at t1;obtain ⟨v', w5,hap,hown', hgr⟩:=APP.out wr _ _ _ hown l[k].a l[k].L l[k].c ((HS.out _ (List.getElem_mem hkl)).below hbel) (H1.out _ (List.getElem_mem hkl)) (by unfold maxLen; omega) (by omega) hbel.size;have O5:=Hd hown';have B5:=Hd (hbel.grown hgr hbel.size (fun q hq=>(hown.lt q hq).1));have HA:=Hd hap;clear hcell hb hap hown' hgr hown hbel HB
     go_wp2_with (at_builtin; refine Lib.wpList_append_run _ rfl _ _ _ _ rfl _ _ rfl rfl _ _ HA.out ?_)
     go_roundw
     case rel=>exact ⟨k + 1,by omega,by go_num,by rw [BT.out,List.length_append]; exact O5.out,B5.out⟩
     case measure=>simp [intOf]; omega
    ·obtain rfl:k=j:=by omega
     have hki:¬ (k:Int) < (k:Int):=by omega
     have FIN:Hid (bO w.heap.size 9 (aR l) (.returned _) wr∧Below w.heap.size w wr):=Hd ⟨⟨_,rfl,by rw [← hyb.out]; exact hown⟩,hbel⟩;clear hown hbel;go_wp2_with fail;go_ret;exact FIN.out
theorem TH (al:Option Addr) (cl:Nat) (l:List Src) (w:World) (hl:Rd w al (l.map Src.val)) (hs:∀ s∈l,Rd w s.a s.L) (h1:∀ s∈l,∀ u∈s.L,u.oneCell'=true) (hf:(aR l).length≤100000) (hm:l.length≤1000) :
  Calls Tryz.prog 181 #[.slice al l.length cl] w fun e w' => bO w.heap.size 9 (aR l) e w'∧Below w.heap.size w w' := by
 have C:=Hd (UK al cl l w hl hs h1 hf hm);obtain ⟨m,hm'⟩:∃ m,l.length=m:=⟨_,rfl⟩
 rw [hm'] at C ⊢;clear hl hs h1 hf;go_enter Tryz.func181,Tryz.ntmps181;go_wp2_with fail;refine C.out.mono ?_;rintro e w1 ⟨⟨v0,rfl,hv0⟩,b1⟩;have O0:=Hd hv0;clear hv0;go_wp2_with fail;go_ret;exact ⟨⟨_,rfl,O0.out⟩,b1⟩
theorem UL (al:Option Addr) (cl:Nat) (l:List Src) (w:World) (hl:Rd w al (l.map Src.val)) (hs:∀ s∈l,Rd w s.a s.L) (h1:∀ s∈l,∀ u∈s.L,u.oneCell'=true) (hf:(aR l).length≤100000) (hm:l.length≤1000) :
  Calls Tryz.prog 224 #[.slice al l.length cl] w fun e w' => bO w.heap.size 3 (aR l) e w'∧Below w.heap.size w w' := by
 obtain ⟨i0,hi,hz0,hz1,hz2⟩:=info_parts DY;have HL:=Hd hl;have HS:=Hd hs;have H1:=Hd h1;have HT:=Hd (nB l);have HF:=Hd (fun j=>Nat.le_trans (sI l j) hf);have F0:Hid ((aR (l.take 0)).length=0):=Hd rfl;have G:=Hd (fun n w (h:n≤100000)=>aA7 n w h);have APP:=Hd (fun (wr:World) v n xs hown a L c hr h1 h63 hb hbase=>pF (P:=Tryz.prog) wr w.heap.size 48 48 3 i0 (.int .i64 0) 8 Tryz.underlying48 hi hz0 hz1 hz2 rfl v n xs hown a L c hr h1 h63 hb hbase);obtain ⟨m,hm'⟩:∃ m,l.length=m:=⟨_,rfl⟩
 rw [hm'] at hm ⊢;clear hl hs h1 hf hi hz0 hz1 hz2;go_enter Tryz.func224,Tryz.ntmps224;go_wp2_with fail
 go_loop [3,11] (fun s i=>∃ j:Nat,j≤m∧i=.int .i64 (j:Int)∧s=.int .i64 ((aR (l.take j)).length:Int)) (fun _ i=>m + 1 - (intOf i).toNat)
 case atStart=>exact ⟨0,Nat.zero_le _,rfl,by rw [F0.out]; rfl⟩
 case round =>
  obtain ⟨j,hj,rfl,rfl⟩:=hrel
  by_cases hlt:j < m
  ·have hji:(j:Int) < (m:Int):=by omega
   have hjl:j < l.length:=by omega
   obtain ⟨b,off,rfl,hb,hcell⟩:=HL.out.at j (by simpa using hjl);have hcell' : w.cell? ⟨b,off + j,none⟩=some (.slice l[j].a l[j].L.length l[j].c):=by rw [hcell]; simp [Src.val]
   have BT:=Hd (HT.out j hjl);have t1:=HF.out (j + 1);rw [BT.out,List.length_append] at t1;clear hcell hb;generalize hx:l[j]=x at *;obtain ⟨xa,xL,xc⟩:=x
   dsimp only at hcell' t1 BT
   clear hx;generalize hy:(aR (l.take j)).length=y at *;generalize hz:xL.length=z at *;go_wp2_with fail
   go_round
   case rel=>exact ⟨j + 1,by omega,by go_num,by rw [BT.out,List.length_append,hy,hz]; go_num⟩
   case measure=>simp [intOf]; omega
  ·obtain rfl:j=m:=by omega
   have hji:¬ (j:Int) < (j:Int):=by omega
   have t1:=HF.out j;have hyb:Hid (aR (l.take j)=aR l):=Hd (by rw [List.take_of_length_le (by omega)]);go_wp2_with fail;refine (G.out _ w t1).mono ?_;rintro e w1 ⟨⟨v0,rfl,hv0⟩,b1⟩;have B0:=Hd b1;have O0:=Hd hv0;clear b1 hv0 t1;go_wp2_with fail
   go_loopw [6,27] (fun v i wr=>∃ k:Nat,k≤j∧i=.int .i64 (k:Int)∧wr.ownsRow w.heap.size 3 1 v (aR (l.take k)).length (aR (l.take k))∧Below w.heap.size w wr) (fun _ i _=>j + 1 - (intOf i).toNat)
   case atStart=>exact ⟨0,Nat.zero_le _,rfl,O0.out,B0.out⟩
   case round =>
    obtain ⟨k,hk,rfl,hown,hbel⟩:=hrel
    by_cases hlt2:k < j
    ·have hki:(k:Int) < (j:Int):=by omega
     have hkl:k < l.length:=by omega
     have HB:=Hd hbel;obtain ⟨b,off,rfl,hb,hcell⟩:=(HL.out.below hbel).at k (by simpa using hkl);have hcell' : wr.cell? ⟨b,off + k,none⟩=some (.slice l[k].a l[k].L.length l[k].c):=by rw [hcell]; simp [Src.val]
     have BT:=Hd (HT.out k hkl);have t1:=HF.out (k + 1);rw [BT.out,List.length_append] at t1;obtain ⟨v', w5,hap,hown', hgr⟩:=APP.out wr _ _ _ hown l[k].a l[k].L l[k].c ((HS.out _ (List.getElem_mem hkl)).below hbel) (H1.out _ (List.getElem_mem hkl)) (by unfold maxLen; omega) (by omega) hbel.size;have O5:=Hd hown';have B5:=Hd (hbel.grown hgr hbel.size (fun q hq=>(hown.lt q hq).1));have HA:=Hd hap;clear hcell hb hap hown' hgr hown hbel HB
     go_wp2_with (at_builtin; refine Lib.wpList_append_run _ rfl _ _ _ _ rfl _ _ rfl rfl _ _ HA.out ?_)
     go_roundw
     case rel=>exact ⟨k + 1,by omega,by go_num,by rw [BT.out,List.length_append]; exact O5.out,B5.out⟩
     case measure=>simp [intOf]; omega
    ·obtain rfl:k=j:=by omega
     have hki:¬ (k:Int) < (k:Int):=by omega
     have FIN:Hid (bO w.heap.size 3 (aR l) (.returned _) wr∧Below w.heap.size w wr):=Hd ⟨⟨_,rfl,by rw [← hyb.out]; exact hown⟩,hbel⟩;clear hown hbel;go_wp2_with fail;go_ret;exact FIN.out
theorem aA8 (al:Option Addr) (cl:Nat) (l:List Src) (w:World) (hl:Rd w al (l.map Src.val)) (hs:∀ s∈l,Rd w s.a s.L) (h1:∀ s∈l,∀ u∈s.L,u.oneCell'=true) (hf:(aR l).length≤100000) (hm:l.length≤1000) :
  Calls Tryz.prog 211 #[.slice al l.length cl] w fun e w' => bO w.heap.size 3 (aR l) e w'∧Below w.heap.size w w' := by
 have C:=Hd (UL al cl l w hl hs h1 hf hm);obtain ⟨m,hm'⟩:∃ m,l.length=m:=⟨_,rfl⟩
 rw [hm'] at C ⊢;clear hl hs h1 hf;go_enter Tryz.func211,Tryz.ntmps211;go_wp2_with fail;refine C.out.mono ?_;rintro e w1 ⟨⟨v0,rfl,hv0⟩,b1⟩;have O0:=Hd hv0;clear hv0;go_wp2_with fail;go_ret;exact ⟨⟨_,rfl,O0.out⟩,b1⟩
section
variable {P:Program} {ops:Array Oper} {Q:Exit→Act→World→Prop} {md:Region.Mode}
def iQ (md:Region.Mode) (o:Oper) (j:Nat):Bool:=o.after.any fun e=>Region.binds md e && e.on == j
def qJ (md:Region.Mode) (ops:Array Oper):List Nat→List Nat→Bool
  | _,[]=>true
  | seen,i :: r=>seen.any (fun j=>match ops[j]? with | some o=>iQ md o i | none=>false) && qJ md ops (i :: seen) r
def gX (md:Region.Mode) (f n:Nat):List Oper→Nat→List Nat→Bool
  | [],_,_=>true
  | o :: r,i,seen =>
    (o.after.all fun e=>!Region.binds md e || decide (e.on < i)) &&
    (if i=f then gX md f n r (i + 1) seen
     else match o.dst with
      | none=>gX md f n r (i + 1) seen
      | some d=>!seen.contains d && decide (d < n) && gX md f n r (i + 1) (d :: seen))
def kI (md:Region.Mode) (ops:Array Oper) (f n:Nat):Bool :=
  gX md f n ops.toList 0 [] && (!decide (f < ops.size) || qJ md ops [f] ((List.range ops.size).reverse.filter fun i=>i != f))
def pL (ops:Array Oper) (f t:Nat):Prop:=∀ i o,ops[i]?=some o→i≠f→o.dst≠some t
theorem sX {f n:Nat}:∀ (l:List Oper) (i:Nat) (seen:List Nat),gX md f n l i seen=true→∀ j o,l[j]?=some o→∀ e∈o.after,Region.binds md e=true→e.on < i + j:=by
  intro l
  induction l with
  | nil=>intro i seen _ j o h; simp at h
  | cons p r ih =>
    intro i seen h j o hj e he hb;unfold gX at h;rw [Bool.and_eq_true] at h
    cases j with
    | zero =>
      have:p=o:=by simpa using hj
      subst this;have:=Array.all_eq_true_iff_forall_mem.1 h.1 e he;rw [hb] at this
      simpa using this
    | succ j =>
      have hr:∃ s,gX md f n r (i + 1) s=true:=by
        have h2:=h.2
        split at h2
        · exact ⟨_,h2⟩
        · split at h2
          · exact ⟨_,h2⟩
          · rw [Bool.and_eq_true] at h2; exact ⟨_,h2.2⟩
      obtain ⟨s,hs⟩:=hr;have:=ih (i + 1) s hs j o (by simpa using hj) e he hb;omega
theorem xP {f n:Nat}:∀ (l:List Oper) (i:Nat) (seen:List Nat),gX md f n l i seen=true →
    ∀ j o d,l[j]?=some o→i + j≠f→o.dst=some d→d < n∧d ∉ seen∧∀ k q,k < j→l[k]?=some q→i + k≠f→q.dst≠some d:=by
  intro l
  induction l with
  | nil=>intro i seen _ j o d h; simp at h
  | cons p r ih =>
    intro i seen h j o d hj hf hd;unfold gX at h;rw [Bool.and_eq_true] at h;have h2:=h.2;clear h
    cases j with
    | zero =>
      have:p=o:=by simpa using hj
      subst this;rw [if_neg (by simpa using hf),hd] at h2;simp only [Bool.and_eq_true,Bool.not_eq_true', decide_eq_true_eq] at h2;refine ⟨h2.1.2,?_,fun k q hk=>absurd hk (Nat.not_lt_zero _)⟩;have:=h2.1.1
      simpa using this
    | succ j =>
      have hj' : r[j]?=some o:=by simpa using hj
      by_cases hif:i=f
      · rw [if_pos hif] at h2;obtain ⟨a1,a2,a3⟩:=ih (i + 1) seen h2 j o d hj' (by omega) hd;refine ⟨a1,a2,fun k q hk hq hkf=>?_⟩
        cases k with
        | zero=>exact absurd hif (by simpa using hkf)
        | succ k=>exact a3 k q (by omega) (by simpa using hq) (by omega)
      · rw [if_neg hif] at h2
        cases hpd:p.dst with
        | none =>
          rw [hpd] at h2;obtain ⟨a1,a2,a3⟩:=ih (i + 1) seen h2 j o d hj' (by omega) hd;refine ⟨a1,a2,fun k q hk hq hkf=>?_⟩
          cases k with
          | zero =>
            have:p=q:=by simpa using hq
            subst this;rw [hpd]; simp
          | succ k=>exact a3 k q (by omega) (by simpa using hq) (by omega)
        | some d0 =>
          rw [hpd] at h2;simp only [Bool.and_eq_true] at h2;obtain ⟨a1,a2,a3⟩:=ih (i + 1) (d0 :: seen) h2.2 j o d hj' (by omega) hd;rw [List.mem_cons,not_or] at a2;refine ⟨a1,a2.2,fun k q hk hq hkf=>?_⟩
          cases k with
          | zero =>
            have:p=q:=by simpa using hq
            subst this;rw [hpd];exact fun e=>a2.1 (Option.some.inj e).symm
          | succ k=>exact a3 k q (by omega) (by simpa using hq) (by omega)
theorem EH {f n:Nat} (h:kI md ops f n=true):(∀ i o d,ops[i]?=some o→i≠f→o.dst=some d→d < n)∧∀ i j p q d,ops[i]?=some p→ops[j]?=some q→i≠f→j≠f→p.dst=some d→q.dst=some d→i=j:=by
  unfold kI at h;rw [Bool.and_eq_true] at h;have hs:=xP ops.toList 0 [] h.1
  have key:∀ i o d,ops[i]?=some o→i≠f→o.dst=some d→d < n∧d ∉ ([]:List Nat)∧∀ k q,k < i→ops[k]?=some q→k≠f→q.dst≠some d:=by
    intro i o d hi hf hd;have:=hs i o d (by simpa using hi) (by omega) hd;exact ⟨this.1,this.2.1,fun k q hk hq hkf=>this.2.2 k q hk (by simpa using hq) (by omega)⟩
  refine ⟨fun i o d hi hf hd=>(key i o d hi hf hd).1,fun i j p q d hi hj hif hjf hp hq=>?_⟩
  rcases Nat.lt_trichotomy i j with hlt | heq | hgt
  · exact absurd hp ((key j q d hj hjf hq).2.2 i p hlt hi hif)
  · exact heq
  · exact absurd hq ((key i p d hi hif hp).2.2 j q hgt hj hjf)
theorem vP {f n:Nat} (h:kI md ops f n=true):∀ i o,ops[i]?=some o→∀ e∈o.after,Region.binds md e=true→e.on < i:=by
  unfold kI at h;rw [Bool.and_eq_true] at h;intro i o hi e he hb;have:=sX ops.toList 0 [] h.1 i o (by simpa using hi) e he hb;omega
theorem wF {listed:Array Bool} {f:Nat} (hc:∀ i o,ops[i]?=some o→listed.getD i false=true→∀ e∈o.after,Region.binds md e=true→listed.getD e.on false=true)
    (hf:∀ o,ops[f]?=some o→∀ e∈o.after,Region.binds md e=true→listed.getD e.on false=true) :
    ∀ (todo seen:List Nat),qJ md ops seen todo=true→(∀ j∈seen,j=f∨listed.getD j false=true)→∀ i∈todo,listed.getD i false=true:=by
  intro todo
  induction todo with
  | nil=>intro seen _ _ i hi; cases hi
  | cons t r ih =>
    intro seen h hs i hi;unfold qJ at h;rw [Bool.and_eq_true] at h
    have ht:listed.getD t false=true:=by
      obtain ⟨j,hj,hw⟩:=List.any_eq_true.1 h.1
      cases ho:ops[j]? with
      | none=>rw [ho] at hw; cases hw
      | some o =>
        rw [ho] at hw;obtain ⟨k,hk,he⟩:=Array.any_eq_true.1 hw;rw [Bool.and_eq_true,beq_iff_eq] at he
        rcases hs j hj with rfl | hl
        · have:=hf o ho _ (Array.getElem_mem hk) he.1;rwa [he.2] at this
        · have:=hc j o ho hl _ (Array.getElem_mem hk) he.1;rwa [he.2] at this
    rcases List.mem_cons.1 hi with rfl | hi
    · exact ht
    · exact ih (t :: seen) h.2 (fun j hj=>by rcases List.mem_cons.1 hj with rfl | hj; exact .inr ht; exact hs j hj) i hi
structure ZP (md:Region.Mode) (ops:Array Oper) (f:Nat) (I:Nat→Value→World→Prop) (S:World→Prop) (a0:Act) (b:Array Bool) (a:Act) (w:World):Prop where
  s:S w
  size:a.tmps.size=a0.tmps.size
  defers:a.defers=a0.defers
  old:∀ t,pL ops f t→a.tmps.getD t undef=a0.tmps.getD t undef
  bsize:b.size=ops.size
  closed:∀ i o,ops[i]?=some o→b.getD i false=true→∀ e∈o.after,Region.binds md e=true→b.getD e.on false=true
  done:∀ i o d,ops[i]?=some o→i≠f→b.getD i false=true→o.dst=some d→I i (a.tmps.getD d undef) w
def ZN (P:Program) (md:Region.Mode) (ops:Array Oper) (f:Nat) (Q:Exit→Act→World→Prop) (I:Nat→Value→World→Prop) (S:World→Prop) (R:World→World→Prop) (a0:Act) (i:Nat):Prop :=
  ∀ o,ops[i]?=some o→∀ a w,S w→(∀ t,pL ops f t→a.tmps.getD t undef=a0.tmps.getD t undef) →
    (∀ j q d,ops[j]?=some q→iQ md o j=true→q.dst=some d→I j (a.tmps.getD d undef) w) →
    ∀ K:Act→World→Prop,(∀ v w', I i v w'→R w w'→K (a.put o.dst v) w')→if Region.wanted o (yielded ops a.tmps)=true then Oper.wp P o a w K Q else K (a.put o.dst undef) w
theorem mQ (b:Array Bool) (i:Nat) (h:i < b.size):(b.setIfInBounds i true).getD i false=true:=by
  rw [Array.getD_eq_getD_getElem?,Array.getElem?_setIfInBounds]; simp [h]
theorem eI (b:Array Bool) (i j:Nat) (h:i≠j) (z:Bool):(b.setIfInBounds i true).getD j z=b.getD j z:=by
  rw [Array.getD_eq_getD_getElem?,Array.getD_eq_getD_getElem?,Array.getElem?_setIfInBounds_ne h]
theorem cX {b:Array Bool} {i:Nat} (h:b.getD i true=false):b.getD i false=false∧i < b.size:=by
  rw [Array.getD_eq_getD_getElem?] at h ⊢
  by_cases hi:i < b.size
  · rw [Array.getElem?_eq_getElem hi] at h ⊢;exact ⟨h,hi⟩
  · rw [Array.getElem?_eq_none (by omega)] at h
    cases h
theorem OR {o:Oper} {j:Nat} (h:iQ md o j=true):∃ e∈o.after,Region.binds md e=true∧e.on=j:=by
  obtain ⟨k,hk,he⟩:=Array.any_eq_true.1 h;rw [Bool.and_eq_true,beq_iff_eq] at he;exact ⟨_,Array.getElem_mem hk,he.1,he.2⟩
def pM (b:Array Bool):Nat:=b.toList.countP id
theorem KG {b:Array Bool} {i:Nat} (h:b.getD i true=false):pM (b.setIfInBounds i true)=pM b + 1:=by
  obtain ⟨hf,hi⟩:=cX h
  have hv:b.toList[i]'(by simpa using hi)=false:=by
    rw [Array.getD_eq_getD_getElem?,Array.getElem?_eq_getElem hi] at hf
    simpa using hf
  unfold pM;rw [Array.toList_setIfInBounds,List.countP_set (by simpa using hi),hv];simp
theorem KH {b:Array Bool} (h:pM b=b.size) (i:Nat) (hi:i < b.size):b.getD i false=true:=by
  unfold pM at h;have:=(List.countP_eq_length.1 (by rw [h,Array.length_toList])) (b.toList[i]'(by simpa using hi)) (List.getElem_mem _)
  rw [Array.getD_eq_getD_getElem?,Array.getElem?_eq_getElem hi]
  simpa using this
theorem NN {f n i:Nat} {I:Nat→Value→World→Prop} {S:World→Prop} {R:World→World→Prop} {a0:Act} {b:Array Bool} {a:Act} {w:World} (hok:kI md ops f n=true) (hn:a0.tmps.size=n)
    (hI:∀ j v w w', I j v w→R w w'→I j v w') (hS:∀ w w', S w→R w w'→S w') (h:ZP md ops f I S a0 b a w) {o:Oper} (ho:ops[i]?=some o) (hif:i≠f) (hr:i∈Region.ready md ops b) {v:Value} {w' : World} (hv:I i v w') (hR:R w w') :
    ZP md ops f I S a0 (b.setIfInBounds i true) (a.put o.dst v) w' := by
  obtain ⟨hd1,hd2⟩:=EH hok;obtain ⟨hun,o', ho', hall⟩:=mem_ready.1 hr;rw [ho] at ho';obtain rfl:=Option.some.inj ho';obtain ⟨hbf,hbi⟩:=cX hun
  have hput:∀ t,o.dst≠some t→(a.put o.dst v).tmps.getD t undef=a.tmps.getD t undef:=by
    intro t ht
    cases hd:o.dst with
    | none=>rfl
    | some d =>
      rw [hd] at ht;simp only [Act.put];rw [Array.getD_eq_getD_getElem?,Array.getD_eq_getD_getElem?,Array.getElem?_setIfInBounds_ne (fun e=>ht (by rw [e]))]
  refine { s:=hS _ _ h.s hR,size:=?_,defers:=?_,old:=fun t ht=>?_,bsize:=by simpa using h.bsize,closed:=?_,done:=?_ }
  · cases o.dst <;> simp [Act.put,h.size]
  · cases o.dst <;> simp [Act.put,h.defers]
  · rw [hput t (ht i o ho hif)]; exact h.old t ht
  · intro k q hk hl e he hb
    have hne:∀ j,b.getD j false=true→(b.setIfInBounds i true).getD j false=true:=fun j hj=>by
      by_cases hij:i=j
      · subst hij; exact mQ b i hbi
      · rw [eI b i j hij]; exact hj
    by_cases hik:i=k
    · subst hik;rw [ho] at hk;obtain rfl:=Option.some.inj hk;exact hne _ (hall e he hb)
    · rw [eI b i k hik] at hl;exact hne _ (h.closed k q hk hl e he hb)
  · intro k q d hk hkf hl hd
    by_cases hik:i=k
    · subst hik;rw [ho] at hk;obtain rfl:=Option.some.inj hk;have hlt:=hd1 i o d ho hif hd;rw [hd]
      have:((a.put (some d) v).tmps.getD d undef)=v:=by
        simp only [Act.put];rw [Array.getD_eq_getD_getElem?,Array.getElem?_setIfInBounds];simp [h.size,hn,hlt]
      rw [this];exact hv
    · rw [eI b i k hik] at hl;rw [hput d (fun e=>hik (hd2 i k o q d ho hk hif hkf e hd))];exact hI _ _ _ _ (h.done k q d hk hkf hl hd) hR
def aBV (P:Program) (md:Region.Mode) (ops:Array Oper) (f:Nat) (Q:Exit→Act→World→Prop) (I:Nat→Value→World→Prop) (S:World→Prop) (a0:Act):Prop :=
  ∀ a w,S w→a.tmps.size=a0.tmps.size→a.defers=a0.defers→(∀ t,pL ops f t→a.tmps.getD t undef=a0.tmps.getD t undef)→(∀ i o d,ops[i]?=some o→i≠f→o.dst=some d→I i (a.tmps.getD d undef) w) →
    match ops[f]? with
    | none=>Q .normal a w
    | some o=>∀ K:Act→World→Prop,(∀ a w,Q .normal a w→K a w)→if Region.wanted o (yielded ops a.tmps)=true then Oper.wp P o a w K Q else K (a.put o.dst undef) w
theorem tV {b:Array Bool} (h:∀ i,i < ops.size→b.getD i false=true):Region.ready md ops b=[]:=by
  apply List.eq_nil_iff_forall_not_mem.2;intro i hi;obtain ⟨hun,o,ho,_⟩:=mem_ready.1 hi;obtain ⟨hf,hb⟩:=cX hun;rw [h i (zl ho)] at hf
  cases hf
theorem JS {n:Nat} {b:Array Bool} {a:Act} {w:World} (h:∀ i,i < ops.size→b.getD i false=true) (hq:Q .normal a w):wpAny P md ops Q n b a w:=by
  have hr:=tV (md:=md) h
  cases n with
  | zero=>exact ⟨hr,hq⟩
  | succ n=>exact ⟨fun _=>hq,fun i hi=>(by rw [hr] at hi; cases hi)⟩
theorem TU {f n:Nat} {I:Nat→Value→World→Prop} {S:World→Prop} {R:World→World→Prop} {a0:Act} (hok:kI md ops f n=true) (hn:a0.tmps.size=n)
    (hI:∀ j v w w', I j v w→R w w'→I j v w') (hS:∀ w w', S w→R w w'→S w') (owes:∀ i,i < ops.size→i≠f→ZN P md ops f Q I S R a0 i) (ends:aBV P md ops f Q I S a0) :
    ∀ (m:Nat) (b:Array Bool) (a:Act) (w:World),ZP md ops f I S a0 b a w→(f < ops.size→b.getD f true=false)→pM b + m=ops.size→wpAny P md ops Q m b a w:=by
  have haft:=vP hok
  have some_ready:∀ (b:Array Bool),b.size=ops.size→∀ i,i < ops.size→b.getD i false=false→Region.ready md ops b≠[]:=by
    intro b hb i
    induction i using Nat.strongRecOn with
    | _ i ih =>
      intro hi hf
      by_cases hall:∀ e∈(ops[i]'hi).after,Region.binds md e=true→b.getD e.on false=true
      · intro hr
        have hm:i∈Region.ready md ops b:=mem_ready.2 ⟨by
          rw [Array.getD_eq_getD_getElem?,Array.getElem?_eq_getElem (by omega)] at hf ⊢; simpa using hf,ops[i],Array.getElem?_eq_getElem hi,hall⟩
        rw [hr] at hm; cases hm
      · simp only [Classical.not_forall] at hall;obtain ⟨e,he,hbi,hne⟩:=hall;have hlt:=haft i ops[i] (Array.getElem?_eq_getElem hi) e he hbi;exact ih e.on hlt (by omega) (by simpa using hne)
  have fin:∀ (b:Array Bool) (a:Act) (w:World),ZP md ops f I S a0 b a w→(∀ i,i < ops.size→i≠f→b.getD i false=true)→match ops[f]? with
    | none=>Q .normal a w
    | some o=>∀ K:Act→World→Prop,(∀ a w,Q .normal a w→K a w)→if Region.wanted o (yielded ops a.tmps)=true then Oper.wp P o a w K Q else K (a.put o.dst undef) w:=fun b a w h hall =>
    ends a w h.s h.size h.defers h.old fun i o d hi hif hd=>h.done i o d hi hif (hall i (zl hi) hif) hd
  intro m
  induction m with
  | zero =>
    intro b a w h hf ht;have hall:=KH (b:=b) (by rw [h.bsize]; omega);rw [h.bsize] at hall
    have hnf:¬ f < ops.size:=fun hlt=>by
      have h1:=hf hlt;have h2:=hall f hlt;rw [(cX h1).1] at h2; cases h2
    have:=fin b a w h fun i hi _=>hall i hi
    rw [Array.getElem?_eq_none (by omega)] at this;exact ⟨tV hall,this⟩
  | succ m ih =>
    intro b a w h hf ht;refine ⟨fun hr=>?_,fun i hi=>?_⟩
    · have hall:∀ i,i < ops.size→b.getD i false=true:=fun i hi=>by
        cases hb:b.getD i false with
        | true=>rfl
        | false=>exact absurd hr (some_ready b h.bsize i hi hb)
      have hnf:¬ f < ops.size:=fun hlt=>by
        have h1:=hf hlt;have h2:=hall f hlt;rw [(cX h1).1] at h2; cases h2
      have:=fin b a w h fun i hi _=>hall i hi
      rw [Array.getElem?_eq_none (by omega)] at this;exact this
    · obtain ⟨hun,o,ho,hall⟩:=mem_ready.1 hi;have hilt:i < ops.size:=(zl ho)
      by_cases hif:i=f
      · subst hif
        have hlisted:∀ k,k < ops.size→k≠i→b.getD k false=true:=by
          have hc:=hok;unfold kI at hc;rw [Bool.and_eq_true] at hc;have hc2:=hc.2;rw [show decide (i < ops.size)=true from by simpa using hilt] at hc2;simp only [Bool.not_true,Bool.false_or] at hc2;have:=wF (listed:=b) (f:=i) h.closed (fun o' ho' => by rw [ho] at ho'; obtain rfl:=Option.some.inj ho'; exact hall) _ _ hc2 (fun j hj=>by simp at hj; exact .inl hj);intro k hk hki;exact this k (by simp [hk,hki])
        have hfin:=fin b a w h hlisted;rw [ho] at hfin;refine wpOp_step ho fun K hK=>hfin K fun a2 w2 hq=>hK a2 w2 (JS (fun k hk=>?_) hq)
        by_cases hki:i=k
        · subst hki; exact mQ b i (by rw [h.bsize]; exact hk)
        · rw [eI b i k hki]; exact hlisted k hk (Ne.symm hki)
      · refine wpOp_step ho fun K hK=>owes i hilt hif o ho a w h.s h.old (fun j q d hj hw hd=>?_) K fun v w' hv hR=>hK _ _ (ih _ _ _ (NN hok hn hI hS h ho hif hi hv hR) (fun hlt=>?_) ?_)
        · obtain ⟨e,he,hb,rfl⟩:=OR hw
          by_cases hjf:e.on=f
          · have h1:=hall e he hb;rw [hjf] at h1;have hlt:f < ops.size:=by rw [← hjf]; exact (zl hj)
            rw [(cX (hf hlt)).1] at h1; cases h1
          · exact h.done e.on q d hj hjf (hall e he hb) hd
        · rw [eI b i f hif]; exact hf hlt
        · rw [KG hun]; omega
theorem yB (f n:Nat) (I:Nat→Value→World→Prop) (S:World→Prop) (R:World→World→Prop) {id:Nat} {a:Act} {w:World} (hm:P.follows .mixedOrders=true) (hok:kI .any ops f n=true) (hn:a.tmps.size=n)
    (hI:∀ j v w w', I j v w→R w w'→I j v w') (hS:∀ w w', S w→R w w'→S w') (hs:S w.drew) (owes:∀ i,i < ops.size→i≠f→ZN P .any ops f Q I S R a i) (ends:aBV P .any ops f Q I S a):(Code.region id ops true).wp P Q a w:=by
  refine wp_region_any hm (TU hok hn hI hS owes ends ops.size _ a _ ?_ ?_ ?_)
  · refine { s:=hs,size:=rfl,defers:=rfl,old:=fun _ _=>rfl,bsize:=by simp,closed:=?_,done:=?_ }
    · intro i o _ hl;rw [Array.getD_eq_getD_getElem?] at hl
      by_cases hi:i < ops.size
      · simp [Array.getElem?_replicate,hi] at hl
      · simp [Array.getElem?_replicate,hi] at hl
    · intro i o d _ _ hl;rw [Array.getD_eq_getD_getElem?] at hl
      by_cases hi:i < ops.size
      · simp [Array.getElem?_replicate,hi] at hl
      · simp [Array.getElem?_replicate,hi] at hl
  · intro hlt;rw [Array.getD_eq_getD_getElem?];simp [Array.getElem?_replicate,hlt]
  · have:pM (Array.replicate ops.size false)=0:=by
      unfold pM;rw [Array.toList_replicate,List.countP_eq_zero];intro a ha;rw [List.mem_replicate] at ha;simp [ha.2]
    omega
end
structure SP where
  p:Value→World→Prop
  st:∀ v w w', p v w→Below w.heap.size w w'→p v w'
def eqV (x:Value):SP:=⟨fun v _=>v=x,fun _ _ _ h _=>h⟩
def pG:SP:=⟨fun _ _=>True,fun _ _ _ h _=>h⟩
def mU (lo:Nat) (L:List Value):SP:=⟨fun v w=>∃ a c,v=.slice a L.length c∧Rd w a L∧L.length≤c∧c≤maxLen∧∀ x,a=some x→lo≤x.block,fun _ _ _ ⟨a,c,h1,h2,h3,h4,h5⟩ hb=>⟨a,c,h1,h2.below hb,h3,h4,h5⟩⟩
theorem dA {w:World} {base lo:Nat} {T:TypeId} {L:List Value} {v:Value} (h:w.ownsRow base T 1 v L.length L) (hlo:lo≤base):(mU lo L).p v w:=by
  obtain ⟨a,c,h1,h2,h3,h4⟩:=Rd.own h
  refine ⟨a,c,h1,h2,h3,h4,fun x hx=>?_⟩
  subst hx
  exact Nat.le_trans hlo (h.lt x.block (by rw [h1]; rfl)).1
theorem Rd.set {w:World} {a:Option Addr} {L:List Value} (h:Rd w a L) (p:Addr) (v:Value) (hne:∀ x,a=some x→p.block < x.block):Rd (w.setCell p v) a L:=by
  rcases h with h | ⟨b,off,rfl,h2,h3⟩
  · exact .inl h
  · have hb:b≠p.block:=fun e=>by have h9:p.block < b:=hne _ rfl; omega
    refine .inr ⟨b,off,rfl,by simpa [World.setCell] using h2,fun i u hu=>?_⟩
    rw [← h3 i u hu]
    exact World.cell?_of_block (Below.heap_setCell _ _ _ _ hb)
theorem Rd.set4 {w:World} {a:Option Addr} {L:List Value} (h:Rd w a L) (r:Nat) (v0 v1 v2 v3:Value) (hne:∀ x,a=some x→r < x.block):Rd ((((w.setCell ⟨r,0,none⟩ v0).setCell ⟨r,1,none⟩ v1).setCell ⟨r,2,none⟩ v2).setCell ⟨r,3,none⟩ v3) a L :=
  (((h.set _ _ hne).set _ _ hne).set _ _ hne).set _ _ hne
theorem jV (x:Addr):x.add 0=x:=by obtain ⟨b,o,s⟩:=x; cases s <;> simp [Addr.add]
def oG (L:List Value):SP:=⟨fun v w=>∃ a,v=.slice a L.length L.length∧Rd w a L,fun _ _ _ ⟨a,h1,h2⟩ hb=>⟨a,h1,h2.below hb⟩⟩
def uH (x y:Value) (L:List Value):SP:=⟨fun v w=>∃ a a5,v=.slice a 3 3∧Rd w a [x,.slice a5 L.length L.length,y]∧Rd w a5 L,fun _ _ _ ⟨a,a5,h1,h2,h3⟩ hb=>⟨a,a5,h1,h2.below hb,h3.below hb⟩⟩
theorem Rd.made (w:World) (cs:Array Value) (T:TypeId):Rd (w.alloc (.cells cs T)) (some ⟨w.heap.size,0,none⟩) cs.toList:=by
  refine .inr ⟨w.heap.size,0,rfl,by simp,fun i u hu=>?_⟩
  rw [cob (han w _)]
  simpa using hu
theorem aB (w:World) (o:Obj):Below w.heap.size w (w.alloc o):=(Below.refl _ _).alloc (Nat.le_refl _) _
def qP (f t:Nat):List Oper→Nat→Bool
  | [],_=>true
  | o :: r,i=>(i == f || o.dst != some t) && qP f t r (i + 1)
theorem JZ {f t:Nat}:∀ (l:List Oper) (i:Nat),qP f t l i=true→∀ j o,l[j]?=some o→i + j≠f→o.dst≠some t:=by
  intro l
  induction l with
  | nil=>intro i _ j o h; simp at h
  | cons p r ih =>
    intro i h j o hj hf
    unfold qP at h
    rw [Bool.and_eq_true] at h
    cases j with
    | zero =>
      have:p=o:=by simpa using hj
      subst this
      have h1:=h.1
      rw [Bool.or_eq_true] at h1
      rcases h1 with h1 | h1
      · exact absurd (eq_of_beq h1) (by simpa using hf)
      · simpa using h1
    | succ j=>exact ih (i + 1) h.2 j o (by simpa using hj) (by omega)
theorem gQ {ops:Array Oper} {f t:Nat} (h:qP f t ops.toList 0=true):pL ops f t:=fun i o hi hf=>JZ ops.toList 0 h i o (by simpa using hi) (by omega)
section
variable {P:Program} {ops:Array Oper} {Q:Exit→Act→World→Prop} {md:Region.Mode}
def kit (l:List SP) (i:Nat) (v:Value) (w:World):Prop:=(l.getD i pG).p v w
def OwesAll (P:Program) (ops:Array Oper) (f:Nat) (Q:Exit→Act→World→Prop) (l:List SP) (w0:World) (a0:Act) (k n:Nat):Prop :=
  ∀ i,k≤i→i < n→i≠f→ZN P .any ops f Q (kit l) (fun w=>Below w0.heap.size w0 w) (fun w w' => Below w.heap.size w w') a0 i
theorem OwesAll.nil {f n:Nat} {l:List SP} {w0:World} {a0:Act}:OwesAll P ops f Q l w0 a0 n n:=fun i h1 h2=>absurd h2 (Nat.not_lt.2 h1)
theorem OwesAll.skip {f n:Nat} {l:List SP} {w0:World} {a0:Act} (h:OwesAll P ops f Q l w0 a0 (f + 1) n):OwesAll P ops f Q l w0 a0 f n:=fun i h1 h2 h3=>h i (by omega) h2 h3
theorem OwesAll.cons {f k n:Nat} {l:List SP} {w0:World} {a0:Act} (h0:ZN P .any ops f Q (kit l) (fun w=>Below w0.heap.size w0 w) (fun w w' => Below w.heap.size w w') a0 k) (h:OwesAll P ops f Q l w0 a0 (k + 1) n):OwesAll P ops f Q l w0 a0 k n:=fun i h1 h2 h3=>by
  by_cases hk:i=k
  · rw [hk]; exact h0
  · exact h i (by omega) h2 h3
theorem fF (f n:Nat) (l:List SP) {id:Nat} {a:Act} {w:World} (hm:P.follows .mixedOrders=true) (hok:kI .any ops f n=true) (hn:a.tmps.size=n)
    (owes:OwesAll P ops f Q l w a 0 ops.size) (ends:aBV P .any ops f Q (kit l) (fun w' => Below w.heap.size w w') a):(Code.region id ops true).wp P Q a w :=
  yB f n (kit l) (fun w' => Below w.heap.size w w') (fun w w' => Below w.heap.size w w') hm hok hn (fun j v w1 w2 h hb=>(l.getD j pG).st v w1 w2 h hb) (fun w1 w2 h hb=>chain h hb) ((Below.refl _ _).drew)
    (fun i hi hf=>owes i (Nat.zero_le _) hi hf) ends
theorem aCV {l:List SP} {o q:Oper} {a:Act} {w:World} {d:Nat} (h:∀ j q d,ops[j]?=some q→iQ md o j=true→q.dst=some d→kit l j (a.tmps.getD d undef) w) (j:Nat) (hq:ops[j]?=some q) (hd:q.dst=some d) (hw:iQ md o j=true):(l.getD j pG).p (a.tmps.getD d undef) w:=h j q d hq hw hd
end
section
variable {P:Program} {ops:Array Oper} {Q:Exit→Act→World→Prop}
theorem gd (a:Act) (t:Nat):a.tmps.getD t undef=a.tmps[t]?.getD undef:=Array.getD_eq_getD_getElem? ..
theorem OwesAll.op {f k n:Nat} {l:List SP} {w0:World} {a0:Act} {o:Oper} {r:List Oper} (ho:ops.toList.drop k=o :: r)
    (h0:∀ a w,Below w0.heap.size w0 w→(∀ t,pL ops f t→a.tmps[t]?.getD undef=a0.tmps.getD t undef)→(∀ j q d,ops[j]?=some q→iQ .any o j=true→q.dst=some d→kit l j (a.tmps[d]?.getD undef) w) →
      ∀ K:Act→World→Prop,Hid (∀ v w', kit l k v w'→Below w.heap.size w w'→K (a.put o.dst v) w')→if Region.wanted o (yielded ops a.tmps)=true then Oper.wp P o a w K Q else K (a.put o.dst undef) w)
    (h:OwesAll P ops f Q l w0 a0 (k + 1) n):OwesAll P ops f Q l w0 a0 k n:=by
  refine OwesAll.cons ?_ h
  intro o' ho' a w hS hold hdep K hK
  have e:ops[k]?=some o:=by
    have:=congrArg (·[0]?) ho
    simpa using this
  rw [e] at ho'
  injection ho' with ho'
  subst ho'
  exact h0 a w hS (fun t ht=>by rw [← gd]; exact hold t ht) (fun j q d h1 h2 h3=>by rw [← gd]; exact hdep j q d h1 h2 h3) K (Lib.hid hK)
theorem dp {l:List SP} {o q:Oper} {a:Act} {w:World} {d:Nat} (h:∀ j q d,ops[j]?=some q→iQ .any o j=true→q.dst=some d→kit l j (a.tmps[d]?.getD undef) w) (j:Nat) (hq:ops[j]?=some q) (hd:q.dst=some d) (hw:iQ .any o j=true):(l.getD j pG).p (a.tmps[d]?.getD undef) w:=h j q d hq hw hd
end
section
variable {P:Program} {ops:Array Oper} {Q:Exit→Act→World→Prop}
theorem Fp {f:Nat} (k:Nat) {n:Nat} {l:List SP} {w0:World} {a0:Act} {o:Oper} {r:List Oper}
    (h0:∀ a w,Below w0.heap.size w0 w→(∀ t,pL ops f t→a.tmps[t]?.getD undef=a0.tmps.getD t undef)→(∀ j q d,ops[j]?=some q→iQ .any o j=true→q.dst=some d→kit l j (a.tmps[d]?.getD undef) w) →
      ∀ K:Act→World→Prop,Hid (∀ v w', kit l k v w'→Below w.heap.size w w'→K (a.put o.dst v) w')→if Region.wanted o (yielded ops a.tmps)=true then Oper.wp P o a w K Q else K (a.put o.dst undef) w)
    (h:OwesAll P ops f Q l w0 a0 (k + 1) n) (ho:ops.toList.drop k=o :: r:=by exact rfl):OwesAll P ops f Q l w0 a0 k n:=OwesAll.op ho h0 h
theorem Fo {f:Nat} (k:Nat) {n:Nat} {l:List SP} {w0:World} {a0:Act} {o:Oper} {r:List Oper}
    (h0:∀ a w,Below w0.heap.size w0 w→(∀ t,pL ops f t→a.tmps[t]?.getD undef=a0.tmps.getD t undef)→(∀ j q d,ops[j]?=some q→iQ .any o j=true→q.dst=some d→kit l j (a.tmps[d]?.getD undef) w) →
      ∀ K:Act→World→Prop,Hid (∀ v w', kit l k v w'→Below w.heap.size w w'→K (a.put o.dst v) w')→Oper.wp P o a w K Q)
    (h:OwesAll P ops f Q l w0 a0 (k + 1) n) (ho:ops.toList.drop k=o :: r:=by exact rfl) (hw:∀ t,Region.wanted o (yielded ops t)=true:=by intro t; rfl):OwesAll P ops f Q l w0 a0 k n:=OwesAll.op ho (fun a w h1 h2 h3 K hK=>by rw [if_pos (hw _)]; exact h0 a w h1 h2 h3 K hK) h
theorem Hr {l:List SP} {k:Nat} {a:Act} {d:Option Tmp} {w:World} {v:Value} {K:Act→World→Prop} (HK:Hid (∀ v w', kit l k v w'→Below w.heap.size w w'→K (a.put d v) w')) (h:kit l k v w:=by exact rfl):K (a.put d v) w:=HK.out v w h (Below.refl _ _)
theorem Fl {f:Nat} {a a0:Act} {v:Value} {r:List Value} (h:∀ t,pL ops f t→a.tmps[t]?.getD undef=a0.tmps.getD t undef) (t:Nat) (hu:qP f t ops.toList 0=true:=by kernel_rfl) (hv:a0.tmps.toList.drop t=v :: r:=by exact rfl):a.tmps[t]?.getD undef=v:=by
  rw [h t (gQ hu),Array.getD_eq_getD_getElem?]
  have e:a0.tmps.toList[t]?=some v:=by
    have:=congrArg (·[0]?) hv
    simpa using this
  rw [← Array.getElem?_toList,e]
  rfl
theorem Fr {l:List SP} {o q:Oper} {a:Act} {w:World} {d:Nat} (h:∀ j q d,ops[j]?=some q→iQ .any o j=true→q.dst=some d→kit l j (a.tmps[d]?.getD undef) w) (j:Nat) (hq:ops[j]?=some q:=by exact rfl) (hd:q.dst=some d:=by exact rfl) (hw:iQ .any o j=true:=by kernel_rfl):(l.getD j pG).p (a.tmps[d]?.getD undef) w:=h j q d hq hw hd
theorem Fq {l:List SP} {o q:Oper} {a:Act} {w:World} {d:Nat} {v:Value} (h:∀ j q d,ops[j]?=some q→iQ .any o j=true→q.dst=some d→kit l j (a.tmps[d]?.getD undef) w) (j:Nat) (hq:ops[j]?=some q:=by exact rfl) (hd:q.dst=some d:=by exact rfl) (hw:iQ .any o j=true:=by kernel_rfl) (he:l.getD j pG=eqV v:=by exact rfl):a.tmps[d]?.getD undef=v:=by
  have:=h j q d hq hw hd
  unfold kit at this
  rw [he] at this
  exact this
end
def yV (lo:Nat) (LK LV:List Value):SP:=⟨fun v w=>∃ xa xb xc xd,v=.agg #[.bool true,.slice xa LK.length xc,.slice xb LV.length xd,.slice none 0 0]∧Rd w xa LK∧Rd w xb LV∧LK.length≤xc∧xc≤maxLen∧LV.length≤xd∧xd≤maxLen∧(∀ x,xa=some x→lo≤x.block)∧∀ x,xb=some x→lo≤x.block,
 fun _ _ _ ⟨xa,xb,xc,xd,h,q1,q2,q⟩ hb=>⟨xa,xb,xc,xd,h,q1.below hb,q2.below hb,q⟩⟩
def kK (lo:Nat) (LK LV:List Value) (e:Ending) (w' : World):Prop:=∃ v,e=.returned v∧(yV lo LK LV).p v w'
theorem XP (ak av ac a1 a2 a3 a4:Option Addr) (ck cv cc lk lc p:Nat) (key:Int) (v:ByteArray) (LK LV:List Value) (w:World)
  (WH:Hid (∀ w,Calls Tryz.prog 179 #[.agg #[.bool true,.slice ak lk ck,.slice av lk cv,.slice ac lc cc]] w fun e w' => e=.returned (.bool true)∧Below w.heap.size w w'))
  (FI:Hid (∀ w1,Below w.heap.size w w1→Calls Tryz.prog 177 #[.agg #[.bool true,.slice ak lk ck,.slice av lk cv,.slice ac lc cc],.int .u64 key] w1 fun e w' => e=.returned (.tuple #[.int .i64 (p:Int),.bool false])∧Below w1.heap.size w1 w'))
  (S1:Hid (sliced ak 0 p ck 1=.slice a1 p ck)) (S2:Hid (sliced ak p lk ck 1=.slice a2 (lk - p) (ck - p))) (S3:Hid (sliced av 0 p cv 1=.slice a3 p cv)) (S4:Hid (sliced av p lk cv 1=.slice a4 (lk - p) (cv - p)))
  (CK:Hid (∀ wx a m,Below w.heap.size w wx→Rd wx a [.slice a1 p ck,.slice m 1 1,.slice a2 (lk - p) (ck - p)]→Rd wx m [bS key]→Calls Tryz.prog 180 #[.slice a 3 3] wx fun e w' => bO wx.heap.size 30 LK e w'∧Below wx.heap.size wx w'))
  (CV:Hid (∀ wx a m,Below w.heap.size w wx→Rd wx a [.slice a3 p cv,.slice m 1 1,.slice a4 (lk - p) (cv - p)]→Rd wx m [.string v]→Calls Tryz.prog 181 #[.slice a 3 3] wx fun e w' => bO wx.heap.size 9 LV e w'∧Below wx.heap.size wx w'))
  (h1:p≤lk) (h2:p≤lk) (h4:lk≤ck) (h5:lk≤cv) (h6:lk≤1000) :
  Calls Tryz.prog 187 #[.agg #[.bool true,.slice ak lk ck,.slice av lk cv,.slice ac lc cc],.int .u64 key,.string v] w fun e w' => kK w.heap.size LK LV e w'∧Below w.heap.size w w' := by
 have i1:(p:Int)≤(ck:Int):=by omega
 have i2:(p:Int)≤(lk:Int):=by omega
 have i3:(p:Int)≤(cv:Int):=by omega
 have i4:(p:Int)≤(lk:Int):=by omega
 have i5:(p:Int)≤1000:=by omega
 go_enter Tryz.func187,Tryz.ntmps187;go_wp2_with fail;refine (WH.out _).mono ?_;rintro e w1 ⟨rfl,b1⟩;have X1:=kept (han (w.alloc _) _) b1;have Y1:=kept (show ((w.alloc (.cells #[.bool true,.slice ak lk ck,.slice av lk cv,.slice ac lc cc] 206)).alloc (.cells #[.bool false,.slice none 0 0,.slice none 0 0,.slice none 0 0] 206)).heap[w.heap.size]?=some (.cells #[.bool true,.slice ak lk ck,.slice av lk cv,.slice ac lc cc] 206) from (hao _ _ (by simp)).trans (han w _)) b1
 have B1:Below w.heap.size w w1:=((Br.alloc (Nat.le_refl _) _).alloc (by simp) _).trans (b1.mono (by simp; omega));have k0:=cl Y1 0 rfl;have k1:=cl Y1 1 rfl;have k2:=cl Y1 2 rfl;have k3:=cl Y1 3 rfl;have XH:=Hd X1;have YH:=Hd Y1;have BH:=Hd B1;clear b1 X1 Y1 B1;go_wp2_with fail;refine (FI.out _ BH.out).mono ?_;rintro e w2 ⟨rfl,b2⟩;have X2:=kept XH.out b2;have Y2:=kept YH.out b2;have B2:=Hd (chain BH.out b2);clear XH YH BH k0 k1 k2 k3 b2;have lt0:w.heap.size < w2.heap.size:=(zl Y2);have c1:=cl Y2 1 rfl;have c2:=cl Y2 2 rfl
 have X:=Hd X2;have Y:=Hd Y2;clear X2 Y2 FI WH;go_wp2_with fail
 refine fF 25 54 [eqV (.pointer (some ⟨w.heap.size,1,none⟩)),eqV (.slice ak lk ck),eqV (.int .i64 (p:Int)),eqV (.slice a1 p ck),eqV (.int .u64 key),oG [bS key],eqV (.pointer (some ⟨w.heap.size,1,none⟩)),eqV (.slice ak lk ck),eqV (.int .i64 ((p:Int))),eqV (.slice a2 (lk - p) (ck - p)),uH (.slice a1 p ck) (.slice a2 (lk - p) (ck - p)) [bS key],mU w2.heap.size (LK),eqV (.pointer (some ⟨w.heap.size,2,none⟩)),eqV (.slice av lk cv),eqV (.int .i64 (p:Int)),eqV (.slice a3 p cv),eqV (.string v),oG [.string v],eqV (.pointer (some ⟨w.heap.size,2,none⟩)),eqV (.slice av lk cv),eqV (.int .i64 ((p:Int))),eqV (.slice a4 (lk - p) (cv - p)),uH (.slice a3 p cv) (.slice a4 (lk - p) (cv - p)) [.string v],mU w2.heap.size (LV),yV w2.heap.size LK LV,pG] (by kernel_rfl) (by kernel_rfl) (by rfl) ?owes ?ends
 case owes =>
  refine Fo 0 (fun a wx hS xo xd K HK=>?_) ?_
  ·have d3:=Fl xo 3
   clear xo xd;go_simp;exact Hr HK
  refine Fo 1 (fun a wx hS xo xd K HK=>?_) ?_
  ·have d29:=Fq xd 0
   clear xo xd;have c0:=hC c1 hS lt0;go_simp;exact Hr HK
  refine Fo 2 (fun a wx hS xo xd K HK=>?_) ?_
  ·have d7:=Fl xo 7
   clear xo xd;go_simp;exact Hr HK
  refine Fo 3 (fun a wx hS xo xd K HK=>?_) ?_
  ·have d30:=Fq xd 1
   have d31:=Fq xd 2;clear xo xd;go_simp;refine HK.out _ _ ?_ Br
   show _=_
   rw [← S1.out];simp [sliced,jV,Addr.add]
  refine Fo 4 (fun a wx hS xo xd K HK=>?_) ?_
  ·have d1:=Fl xo 1
   clear xo xd;go_simp;exact Hr HK
  refine Fo 5 (fun a wx hS xo xd K HK=>?_) ?_
  ·have d33:=Fq xd 4
   clear xo xd;go_simp;exact HK.out _ _ ⟨_,rfl,Rd.made _ _ _⟩ (aB _ _)
  refine Fo 6 (fun a wx hS xo xd K HK=>?_) ?_
  ·have d3:=Fl xo 3
   clear xo xd;go_simp;exact Hr HK
  refine Fo 7 (fun a wx hS xo xd K HK=>?_) ?_
  ·have d35:=Fq xd 6
   clear xo xd;have c0:=hC c1 hS lt0;go_simp;exact Hr HK
  refine Fo 8 (fun a wx hS xo xd K HK=>?_) ?_
  ·have d9:=Fl xo 9
   clear xo xd;go_simp;exact Hr HK
  refine Fo 9 (fun a wx hS xo xd K HK=>?_) ?_
  ·have d36:=Fq xd 7
   have d37:=Fq xd 8;clear xo xd;go_simp;refine HK.out _ _ ?_ Br
   show _=_
   rw [← S2.out];simp [sliced,jV,Addr.add]
  refine Fo 10 (fun a wx hS xo xd K HK=>?_) ?_
  ·have d32:=Fq xd 3
   obtain ⟨a34,d34,r34⟩:=Fr xd 5;have d38:=Fq xd 9;clear xo xd;go_simp;exact HK.out _ _ ⟨_,a34,rfl,Rd.made _ _ _,r34.below (aB _ _)⟩ (aB _ _)
  refine Fo 11 (fun a wx hS xo xd K HK=>?_) ?_
  ·obtain ⟨a39,m39,d39,r39,s39⟩:=Fr xd 10
   clear xo xd;have CA:=CK.out wx a39 m39 (chain B2.out hS) r39 s39;clear r39 s39;go_simp;go_wp2_with fail;refine CA.mono ?_;rintro e w9 ⟨⟨v9,rfl,h9⟩,b9⟩;exact HK.out _ _ (dA h9 hS.size) b9
  refine Fo 12 (fun a wx hS xo xd K HK=>?_) ?_
  ·have d3:=Fl xo 3
   clear xo xd;go_simp;exact Hr HK
  refine Fo 13 (fun a wx hS xo xd K HK=>?_) ?_
  ·have d41:=Fq xd 12
   clear xo xd;have c0:=hC c2 hS lt0;go_simp;exact Hr HK
  refine Fo 14 (fun a wx hS xo xd K HK=>?_) ?_
  ·have d7:=Fl xo 7
   clear xo xd;go_simp;exact Hr HK
  refine Fo 15 (fun a wx hS xo xd K HK=>?_) ?_
  ·have d42:=Fq xd 13
   have d43:=Fq xd 14;clear xo xd;go_simp;refine HK.out _ _ ?_ Br
   show _=_
   rw [← S3.out];simp [sliced,jV,Addr.add]
  refine Fo 16 (fun a wx hS xo xd K HK=>?_) ?_
  ·have d2:=Fl xo 2
   clear xo xd;go_simp;exact Hr HK
  refine Fo 17 (fun a wx hS xo xd K HK=>?_) ?_
  ·have d45:=Fq xd 16
   clear xo xd;go_simp;exact HK.out _ _ ⟨_,rfl,Rd.made _ _ _⟩ (aB _ _)
  refine Fo 18 (fun a wx hS xo xd K HK=>?_) ?_
  ·have d3:=Fl xo 3
   clear xo xd;go_simp;exact Hr HK
  refine Fo 19 (fun a wx hS xo xd K HK=>?_) ?_
  ·have d47:=Fq xd 18
   clear xo xd;have c0:=hC c2 hS lt0;go_simp;exact Hr HK
  refine Fo 20 (fun a wx hS xo xd K HK=>?_) ?_
  ·have d9:=Fl xo 9
   clear xo xd;go_simp;exact Hr HK
  refine Fo 21 (fun a wx hS xo xd K HK=>?_) ?_
  ·have d48:=Fq xd 19
   have d49:=Fq xd 20;clear xo xd;go_simp;refine HK.out _ _ ?_ Br
   show _=_
   rw [← S4.out];simp [sliced,jV,Addr.add]
  refine Fo 22 (fun a wx hS xo xd K HK=>?_) ?_
  ·have d44:=Fq xd 15
   obtain ⟨a46,d46,r46⟩:=Fr xd 17;have d50:=Fq xd 21;clear xo xd;go_simp;exact HK.out _ _ ⟨_,a46,rfl,Rd.made _ _ _,r46.below (aB _ _)⟩ (aB _ _)
  refine Fo 23 (fun a wx hS xo xd K HK=>?_) ?_
  ·obtain ⟨a51,m51,d51,r51,s51⟩:=Fr xd 22
   clear xo xd;have CA:=CV.out wx a51 m51 (chain B2.out hS) r51 s51;clear r51 s51;go_simp;go_wp2_with fail;refine CA.mono ?_;rintro e w9 ⟨⟨v9,rfl,h9⟩,b9⟩;exact HK.out _ _ (dA h9 hS.size) b9
  refine Fo 24 (fun a wx hS xo xd K HK=>?_) ?_
  ·obtain ⟨a40,c40,d40,r40,l40,m40,n40⟩:=Fr xd 11
   obtain ⟨a52,c52,d52,r52,l52,m52,n52⟩:=Fr xd 23;clear xo xd;go_simp;exact HK.out _ _ ⟨_,_,_,_,rfl,r40,r52,l40,m40,l52,m52,n40,n52⟩ Br
  refine OwesAll.skip (f:=25) ?_;exact OwesAll.nil
 case ends =>
  intro a wx hS hsz hdf hold hdone;simp only [List.getElem?_toArray,List.getElem?_cons_succ,List.getElem?_cons_zero];intro K hK;have HK:=Hd hK;clear hK;obtain ⟨xa,xb,xc,xd,d53,q1,q2,q3,q4,q5,q6,q7,q8⟩:=hdone 24 _ 53 rfl (by decide) rfl;have d6:a.tmps.getD 6 undef=.pointer (some ⟨w.heap.size + 1,0,none⟩):=hold 6 (gQ (by kernel_rfl));have hdf' : a.defers=[]:=hdf;clear hold hdone hsz hdf;rw [Array.getD_eq_getD_getElem?] at d53 d6;have XB:=kept X.out hS
  rw [show (w.alloc (.cells #[.bool true,.slice ak lk ck,.slice av lk cv,.slice ac lc cc] 206)).heap.size=w.heap.size + 1 from by simp] at XB;have y0:=cl XB 0 rfl;have y1:=cl XB 1 rfl;have y2:=cl XB 2 rfl;have y3:=cl XB 3 rfl;have f0:=ufb XB 0;have f1:=ufb XB 1;have f2:=ufb XB 2;have f3:=ufb XB 3;rw [if_pos (by rfl)];go_simp;refine HK.out _ _ ?_
  have B9:Below w.heap.size w ((((wx.setCell ⟨w.heap.size + 1,0,none⟩ (.bool true)).setCell ⟨w.heap.size + 1,1,none⟩ (.slice xa LK.length xc)).setCell ⟨w.heap.size + 1,2,none⟩ (.slice xb LV.length xd)).setCell ⟨w.heap.size + 1,3,none⟩ (.slice none 0 0)) :=
   ((((chain B2.out hS).setCell (by simp) _).setCell (by simp) _).setCell (by simp) _).setCell (by simp) _
  clear y0 y1 y2 y3 f0 f1 f2 f3 HK K;go_wp2_with fail;have lt1:w.heap.size + 1 < w2.heap.size:=by have:=(zl X.out); simpa using this
  have FIN:Hid (kK w.heap.size LK LV (.returned (.agg #[.bool true,.slice xa LK.length xc,.slice xb LV.length xd,.slice none 0 0])) ((((wx.setCell ⟨w.heap.size + 1,0,none⟩ (.bool true)).setCell ⟨w.heap.size + 1,1,none⟩ (.slice xa LK.length xc)).setCell ⟨w.heap.size + 1,2,none⟩ (.slice xb LV.length xd)).setCell ⟨w.heap.size + 1,3,none⟩ (.slice none 0 0))) :=
   Hd ⟨_,rfl,xa,xb,xc,xd,rfl,q1.set4 _ _ _ _ _ (fun x hx=>Nat.lt_of_lt_of_le lt1 (q7 x hx)),q2.set4 _ _ _ _ _ (fun x hx=>Nat.lt_of_lt_of_le lt1 (q8 x hx)),q3,q4,q5,q6,fun x hx=>Nat.le_trans (Nat.le_of_lt lt0) (q7 x hx),fun x hx=>Nat.le_trans (Nat.le_of_lt lt0) (q8 x hx)⟩
  have XR:(((((wx.setCell ⟨w.heap.size + 1,0,none⟩ (.bool true)).setCell ⟨w.heap.size + 1,1,none⟩ (.slice xa LK.length xc)).setCell ⟨w.heap.size + 1,2,none⟩ (.slice xb LV.length xd)).setCell ⟨w.heap.size + 1,3,none⟩ (.slice none 0 0))).heap[w.heap.size + 1]?=some (.cells #[.bool true,.slice xa LK.length xc,.slice xb LV.length xd,.slice none 0 0] 206):=by
   rw [hss _ _ 3 _ _ _ (hss _ _ 2 _ _ _ (hss _ _ 1 _ _ _ (hss _ _ 0 _ _ _ XB)))]
   rfl
  generalize ((((wx.setCell ⟨w.heap.size + 1,0,none⟩ (.bool true)).setCell ⟨w.heap.size + 1,1,none⟩ (.slice xa LK.length xc)).setCell ⟨w.heap.size + 1,2,none⟩ (.slice xb LV.length xd)).setCell ⟨w.heap.size + 1,3,none⟩ (.slice none 0 0))=wz at *;have z0:=cl XR 0 rfl;have z1:=cl XR 1 rfl;have z2:=cl XR 2 rfl;have z3:=cl XR 3 rfl;exact bodyPost_ret (v:=.agg #[.bool true,.slice xa LK.length xc,.slice xb LV.length xd,.slice none 0 0]) (by simp [results,Tryz.results187,go_sem,d6,z0,z1,z2,z3]) hdf' ⟨FIN.out,B9⟩
theorem SK (ak av ac a1 a2 a3 a4:Option Addr) (ck cv cc lk lc p:Nat) (key:Int) (v:ByteArray) (LK LV:List Value) (w:World)
  (WH:Hid (∀ w,Calls Tryz.prog 179 #[.agg #[.bool true,.slice ak lk ck,.slice av lk cv,.slice ac lc cc]] w fun e w' => e=.returned (.bool true)∧Below w.heap.size w w'))
  (FI:Hid (∀ w1,Below w.heap.size w w1→Calls Tryz.prog 177 #[.agg #[.bool true,.slice ak lk ck,.slice av lk cv,.slice ac lc cc],.int .u64 key] w1 fun e w' => e=.returned (.tuple #[.int .i64 (p:Int),.bool true])∧Below w1.heap.size w1 w'))
  (S1:Hid (sliced ak 0 p ck 1=.slice a1 p ck)) (S2:Hid (sliced ak (p + 1) lk ck 1=.slice a2 (lk - (p + 1)) (ck - (p + 1)))) (S3:Hid (sliced av 0 p cv 1=.slice a3 p cv)) (S4:Hid (sliced av (p + 1) lk cv 1=.slice a4 (lk - (p + 1)) (cv - (p + 1))))
  (CK:Hid (∀ wx a m,Below w.heap.size w wx→Rd wx a [.slice a1 p ck,.slice m 1 1,.slice a2 (lk - (p + 1)) (ck - (p + 1))]→Rd wx m [bS key]→Calls Tryz.prog 180 #[.slice a 3 3] wx fun e w' => bO wx.heap.size 30 LK e w'∧Below wx.heap.size wx w'))
  (CV:Hid (∀ wx a m,Below w.heap.size w wx→Rd wx a [.slice a3 p cv,.slice m 1 1,.slice a4 (lk - (p + 1)) (cv - (p + 1))]→Rd wx m [.string v]→Calls Tryz.prog 181 #[.slice a 3 3] wx fun e w' => bO wx.heap.size 9 LV e w'∧Below wx.heap.size wx w'))
  (h1:p≤lk) (h2:(p + 1)≤lk) (h4:lk≤ck) (h5:lk≤cv) (h6:lk≤1000) :
  Calls Tryz.prog 187 #[.agg #[.bool true,.slice ak lk ck,.slice av lk cv,.slice ac lc cc],.int .u64 key,.string v] w fun e w' => kK w.heap.size LK LV e w'∧Below w.heap.size w w' := by
 have i1:(p:Int)≤(ck:Int):=by omega
 have i2:(p:Int) + 1≤(lk:Int):=by omega
 have i3:(p:Int)≤(cv:Int):=by omega
 have i4:(p:Int) + 1≤(lk:Int):=by omega
 have i5:(p:Int)≤1000:=by omega
 go_enter Tryz.func187,Tryz.ntmps187;go_wp2_with fail;refine (WH.out _).mono ?_;rintro e w1 ⟨rfl,b1⟩;have X1:=kept (han (w.alloc _) _) b1;have Y1:=kept (show ((w.alloc (.cells #[.bool true,.slice ak lk ck,.slice av lk cv,.slice ac lc cc] 206)).alloc (.cells #[.bool false,.slice none 0 0,.slice none 0 0,.slice none 0 0] 206)).heap[w.heap.size]?=some (.cells #[.bool true,.slice ak lk ck,.slice av lk cv,.slice ac lc cc] 206) from (hao _ _ (by simp)).trans (han w _)) b1
 have B1:Below w.heap.size w w1:=((Br.alloc (Nat.le_refl _) _).alloc (by simp) _).trans (b1.mono (by simp; omega));have k0:=cl Y1 0 rfl;have k1:=cl Y1 1 rfl;have k2:=cl Y1 2 rfl;have k3:=cl Y1 3 rfl;have XH:=Hd X1;have YH:=Hd Y1;have BH:=Hd B1;clear b1 X1 Y1 B1;go_wp2_with fail;refine (FI.out _ BH.out).mono ?_;rintro e w2 ⟨rfl,b2⟩;have X2:=kept XH.out b2;have Y2:=kept YH.out b2;have B2:=Hd (chain BH.out b2);clear XH YH BH k0 k1 k2 k3 b2;have lt0:w.heap.size < w2.heap.size:=(zl Y2);have c1:=cl Y2 1 rfl;have c2:=cl Y2 2 rfl
 have X:=Hd X2;have Y:=Hd Y2;clear X2 Y2 FI WH;go_wp2_with fail
 refine fF 25 54 [eqV (.pointer (some ⟨w.heap.size,1,none⟩)),eqV (.slice ak lk ck),eqV (.int .i64 (p:Int)),eqV (.slice a1 p ck),eqV (.int .u64 key),oG [bS key],eqV (.pointer (some ⟨w.heap.size,1,none⟩)),eqV (.slice ak lk ck),eqV (.int .i64 ((p:Int) + 1)),eqV (.slice a2 (lk - (p + 1)) (ck - (p + 1))),uH (.slice a1 p ck) (.slice a2 (lk - (p + 1)) (ck - (p + 1))) [bS key],mU w2.heap.size (LK),eqV (.pointer (some ⟨w.heap.size,2,none⟩)),eqV (.slice av lk cv),eqV (.int .i64 (p:Int)),eqV (.slice a3 p cv),eqV (.string v),oG [.string v],eqV (.pointer (some ⟨w.heap.size,2,none⟩)),eqV (.slice av lk cv),eqV (.int .i64 ((p:Int) + 1)),eqV (.slice a4 (lk - (p + 1)) (cv - (p + 1))),uH (.slice a3 p cv) (.slice a4 (lk - (p + 1)) (cv - (p + 1))) [.string v],mU w2.heap.size (LV),yV w2.heap.size LK LV,pG] (by kernel_rfl) (by kernel_rfl) (by rfl) ?owes ?ends
 case owes =>
  refine Fo 0 (fun a wx hS xo xd K HK=>?_) ?_
  ·have d3:=Fl xo 3
   clear xo xd;go_simp;exact Hr HK
  refine Fo 1 (fun a wx hS xo xd K HK=>?_) ?_
  ·have d29:=Fq xd 0
   clear xo xd;have c0:=hC c1 hS lt0;go_simp;exact Hr HK
  refine Fo 2 (fun a wx hS xo xd K HK=>?_) ?_
  ·have d7:=Fl xo 7
   clear xo xd;go_simp;exact Hr HK
  refine Fo 3 (fun a wx hS xo xd K HK=>?_) ?_
  ·have d30:=Fq xd 1
   have d31:=Fq xd 2;clear xo xd;go_simp;refine HK.out _ _ ?_ Br
   show _=_
   rw [← S1.out];simp [sliced,jV,Addr.add]
  refine Fo 4 (fun a wx hS xo xd K HK=>?_) ?_
  ·have d1:=Fl xo 1
   clear xo xd;go_simp;exact Hr HK
  refine Fo 5 (fun a wx hS xo xd K HK=>?_) ?_
  ·have d33:=Fq xd 4
   clear xo xd;go_simp;exact HK.out _ _ ⟨_,rfl,Rd.made _ _ _⟩ (aB _ _)
  refine Fo 6 (fun a wx hS xo xd K HK=>?_) ?_
  ·have d3:=Fl xo 3
   clear xo xd;go_simp;exact Hr HK
  refine Fo 7 (fun a wx hS xo xd K HK=>?_) ?_
  ·have d35:=Fq xd 6
   clear xo xd;have c0:=hC c1 hS lt0;go_simp;exact Hr HK
  refine Fo 8 (fun a wx hS xo xd K HK=>?_) ?_
  ·have d9:=Fl xo 9
   clear xo xd;go_simp;exact Hr HK
  refine Fo 9 (fun a wx hS xo xd K HK=>?_) ?_
  ·have d36:=Fq xd 7
   have d37:=Fq xd 8;clear xo xd;go_simp;refine HK.out _ _ ?_ Br
   show _=_
   rw [← S2.out];simp [sliced,jV,Addr.add]
  refine Fo 10 (fun a wx hS xo xd K HK=>?_) ?_
  ·have d32:=Fq xd 3
   obtain ⟨a34,d34,r34⟩:=Fr xd 5;have d38:=Fq xd 9;clear xo xd;go_simp;exact HK.out _ _ ⟨_,a34,rfl,Rd.made _ _ _,r34.below (aB _ _)⟩ (aB _ _)
  refine Fo 11 (fun a wx hS xo xd K HK=>?_) ?_
  ·obtain ⟨a39,m39,d39,r39,s39⟩:=Fr xd 10
   clear xo xd;have CA:=CK.out wx a39 m39 (chain B2.out hS) r39 s39;clear r39 s39;go_simp;go_wp2_with fail;refine CA.mono ?_;rintro e w9 ⟨⟨v9,rfl,h9⟩,b9⟩;exact HK.out _ _ (dA h9 hS.size) b9
  refine Fo 12 (fun a wx hS xo xd K HK=>?_) ?_
  ·have d3:=Fl xo 3
   clear xo xd;go_simp;exact Hr HK
  refine Fo 13 (fun a wx hS xo xd K HK=>?_) ?_
  ·have d41:=Fq xd 12
   clear xo xd;have c0:=hC c2 hS lt0;go_simp;exact Hr HK
  refine Fo 14 (fun a wx hS xo xd K HK=>?_) ?_
  ·have d7:=Fl xo 7
   clear xo xd;go_simp;exact Hr HK
  refine Fo 15 (fun a wx hS xo xd K HK=>?_) ?_
  ·have d42:=Fq xd 13
   have d43:=Fq xd 14;clear xo xd;go_simp;refine HK.out _ _ ?_ Br
   show _=_
   rw [← S3.out];simp [sliced,jV,Addr.add]
  refine Fo 16 (fun a wx hS xo xd K HK=>?_) ?_
  ·have d2:=Fl xo 2
   clear xo xd;go_simp;exact Hr HK
  refine Fo 17 (fun a wx hS xo xd K HK=>?_) ?_
  ·have d45:=Fq xd 16
   clear xo xd;go_simp;exact HK.out _ _ ⟨_,rfl,Rd.made _ _ _⟩ (aB _ _)
  refine Fo 18 (fun a wx hS xo xd K HK=>?_) ?_
  ·have d3:=Fl xo 3
   clear xo xd;go_simp;exact Hr HK
  refine Fo 19 (fun a wx hS xo xd K HK=>?_) ?_
  ·have d47:=Fq xd 18
   clear xo xd;have c0:=hC c2 hS lt0;go_simp;exact Hr HK
  refine Fo 20 (fun a wx hS xo xd K HK=>?_) ?_
  ·have d9:=Fl xo 9
   clear xo xd;go_simp;exact Hr HK
  refine Fo 21 (fun a wx hS xo xd K HK=>?_) ?_
  ·have d48:=Fq xd 19
   have d49:=Fq xd 20;clear xo xd;go_simp;refine HK.out _ _ ?_ Br
   show _=_
   rw [← S4.out];simp [sliced,jV,Addr.add]
  refine Fo 22 (fun a wx hS xo xd K HK=>?_) ?_
  ·have d44:=Fq xd 15
   obtain ⟨a46,d46,r46⟩:=Fr xd 17;have d50:=Fq xd 21;clear xo xd;go_simp;exact HK.out _ _ ⟨_,a46,rfl,Rd.made _ _ _,r46.below (aB _ _)⟩ (aB _ _)
  refine Fo 23 (fun a wx hS xo xd K HK=>?_) ?_
  ·obtain ⟨a51,m51,d51,r51,s51⟩:=Fr xd 22
   clear xo xd;have CA:=CV.out wx a51 m51 (chain B2.out hS) r51 s51;clear r51 s51;go_simp;go_wp2_with fail;refine CA.mono ?_;rintro e w9 ⟨⟨v9,rfl,h9⟩,b9⟩;exact HK.out _ _ (dA h9 hS.size) b9
  refine Fo 24 (fun a wx hS xo xd K HK=>?_) ?_
  ·obtain ⟨a40,c40,d40,r40,l40,m40,n40⟩:=Fr xd 11
   obtain ⟨a52,c52,d52,r52,l52,m52,n52⟩:=Fr xd 23;clear xo xd;go_simp;exact HK.out _ _ ⟨_,_,_,_,rfl,r40,r52,l40,m40,l52,m52,n40,n52⟩ Br
  refine OwesAll.skip (f:=25) ?_;exact OwesAll.nil
 case ends =>
  intro a wx hS hsz hdf hold hdone;simp only [List.getElem?_toArray,List.getElem?_cons_succ,List.getElem?_cons_zero];intro K hK;have HK:=Hd hK;clear hK;obtain ⟨xa,xb,xc,xd,d53,q1,q2,q3,q4,q5,q6,q7,q8⟩:=hdone 24 _ 53 rfl (by decide) rfl;have d6:a.tmps.getD 6 undef=.pointer (some ⟨w.heap.size + 1,0,none⟩):=hold 6 (gQ (by kernel_rfl));have hdf' : a.defers=[]:=hdf;clear hold hdone hsz hdf;rw [Array.getD_eq_getD_getElem?] at d53 d6;have XB:=kept X.out hS
  rw [show (w.alloc (.cells #[.bool true,.slice ak lk ck,.slice av lk cv,.slice ac lc cc] 206)).heap.size=w.heap.size + 1 from by simp] at XB;have y0:=cl XB 0 rfl;have y1:=cl XB 1 rfl;have y2:=cl XB 2 rfl;have y3:=cl XB 3 rfl;have f0:=ufb XB 0;have f1:=ufb XB 1;have f2:=ufb XB 2;have f3:=ufb XB 3;rw [if_pos (by rfl)];go_simp;refine HK.out _ _ ?_
  have B9:Below w.heap.size w ((((wx.setCell ⟨w.heap.size + 1,0,none⟩ (.bool true)).setCell ⟨w.heap.size + 1,1,none⟩ (.slice xa LK.length xc)).setCell ⟨w.heap.size + 1,2,none⟩ (.slice xb LV.length xd)).setCell ⟨w.heap.size + 1,3,none⟩ (.slice none 0 0)) :=
   ((((chain B2.out hS).setCell (by simp) _).setCell (by simp) _).setCell (by simp) _).setCell (by simp) _
  clear y0 y1 y2 y3 f0 f1 f2 f3 HK K;go_wp2_with fail;have lt1:w.heap.size + 1 < w2.heap.size:=by have:=(zl X.out); simpa using this
  have FIN:Hid (kK w.heap.size LK LV (.returned (.agg #[.bool true,.slice xa LK.length xc,.slice xb LV.length xd,.slice none 0 0])) ((((wx.setCell ⟨w.heap.size + 1,0,none⟩ (.bool true)).setCell ⟨w.heap.size + 1,1,none⟩ (.slice xa LK.length xc)).setCell ⟨w.heap.size + 1,2,none⟩ (.slice xb LV.length xd)).setCell ⟨w.heap.size + 1,3,none⟩ (.slice none 0 0))) :=
   Hd ⟨_,rfl,xa,xb,xc,xd,rfl,q1.set4 _ _ _ _ _ (fun x hx=>Nat.lt_of_lt_of_le lt1 (q7 x hx)),q2.set4 _ _ _ _ _ (fun x hx=>Nat.lt_of_lt_of_le lt1 (q8 x hx)),q3,q4,q5,q6,fun x hx=>Nat.le_trans (Nat.le_of_lt lt0) (q7 x hx),fun x hx=>Nat.le_trans (Nat.le_of_lt lt0) (q8 x hx)⟩
  have XR:(((((wx.setCell ⟨w.heap.size + 1,0,none⟩ (.bool true)).setCell ⟨w.heap.size + 1,1,none⟩ (.slice xa LK.length xc)).setCell ⟨w.heap.size + 1,2,none⟩ (.slice xb LV.length xd)).setCell ⟨w.heap.size + 1,3,none⟩ (.slice none 0 0))).heap[w.heap.size + 1]?=some (.cells #[.bool true,.slice xa LK.length xc,.slice xb LV.length xd,.slice none 0 0] 206):=by
   rw [hss _ _ 3 _ _ _ (hss _ _ 2 _ _ _ (hss _ _ 1 _ _ _ (hss _ _ 0 _ _ _ XB)))]
   rfl
  generalize ((((wx.setCell ⟨w.heap.size + 1,0,none⟩ (.bool true)).setCell ⟨w.heap.size + 1,1,none⟩ (.slice xa LK.length xc)).setCell ⟨w.heap.size + 1,2,none⟩ (.slice xb LV.length xd)).setCell ⟨w.heap.size + 1,3,none⟩ (.slice none 0 0))=wz at *;have z0:=cl XR 0 rfl;have z1:=cl XR 1 rfl;have z2:=cl XR 2 rfl;have z3:=cl XR 3 rfl;exact bodyPost_ret (v:=.agg #[.bool true,.slice xa LK.length xc,.slice xb LV.length xd,.slice none 0 0]) (by simp [results,Tryz.results187,go_sem,d6,z0,z1,z2,z3]) hdf' ⟨FIN.out,B9⟩
def IF (lo:Nat) (LK LC:List Value):SP:=⟨fun v w=>∃ xa xb xc xd,v=.agg #[.bool false,.slice xa LK.length xc,.slice none 0 0,.slice xb LC.length xd]∧Rd w xa LK∧Rd w xb LC∧LK.length≤xc∧xc≤maxLen∧LC.length≤xd∧xd≤maxLen∧(∀ x,xa=some x→lo≤x.block)∧∀ x,xb=some x→lo≤x.block,
 fun _ _ _ ⟨xa,xb,xc,xd,h,q1,q2,q⟩ hb=>⟨xa,xb,xc,xd,h,q1.below hb,q2.below hb,q⟩⟩
def pH (lo:Nat) (LK LC:List Value) (e:Ending) (w' : World):Prop:=∃ v,e=.returned v∧(IF lo LK LC).p v w'
theorem TF (ak av ac a1 a2 a3 a4:Option Addr) (ck cv cc lk lv p:Nat) (key kid:Int) (X1 X2:List Value) (w:World)
  (WH:Hid (∀ w,Calls Tryz.prog 179 #[.agg #[.bool false,.slice ak lk ck,.slice av lv cv,.slice ac (lk + 1) cc]] w fun e w' => e=.returned (.bool true)∧Below w.heap.size w w'))
  (S1:Hid (sliced ak 0 p ck 1=.slice a1 p ck))
  (S2:Hid (sliced ak p lk ck 1=.slice a2 (lk - p) (ck - p)))
  (S3:Hid (sliced ac 0 (p + 1) cc 1=.slice a3 (p + 1) cc))
  (S4:Hid (sliced ac (p + 1) (lk + 1) cc 1=.slice a4 (lk - p) (cc - (p + 1))))
  (C1:Hid (∀ wx a m,Below w.heap.size w wx→Rd wx a [.slice a1 p ck,.slice m 1 1,.slice a2 (lk - p) (ck - p)]→Rd wx m [.int .u64 key]→Calls Tryz.prog 180 #[.slice a 3 3] wx fun e w' => bO wx.heap.size 30 X1 e w'∧Below wx.heap.size wx w'))
  (C2:Hid (∀ wx a m,Below w.heap.size w wx→Rd wx a [.slice a3 (p + 1) cc,.slice m 1 1,.slice a4 (lk - p) (cc - (p + 1))]→Rd wx m [.int .i64 kid]→Calls Tryz.prog 211 #[.slice a 3 3] wx fun e w' => bO wx.heap.size 3 X2 e w'∧Below wx.heap.size wx w'))
  (h1:p≤lk) (h4:lk≤ck) (h5:lk + 1≤cc) (h6:lk≤1000) :
  Calls Tryz.prog 189 #[.agg #[.bool false,.slice ak lk ck,.slice av lv cv,.slice ac (lk + 1) cc],.int .i64 (p:Int),.int .u64 key,.int .i64 kid] w fun e w' => pH w.heap.size X1 X2 e w'∧Below w.heap.size w w' := by
 have i0:(0:Int)≤(p:Int):=by omega
 have i1:(p:Int)≤1000:=by omega
 have i2:(p:Int)≤(ck:Int):=by omega
 have i3:(p:Int)≤(lk:Int):=by omega
 have hw1:Hid (IntKind.i64.wrap ((p:Int) + 1)=(p:Int) + 1):=Hd (IntWalk.i64_in _ (by omega));have hw2:Hid (IntKind.i64.wrap ((p:Int) + 2)=(p:Int) + 2):=Hd (IntWalk.i64_in _ (by omega));have i4:(p:Int) + 1≤(cc:Int):=by omega
 have i5:¬ (lk:Int) < (p:Int):=by omega
 go_enter Tryz.func189,Tryz.ntmps189;go_wp2_with fail;refine (WH.out _).mono ?_;rintro e w2 ⟨rfl,b1⟩;have X1' := kept (han (w.alloc _) _) b1;have Y1' := kept (show ((w.alloc (.cells #[.bool false,.slice ak lk ck,.slice av lv cv,.slice ac (lk + 1) cc] 206)).alloc (.cells #[.bool false,.slice none 0 0,.slice none 0 0,.slice none 0 0] 206)).heap[w.heap.size]?=some (.cells #[.bool false,.slice ak lk ck,.slice av lv cv,.slice ac (lk + 1) cc] 206) from (hao _ _ (by simp)).trans (han w _)) b1
 have B1:Below w.heap.size w w2:=((Br.alloc (Nat.le_refl _) _).alloc (by simp) _).trans (b1.mono (by simp; omega));rw [show (w.alloc (.cells #[.bool false,.slice ak lk ck,.slice av lv cv,.slice ac (lk + 1) cc] 206)).heap.size=w.heap.size + 1 from by simp] at X1';have lt0:w.heap.size < w2.heap.size:=(zl Y1');have c0' := cl (Y1') 0 rfl;have c1:=cl (Y1') 1 rfl;have c2:=cl (Y1') 2 rfl;have c3:=cl (Y1') 3 rfl;have X:=Hd X1';have B2:=Hd B1;clear b1 X1' Y1' B1;clear WH;go_wp2_with fail
 refine fF 27 55 [eqV (.pointer (some ⟨w.heap.size,1,none⟩)),eqV (.slice ak lk ck),eqV (.int .i64 (p:Int)),eqV (.slice a1 p ck),eqV (.int .u64 key),oG [.int .u64 key],eqV (.pointer (some ⟨w.heap.size,1,none⟩)),eqV (.slice ak lk ck),eqV (.int .i64 (p:Int)),eqV (.slice a2 (lk - p) (ck - p)),uH (.slice a1 p ck) (.slice a2 (lk - p) (ck - p)) [.int .u64 key],mU w2.heap.size X1,eqV (.pointer (some ⟨w.heap.size,3,none⟩)),eqV (.slice ac (lk + 1) cc),eqV (.int .i64 (p:Int)),eqV (.int .i64 ((p:Int) + 1)),eqV (.slice a3 (p + 1) cc),eqV (.int .i64 kid),oG [.int .i64 kid],eqV (.pointer (some ⟨w.heap.size,3,none⟩)),eqV (.slice ac (lk + 1) cc),eqV (.int .i64 (p:Int)),eqV (.int .i64 ((p:Int) + 1)),eqV (.slice a4 (lk - p) (cc - (p + 1))),uH (.slice a3 (p + 1) cc) (.slice a4 (lk - p) (cc - (p + 1))) [.int .i64 kid],mU w2.heap.size X2,IF w2.heap.size X1 X2,pG] (by kernel_rfl) (by kernel_rfl) (by rfl) ?owes ?ends
 case owes =>
  refine Fo 0 (fun a wx hS xo xd K HK=>?_) ?_
  ·have d4:=Fl xo 4
   clear xo xd;go_simp;exact Hr HK
  refine Fo 1 (fun a wx hS xo xd K HK=>?_) ?_
  ·have d28:=Fq xd 0
   clear xo xd;have c0:=hC c1 hS lt0;go_simp;exact Hr HK
  refine Fo 2 (fun a wx hS xo xd K HK=>?_) ?_
  ·have d1:=Fl xo 1
   clear xo xd;go_simp;exact Hr HK
  refine Fo 3 (fun a wx hS xo xd K HK=>?_) ?_
  ·have d29:=Fq xd 1
   have d30:=Fq xd 2;clear xo xd;go_simp;refine HK.out _ _ ?_ Br
   show _=_
   rw [← S1.out];simp [sliced,jV,Addr.add]
  refine Fo 4 (fun a wx hS xo xd K HK=>?_) ?_
  ·have d2:=Fl xo 2
   clear xo xd;go_simp;exact Hr HK
  refine Fo 5 (fun a wx hS xo xd K HK=>?_) ?_
  ·have d32:=Fq xd 4
   clear xo xd;go_simp;exact HK.out _ _ ⟨_,rfl,Rd.made _ _ _⟩ (aB _ _)
  refine Fo 6 (fun a wx hS xo xd K HK=>?_) ?_
  ·have d4:=Fl xo 4
   clear xo xd;go_simp;exact Hr HK
  refine Fo 7 (fun a wx hS xo xd K HK=>?_) ?_
  ·have d34:=Fq xd 6
   clear xo xd;have c0:=hC c1 hS lt0;go_simp;exact Hr HK
  refine Fo 8 (fun a wx hS xo xd K HK=>?_) ?_
  ·have d1:=Fl xo 1
   clear xo xd;go_simp;exact Hr HK
  refine Fo 9 (fun a wx hS xo xd K HK=>?_) ?_
  ·have d35:=Fq xd 7
   have d36:=Fq xd 8;clear xo xd;go_simp;refine HK.out _ _ ?_ Br
   show _=_
   rw [← S2.out];simp [sliced,jV,Addr.add]
  refine Fo 10 (fun a wx hS xo xd K HK=>?_) ?_
  ·have d31:=Fq xd 3
   obtain ⟨a33,d33,r33⟩:=Fr xd 5;have d37:=Fq xd 9;clear xo xd;go_simp;exact HK.out _ _ ⟨_,a33,rfl,Rd.made _ _ _,r33.below (aB _ _)⟩ (aB _ _)
  refine Fo 11 (fun a wx hS xo xd K HK=>?_) ?_
  ·obtain ⟨a38,m38,d38,r38,s38⟩:=Fr xd 10
   clear xo xd;have CA:=C1.out wx a38 m38 (chain B2.out hS) r38 s38;clear r38 s38;go_simp;go_wp2_with fail;refine CA.mono ?_;rintro e w9 ⟨⟨v9,rfl,h9⟩,b9⟩;exact HK.out _ _ (dA h9 hS.size) b9
  refine Fo 12 (fun a wx hS xo xd K HK=>?_) ?_
  ·have d4:=Fl xo 4
   clear xo xd;go_simp;exact Hr HK
  refine Fo 13 (fun a wx hS xo xd K HK=>?_) ?_
  ·have d40:=Fq xd 12
   clear xo xd;have c0:=hC c3 hS lt0;go_simp;exact Hr HK
  refine Fo 14 (fun a wx hS xo xd K HK=>?_) ?_
  ·have d1:=Fl xo 1
   clear xo xd;go_simp;exact Hr HK
  refine Fo 15 (fun a wx hS xo xd K HK=>?_) ?_
  ·have d42:=Fq xd 14
   clear xo xd;go_simp;refine HK.out _ _ ?_ Br
   show _=_
   first | rfl | rw [hw1.out]
  refine Fo 16 (fun a wx hS xo xd K HK=>?_) ?_
  ·have d41:=Fq xd 13
   have d43:=Fq xd 15;clear xo xd;go_simp;refine HK.out _ _ ?_ Br
   show _=_
   rw [← S3.out];simp [sliced,jV,Addr.add]
  refine Fo 17 (fun a wx hS xo xd K HK=>?_) ?_
  ·have d3:=Fl xo 3
   clear xo xd;go_simp;exact Hr HK
  refine Fo 18 (fun a wx hS xo xd K HK=>?_) ?_
  ·have d45:=Fq xd 17
   clear xo xd;go_simp;exact HK.out _ _ ⟨_,rfl,Rd.made _ _ _⟩ (aB _ _)
  refine Fo 19 (fun a wx hS xo xd K HK=>?_) ?_
  ·have d4:=Fl xo 4
   clear xo xd;go_simp;exact Hr HK
  refine Fo 20 (fun a wx hS xo xd K HK=>?_) ?_
  ·have d47:=Fq xd 19
   clear xo xd;have c0:=hC c3 hS lt0;go_simp;exact Hr HK
  refine Fo 21 (fun a wx hS xo xd K HK=>?_) ?_
  ·have d1:=Fl xo 1
   clear xo xd;go_simp;exact Hr HK
  refine Fo 22 (fun a wx hS xo xd K HK=>?_) ?_
  ·have d49:=Fq xd 21
   clear xo xd;go_simp;refine HK.out _ _ ?_ Br
   show _=_
   first | rfl | rw [hw1.out]
  refine Fo 23 (fun a wx hS xo xd K HK=>?_) ?_
  ·have d48:=Fq xd 20
   have d50:=Fq xd 22;clear xo xd;go_simp;refine HK.out _ _ ?_ Br
   show _=_
   rw [← S4.out];simp [sliced,jV,Addr.add]
  refine Fo 24 (fun a wx hS xo xd K HK=>?_) ?_
  ·have d44:=Fq xd 16
   obtain ⟨a46,d46,r46⟩:=Fr xd 18;have d51:=Fq xd 23;clear xo xd;go_simp;exact HK.out _ _ ⟨_,a46,rfl,Rd.made _ _ _,r46.below (aB _ _)⟩ (aB _ _)
  refine Fo 25 (fun a wx hS xo xd K HK=>?_) ?_
  ·obtain ⟨a52,m52,d52,r52,s52⟩:=Fr xd 24
   clear xo xd;have CA:=C2.out wx a52 m52 (chain B2.out hS) r52 s52;clear r52 s52;go_simp;go_wp2_with fail;refine CA.mono ?_;rintro e w9 ⟨⟨v9,rfl,h9⟩,b9⟩;exact HK.out _ _ (dA h9 hS.size) b9
  refine Fo 26 (fun a wx hS xo xd K HK=>?_) ?_
  ·obtain ⟨a39,c39,d39,r39,l39,m39,n39⟩:=Fr xd 11
   obtain ⟨a53,c53,d53,r53,l53,m53,n53⟩:=Fr xd 25;clear xo xd;go_simp;exact HK.out _ _ ⟨_,_,_,_,rfl,r39,r53,l39,m39,l53,m53,n39,n53⟩ Br
  refine OwesAll.skip (f:=27) ?_;exact OwesAll.nil
 case ends =>
  intro a wx hS hsz hdf hold hdone;simp only [List.getElem?_toArray,List.getElem?_cons_succ,List.getElem?_cons_zero];intro K hK;have HK:=Hd hK;clear hK;obtain ⟨xa,xb,xc,xd,dB,q1,q2,q3,q4,q5,q6,q7,q8⟩:=hdone 26 _ 54 rfl (by decide) rfl;have dR:a.tmps.getD 8 undef=.pointer (some ⟨w.heap.size + 1,0,none⟩):=hold 8 (gQ (by kernel_rfl));have hdf' : a.defers=[]:=hdf;clear hold hdone hsz hdf;rw [Array.getD_eq_getD_getElem?] at dB dR;have XB:=kept X.out hS;have y0:=cl XB 0 rfl;have y1:=cl XB 1 rfl;have y2:=cl XB 2 rfl;have y3:=cl XB 3 rfl;have f0:=ufb XB 0
  have f1:=ufb XB 1;have f2:=ufb XB 2;have f3:=ufb XB 3;rw [if_pos (by rfl)];go_simp;refine HK.out _ _ ?_
  have B9:Below w.heap.size w ((((wx.setCell ⟨w.heap.size + 1,0,none⟩ (.bool false)).setCell ⟨w.heap.size + 1,1,none⟩ (.slice xa X1.length xc)).setCell ⟨w.heap.size + 1,2,none⟩ (.slice none 0 0)).setCell ⟨w.heap.size + 1,3,none⟩ (.slice xb X2.length xd)) :=
   ((((chain B2.out hS).setCell (by simp) _).setCell (by simp) _).setCell (by simp) _).setCell (by simp) _
  clear y0 y1 y2 y3 f0 f1 f2 f3 HK K;go_wp2_with fail;have lt1:w.heap.size + 1 < w2.heap.size:=(zl X.out)
  have FIN:Hid (pH w.heap.size X1 X2 (.returned (.agg #[.bool false,.slice xa X1.length xc,.slice none 0 0,.slice xb X2.length xd])) ((((wx.setCell ⟨w.heap.size + 1,0,none⟩ (.bool false)).setCell ⟨w.heap.size + 1,1,none⟩ (.slice xa X1.length xc)).setCell ⟨w.heap.size + 1,2,none⟩ (.slice none 0 0)).setCell ⟨w.heap.size + 1,3,none⟩ (.slice xb X2.length xd))) :=
   Hd ⟨_,rfl,xa,xb,xc,xd,rfl,q1.set4 _ _ _ _ _ (fun x hx=>Nat.lt_of_lt_of_le lt1 (q7 x hx)),q2.set4 _ _ _ _ _ (fun x hx=>Nat.lt_of_lt_of_le lt1 (q8 x hx)),q3,q4,q5,q6,fun x hx=>Nat.le_trans (Nat.le_of_lt lt0) (q7 x hx),fun x hx=>Nat.le_trans (Nat.le_of_lt lt0) (q8 x hx)⟩
  have XR:((((wx.setCell ⟨w.heap.size + 1,0,none⟩ (.bool false)).setCell ⟨w.heap.size + 1,1,none⟩ (.slice xa X1.length xc)).setCell ⟨w.heap.size + 1,2,none⟩ (.slice none 0 0)).setCell ⟨w.heap.size + 1,3,none⟩ (.slice xb X2.length xd)).heap[w.heap.size + 1]?=some (.cells #[.bool false,.slice xa X1.length xc,.slice none 0 0,.slice xb X2.length xd] 206):=by
   rw [hss _ _ 3 _ _ _ (hss _ _ 2 _ _ _ (hss _ _ 1 _ _ _ (hss _ _ 0 _ _ _ XB)))]
   rfl
  generalize ((((wx.setCell ⟨w.heap.size + 1,0,none⟩ (.bool false)).setCell ⟨w.heap.size + 1,1,none⟩ (.slice xa X1.length xc)).setCell ⟨w.heap.size + 1,2,none⟩ (.slice none 0 0)).setCell ⟨w.heap.size + 1,3,none⟩ (.slice xb X2.length xd))=wz at *;have z0:=cl XR 0 rfl;have z1:=cl XR 1 rfl;have z2:=cl XR 2 rfl;have z3:=cl XR 3 rfl;exact bodyPost_ret (v:=.agg #[.bool false,.slice xa X1.length xc,.slice none 0 0,.slice xb X2.length xd]) (by simp [results,Tryz.results189,go_sem,dR,z0,z1,z2,z3]) hdf' ⟨FIN.out,B9⟩
end Go.Proofs.YtblbiihpfjjhhaaGreatDoor
