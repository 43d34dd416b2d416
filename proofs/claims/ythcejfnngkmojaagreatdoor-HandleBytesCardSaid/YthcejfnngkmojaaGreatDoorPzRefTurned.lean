/-
 RefTurned.
-/
import Derived.Test.YthcejfnngkmojaaGreatDoorPzMac0
import Derived.Laws.MakeOwn
import Derived.Outline
namespace Go.Proofs.YthcejfnngkmojaaGreatDoor
open Go.RowKit
set_option maxRecDepth 20000
set_option maxHeartbeats 12800000
set_option linter.unusedVariables false
set_option linter.unusedSimpArgs false
theorem sI (key:ByteArray) (m:UInt8) (z:Int) (hzm:(m.toNat:Int)=z) (w:World) (hk:key.size≤64) (L:List UInt8) (HL:Hid ((lK key.data.toList).map (· ^^^ m)=L)) :
  Calls Tryz.prog 133 #[.string key,.int .u8 z] w fun e w' => e=.returned (.string (Str L))∧Below w.heap.size w w' := by
 subst hzm;have hr:=run_make (P:=Tryz.prog) w 31 5 Tryz.t5 (.int .u8 0) Tryz.underlying31 (by kernel_rfl) (by kernel_rfl) .i64 .i64 64 64 (by omega) (by omega) (by decide) (by omega)
 have hmk:(Instr.makeSlice 31 (.int .i64 64) (.int .i64 64)).run Tryz.prog w=.ok (.slice (some ⟨w.heap.size,0,none⟩) 64 64) (w.alloc (.cells (ByS (List.replicate 64 0)) 5)):=hr.trans (by
  have:madeCells (Value.int .u8 0).cells (Int.toNat 64 * (Tryz.t5).size)=ByS (List.replicate 64 0):=by kernel_rfl
  rw [this]
  rfl)
 clear hr;have HZ:Hid (BytS 5 (w.alloc (.cells (ByS (List.replicate 64 0)) 5)) w.heap.size (List.replicate 64 0)):=Hd (heap_alloc_new w _);have HB0:Hid (Below w.heap.size w (w.alloc (.cells (ByS (List.replicate 64 0)) 5))):=Hd (Br.alloc (Nat.le_refl _) _);generalize hw1:w.alloc (.cells (ByS (List.replicate 64 0)) 5)=w1 at *;clear hw1;have hl64:=Hd (kN key.data.toList (by simpa using hk))
 have HB1:=Hd (below_setRow HB0.out (Nat.le_refl w.heap.size) (((ByS (List.replicate 64 0)).toList.take 0 ++ Lib.byteCells key.data.toList ++ (ByS (List.replicate 64 0)).toList.drop (0 + key.size)).toArray))
 have HT:Hid (BytS 5 (w1.setRow w.heap.size (((ByS (List.replicate 64 0)).toList.take 0 ++ Lib.byteCells key.data.toList ++ (ByS (List.replicate 64 0)).toList.drop (0 + key.size)).toArray)) w.heap.size (dM (lK key.data.toList) m 0)):=Hd (by
  have h:=setRow_heap w1 w.heap.size _ (((ByS (List.replicate 64 0)).toList.take 0 ++ Lib.byteCells key.data.toList ++ (ByS (List.replicate 64 0)).toList.drop (0 + key.size)).toArray) _ (0,0) HZ.out;rw [qG];unfold BytS;rw [h,YA key hk])
 have hcp:=Lib.run_copy_row_string (P:=Tryz.prog) w1 31 9 3 5 w.heap.size 0 64 64 key (ByS (List.replicate 64 0)) 5 Tryz.underlying31 (by kernel_rfl) HZ.out hk (by simp [ByS]; exact hk);generalize World.setRow _ _ _=w2 at *;go_enter Tryz.func133,Tryz.ntmps133;go_wp2_with fail;generalize hKEY:lK key.data.toList=KEY at *;clear hKEY hk
 go_loopw [6] (fun i wr=>∃ n:Nat,n≤64∧i=.int .i64 (n:Int)∧Hid (BytS 5 wr w.heap.size (dM KEY m n))∧Hid (Below w.heap.size w wr)) (fun i _=>65 - (intOf i).toNat)
 case atStart=>exact ⟨0,by omega,rfl,HT,HB1⟩
 case round =>
  obtain ⟨n,hn,rfl,HY,HB⟩:=hrel
  by_cases hlt:n < 64
  ·have hli:(n:Int) < 64:=by omega
   have hnk:n < KEY.length:=by rw [hl64.out]; exact hlt
   have hx:bits .xor .u8 (KEY[n].toNat:Int) (m.toNat:Int)=(((KEY[n] ^^^ m).toNat:Nat):Int):=by
    rw [kG _ _ KEY[n].toNat_lt m.toNat_lt]; rfl
   have c9:=HY.out.cell n (by rw [dU]; exact hnk)
   have hget:(dM KEY m n)[n]'(by rw [dU]; exact hnk)=KEY[n]:=by
    have:=rR KEY m n hnk;rw [List.getElem?_eq_getElem (by rw [dU]; exact hnk)] at this;injection this
   rw [hget] at c9;have f9:=HY.out.free n
   have FIN:Hid (BytS 5 (wr.setCell ⟨w.heap.size,n,none⟩ (.int .u8 (((KEY[n] ^^^ m).toNat:Nat):Int))) w.heap.size (dM KEY m (n + 1))):=Hd (by
    have:=HY.out.set n (KEY[n] ^^^ m);rwa [qH KEY m n hnk] at this)
   have FB:Hid (Below w.heap.size w (wr.setCell ⟨w.heap.size,n,none⟩ (.int .u8 (((KEY[n] ^^^ m).toNat:Nat):Int)))):=Hd (HB.out.setCell (Nat.le_refl _) _);generalize (KEY[n] ^^^ m).toNat=y at *;unfold vbS at c9;generalize KEY[n].toNat=x at *;clear hget HY HB;go_wp2_with fail;go_roundw
   case rel=>exact ⟨n + 1,by omega,by go_num,FIN,FB⟩
   case measure=>simp [intOf]; omega
  ·obtain rfl:n=64:=by omega
   have hli:¬ (((64:Nat):Int) < 64):=by omega
   have hcv:(convert 31 9 (.slice (some ⟨w.heap.size,0,none⟩) 64 64)).run Tryz.prog wr=.ok (.string (Str L)) wr:=by
    have h:=HY.out;rw [rS KEY m 64 (by rw [hl64.out]; exact Nat.le_refl _),HL.out] at h;have hL:L.length=64:=by rw [← HL.out,List.length_map,hl64.out]
    have:=run_convert_bytes_back (P:=Tryz.prog) wr 31 9 5 ⟨w.heap.size,0,none⟩ 64 L Tryz.underlying31 Tryz.underlying5 Tryz.underlying9 (fun j hj=>by
     rw [bU]; simpa [vbS] using h.cell j hj)
    rw [hL] at this;exact this
   go_wp2_with fail;go_ret;exact ⟨rfl,HB.out⟩
theorem iD (key:ByteArray) (m:UInt8) (z:Int) (hz:(m.toNat:Int)=z) (w:World) (hk:key.size≤64) :
  Calls Tryz.prog 133 #[.string key,.int .u8 z] w fun e w' => e=.returned (.string (mL key m))∧Below w.heap.size w w' := sI key m z hz w hk _ (Hd rfl)
end Go.Proofs.YthcejfnngkmojaaGreatDoor
