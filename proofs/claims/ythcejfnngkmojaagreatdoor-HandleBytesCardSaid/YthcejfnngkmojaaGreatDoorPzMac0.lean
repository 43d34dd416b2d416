/-
 Mac0.
-/
import Derived.Test.YthcejfnngkmojaaGreatDoorPzSumFacts
import Derived.Lib.BufferWrite
import Derived.StillTailTactics
import Derived.Outline
namespace Go.Proofs.YthcejfnngkmojaaGreatDoor
open Go.RowKit
set_option maxRecDepth 20000
set_option maxHeartbeats 12800000
set_option linter.unusedVariables false
set_option linter.unusedSimpArgs false
theorem kG (a b:Nat) (ha:a < 256) (hb:b < 256):bits .xor .u8 (a:Int) (b:Int)=((a ^^^ b:Nat):Int):=by
 have hx:a ^^^ b < 2 ^ 8:=Nat.xor_lt_two_pow (by omega) (by omega)
 have h8:∀ a:Nat,a < 256→(BitVec.ofInt 8 (a:Int)).toNat=a:=fun a ha=>by
  rw [BitVec.ofInt_natCast,BitVec.toNat_ofNat]; exact Nat.mod_eq_of_lt (by omega)
 show IntKind.u8.wrap ((BitVec.ofInt 8 (a:Int) ^^^ BitVec.ofInt 8 (b:Int)).toNat:Int)=_
 rw [BitVec.toNat_xor,h8 a ha,h8 b hb,IntKind.wrap_u8];omega
def lK (l:List UInt8):List UInt8:=l ++ List.replicate (64 - l.length) 0
theorem kN (l:List UInt8) (h:l.length≤64):(lK l).length=64:=by unfold lK; simp; omega
def dM (l:List UInt8) (m:UInt8) (n:Nat):List UInt8:=(l.take n).map (· ^^^ m) ++ l.drop n
theorem dU (l:List UInt8) (m:UInt8) (n:Nat):(dM l m n).length=l.length:=by unfold dM; simp; omega
theorem qG (l:List UInt8) (m:UInt8):dM l m 0=l:=by simp [dM]
theorem rS (l:List UInt8) (m:UInt8) (n:Nat) (h:l.length≤n):dM l m n=l.map (· ^^^ m):=by
 unfold dM; rw [List.take_of_length_le h,List.drop_of_length_le h,List.append_nil]
theorem rR (l:List UInt8) (m:UInt8) (n:Nat) (h:n < l.length):(dM l m n)[n]?=some l[n]:=by
 unfold dM;rw [List.getElem?_append_right (by simp; omega)];simp [Nat.min_eq_left (Nat.le_of_lt h)]
theorem qH (l:List UInt8) (m:UInt8) (n:Nat) (h:n < l.length):(dM l m n).set n (l[n] ^^^ m)=dM l m (n + 1):=by
 unfold dM;rw [List.set_append_right _ _ (by simp; omega)];have e:n - ((l.take n).map (· ^^^ m)).length=0:=by simp; omega
 rw [e,List.drop_eq_getElem_cons h,List.set_cons_zero,List.take_succ_eq_append_getElem h,List.map_append,List.append_assoc]
 rfl
def mL (key:ByteArray) (m:UInt8):ByteArray:=Str ((lK key.data.toList).map (· ^^^ m))
theorem kH (key:ByteArray) (m:UInt8) (h:key.size≤64):(mL key m).size=64:=by
 unfold mL; rw [aK,List.length_map,kN _ (by simpa using h)]
theorem mV {P:Program} {w:World} {ops:Array Oper} {rest:List Oper} {o:Oper} {a:Act} {Q:Exit→Act→World→Prop} (hgd:o.guard=none) (d s:Operand) (dT sT:TypeId)
  (ho:o.op=.call { callee:=.builtin .copy,args:=#[d,s],argTypes:=#[dT,sT] }) (elem:TypeId) (hu:P.underlying dT=some (.slice elem)) (hsz:(P.info? elem).map (·.size)=some 1)
  (g off dLen dCap:Nat) (hd:a.eval d=.slice (some ⟨g,off,none⟩) dLen dCap) (t:ByteArray) (hs:a.eval s=.string t)
  (cur:Array Value) (T:TypeId) (hg:w.heap[g]?=some (.cells cur T (0,0))) (hle:t.size≤dLen) (hfit:off + t.size≤cur.size)
  (h:wpList P ops Q rest (a.put o.dst (goInt t.size)) (w.setRow g (cur.toList.take off ++ Lib.byteCells t.data.toList ++ cur.toList.drop (off + t.size)).toArray)):wpList P ops Q (o :: rest) a w:=by
 refine wpList_plain hgd fun K hK=>?_
 have hrun:=Lib.run_copy_row_string (P:=P) w dT sT o.type elem g off dLen dCap t cur T hu hsz hg hle hfit;unfold Oper.wp;simp [execOp,ho,resolve,invoke,builtin,hd,hs,hrun,Result.andThen];refine hK _ _ ?_
 simpa using h
theorem YA (key:ByteArray) (hk:key.size≤64):((ByS (List.replicate 64 0)).toList.take 0 ++ Lib.byteCells key.data.toList ++ (ByS (List.replicate 64 0)).toList.drop (0 + key.size)).toArray=ByS (lK key.data.toList):=by
 have hs:key.data.toList.length=key.size:=by simp
 apply Array.ext';simp only [ByS,lK,Lib.byteCells,List.take_zero,List.nil_append,Nat.zero_add,List.map_replicate,List.drop_replicate,List.map_append,hs]
 rfl
theorem wF (p:Nat) (key:ByteArray) (m:UInt8) (w:World) (hp:p < w.heap.size) (hc:w.cell? ⟨p,0,none⟩=some (.string key)) (hk:key.size≤64) (L:List UInt8) (HL:Hid ((lK key.data.toList).map (· ^^^ m)=L)) :
  Calls Tryz.prog 151 #[.int .u8 (m.toNat:Int),.pointer (some ⟨p,0,none⟩)] w fun e w' => e=.returned (.string (Str L))∧Below w.heap.size w w' := by
 go_enter Tryz.func151,Tryz.ntmps151;go_wp2_with fail;have HZ:Hid (BytS 219 (w.alloc (.cells (ByS (List.replicate 64 0)) 219)) w.heap.size (List.replicate 64 0)):=Hd (heap_alloc_new w _);have HB0:Hid (Below w.heap.size w (w.alloc (.cells (ByS (List.replicate 64 0)) 219))):=Hd (Br.alloc (Nat.le_refl _) _);have hc2:(w.alloc (.cells (ByS (List.replicate 64 0)) 219)).cell? ⟨p,0,none⟩=some (.string key):=(HB0.out.cell (p:=⟨p,0,none⟩) hp).trans hc;change Code.wp _ _ _ _ (w.alloc (.cells (ByS (List.replicate 64 0)) 219));generalize hg:w.heap.size=g at *
 generalize w.alloc (.cells (ByS (List.replicate 64 0)) 219)=w1 at *;refine wp_region_still_tail 2 (by kernel_rfl) (by kernel_rfl) ?_;simp only [List.take_succ_cons,List.take_zero,List.drop_succ_cons,List.drop_zero]
 still_step
 still_step
 refine wpStill_nil ?_;change wpList _ _ _ _ _ w1.drew;refine mV rfl (.tmp 6) (.tmp 7) 31 9 rfl 5 Tryz.underlying31 (by kernel_rfl) g 0 64 64 rfl key rfl (ByS (List.replicate 64 0)) 219 HZ.out hk (by simp [ByS]; exact hk) ?_;have HB1:=Hd (below_setRow HB0.out.drew (Nat.le_refl g) (((ByS (List.replicate 64 0)).toList.take 0 ++ Lib.byteCells key.data.toList ++ (ByS (List.replicate 64 0)).toList.drop (0 + key.size)).toArray))
 have HT:Hid (BytS 219 (w1.drew.setRow g (((ByS (List.replicate 64 0)).toList.take 0 ++ Lib.byteCells key.data.toList ++ (ByS (List.replicate 64 0)).toList.drop (0 + key.size)).toArray)) g (dM (lK key.data.toList) m 0)):=Hd (by
  have h:=setRow_heap w1.drew g _ (((ByS (List.replicate 64 0)).toList.take 0 ++ Lib.byteCells key.data.toList ++ (ByS (List.replicate 64 0)).toList.drop (0 + key.size)).toArray) _ (0,0) HZ.out;rw [qG];unfold BytS;rw [h,YA key hk])
 generalize World.setRow _ _ _=w2 at *;have hl64:=Hd (kN key.data.toList (by simpa using hk));clear HZ HB0 hc2 hc;go_wp2_with fail;generalize hKEY:lK key.data.toList=KEY at *;clear hKEY hk
 go_loopw [9] (fun i wr=>∃ n:Nat,n≤64∧i=.int .i64 (n:Int)∧Hid (BytS 219 wr g (dM KEY m n))∧Hid (Below g w wr)) (fun i _=>65 - (intOf i).toNat)
 case atStart=>exact ⟨0,by omega,rfl,HT,HB1⟩
 case round =>
  obtain ⟨n,hn,rfl,HY,HB⟩:=hrel
  by_cases hlt:n < 64
  ·have hli:(n:Int) < 64:=by omega
   have hnk:n < KEY.length:=by rw [hl64.out]; exact hlt
   have hx:bits .xor .u8 (KEY[n].toNat:Int) (m.toNat:Int)=(((KEY[n] ^^^ m).toNat:Nat):Int):=by
    rw [kG _ _ KEY[n].toNat_lt m.toNat_lt]; rfl
   have c9:=HY.out.cell n (by rw [dU]; exact hnk)
   have hget:(dM KEY m n)[n]'(by rw [dU]; exact hnk)=KEY[n]:=by
    have:=rR KEY m n hnk;rw [List.getElem?_eq_getElem (by rw [dU]; exact hnk)] at this;injection this
   rw [hget] at c9;have f9:=HY.out.free n
   have FIN:Hid (BytS 219 (wr.setCell ⟨g,n,none⟩ (.int .u8 (((KEY[n] ^^^ m).toNat:Nat):Int))) g (dM KEY m (n + 1))):=Hd (by
    have:=HY.out.set n (KEY[n] ^^^ m);rwa [qH KEY m n hnk] at this)
   have FB:Hid (Below g w (wr.setCell ⟨g,n,none⟩ (.int .u8 (((KEY[n] ^^^ m).toNat:Nat):Int)))):=Hd (HB.out.setCell (Nat.le_refl _) _);generalize (KEY[n] ^^^ m).toNat=y at *;unfold vbS at c9;generalize KEY[n].toNat=x at *;clear hget HY HB;go_wp2_with fail;go_roundw
   case rel=>exact ⟨n + 1,by omega,by go_num,FIN,FB⟩
   case measure=>simp [intOf]; omega
  ·obtain rfl:n=64:=by omega
   have hli:¬ (((64:Nat):Int) < 64):=by omega
   have hcv:(convert 31 9 (.slice (some ⟨g,0,none⟩) 64 64)).run Tryz.prog wr=.ok (.string (Str L)) wr:=by
    have h:=HY.out;rw [rS KEY m 64 (by rw [hl64.out]; exact Nat.le_refl _),HL.out] at h;have hL:L.length=64:=by rw [← HL.out,List.length_map,hl64.out]
    have:=run_convert_bytes_back (P:=Tryz.prog) wr 31 9 5 ⟨g,0,none⟩ 64 L Tryz.underlying31 Tryz.underlying5 Tryz.underlying9 (fun j hj=>by
     rw [bU]; simpa [vbS] using h.cell j hj)
    rw [hL] at this;exact this
   go_wp2_with fail;go_ret;exact ⟨rfl,HB.out⟩
end Go.Proofs.YthcejfnngkmojaaGreatDoor
