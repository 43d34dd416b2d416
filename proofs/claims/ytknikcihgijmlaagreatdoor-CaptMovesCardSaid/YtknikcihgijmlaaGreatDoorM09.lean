import Derived.Test.YtknikcihgijmlaaGreatDoorM07
namespace Go.Proofs.YtknikcihgijmlaaGreatDoor
open Go.RowKit
set_option maxRecDepth 20000
set_option maxHeartbeats 12800000
set_option linter.unusedVariables false
set_option linter.unusedSimpArgs false
theorem Buf.zeros (w:World)(n:Nat)(hn:n<=140737488351232):∃ w2,(Instr.makeSlice 93 (.int .i64 (n:Int)) (.int .i64 (n:Int))).run Tryz.prog w=.ok (.slice (some ⟨w.heap.size,0,none⟩) n n) w2/\Buf w2 w.heap.size (List.replicate n 0)/\Below w.heap.size w w2 /\
  (convert 93 9 (.slice (some ⟨w.heap.size,0,none⟩) n n)).run Tryz.prog w2=.ok (.string (Str (List.replicate n 0))) w2:=by
 have hr:=run_make (P:=Tryz.prog) w 93 5 Tryz.t5 (.int .u8 0) Tryz.underlying93 (by kernel_rfl) (by kernel_rfl) .i64 .i64 (n:Int) (n:Int) (by omega) (by omega) (by show((1:Nat):Int)*_<=_;omega) (by omega);have hsz:(Tryz.t5).size=1:=by kernel_rfl
 rw[Int.toNat_natCast,hsz,Nat.mul_one] at hr
 have hB:Buf (w.alloc (.cells (madeCells (Value.int .u8 0).cells n) 5)) w.heap.size (List.replicate n 0):=by
  refine⟨by simp,fun j hj=>?_⟩;have hj':j<n:=by simpa using hj
  constructor
  ·rw[World.cell?_alloc_new]
   simp only[madeCells,List.getElem_replicate,Array.getElem?_map];rw[Array.getElem?_range,if_pos hj'];simp[Value.cells,Nat.mod_one]
  ·have hh:=han w (.cells (madeCells (Value.int .u8 0).cells n) 5)
   simp only[World.frozen?,hh];simp
 refine⟨_,hr,hB,Br.alloc (Nat.le_refl _) _,?_⟩;have:=hB.conv n;rwa [List.length_replicate] at this
def aBM (n:Int):Nat:=((min (max n 0) 100000+7) / 8).toNat
theorem XM (n:Int)(m:Nat)(w:World)(h0:-9223372036854775808<=n)(h1:n<9223372036854775808)(hm:m<=12500)
  (hc:(n<0/\m=0)\/(0<=n/\n<=100000/\((m:Nat):Int)=(n+7) / 8)\/(100000<n/\m=12500)) :
  () 67 #[n] w fun e w'=>e=.returned (.string (Str (List.replicate m 0)))/\Below w.heap.size w w':=by
 obtain⟨w2,hmk,hB,hW,hcv⟩:=Buf.zeros w m (by omega);have HB:=Hd hB;clear hB;generalize Str (List.replicate m 0)=s at *
 rcases hc with⟨hn,rfl⟩|⟨hn,hn',hmm⟩|⟨hn,rfl⟩
 ·rw[show((0:Nat):Int)=0 from rfl] at hmk
  go_enter Tryz.func67,Tryz.ntmps67;go_wp2_with fail;go_ret;exact⟨rfl,hW⟩
 ·rw[hmm,show(n+7) / 8=(n+8-1) / 8 by omega] at hmk
  go_enter Tryz.func67,Tryz.ntmps67;go_wp2_with fail;go_ret;exact⟨rfl,hW⟩
 ·rw[show((12500:Nat):Int)=12500 from rfl] at hmk
  go_enter Tryz.func67,Tryz.ntmps67;go_wp2_with fail;go_ret;exact⟨rfl,hW⟩
theorem aBL (n:Int)(w:World)(h0:-9223372036854775808<=n)(h1:n<9223372036854775808) :
  () 67 #[n] w fun e w'=>e=.returned (.string (Str (List.replicate (aBM n) 0)))/\Below w.heap.size w w':=
 XM n _ w h0 h1 (by unfold aBM;omega) (by unfold aBM;omega)
