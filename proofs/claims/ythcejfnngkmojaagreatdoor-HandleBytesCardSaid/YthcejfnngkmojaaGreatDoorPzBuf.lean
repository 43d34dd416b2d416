/-
 Buf.
-/
import Derived.Test.YthcejfnngkmojaaGreatDoorP01
import Derived.Lib.OthersKept
import Derived.Laws.Cover4
namespace Go.Proofs.YthcejfnngkmojaaGreatDoor
open Go.RowKit
set_option maxRecDepth 20000
set_option maxHeartbeats 12800000
set_option linter.unusedVariables false
set_option linter.unusedSimpArgs false
def Buf (w:World) (g:Nat) (l:List UInt8):Prop :=
 g < w.heap.size∧∀ j (hj:j < l.length),w.cell? ⟨g,j,none⟩=some (.int .u8 (l[j].toNat:Int))∧w.frozen? ⟨g,j,none⟩=false
theorem Buf.cell {w:World} {g:Nat} {l:List UInt8} (h:Buf w g l) (j:Nat) (hj:j < l.length):w.cell? ⟨g,j,none⟩=some (.int .u8 (l[j].toNat:Int)):=(h.2 j hj).1
theorem Buf.free {w:World} {g:Nat} {l:List UInt8} (h:Buf w g l) (j:Nat) (hj:j < l.length):w.frozen? ⟨g,j,none⟩=false:=(h.2 j hj).2
theorem Buf.conv {w:World} {g:Nat} {l:List UInt8} (h:Buf w g l) (cap:Nat):(convert 31 9 (.slice (some ⟨g,0,none⟩) l.length cap)).run Tryz.prog w=.ok (.string (Str l)) w :=
 run_convert_bytes_back (P:=Tryz.prog) w 31 9 5 ⟨g,0,none⟩ cap l Tryz.underlying31 Tryz.underlying5 Tryz.underlying9 (fun j hj=>by rw [bU]; simpa using h.cell j hj)
theorem Buf.made (w:World) (s:ByteArray) (cap:Nat):Buf (w.drew.alloc (.cells (bytesRow s cap) 5 ((bytesRow s cap).size,(bytesRow s cap).size + 1))) w.heap.size s.data.toList:=by
 have hsz:s.data.toList.length≤(bytesRow s cap).size:=by simp [bytesRow]
 refine ⟨by simp,fun j hj=>?_⟩;have hj' : j < s.data.size:=by simpa using hj
 refine ⟨?_,?_⟩
 ·have:=cell_of_row (w.drew.alloc (.cells (bytesRow s cap) 5 ((bytesRow s cap).size,(bytesRow s cap).size + 1))) w.heap.size j (bytesRow s cap) 5 ((bytesRow s cap).size,(bytesRow s cap).size + 1) (heap_alloc_new w.drew _)
  rw [this,bytesRow_at s cap j hj'];simp
 ·have hh:=heap_alloc_new w.drew (.cells (bytesRow s cap) 5 ((bytesRow s cap).size,(bytesRow s cap).size + 1))
  have hd:w.drew.heap.size=w.heap.size:=rfl;rw [hd] at hh;simp only [World.frozen?,hh];simp;omega
end Go.Proofs.YthcejfnngkmojaaGreatDoor
