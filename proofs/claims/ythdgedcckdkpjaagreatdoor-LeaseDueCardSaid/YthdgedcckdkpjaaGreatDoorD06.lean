import Derived.Test.YthdgedcckdkpjaaGreatDoorD01
namespace Go.Proofs.YthdgedcckdkpjaaGreatDoor
open Go.RowKit
set_option maxRecDepth 20000
set_option maxHeartbeats 12800000
set_option linter.unusedVariables false
set_option linter.unusedSimpArgs false
def Buf (w:World)(g:Nat)(l:List UInt8):Prop:=
 g<w.heap.size/\∀ j (hj:j<l.length),w.cell? ⟨g,j,none⟩=some (.int .u8 (l[j].toNat:Int))/\w.frozen? ⟨g,j,none⟩=false
theorem Buf.cell {w:World}{g:Nat}{l:List UInt8}(h:Buf w g l)(j:Nat)(hj:j<l.length):w.cell? ⟨g,j,none⟩=some (.int .u8 (l[j].toNat:Int)):=(h.2 j hj).1
theorem Buf.conv {w:World}{g:Nat}{l:List UInt8}(h:Buf w g l)(cap:Nat):(convert 138 9 (.slice (some ⟨g,0,none⟩) l.length cap)).run Tryz.prog w=.ok (.string (Str l)) w:=
 run_convert_bytes_back (P:=Tryz.prog) w 138 9 5 ⟨g,0,none⟩ cap l Tryz.underlying138 Tryz.underlying5 Tryz.underlying9 (fun j hj=>by rw[fU];simpa using h.cell j hj)
