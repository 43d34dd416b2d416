/-
 SlV.
-/
import Derived.Test.YthcejfnngkmojaaGreatDoorO17
import Derived.Test.YthcejfnngkmojaaGreatDoorOzSlM
import Derived.Laws.Rows
import Derived.Laws.Tables
namespace Go.Proofs.YthcejfnngkmojaaGreatDoor
open Go Go.RowKit
set_option maxRecDepth 20000
set_option maxHeartbeats 12800000
set_option linter.unusedVariables false
set_option linter.unusedSimpArgs false
theorem sF {w:World} {a:Option Addr} {len cap:Nat} {zs:List Int} (hk:IsInts .u8 w a len cap zs) (j:Nat) (hj:j < len):∃ (x:Addr) (z:Int),a = some x ∧ zs.getD j 0 = z ∧ (0 ≤ z ∧ z ≤ 255) ∧ Hid (∀ wr,Below w.heap.size w wr → wr.cell? (x.add j) = some (.int .u8 z)):=by
 rcases hk with ⟨rfl,rfl,rfl,rfl⟩ | ⟨x,rfl,h1,h2,h3,h4,h5⟩
 ·omega
 ·have hjl:j < zs.length:=by omega
  refine ⟨x,_,rfl,rfl,?_,Hd fun wr hb=>?_⟩
  ·have hm:zs.getD j 0 ∈ zs:=by
    rw [List.getD_eq_getElem?_getD,List.getElem?_eq_getElem hjl];exact List.getElem_mem hjl
   have hw:=h5 _ hm;generalize zs.getD j 0 = z at hw ⊢;simp [Lit.wf] at hw;have e1:IntKind.u8.min = 0:=by rfl
   have e2:IntKind.u8.max = 255:=by rfl
   omega
  ·have hc:=h4 j hjl
   have hlt:(x.add j).block < w.heap.size:=by
    unfold World.cell? at hc
    cases hq:w.heap[(x.add j).block]? with
    | none=>rw [hq] at hc; simp at hc
    | some b=>exact (Array.getElem?_eq_some_iff.1 hq).1
   exact (hb.cell hlt).trans hc
theorem DX {w:World} {a:Option Addr} {len cap:Nat} {zs:List Int} (hk:IsInts .u8 w a len cap zs):(len:Int) ≤ 9223372036854775807:=by
 rcases hk with ⟨_,rfl,_,_⟩ | ⟨_,_,h1,h2,_⟩
 ·decide
 ·unfold maxLen at h2; omega
end Go.Proofs.YthcejfnngkmojaaGreatDoor
