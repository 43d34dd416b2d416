/-
 Hub.
-/
import Derived.Test.YthcejfnngkmojaaGreatDoorO01
namespace Go.Proofs.YthcejfnngkmojaaGreatDoor
open Go Go.RowKit
set_option maxRecDepth 20000
set_option maxHeartbeats 12800000
set_option linter.unusedVariables false
set_option linter.unusedSimpArgs false
theorem aDW {z:Int} (h0:0 ≤ z) (h1:z ≤ 255):∃ b:UInt8,(b.toNat:Int) = z:=by
 refine ⟨UInt8.ofNat z.toNat,?_⟩;rw [UInt8.toNat_ofNat'];omega
theorem YB (x m:UInt8) (hm:1 ≤ m.toNat):x + m ≠ x ∧ IntKind.u8.wrap ((x.toNat:Int) + (m.toNat:Int)) = (((x + m).toNat:Nat):Int) ∧ ((x.toNat:Int) + (m.toNat:Int)) % 256 = (((x + m).toNat:Nat):Int):=by
 have hx:=x.toNat_lt;have hm2:=m.toNat_lt;refine ⟨fun h=>?_,?_,?_⟩
 ·have:=congrArg UInt8.toNat h
  rw [UInt8.toNat_add] at this;simp at this;omega
 ·rw [IntKind.wrap_u8,UInt8.toNat_add]
  simp
 ·rw [UInt8.toNat_add]
  simp
end Go.Proofs.YthcejfnngkmojaaGreatDoor
