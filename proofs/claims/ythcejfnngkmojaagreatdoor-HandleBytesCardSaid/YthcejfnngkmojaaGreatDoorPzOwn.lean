/-
 Own.
-/
import Derived.Test.YthcejfnngkmojaaGreatDoorP01
import Derived.Lib.OthersKept
import Derived.Laws.Cover4
namespace Go.Proofs.YthcejfnngkmojaaGreatDoor
open Go.RowKit
set_option maxRecDepth 20000
set_option maxHeartbeats 12800000
set_option linter.unusedVariables false
set_option linter.unusedSimpArgs false
theorem vE {w:World} {base:Nat} {e:TypeId} {v:Value} {n:Nat} {xs:List Value} (h:w.ownsRow base e 1 v n xs) :
  (v=.slice none 0 0∧xs=[])∨∃ g cap,v=.slice (some ⟨g,0,none⟩) xs.length cap∧xs.length=n∧∀ j u,xs[j]?=some u→w.cell? ((⟨g,0,none⟩:Addr).add j)=some u:=by
 have hl:xs.length=n:=by have:=h.1; omega
 rcases h.2 with ⟨rfl,h0⟩ | ⟨g,cap,cur,hv,hb,hh,hn,hc,hs,ht⟩
 ·exact .inl ⟨rfl,List.eq_nil_of_length_eq_zero (by omega)⟩
 ·refine .inr ⟨g,cap,by rw [hl]; exact hv,hl,h.cells (by rw [hv]; rfl)⟩
theorem tT {w:World} {base:Nat} {v:Value} {n:Nat} (xs:List UInt8) (h:w.ownsRow base 5 1 v n (xs.map fun b=>.int .u8 (b.toNat:Int))) :
  (convert 31 9 v).run Tryz.prog w=.ok (.string (Str xs)) w:=by
 rcases vE h with ⟨rfl,hx⟩ | ⟨g,cap,hv,hl,hc⟩
 ·have:xs=[]:=by simpa using hx
  subst this;exact run_convert_bytes_nil (P:=Tryz.prog) w 31 5 Tryz.underlying31 Tryz.underlying5 0 0 9 Tryz.underlying9
 ·rw [hv,List.length_map]
  exact run_convert_bytes_back (P:=Tryz.prog) w 31 9 5 ⟨g,0,none⟩ cap xs Tryz.underlying31 Tryz.underlying5 Tryz.underlying9 (fun j hj=>hc j _ (by simp [List.getElem?_eq_getElem hj]))
end Go.Proofs.YthcejfnngkmojaaGreatDoor
