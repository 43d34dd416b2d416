/-
 Rw.
-/
import Derived.Test.YthcejfnngkmojaaGreatDoorO19
import Derived.Test.YthcejfnngkmojaaGreatDoorO12
namespace Go.Proofs.YthcejfnngkmojaaGreatDoor
open Go Go.RowKit
set_option maxRecDepth 20000
set_option maxHeartbeats 12800000
set_option linter.unusedVariables false
set_option linter.unusedSimpArgs false
theorem TxS.adds {w0 w w' : World} {R:List Nat} {t d s n:Nat} {E:List Ent} (h:TxS w0 R w t d s n E) {G:Nat → Prop} (hG:∀ i,G i → (i ∈ R ∧ i ≠ t) ∧ w0.heap.size ≤ i) (hf:Frm G w w') (k:Nat) (hk:k ∈ R ∨ (w.heap.size ≤ k ∧ k < w'.heap.size)):TxS w0 (k :: R) w' t d s n E:=by
 have hl:=h.lt.2;obtain ⟨⟨q,h1,h2⟩,h3⟩:=h;exact ⟨⟨q,(h1.adds (fun i hi=>⟨List.mem_cons_of_mem _ (hG i hi).1.1,(hG i hi).2⟩) hf k (hk.imp (List.mem_cons_of_mem _) id)).sub (fun i hi=>by simp only [List.mem_cons] at hi ⊢; rcases hi with hi | hi | hi <;> simp [hi]),(hf.block t hl (fun e=>(hG t e).1.2 rfl)).trans h2⟩,h3⟩
structure RowS (w0:World) (R:List Nat) (e:TypeId) (w:World) (t d s:Nat) (E:List Ent) (v:Value) (xs:List Value):Prop where
 tx:TxS w0 (v.ownBlock.toList ++ R) w t d s 640 E
 row:w.ownsRow 0 e 1 v xs.length xs
 ob:∀ i,v.ownBlock = some i → w0.heap.size ≤ i ∧ i ≠ t ∧ i ∉ R
section
variable {w0 w w' : World} {R:List Nat} {e:TypeId} {t d s:Nat} {E E' : List Ent} {v:Value} {xs:List Value}
theorem RowS.nil (h:TxS w0 R w t d s 640 E):RowS w0 R e w t d s E (.slice none 0 0) []:=⟨h,World.ownsRow_nil _ _ _ _,fun i hi=>(by cases hi)⟩
theorem RowS.txn (h:RowS w0 R e w t d s E v xs) (h1:TxS w0 (v.ownBlock.toList ++ R) w' t d s 640 E') (k:KeptT (v.ownBlock.toList ++ R) t w w'):RowS w0 R e w' t d s E' v xs :=
 ⟨h1,tC h.row fun i hi=>k i (by simp [hi]) (h.ob i hi).2.1,h.ob⟩
theorem RowS.below (h:RowS w0 R e w t d s E v xs) (hb:Below w.heap.size w w'):RowS w0 R e w' t d s E v xs:=h.txn (h.tx.below hb) (h.tx.kept hb)
theorem RowS.app (h:RowS w0 R e w t d s E v xs) {ty:TypeId} {i:TypeInfo} {z:Value} {by_:Nat} (hbl:by_ ≤ 1000) (ht:Tryz.prog.underlying ty = some (.slice e)) (hi:Tryz.prog.info? e = some i) (hz:i.zero = some z)
  (hsize:i.size = 1) (hby:i.bytes = by_) (hzs:z.cells.size = 1) (u:Value) (h1:u.oneCell' = true) (hn:xs.length ≤ 100000) :
  ∃ v' w', (Builtin.append_ #[ty,ty] ty #[v,.slice (some ⟨w.heap.size,0,none⟩) 1 1]).run Tryz.prog (w.alloc (.cells #[u] e)) = .ok v' w' ∧ RowS w0 R e w' t d s E v' (xs ++ [u]) ∧ Frm (fun i=>v.ownBlock = some i) w w' := by
 have hb:=aA w (.cells #[u] e);have h9:=h.below hb;obtain ⟨v', w', k,hr,ho,hg,k1,k2⟩:=rT (P:=Tryz.prog) (w.alloc (.cells #[u] e)) 0 ty ty e i z by_ hbl ht hi hz hsize hby hzs v xs.length xs h9.row w.heap.size u (by rw [World.cell?_alloc_new]; rfl) h1 hn (Nat.zero_le _);have hfr:Frm (fun i=>v.ownBlock = some i) (w.alloc (.cells #[u] e)) w' := (Frm.refl _ _).grown hg fun i hi=>.inl hi
 have hlt' : k < w'.heap.size:=by
  rcases ho.2 with ⟨rfl,_⟩ | ⟨g,cap,cur,rfl,_,hgg,_⟩
  ·cases k1
  ·have:k = g:=by injection k1 with h1; exact h1.symm
   rw [this]; exact (Array.getElem?_eq_some_iff.1 hgg).1
 have hs9:(w.alloc (.cells #[u] e)).heap.size = w.heap.size + 1:=by simp
 have hl:=h.tx.lt
 have hlo:w0.heap.size ≤ k ∧ k ≠ t ∧ k ∉ R:=by
  rcases k2 with k2 | rfl
  ·exact h.ob k k2
  ·have a1:=h.tx.from.size
   exact ⟨by omega,by omega,fun hk=>by have:=hl.1 _ (List.mem_append_right _ hk); omega⟩
 refine ⟨v', w', hr,⟨?_,by rw [List.length_append]; exact ho,fun i hi=>?_⟩,?_⟩
 ·have:=(h9.tx.adds (G:=fun i=>v.ownBlock = some i) (fun i hi=>⟨⟨by simp [hi],(h.ob i hi).2.1⟩,(h.ob i hi).1⟩) hfr k (k2.elim (fun e=>.inl (by simp [e])) (fun e=>.inr ⟨by omega,hlt'⟩)))
  refine this.sub fun i hi=>?_
  rw [k1] at hi;simp only [Option.toList_some,List.cons_append,List.nil_append,List.mem_cons] at hi
  rcases hi with rfl | hi
  ·simp
  ·simp [hi]
 ·rw [k1] at hi
  injection hi with hi;rw [← hi];exact hlo
 ·exact (Frm.of_below (F:=fun i=>v.ownBlock = some i) hb).trans hfr fun i hi=>.inl hi
theorem RowS.cell {a:Option Addr} {c:Nat} (h:RowS w0 R e w t d s E (.slice a xs.length c) xs) {j:Nat} {u:Value} (hj:xs[j]? = some u):∃ g,a = some ⟨g,0,none⟩ ∧ w.cell? ⟨g,j,none⟩ = some u:=by
 have hlt:=(List.getElem?_eq_some_iff.1 hj).1
 rcases h.row.2 with ⟨_,h0⟩ | ⟨g,cap,cur,hv,_,hh,h1,h2,h3,h4⟩
 ·omega
 ·injection hv with e1 e2 e3
  subst e1;refine ⟨g,rfl,?_⟩;rw [Go.Joins.cell_of_block hh];have:(cur.toList.take (xs.length * 1))[j]? = some u:=by rw [h4]; exact hj
  rw [List.getElem?_take] at this
  split at this
  ·simpa using this
  ·cases this
theorem RowS.shape (h:RowS w0 R e w t d s E v xs):∃ a c,v = .slice a xs.length c:=by
 rcases h.row.2 with ⟨h1,h2⟩ | ⟨g,cap,cur,hv,_⟩
 ·exact ⟨none,0,by rw [h1,h2]⟩
 ·exact ⟨_,_,hv⟩
end
end Go.Proofs.YthcejfnngkmojaaGreatDoor
