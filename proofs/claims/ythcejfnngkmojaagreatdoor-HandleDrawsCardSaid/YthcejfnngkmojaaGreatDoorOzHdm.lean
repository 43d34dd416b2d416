/-
 Hdm.
-/
import Derived.Test.YthcejfnngkmojaaGreatDoorO22
import Derived.Test.YthcejfnngkmojaaGreatDoorOzRw
import Derived.Test.YthcejfnngkmojaaGreatDoorOzSlV
namespace Go.Proofs.YthcejfnngkmojaaGreatDoor
open Go Go.RowKit
set_option maxRecDepth 20000
set_option maxHeartbeats 12800000
set_option linter.unusedVariables false
set_option linter.unusedSimpArgs false
theorem EM {w0 w:World} {R:List Nat} {t d s n:Nat} {E:List Ent} {key most:Int} (h:TxS w0 R w t d s n E) (hE:E.length ≤ 600) (LS:List Ent) (hLS:(aS key E).take most.toNat = LS) :
  Calls Tryz.prog 38 #[.pointer (some ⟨t,0,none⟩),.int .u64 key,.int .i64 most] w fun e w' => ∃ va vc,e = .returned (.slice va LS.length vc) ∧ TxS w0 R w' t d s n E ∧ KeptT R t w w' := by
 obtain ⟨F,h1,h2,h3⟩:=h.said;have hl:=h.lt;refine (EO h1 hE LS hLS).mono ?_;rintro e w' ⟨v,rfl,g1,g2,_,g4⟩;obtain ⟨va,vc,rfl⟩:=g2.shape;exact ⟨va,vc,rfl,g1.hide fun k hk=>⟨Nat.lt_of_lt_of_le (hl.1 k hk) g4.size,h2 k hk⟩,fun k hk hn=>g4.block k (hl.1 k hk) fun e=>e.elim (h2 k hk) hn⟩
def drL (U:List Int):List (Int × Int × Int):=U.map fun n=>((1,1,n):Int × Int × Int)
theorem jC (U:List Int):(drL U).length = U.length:=by unfold drL; simp
structure DrU (U:List Int) (j:Nat):Prop where
 len:U.length ≤ j
 rng:∀ x ∈ U,0 ≤ x ∧ x ≤ 7
theorem xQ {U:List Int} {x:Int × Int × Int} (h:x ∈ drL U):∃ n ∈ U,x = (1,1,n):=by
 unfold drL at h;obtain ⟨n,hn,rfl⟩:=List.mem_map.1 h;exact ⟨n,hn,rfl⟩
theorem IS {U:List Int} {j:Nat} (h:DrU U j) (hj:j ≤ 12):SlL (drL U):=by
 refine ⟨by rw [jC]; have:=h.len; omega,fun i x hx=>?_⟩;have hi:i < U.length:=by have:=(List.getElem?_eq_some_iff.1 hx).1; rwa [jC] at this
 obtain ⟨n,hn,rfl⟩:=xQ (List.mem_of_getElem? hx);have:=h.rng n hn;have:=h.len;refine ⟨?_,by show (0:Int) ≤ n; omega,by show n ≤ _; omega⟩;unfold bV;simp only [Bool.and_eq_true,gL];exact ⟨⟨⟨by omega,by decide⟩,by decide⟩,by simp⟩
theorem QI {U:List Int} {n:Int} (h:n ∉ U):∀ x ∈ drL U,dV x.1 x.2.2 n = false:=fun x hx=>by
 obtain ⟨m,hm,rfl⟩:=xQ hx;unfold dV;have:(m == n) = false:=by simp; intro e; exact h (e ▸ hm)
 show (_ && (m == n)) = false
 rw [this,Bool.and_false]
theorem WY {U:List Int}:∀ y ∈ drL U,gS y.1 y.2.1 = false:=fun x hx=>by
 obtain ⟨m,hm,rfl⟩:=xQ hx
 rfl
theorem WZ (U:List Int) (n:Int):drL U ++ [(1,1,n)] = drL (U ++ [n]):=by unfold drL; rw [List.map_append]; rfl
theorem DrU.next {U:List Int} {j:Nat} (h:DrU U j) {n:Int} (h0:0 ≤ n) (h7:n ≤ 7):DrU (U ++ [n]) (j + 1):=⟨by rw [List.length_append]; have:=h.len; simp; omega,fun x hx=>by
 rcases List.mem_append.1 hx with hx | hx
 ·exact h.rng x hx
 ·rw [List.mem_singleton.1 hx]; exact ⟨h0,h7⟩⟩
theorem DrU.more {U:List Int} {j:Nat} (h:DrU U j):DrU U (j + 1):=⟨by have:=h.len; omega,h.rng⟩
theorem WW {w0 w:World} {R:List Nat} {t d s:Nat} {U:List Int} {j:Nat} {M:List Ent} {n c:Int} (h:TxS w0 R w t d s 640 (slE 0 (drL U) ++ M)) (hM:MtE M) (hU:DrU U j) (hj:j ≤ 12) (hn:n ∉ U) (hr:0 ≤ n ∧ n ≤ 255) (hc:1 ≤ c ∧ c ≤ 9) :
  Calls Tryz.prog 22 #[.pointer (some ⟨t,0,none⟩),.int .i64 c,.int .u64 n] w fun e w' => e = .returned (.tuple #[.agg #[.int .i64 ((U.length + 1:Nat):Int),.int .i64 c,.int .i64 1,.int .u64 n],.int .i64 0]) ∧ TxS w0 R w' t d s 640 (slE 0 (drL U ++ [(c,1,n)]) ++ M) ∧ KeptT R t w w' ∧ SlL (drL U ++ [(c,1,n)]):=by
 have:=pY (ca:=c) (nc:=n) h (IS hU hj) hM (by omega) (by omega) (QI hn) (by rw [jC]; have:=hU.len; omega) WY;rw [jC] at this;exact this
theorem xP {w0 w:World} {R:List Nat} {t d s:Nat} {U:List Int} {j:Nat} {M:List Ent} {n c:Int} (h:TxS w0 R w t d s 640 (slE 0 (drL U) ++ M)) (hM:MtE M) (hU:DrU U j) (hj:j ≤ 12) (hn:n ∈ U) (hc:1 ≤ c ∧ c ≤ 9) :
  Calls Tryz.prog 22 #[.pointer (some ⟨t,0,none⟩),.int .i64 c,.int .u64 n] w fun e w' => e = .returned (.tuple #[.agg #[.int .i64 0,.int .i64 0,.int .i64 0,.int .u64 0],.int .i64 13]) ∧ TxS w0 R w' t d s 640 (slE 0 (drL U) ++ M) ∧ KeptT R t w w' := by
 obtain ⟨i,hi⟩:=List.mem_iff_getElem?.1 hn;have hx:(drL U)[i]? = some (1,1,n):=by unfold drL; rw [List.getElem?_map,hi]; rfl
 exact GB h (IS hU hj) hM (by omega) hx (by unfold dV; show (((1:Int) != 0) && (n == n)) = true; simp)
def VB (l:List Bool):Array Value:=(l.map Value.bool).toArray
def mV (U:List Int):List Bool:=(List.range 16).map fun (k:Nat)=>decide ((k:Int) ∈ U)
def ArB (T:TypeId) (w:World) (g:Nat) (U:List Int):Prop:=w.heap[g]? = some (.cells (VB (mV U)) T (0,0))
theorem sD (U:List Int) {k:Nat} (h:k < 16):(mV U)[k]? = some (decide ((k:Int) ∈ U)):=by unfold mV; rw [List.getElem?_map,List.getElem?_range h]; rfl
theorem ArB.cell {T:TypeId} {w:World} {g:Nat} {U:List Int} (h:ArB T w g U) {k:Nat} (hk:k < 16):w.cell? ⟨g,k,none⟩ = some (.bool (decide ((k:Int) ∈ U))):=by
 rw [cell_of_row w g k _ T _ h];unfold VB;rw [List.getElem?_toArray,List.getElem?_map,sD U hk]
 rfl
theorem ArB.free {T:TypeId} {w:World} {g:Nat} {U:List Int} (h:ArB T w g U) (j:Nat):w.frozen? ⟨g,j,none⟩ = false:=frozen_of_row w g j _ T h
theorem ArB.kept {T:TypeId} {w w' : World} {g:Nat} {U:List Int} (h:ArB T w g U) (hk:w'.heap[g]? = w.heap[g]?):ArB T w' g U:=hk.trans h
theorem ArB.set {T:TypeId} {w:World} {g:Nat} {U:List Int} (h:ArB T w g U) {k:Nat} (hk:k < 16) {V:List Int} (hV:∀ x,x ∈ V ↔ x ∈ U ∨ x = (k:Int)):ArB T (w.setCell ⟨g,k,none⟩ (.bool true)) g V:=by
 unfold ArB;rw [heap_setCell_same w g k _ T _ h]
 congr 2
 unfold VB;rw [List.setIfInBounds_toArray]
 congr 1
 apply List.ext_getElem?;intro i;rw [List.getElem?_set,List.length_map]
 by_cases hi:i < 16
 ·rw [List.getElem?_map,List.getElem?_map,sD V hi,sD U hi]
  by_cases e:k = i
  ·subst e
   rw [if_pos rfl,if_pos (by unfold mV; simp; omega)]
   show some (Value.bool true) = some (Value.bool (decide ((k:Int) ∈ V)))
   rw [decide_eq_true ((hV _).2 (.inr rfl))]
  ·rw [if_neg e]
   show some (Value.bool (decide ((i:Int) ∈ U))) = some (Value.bool (decide ((i:Int) ∈ V)))
   have:((i:Int) ∈ V) ↔ ((i:Int) ∈ U):=by
    rw [hV];exact ⟨fun h=>h.elim id fun e' => absurd (by omega) e,.inl⟩
   rw [decide_eq_decide.2 this]
 ·have l1:∀ W:List Int,((mV W).map Value.bool)[i]? = none:=fun W=>List.getElem?_eq_none_iff.2 (by unfold mV; simp; omega)
  rw [l1,l1,if_neg (by omega)]
theorem MA:VB (mV []) = (List.replicate 16 (Value.bool false)).toArray:=by rfl
def WantR (U D:List Int) (W:Int):Prop:=(W = -1 ∧ ∀ (i:Nat) (x:Int),i < 8 → D[i]? = some x → x ∈ U) ∨ (∃ (i:Nat) (x:Int),W = (i:Int) ∧ i < 8 ∧ D[i]? = some x ∧ x ∉ U ∧ ∀ (k:Nat) (y:Int),k < i → D[k]? = some y → y ∈ U)
theorem WantR.nil (U:List Int):WantR U [] (-1):=.inl ⟨rfl,fun i x _ h=>by simp at h⟩
theorem wV {D:List Int} {n:Int} {i:Nat} {x:Int} (h:(D ++ [n])[i]? = some x):D[i]? = some x ∨ (i = D.length ∧ x = n):=by
 by_cases hi:i < D.length
 ·rw [List.getElem?_append_left hi] at h; exact .inl h
 ·have hl:=(List.getElem?_eq_some_iff.1 h).1
  simp at hl;have:i = D.length:=by omega
  subst this;exact .inr ⟨rfl,by simpa using h.symm⟩
theorem aBL {D:List Int} {n:Int} {i:Nat} {x:Int} (h:D[i]? = some x):(D ++ [n])[i]? = some x:=by
 rw [List.getElem?_append_left (List.getElem?_eq_some_iff.1 h).1]; exact h
theorem WantR.same {U D:List Int} {W n:Int} (h:WantR U D W) (hs:0 ≤ W ∨ 8 ≤ D.length ∨ n ∈ U):WantR U (D ++ [n]) W:=by
 rcases h with ⟨h1,h2⟩ | ⟨i,x,h1,h2,h3,h4,h5⟩
 ·refine .inl ⟨h1,fun i x hi hx=>?_⟩
  rcases wV hx with hx | ⟨rfl,rfl⟩
  ·exact h2 i x hi hx
  ·rcases hs with hs | hs | hs
   ·omega
   ·omega
   ·exact hs
 ·refine .inr ⟨i,x,h1,h2,aBL h3,h4,fun k y hk hy=>?_⟩
  have:=(List.getElem?_eq_some_iff.1 h3).1
  rcases wV hy with hy | ⟨rfl,rfl⟩
  ·exact h5 k y hk hy
  ·omega
theorem WantR.hit {U D:List Int} {W n:Int} (h:WantR U D W) (hW:W < 0) (h8:D.length < 8) (hn:n ∉ U):WantR U (D ++ [n]) (D.length:Int):=by
 rcases h with ⟨h1,h2⟩ | ⟨i,x,h1,h2,h3,h4,h5⟩
 ·refine .inr ⟨D.length,n,rfl,h8,by simp,hn,fun k y hk hy=>?_⟩
  rcases wV hy with hy | ⟨rfl,rfl⟩
  ·exact h2 k y (by omega) hy
  ·omega
 ·omega
def lX (D:List Int):List Value:=D.map fun n=>Value.int .u64 n
theorem qD (D:List Int):(lX D).length = D.length:=by unfold lX; simp
theorem IR (D:List Int) (n:Int):lX D ++ [.int .u64 n] = lX (D ++ [n]):=by unfold lX; rw [List.map_append]; rfl
theorem WX {D:List Int} {i:Nat} {x:Int} (h:D[i]? = some x):(lX D)[i]? = some (.int .u64 x):=by unfold lX; rw [List.getElem?_map,h]; rfl
theorem RowS.drws {w0 w:World} {R:List Nat} {e:TypeId} {t d s:Nat} {E:List Ent} {va:Option Addr} {vc:Nat} {D:List Int} (h:RowS w0 R e w t d s E (.slice va D.length vc) (lX D)):DrwS ((Value.slice va D.length vc).ownBlock.toList ++ R) t w va D:=fun j z hz=>by
 rw [← qD] at h;obtain ⟨g,h1,h2⟩:=h.cell (WX hz);subst h1;exact ⟨g,rfl,by show g ∈ [g] ++ R; simp,(h.ob g rfl).2.1,h2⟩
end Go.Proofs.YthcejfnngkmojaaGreatDoor
