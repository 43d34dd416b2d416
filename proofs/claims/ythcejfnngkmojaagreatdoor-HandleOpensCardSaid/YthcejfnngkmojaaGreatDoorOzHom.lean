/-
 Hom.
-/
import Derived.Test.YthcejfnngkmojaaGreatDoorO22
namespace Go.Proofs.YthcejfnngkmojaaGreatDoor
open Go Go.RowKit
set_option maxRecDepth 20000
set_option maxHeartbeats 12800000
set_option linter.unusedVariables false
set_option linter.unusedSimpArgs false
def opL (cs:Nat → Int) (j:Nat):List (Int × Int × Int):=(List.range j).map fun (i:Nat)=>((1 + cs i,1,(i:Int)):Int × Int × Int)
theorem rK (cs:Nat → Int) (j:Nat):(opL cs j).length = j:=by unfold opL; simp
theorem UV (cs:Nat → Int) {i j:Nat} (h:i < j):(opL cs j)[i]? = some (1 + cs i,1,(i:Int)):=by
 unfold opL;rw [List.getElem?_map,List.getElem?_range h]
 rfl
theorem UU (cs:Nat → Int) (j:Nat):opL cs j ++ [(1 + cs j,1,(j:Int))] = opL cs (j + 1):=by
 unfold opL;rw [List.range_succ,List.map_append]
 rfl
theorem JY {cs:Nat → Int} {j:Nat} {x:Int × Int × Int} (h:x ∈ opL cs j):∃ i,i < j ∧ x = (1 + cs i,1,(i:Int)):=by
 unfold opL at h;obtain ⟨i,hi,rfl⟩:=List.mem_map.1 h;exact ⟨i,by simpa using hi,rfl⟩
theorem FQ {cs:Nat → Int} {j:Nat} (hj:j ≤ 10) (hc:∀ i,i < j → 0 ≤ cs i ∧ cs i ≤ 255):SlL (opL cs j):=by
 refine ⟨by rw [rK]; omega,fun i x hx=>?_⟩;have hi:i < j:=by have:=(List.getElem?_eq_some_iff.1 hx).1; rwa [rK] at this
 rw [UV cs hi] at hx;injection hx with hx;subst hx;have:=hc i hi;refine ⟨?_,by show (0:Int) ≤ (i:Int); omega,by show (i:Int) ≤ _; omega⟩;unfold bV;simp only [Bool.and_eq_true,gL];exact ⟨⟨⟨by omega,by omega⟩,by decide⟩,by simp⟩
theorem YL {w0 w:World} {R:List Nat} {t d s:Nat} {cs:Nat → Int} {j:Nat} {M:List Ent} (h:TxS w0 R w t d s 640 (slE 0 (opL cs j) ++ M)) (hM:MtE M) (hj:j < 10) (hc:∀ i,i ≤ j → 0 ≤ cs i ∧ cs i ≤ 255) :
  Calls Tryz.prog 22 #[.pointer (some ⟨t,0,none⟩),.int .i64 (1 + cs j),.int .u64 (j:Int)] w fun e w' => e = .returned (.tuple #[.agg #[.int .i64 ((j + 1:Nat):Int),.int .i64 (1 + cs j),.int .i64 1,.int .u64 (j:Int)],.int .i64 0]) ∧ TxS w0 R w' t d s 640 (slE 0 (opL cs (j + 1)) ++ M) ∧ KeptT R t w w' := by
 have:=hc j (Nat.le_refl _)
 have:=pY (ca:=1 + cs j) (nc:=(j:Int)) h (FQ (by omega) fun i hi=>hc i (by omega)) hM (by omega) (by omega) (fun x hx=>by
  obtain ⟨i,hi,rfl⟩:=JY hx;unfold dV;have:(((i:Int)) == (j:Int)) = false:=by simp; omega
  show (_ && ((i:Int) == (j:Int))) = false
  rw [this,Bool.and_false]) (by rw [rK]; omega) (fun x hx=>by
  obtain ⟨i,hi,rfl⟩:=JY hx;have:=hc i (by omega);unfold gS;have h1:((1 + cs i) == 0) = false:=by simp; omega
  show (((1 + cs i) == 0) && _) = false
  rw [h1,Bool.false_and])
 rw [UU,rK] at this;exact this.mono fun _ _ g=>⟨g.1,g.2.1,g.2.2.1⟩
theorem aAL (cs:Nat → Int) (f:Int) (hf:0 ≤ f) {i n:Nat} (h:i < n):((opL cs n).map (jB (1 + f)))[i]? = some (if cs i = f then (0,2,0) else (1 + cs i,1,(i:Int))):=by
 rw [List.getElem?_map,UV cs h,Option.map_some]
 congr 1
 unfold jB nB gW
 by_cases e:cs i = f
 ·rw [if_pos e]
  have h1:((1 + cs i) != 0) = true:=by simp; omega
  have h2:((1 + cs i) == (1 + f)) = true:=by simp [e]
  show (if (((1 + cs i) != 0) && ((1 + cs i) == (1 + f))) = true then (0,1 + 1,0) else _) = _
  rw [h1,h2]
  rfl
 ·rw [if_neg e]
  have h2:((1 + cs i) == (1 + f)) = false:=by simp; omega
  show (if (((1 + cs i) != 0) && ((1 + cs i) == (1 + f))) = true then _ else (1 + cs i,1,(i:Int))) = _
  rw [h2,Bool.and_false,if_neg (by decide)]
def hsK (K:ByteArray) (i:Nat):ByteArray:=bC ((i + 1:Nat):Int) 1 (i:Int) 1 K
theorem VQ {i:Nat} (h:i < 10):iL ((i + 1:Nat):Int) 1 1 = true:=KG (by omega)
def uN (K:ByteArray) (n:Nat):List Value:=(List.range n).map fun i=>Value.string (hsK K i)
theorem BZ (K:ByteArray) (n:Nat):(uN K n).length = n:=by unfold uN; simp
theorem aA4 (K:ByteArray) {i n:Nat} (h:i < n):(uN K n)[i]? = some (.string (hsK K i)):=by
 unfold uN;rw [List.getElem?_map,List.getElem?_range h]
 rfl
theorem PK (K:ByteArray) (n:Nat):uN K n ++ [.string (hsK K n)] = uN K (n + 1):=by
 unfold uN;rw [List.range_succ,List.map_append]
 rfl
theorem TF {s ep nn k:Int} (h:iL s ep k = true) (n0:0 ≤ nn) (n1:nn ≤ 18446744073709551615) (key:ByteArray) {p:Nat} (hp:p < 16) (m:UInt8) (hm:1 ≤ m.toNat) :
  ∃ x:UInt8,(bC s ep nn k key).data.toList[13 + p]? = some x ∧ hOk (Str ((bC s ep nn k key).data.toList.set (13 + p) (x + m))) = true ∧ hfK (Str ((bC s ep nn k key).data.toList.set (13 + p) (x + m))) = k ∧
   hr4 (Str ((bC s ep nn k key).data.toList.set (13 + p) (x + m))) ≠ mT key (hB (hfS (Str ((bC s ep nn k key).data.toList.set (13 + p) (x + m)))) (hfE (Str ((bC s ep nn k key).data.toList.set (13 + p) (x + m)))) (hfN (Str ((bC s ep nn k key).data.toList.set (13 + p) (x + m)))) (hfK (Str ((bC s ep nn k key).data.toList.set (13 + p) (x + m))))):=by
 have h13:=rP h n0 n1;have h16:=mC key (hB s ep nn k);obtain ⟨b,hb⟩:∃ b,hB s ep nn k = b:=⟨_,rfl⟩
 obtain ⟨g,hg⟩:∃ g,mT key (hB s ep nn k) = g:=⟨_,rfl⟩
 have e1:(bC s ep nn k key).data.toList = b.data.toList ++ g.data.toList:=by
  unfold bC;rw [hg,hb,ByteArray.data_append];simp
 have lb:b.data.toList.length = 13:=by rw [← hb]; simpa using h13
 have lg:g.data.toList.length = 16:=by rw [← hg]; simpa using h16
 obtain ⟨x,hx⟩:∃ x,g.data.toList[p]? = some x:=⟨_,List.getElem?_eq_getElem (by omega)⟩
 refine ⟨x,?_,?_⟩
 ·rw [e1,List.getElem?_append_right (by omega),lb,show 13 + p - 13 = p by omega]
  exact hx
 ·have e2:Str ((bC s ep nn k key).data.toList.set (13 + p) (x + m)) = hB s ep nn k ++ Str (g.data.toList.set p (x + m)):=by
   rw [e1,List.set_append_right _ _ (by omega),lb,show 13 + p - 13 = p by omega,hb];apply aD;simp [Str,ByteArray.data_append]
  rw [e2];obtain ⟨f1,f2,f3,f4,f5⟩:=KI h n0 n1 (Str (g.data.toList.set p (x + m)));rw [f1,f2,f3,f4,f5,hg]
  have hne:Str (g.data.toList.set p (x + m)) ≠ g:=by
   intro e;have h1:g.data.toList.set p (x + m) = g.data.toList:=by conv=>rhs; rw [← e,aO]
   have h2:(g.data.toList.set p (x + m))[p]? = g.data.toList[p]?:=by rw [h1]
   rw [List.getElem?_set_self (by omega),hx] at h2;injection h2 with h2;have h3:=congrArg UInt8.toNat h2;rw [UInt8.toNat_add] at h3;have hx' := x.toNat_lt;have hm' := m.toNat_lt;simp at h3;omega
  refine ⟨?_,rfl,hne⟩;unfold hOk;rw [f1,f2,f4,h,ByteArray.size_append,h13,bU,List.length_set,lg]
  rfl
end Go.Proofs.YthcejfnngkmojaaGreatDoor
