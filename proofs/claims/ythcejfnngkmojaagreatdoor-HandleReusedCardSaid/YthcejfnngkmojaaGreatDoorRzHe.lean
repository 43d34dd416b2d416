/-
 He.
-/
import Derived.Test.YthcejfnngkmojaaGreatDoorR19
import Derived.Test.YthcejfnngkmojaaGreatDoorRzEp
namespace Go.Proofs.YthcejfnngkmojaaGreatDoor
open Go Go.RowKit
set_option maxRecDepth 20000
set_option maxHeartbeats 12800000
set_option linter.unusedVariables false
set_option linter.unusedSimpArgs false
def epN (ca nc:Int) (i:Nat):List (Int × Int × Int):=List.replicate (i / 15) (0,16,0) ++ [(ca,((i % 15:Nat):Int) + 1,nc)]
theorem aB8 (ca nc:Int) (i:Nat):(epN ca nc i)[i / 15]? = some (ca,((i % 15:Nat):Int) + 1,nc):=by
 unfold epN;rw [List.getElem?_append_right (by simp),List.length_replicate,Nat.sub_self]
 rfl
theorem AY {ca:Int} (nc:Int) (i:Nat) (hc:1 ≤ ca):(epN ca nc i).map (eT ca) = epL (i + 1) ∧ ((epN ca nc i).filter (fW ca)).length = 1:=by
 have h1:fW ca (0,16,0) = false:=rfl
 have h2:fW ca (ca,((i % 15:Nat):Int) + 1,nc) = true:=by
  unfold fW fU;have:(ca != 0) = true:=by simp; omega
  show ((ca != 0) && (ca == ca)) = true
  rw [this];simp
 have e1:eT ca (0,16,0) = (0,16,0):=by unfold eT; rw [if_neg (by rw [h1]; decide)]
 have e2:eT ca (ca,((i % 15:Nat):Int) + 1,nc) = (0,((i % 15:Nat):Int) + 1 + 1,0):=by unfold eT; rw [if_pos h2]
 refine ⟨?_,?_⟩
 ·unfold epN epL
  rw [List.map_append,List.map_replicate,e1,List.map_cons,List.map_nil,e2]
  by_cases h:i % 15 = 14
  ·rw [if_pos (by omega),List.append_nil,show (i + 1) / 15 = i / 15 + 1 by omega,List.replicate_succ', h]
   rfl
  ·rw [if_neg (by omega),show (i + 1) / 15 = i / 15 by omega,show (i + 1) % 15 = i % 15 + 1 by omega]
   simp
 ·unfold epN
  rw [List.filter_append,List.filter_replicate_of_neg (by rw [h1]; decide),List.nil_append,List.filter_cons,if_pos h2]
  rfl
theorem aB7 {i:Nat} {ca nc:Int} (hL:SlL (epL i)) (h1:1 ≤ ca) (h2:ca ≤ 16777215) (n0:0 ≤ nc) (n1:nc ≤ 18446744073709551615) (hi:i ≤ 100):SlL (epN ca nc i):=by
 by_cases hr:i % 15 = 0
 ·have e:epL i = List.replicate (i / 15) (0,16,0):=by unfold epL; rw [if_pos hr,List.append_nil]
  have e2:epL i ++ [(ca,1,nc)] = epN ca nc i:=by rw [e]; unfold epN; rw [hr]; rfl
  have hlen:(epL i).length = i / 15:=by rw [e,List.length_replicate]
  rw [← e2];refine hL.snoc (by omega) ⟨?_,n0,n1⟩;rw [hlen];unfold bP;simp only [Bool.and_eq_true,iF];exact ⟨⟨⟨by omega,by omega⟩,by decide⟩,by simp⟩
 ·have e:epL i = List.replicate (i / 15) (0,16,0) ++ [(0,((i % 15:Nat):Int) + 1,0)]:=by unfold epL; rw [if_neg hr]
  have hlen:(epL i).length = i / 15 + 1:=by rw [e,List.length_append,List.length_replicate]; rfl
  have e2:(epL i).set (i / 15) (ca,((i % 15:Nat):Int) + 1,nc) = epN ca nc i:=by
   rw [e];unfold epN;rw [List.set_append_right _ _ (by simp),List.length_replicate,Nat.sub_self]
   rfl
  rw [← e2];refine hL.set (by omega) ⟨?_,n0,n1⟩;unfold bP;simp only [Bool.and_eq_true,iF];refine ⟨⟨⟨by omega,by omega⟩,by omega⟩,?_⟩;have:(((i % 15:Nat):Int) + 1 != 16) = true:=by simp; omega
  rw [this]; rfl
theorem OG (i:Nat) (nc:Int):∀ x ∈ epL i,gI x.1 x.2.2 nc = false:=fun x hx=>by
 unfold gI;rw [UZ hx]
 rfl
theorem WQ {w0 w:World} {R:List Nat} {t d s:Nat} {i:Nat} {M:List Ent} {ca nc:Int} (h:TxS w0 R w t d s 640 (slE 0 (epL i) ++ M)) (hL:SlL (epL i)) (hM:MtE M) (hi:i ≤ 100) (hca:1 ≤ ca ∧ ca ≤ 16777215) (hnc:0 ≤ nc ∧ nc ≤ 18446744073709551615) :
  Calls Tryz.prog 22 #[.pointer (some ⟨t,0,none⟩),.int .i64 ca,.int .u64 nc] w fun e w' => e = .returned (.tuple #[.agg #[.int .i64 ((i / 15 + 1:Nat):Int),.int .i64 ca,.int .i64 (((i % 15:Nat):Int) + 1),.int .u64 nc],.int .i64 0]) ∧ TxS w0 R w' t d s 640 (slE 0 (epN ca nc i) ++ M) ∧ KeptT R t w w' ∧ SlL (epN ca nc i):=by
 have hbu:=OG i nc
 by_cases hr:i % 15 = 0
 ·have e:epL i = List.replicate (i / 15) (0,16,0):=by unfold epL; rw [if_pos hr,List.append_nil]
  have e2:epL i ++ [(ca,1,nc)] = epN ca nc i:=by rw [e]; unfold epN; rw [hr]; rfl
  have hlen:(epL i).length = i / 15:=by rw [e,List.length_replicate]
  have:=uP (ca:=ca) (nc:=nc) h hL hM hca hnc hbu (by omega) (fun y hy=>by
   rw [e] at hy;rw [List.eq_of_mem_replicate hy]
   rfl)
  rw [e2,hlen] at this;rw [hr];exact this
 ·have e:epL i = List.replicate (i / 15) (0,16,0) ++ [(0,((i % 15:Nat):Int) + 1,0)]:=by unfold epL; rw [if_neg hr]
  have hx:(epL i)[i / 15]? = some (0,((i % 15:Nat):Int) + 1,0):=by
   rw [e,List.getElem?_append_right (by simp),List.length_replicate,Nat.sub_self]
   rfl
  have e2:(epL i).set (i / 15) (ca,((i % 15:Nat):Int) + 1,nc) = epN ca nc i:=by
   rw [e];unfold epN;rw [List.set_append_right _ _ (by simp),List.length_replicate,Nat.sub_self]
   rfl
  have:=MR (ca:=ca) (nc:=nc) h hL hM hca hnc hbu hx (by unfold gX; simp; omega) (fun j y hj hy=>by
   rw [e,List.getElem?_append_left (by simpa using hj)] at hy;rw [List.eq_of_mem_replicate (List.mem_of_getElem? hy)]
   rfl)
  rw [e2] at this;exact this
theorem wM {w0 w:World} {R:List Nat} {t d s:Nat} {i:Nat} {M:List Ent} {ca nc:Int} (h:TxS w0 R w t d s 640 (slE 0 (epN ca nc i) ++ M)) (hL:SlL (epN ca nc i)) (hM:MtE M) (hca:1 ≤ ca) :
  Calls Tryz.prog 23 #[.pointer (some ⟨t,0,none⟩),.int .i64 ca] w fun e w' => e = .returned (.tuple #[.int .i64 1,.int .i64 0]) ∧ TxS w0 R w' t d s 640 (slE 0 (epL (i + 1)) ++ M) ∧ KeptT R t w w' ∧ SlL (epL (i + 1)):=by
 have:=ZE ca h hL hM;have h2:=hL.free ca;rw [(AY nc i hca).1] at this h2;rw [(AY nc i hca).2] at this;exact this.mono fun _ _ g=>⟨g.1,g.2.1,g.2.2,h2⟩
end Go.Proofs.YthcejfnngkmojaaGreatDoor
