/-
 Ep.
-/
import Derived.Test.YthcejfnngkmojaaGreatDoorRzEs
namespace Go.Proofs.YthcejfnngkmojaaGreatDoor
open Go Go.RowKit
set_option maxRecDepth 20000
set_option maxHeartbeats 12800000
set_option linter.unusedVariables false
set_option linter.unusedSimpArgs false
def epL (i:Nat):List (Int × Int × Int):=List.replicate (i / 15) (0,16,0) ++ (if i % 15 = 0 then [] else [(0,((i % 15:Nat):Int) + 1,0)])
def epM (i:Nat):List (Int × Int × Int):=List.replicate (i / 15) (0,16,0) ++ [(3,((i % 15:Nat):Int) + 1,(i:Int))]
theorem aB9 (i:Nat):(epM i)[i / 15]? = some (3,((i % 15:Nat):Int) + 1,(i:Int)):=by
 unfold epM;rw [List.getElem?_append_right (by simp),List.length_replicate,Nat.sub_self]
 rfl
theorem UY (i:Nat):(epM i).map (eT 3) = epL (i + 1) ∧ ((epM i).filter (fW 3)).length = 1:=by
 have h1:fW 3 (0,16,0) = false:=by decide
 have h2:fW 3 (3,((i % 15:Nat):Int) + 1,(i:Int)) = true:=by unfold fW fU; rfl
 have e1:eT 3 (0,16,0) = (0,16,0):=by decide
 have e2:eT 3 (3,((i % 15:Nat):Int) + 1,(i:Int)) = (0,((i % 15:Nat):Int) + 1 + 1,0):=by unfold eT; rw [if_pos h2]
 refine ⟨?_,?_⟩
 ·unfold epM epL
  rw [List.map_append,List.map_replicate,e1,List.map_cons,List.map_nil,e2]
  by_cases h:i % 15 = 14
  ·rw [if_pos (by omega),List.append_nil,show (i + 1) / 15 = i / 15 + 1 by omega,List.replicate_succ', h]
   rfl
  ·rw [if_neg (by omega),show (i + 1) / 15 = i / 15 by omega,show (i + 1) % 15 = i % 15 + 1 by omega]
   simp
 ·unfold epM
  rw [List.filter_append,List.filter_replicate_of_neg (by rw [h1]; decide),List.nil_append,List.filter_cons,if_pos h2]
  rfl
theorem aCA (i:Nat):(epL (i + 1))[i / 15]? = some (0,((i % 15:Nat):Int) + 1 + 1,0):=by
 rw [← (UY i).1,List.getElem?_map,aB9];have h2:fW 3 (3,((i % 15:Nat):Int) + 1,(i:Int)) = true:=by unfold fW fU; rfl
 have e2:eT 3 (3,((i % 15:Nat):Int) + 1,(i:Int)) = (0,((i % 15:Nat):Int) + 1 + 1,0):=by unfold eT; rw [if_pos h2]
 rw [Option.map_some,e2]
theorem UZ {i:Nat} {x:Int × Int × Int} (h:x ∈ epL i):x.1 = 0:=by
 unfold epL at h
 rcases List.mem_append.1 h with h | h
 ·rw [List.eq_of_mem_replicate h]
 ·by_cases hr:i % 15 = 0
  ·rw [if_pos hr] at h; cases h
  ·rw [if_neg hr] at h
   rw [List.mem_singleton.1 h]
end Go.Proofs.YthcejfnngkmojaaGreatDoor
