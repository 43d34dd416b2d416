/-
  What a sealed page is, and how it is opened: plain facts.
-/
import Derived.Test.YtbjmbndeaobbeaaDoorPageMath
namespace Go.Proofs.YtbjmbndeaobbeaaDoor
open Go.RowKit
set_option linter.unusedVariables false
set_option linter.unusedSimpArgs false
/-- A number's four bytes. -/
def four (n : Nat) : List UInt8 := [UInt8.ofNat (n / 16777216), UInt8.ofNat (n / 65536), UInt8.ofNat (n / 256), UInt8.ofNat n]
theorem four_length (n : Nat) : (four n).length = 4 := rfl
theorem four_inj {a b : Nat} (ha : a < 4294967296) (hb : b < 4294967296) (h : four a = four b) : a = b := by
  simp only [four, List.cons.injEq] at h
  obtain ⟨h1, h2, h3, h4, _⟩ := h
  have k1 := congrArg UInt8.toNat h1
  have k2 := congrArg UInt8.toNat h2
  have k3 := congrArg UInt8.toNat h3
  have k4 := congrArg UInt8.toNat h4
  simp only [UInt8.toNat_ofNat'] at k1 k2 k3 k4
  omega
def zerosL (l : List UInt8) : Bool := l.all (· == 0)
theorem zerosL_iff (l : List UInt8) : zerosL l = true ↔ l = List.replicate l.length 0 := by
  induction l with
  | nil => simp [zerosL]
  | cons a l ih =>
    unfold zerosL at *
    rw [List.all_cons, Bool.and_eq_true, ih, List.length_cons, List.replicate_succ, List.cons.injEq]
    simp
/-- A page's bytes ahead of the sum. -/
def pgBody (k : Nat) (t : List UInt8) : List UInt8 := UInt8.ofNat k :: UInt8.ofNat t.length :: (t ++ List.replicate (250 - t.length) 0)
def pgL (k : Nat) (t : List UInt8) : List UInt8 := pgBody k t ++ four (adS (pgBody k t))
theorem pgBody_length (k : Nat) (t : List UInt8) (h : t.length ≤ 240) : (pgBody k t).length = 252 := by simp [pgBody]; omega
theorem pgL_length (k : Nat) (t : List UInt8) (h : t.length ≤ 240) : (pgL k t).length = 256 := by
  unfold pgL; rw [List.length_append, pgBody_length k t h]; rfl
def opSum (l : List UInt8) : Bool := l.drop 252 == four (adS (l.take 252))
def opKind (l : List UInt8) : Nat := (l.getD 0 0).toNat
def opSize (l : List UInt8) : Nat := (l.getD 1 0).toNat
def opText (l : List UInt8) : List UInt8 := (l.drop 2).take (opSize l)
def opRest (l : List UInt8) : List UInt8 := (l.drop (2 + opSize l)).take (250 - opSize l)
def opFine (l : List UInt8) : Bool := decide (1 ≤ opKind l) && decide (opKind l ≤ 15) && decide (opSize l ≤ 240) && zerosL (opRest l)
def opE (l : List UInt8) : Nat := if l.length = 256 then (if opSum l = true then (if opFine l = true then 0 else 2) else 15) else 2
def opK (l : List UInt8) : Nat := if opE l = 0 then opKind l else 0
def opT (l : List UInt8) : List UInt8 := if opE l = 0 then opText l else []
theorem opKind_lt (l : List UInt8) : opKind l < 256 := UInt8.toNat_lt _
theorem opSize_lt (l : List UInt8) : opSize l < 256 := UInt8.toNat_lt _
theorem opFine_iff (l : List UInt8) : opFine l = true ↔ 1 ≤ opKind l ∧ opKind l ≤ 15 ∧ opSize l ≤ 240 ∧ zerosL (opRest l) = true := by
  simp [opFine, and_assoc]
theorem list_two (l : List UInt8) (h : 2 ≤ l.length) : l = l.getD 0 0 :: l.getD 1 0 :: l.drop 2 := by
  match l, h with
  | a :: b :: r, _ => rfl
/-- What is opened is sealed as it stood. -/
theorem pg_again (l : List UInt8) (h : opE l = 0) : pgL (opKind l) (opText l) = l ∧ 1 ≤ opKind l ∧ opKind l ≤ 15 ∧ (opText l).length ≤ 240 := by
  unfold opE at h
  by_cases hl : l.length = 256
  · rw [if_pos hl] at h
    cases hs : opSum l
    · rw [hs] at h; simp at h
    · rw [hs, if_pos rfl] at h
      cases hf : opFine l
      · rw [hf] at h; simp at h
      · obtain ⟨h1, h2, h3, h4⟩ := (opFine_iff l).1 hf
        have hz := opSize_lt l
        have ht : (opText l).length = opSize l := by unfold opText; rw [List.length_take, List.length_drop]; omega
        have hr : (opRest l).length = 250 - opSize l := by unfold opRest; rw [List.length_take, List.length_drop]; omega
        have hb : pgBody (opKind l) (opText l) = l.take 252 := by
          unfold pgBody
          rw [ht, ← hr, ← (zerosL_iff _).1 h4]
          have e0 : UInt8.ofNat (opKind l) = l.getD 0 0 := by unfold opKind; simp
          have e1 : UInt8.ofNat (opSize l) = l.getD 1 0 := by unfold opSize; simp
          rw [e0, e1]
          have e2 : opText l ++ opRest l = (l.drop 2).take 250 := by
            unfold opText opRest
            rw [← List.drop_drop, ← List.take_add]
            congr 1
            omega
          rw [e2]
          have e3 : l.take 252 = (l.getD 0 0 :: l.getD 1 0 :: l.drop 2).take 252 := by rw [← list_two l (by omega)]
          rw [e3]
          rfl
        refine ⟨?_, h1, h2, by omega⟩
        unfold pgL
        rw [hb]
        have := hs
        unfold opSum at this
        rw [← eq_of_beq this, List.take_append_drop]
  · rw [if_neg hl] at h; simp at h
theorem pgL_take (k : Nat) (t : List UInt8) (h : t.length ≤ 240) : (pgL k t).take 252 = pgBody k t := by
  unfold pgL
  rw [← pgBody_length k t h, List.take_left']
  rfl
theorem pgL_drop (k : Nat) (t : List UInt8) (h : t.length ≤ 240) : (pgL k t).drop 252 = four (adS (pgBody k t)) := by
  unfold pgL
  rw [← pgBody_length k t h, List.drop_left']
  rfl
/-- What is sealed is opened. -/
theorem pg_back (k : Nat) (t : List UInt8) (h1 : 1 ≤ k) (h2 : k ≤ 15) (h : t.length ≤ 240) : opE (pgL k t) = 0 ∧ opKind (pgL k t) = k ∧ opText (pgL k t) = t := by
  have hk : opKind (pgL k t) = k := by
    show (UInt8.ofNat k).toNat = k
    rw [UInt8.toNat_ofNat']; omega
  have hz : opSize (pgL k t) = t.length := by
    show (UInt8.ofNat t.length).toNat = _
    rw [UInt8.toNat_ofNat']; omega
  have hd : (pgL k t).drop 2 = t ++ (List.replicate (250 - t.length) 0 ++ four (adS (pgBody k t))) := by
    unfold pgL
    show ((t ++ List.replicate (250 - t.length) 0) ++ four (adS (pgBody k t))) = _
    rw [List.append_assoc]
  have ht : opText (pgL k t) = t := by
    unfold opText
    rw [hz, hd, List.take_left']
    rfl
  have hr : opRest (pgL k t) = List.replicate (250 - t.length) 0 := by
    unfold opRest
    rw [hz, ← List.drop_drop, hd, List.drop_left' rfl, List.take_left']
    simp
  refine ⟨?_, hk, ht⟩
  unfold opE
  have hs : opSum (pgL k t) = true := by
    unfold opSum
    rw [pgL_take k t h, pgL_drop k t h]
    simp
  have hf : opFine (pgL k t) = true := by
    rw [opFine_iff, hk, hz, hr]
    refine ⟨h1, h2, h, ?_⟩
    rw [zerosL_iff]; simp
  rw [if_pos (pgL_length k t h), if_pos hs, if_pos hf]
/-- One byte is another one. -/
theorem sumL_set (l : List UInt8) (i : Nat) (x : UInt8) (h : i < l.length) : sumL (l.set i x) + l[i].toNat = sumL l + x.toNat := by
  induction l generalizing i with
  | nil => simp at h
  | cons a l ih =>
    cases i with
    | zero => simp [sumL]; omega
    | succ i =>
      simp only [List.set_cons_succ, sumL, List.getElem_cons_succ]
      have := ih i (by simpa using h)
      omega
theorem adS_set (l : List UInt8) (i : Nat) (x : UInt8) (h : i < l.length) (hx : x ≠ l[i]) : adS (l.set i x) ≠ adS l := by
  intro e
  have h1 := adA_lt l
  have h2 := adA_lt (l.set i x)
  have ea : adA (l.set i x) = adA l := by unfold adS at e; omega
  rw [adA_eq, adA_eq] at ea
  have := sumL_set l i x h
  have hn : x.toNat ≠ l[i].toNat := fun e => hx (UInt8.toNat_inj.1 e)
  have b1 := x.toNat_lt
  have b2 := l[i].toNat_lt
  omega
theorem pg_byte (l : List UInt8) (hl : l.length = 256) (hs : opSum l = true) (i : Nat) (hi : i < 256) (x : UInt8) (hx : x ≠ l[i]'(by omega)) : opE (l.set i x) = 15 := by
  have hsum : opSum (l.set i x) = false := by
    unfold opSum at *
    have e0 := eq_of_beq hs
    rw [Bool.eq_false_iff]
    intro h
    have e1 := eq_of_beq h
    by_cases hc : i < 252
    · rw [List.drop_set_of_lt hc, e0] at e1
      have e2 := four_inj (adS_lt _) (adS_lt _) e1
      have e3 : (l.set i x).take 252 = (l.take 252).set i x := by rw [List.take_set]
      rw [e3] at e2
      refine adS_set (l.take 252) i x (by rw [List.length_take]; omega) ?_ e2.symm
      rw [List.getElem_take]
      exact hx
    · have e3 : (l.set i x).take 252 = l.take 252 := List.take_set_of_le (by omega)
      rw [e3, ← e0] at e1
      have e4 := congrArg (fun m => m[i - 252]?) e1
      simp only [List.getElem?_drop] at e4
      rw [show 252 + (i - 252) = i by omega, List.getElem?_set_self (by omega), List.getElem?_eq_getElem (by omega)] at e4
      exact hx (Option.some.inj e4)
  unfold opE
  rw [if_pos (by rw [List.length_set]; exact hl), hsum]
  rfl
theorem pg_opSum (k : Nat) (t : List UInt8) (h : t.length ≤ 240) : opSum (pgL k t) = true := by
  unfold opSum
  rw [pgL_take k t h, pgL_drop k t h]
  simp
end Go.Proofs.YtbjmbndeaobbeaaDoor
