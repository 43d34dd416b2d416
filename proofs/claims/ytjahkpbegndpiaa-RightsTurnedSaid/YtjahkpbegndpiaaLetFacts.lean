/-
  Plain facts on letters: a mask's letters are read as it, rise, and are as many as its bits; what is read has as many bits as letters.
-/
import Derived.Test.YtjahkpbegndpiaaRightsCuts
namespace Go.Proofs.Ytjahkpbegndpiaa
open Go.RowKit
set_option linter.unusedVariables false

theorem let_count (m k : Nat) : (let_ m k).length = pc k m := by
  induction k with
  | zero => rfl
  | succ k ih =>
    simp only [let_, pc_succ]
    rcases (show m / 2 ^ k % 2 = 0 ∨ m / 2 ^ k % 2 = 1 by omega) with h | h
    · rw [if_neg (by omega), ih, h]; rfl
    · rw [if_pos h, List.length_append, ih, h]; rfl
theorem mod_succ (m k : Nat) : m % 2 ^ (k + 1) = m % 2 ^ k + m / 2 ^ k % 2 * 2 ^ k := by
  rw [Nat.pow_succ, Nat.mod_mul]
  rw [Nat.mul_comm]
theorem let_fold (m k : Nat) (hk : k ≤ 16) : pfold ((let_ m k).map UInt8.ofNat) 0 = some (m % 2 ^ k) := by
  induction k with
  | zero => simp [let_, pfold, Nat.mod_one]
  | succ k ih =>
    have hp : 0 < 2 ^ k := Nat.pow_pos (by decide)
    simp only [let_]
    rw [mod_succ]
    rcases (show m / 2 ^ k % 2 = 0 ∨ m / 2 ^ k % 2 = 1 by omega) with h | h
    · rw [if_neg (by omega), ih (by omega), h]; simp
    · rw [if_pos h, List.map_append, pfold_append, ih (by omega), h]
      have hlt := Nat.mod_lt m hp
      have hc : (UInt8.ofNat (97 + k)).toNat = 97 + k := by rw [UInt8.toNat_ofNat']; omega
      have hb : (m % 2 ^ k) &&& 2 ^ k = 0 := by
        rw [nat_bit, Nat.div_eq_of_lt hlt]; simp
      have := pstep_yes (m := m % 2 ^ k) (c := UInt8.ofNat (97 + k)) k hc (by omega) hb
      show pfold [UInt8.ofNat (97 + k)] (m % 2 ^ k) = _
      simp only [pfold, this]
      rw [Nat.or_comm, nat_join k (2 ^ k) (m % 2 ^ k) (by simp) hlt]
      congr 1
      omega
theorem pc_zero (k : Nat) : pc k 0 = 0 := by
  induction k with
  | zero => rfl
  | succ k ih => simp [pc, ih]
theorem pc_pow : ∀ j : Fin 16, pc 16 (2 ^ j.val) = 1 := by decide
theorem pstep_count {m m' : Nat} {c : UInt8} (h : pstep m c = some m') : pc 16 m' = pc 16 m + 1 := by
  unfold pstep at h
  split at h
  · rename_i hc
    cases h
    have h1 := pc_and_or 16 m (2 ^ (c.toNat - 97))
    have h2 : m &&& 2 ^ (c.toNat - 97) = 0 := by rw [nat_bit, hc.2.2]; simp
    have h3 := pc_pow ⟨c.toNat - 97, by omega⟩
    simp only at h3
    rw [h2, pc_zero, h3] at h1
    omega
  · cases h
theorem fold_count (l : List UInt8) (m n : Nat) (hm : m < 65536) (h : pfold l m = some n) : n < 65536 ∧ pc 16 n = pc 16 m + l.length := by
  induction l generalizing m with
  | nil => simp only [pfold, Option.some.injEq] at h; subst h; exact ⟨hm, by rw [List.length_nil, Nat.add_zero]⟩
  | cons c l ih =>
    simp only [pfold] at h
    split at h
    · rename_i m' hs
      have := ih m' (pstep_lt hm hs) h
      have h2 := pstep_count hs
      simp only [List.length_cons]
      exact ⟨this.1, by omega⟩
    · cases h
theorem let_rise (m k : Nat) (hk : k ≤ 16) : (let_ m k).Pairwise (· < ·) := by
  induction k with
  | zero => simp [let_]
  | succ k ih =>
    simp only [let_]
    split
    · rw [List.pairwise_append]
      refine ⟨ih (by omega), by simp, ?_⟩
      intro a ha b hb
      simp only [List.mem_singleton] at hb
      have := let_bd m k (by omega) a ha
      omega
    · exact ih (by omega)

/-- What a mask's letters are. -/
theorem textS_size (m : Nat) (hm : m ≤ 65535) : (textS (m : Int)).size = pc 16 m := by
  unfold textS
  rw [maskOk_nat m hm]
  simp only [if_true, Int.toNat_natCast]
  rw [Str_size, List.length_map, let_count]
theorem textS_par (m : Nat) (hm : m ≤ 65535) : parN (textS (m : Int)) = (m : Int) ∧ parB (textS (m : Int)) = true := by
  have e : pfold (textS (m : Int)).data.toList 0 = some m := by
    unfold textS
    rw [maskOk_nat m hm]
    simp only [if_true, Int.toNat_natCast]
    rw [Str_list, let_fold m 16 (by omega), Nat.mod_eq_of_lt (by simp; omega)]
  simp [parN, parB, e]
theorem textS_rise (m : Nat) (hm : m ≤ 65535) (i : Nat) (h : i + 1 < (textS (m : Int)).size) : ((textS (m : Int))[i]'(by omega)).toNat < ((textS (m : Int))[i + 1]'h).toNat := by
  have e : (textS (m : Int)).data.toList = (let_ m 16).map UInt8.ofNat := by
    unfold textS
    rw [maskOk_nat m hm]
    simp only [if_true, Int.toNat_natCast]
    rw [Str_list]
  have hl : i + 1 < ((let_ m 16).map UInt8.ofNat).length := by rw [← e, size_list]; exact h
  have g1 : (textS (m : Int))[i]'(by omega) = ((let_ m 16).map UInt8.ofNat)[i]'(by omega) := by
    have : (textS (m : Int))[i]'(by omega) = (textS (m : Int)).data.toList[i]'(by rw [size_list]; omega) := rfl
    rw [this]; simp only [e]
  have g2 : (textS (m : Int))[i + 1]'h = ((let_ m 16).map UInt8.ofNat)[i + 1]'hl := by
    have : (textS (m : Int))[i + 1]'h = (textS (m : Int)).data.toList[i + 1]'(by rw [size_list]; exact h) := rfl
    rw [this]; simp only [e]
  rw [g1, g2, List.getElem_map, List.getElem_map]
  have hl' : i + 1 < (let_ m 16).length := by simpa using hl
  have hr := List.pairwise_iff_getElem.1 (let_rise m 16 (by omega)) i (i + 1) (by omega) hl' (by omega)
  have b1 := let_bd m 16 (by omega) _ (List.getElem_mem (show i < (let_ m 16).length by omega))
  have b2 := let_bd m 16 (by omega) _ (List.getElem_mem hl')
  rw [UInt8.toNat_ofNat', UInt8.toNat_ofNat', Nat.mod_eq_of_lt (by omega), Nat.mod_eq_of_lt (by omega)]
  exact hr
/-- What is read of a text. -/
theorem par_facts (s : ByteArray) : (parB s = false ∧ parN s = 0) ∨ (∃ n : Nat, n ≤ 65535 ∧ parB s = true ∧ parN s = (n : Int) ∧ pc 16 n = s.size) := by
  cases h : pfold s.data.toList 0 with
  | none => exact .inl ⟨by simp [parB, h], by simp [parN, h]⟩
  | some n =>
    have := fold_count _ 0 n (by omega) h
    rw [pc_zero, size_list] at this
    exact .inr ⟨n, by omega, by simp [parB, h], by simp [parN, h], by omega⟩
end Go.Proofs.Ytjahkpbegndpiaa
