/-
  What a disk of eight sectors has behind sixteen writes, and behind a crash.
-/
import Derived.Test.YteaiiiikehimgaaDiskFacts
namespace Go.Proofs.Yteaiiiikehimgaa
open Go.RowKit
set_option linter.unusedVariables false
/-- Behind n first writes. -/
def InvA (A : Nat → List UInt8) (st : DkS) (n : Nat) : Prop := st.up = true ∧ st.fuse = -1 ∧ st.S.length = 8 ∧ ∀ j, j < n → st.S[j]? = some (A j)
theorem invA_step (A : Nat → List UInt8) (hA : ∀ j, (A j).length = 256) (st : DkS) (n : Nat) (hn : n < 8) (h : InvA A st n) : (st.write (n : Int) (A n)).2 = 0 ∧ InvA A (st.write (n : Int) (A n)).1 (n + 1) := by
  obtain ⟨h1, h2, h3, h4⟩ := h
  rw [write_done st n _ h1 (by omega) (hA n) (by omega)]
  refine ⟨rfl, by rw [wrote_up]; exact h1, by rw [wrote_fuse, h2]; rfl, by rw [wrote_S, List.length_set]; exact h3, fun j hj => ?_⟩
  show (st.wrote n (A n)).S[j]? = _
  rw [wrote_S]
  by_cases e : n = j
  · subst e
    rw [List.getElem?_set_self (by omega)]
  · rw [List.getElem?_set_ne e]
    exact h4 j (by omega)
/-- What stands at sector 7 - j behind n second writes. -/
def curB (A B : Nat → List UInt8) (n j : Nat) : List UInt8 := if j + 8 < n then B (j + 8) else if j < n then B j else A (7 - j)
def InvB (A B : Nat → List UInt8) (st : DkS) (n : Nat) : Prop := st.up = true ∧ st.fuse = -1 ∧ st.S.length = 8 ∧ (∀ j, j < 8 → st.S[7 - j]? = some (curB A B n j)) ∧ st.L = (List.range (min n 8)).map fun j => (7 - j, A (7 - j))
theorem invB_zero (A B : Nat → List UInt8) (st : DkS) (h : InvA A st 8) : st.sync.2 = 0 ∧ InvB A B st.sync.1 0 := by
  obtain ⟨h1, h2, h3, h4⟩ := h
  unfold DkS.sync
  rw [if_neg (by rw [h1]; simp)]
  refine ⟨rfl, h1, h2, h3, fun j hj => ?_, rfl⟩
  show st.S[7 - j]? = _
  rw [h4 _ (by omega)]
  unfold curB
  rw [if_neg (by omega), if_neg (by omega)]
theorem invB_step (A B : Nat → List UInt8) (hB : ∀ j, (B j).length = 256) (st : DkS) (n q : Nat) (hn : n < 16) (hq : q = 7 - n % 8) (h : InvB A B st n) : (st.write (q : Int) (B n)).2 = 0 ∧ InvB A B (st.write (q : Int) (B n)).1 (n + 1) := by
  obtain ⟨h1, h2, h3, h4, h5⟩ := h
  rw [write_done st q _ h1 (by omega) (hB n) (by omega)]
  refine ⟨rfl, by rw [wrote_up]; exact h1, by rw [wrote_fuse, h2]; rfl, by rw [wrote_S, List.length_set]; exact h3, fun j hj => ?_, ?_⟩
  · show (st.wrote q (B n)).S[7 - j]? = _
    rw [wrote_S]
    by_cases e : q = 7 - j
    · rw [e, List.getElem?_set_self (by omega)]
      have hj2 : j = n % 8 := by omega
      congr 1
      unfold curB
      by_cases h8 : n < 8
      · rw [if_neg (by omega), if_pos (by omega), show j = n by omega]
      · rw [if_pos (by omega), show j + 8 = n by omega]
    · rw [List.getElem?_set_ne e, h4 j hj]
      congr 1
      have hj2 : j ≠ n % 8 := by omega
      unfold curB
      by_cases c1 : j + 8 < n
      · rw [if_pos c1, if_pos (show j + 8 < n + 1 by omega)]
      · rw [if_neg c1, if_neg (show ¬ j + 8 < n + 1 by omega)]
        by_cases c2 : j < n
        · rw [if_pos c2, if_pos (show j < n + 1 by omega)]
        · rw [if_neg c2, if_neg (show ¬ j < n + 1 by omega)]
  · show (st.wrote q (B n)).L = _
    rw [wrote_L, h5]
    by_cases h8 : n < 8
    · have hany : ¬ (((List.range (min n 8)).map fun j => (7 - j, A (7 - j))).any fun p => p.1 == q) = true := by
        rw [List.any_eq_true]
        rintro ⟨p, hp, hpq⟩
        obtain ⟨j, hj, rfl⟩ := List.mem_map.1 hp
        have hj2 := List.mem_range.1 hj
        have := eq_of_beq hpq
        simp only at this
        omega
      rw [if_neg hany, Nat.min_eq_left (by omega), Nat.min_eq_left (by omega), List.range_succ, List.map_append]
      congr 1
      have hq2 : q = 7 - n := by omega
      subst hq2
      have := h4 n h8
      rw [List.getD_eq_getElem?_getD, this]
      unfold curB
      rw [if_neg (by omega), if_neg (by omega)]
      rfl
    · have hany : (((List.range (min n 8)).map fun j => (7 - j, A (7 - j))).any fun p => p.1 == q) = true := by
        rw [List.any_eq_true]
        refine ⟨(7 - n % 8, A (7 - n % 8)), List.mem_map.2 ⟨n % 8, List.mem_range.2 (by omega), rfl⟩, by rw [hq]; simp⟩
      rw [if_pos hany, Nat.min_eq_right (by omega), Nat.min_eq_right (by omega)]
theorem rsT_get (A B : Nat → List UInt8) (S : List (List UInt8)) (ks : List Int) (h3 : S.length = 8) (h4 : ∀ j, j < 8 → S[7 - j]? = some (B (j + 8))) (n : Nat) (hn : n ≤ 8) (j : Nat) (hj : j < 8) :
    (rsT S ((List.range 8).map fun j => (7 - j, A (7 - j))) ks n)[7 - j]? = some (if j < n ∧ loseB ks j = true then A (7 - j) else B (j + 8)) := by
  induction n with
  | zero => rw [rsT, h4 j hj, if_neg (by omega)]
  | succ n ih =>
    have ih2 := ih (by omega)
    have hp : ((List.range 8).map fun j => (7 - j, A (7 - j))).getD n (0, []) = (7 - n, A (7 - n)) := by
      rw [List.getD_eq_getElem?_getD, List.getElem?_map, List.getElem?_range (by omega)]
      rfl
    rw [rsT, hp]
    by_cases hl : loseB ks n = true
    · rw [if_pos hl]
      by_cases e : n = j
      · subst e
        rw [List.getElem?_set_self (by rw [rsT_len, h3]; omega), if_pos ⟨by omega, hl⟩]
      · rw [List.getElem?_set_ne (by simp only; omega), ih2]
        congr 1
        by_cases c : j < n ∧ loseB ks j = true
        · rw [if_pos c, if_pos ⟨by omega, c.2⟩]
        · rw [if_neg c, if_neg (fun hc => c ⟨by omega, hc.2⟩)]
    · rw [if_neg hl, ih2]
      congr 1
      by_cases c : j < n ∧ loseB ks j = true
      · rw [if_pos c, if_pos ⟨by omega, c.2⟩]
      · rw [if_neg c, if_neg (fun hc => by
          by_cases e : n = j
          · subst e; exact hl hc.2
          · exact c ⟨by omega, hc.2⟩)]
/-- Behind the crash. -/
theorem crash_get (A B : Nat → List UInt8) (st : DkS) (ks : List Int) (h : InvB A B st 16) (j : Nat) (hj : j < 8) :
    st.L.length = 8 ∧ (st.crash ks).up = true ∧ (st.crash ks).L = [] ∧ (st.crash ks).read ((7 - j : Nat) : Int) = (if loseB ks j = true then A (7 - j) else B (j + 8), 0) := by
  obtain ⟨h1, h2, h3, h4, h5⟩ := h
  have hl : st.L.length = 8 := by rw [h5]; simp
  refine ⟨hl, rfl, rfl, ?_⟩
  have hc : ∀ j, j < 8 → st.S[7 - j]? = some (B (j + 8)) := fun j hj => by
    rw [h4 j hj]
    unfold curB
    rw [if_pos (by omega)]
  have hg := rsT_get A B st.S ks h3 hc 8 (Nat.le_refl _) j hj
  have hS : (st.crash ks).S = rsT st.S ((List.range 8).map fun j => (7 - j, A (7 - j))) ks 8 := by
    unfold DkS.crash
    rw [h5]
    simp
  have hlen : (7 - j) < (st.crash ks).S.length := by rw [hS, rsT_len, h3]; omega
  rw [read_done _ _ rfl hlen]
  rw [← hS, List.getElem?_eq_getElem hlen] at hg
  rw [Option.some.inj hg]
  congr 1
  by_cases c : loseB ks j = true
  · rw [if_pos c, if_pos ⟨hj, c⟩]
  · rw [if_neg c, if_neg (fun hc => c hc.2)]
end Go.Proofs.Yteaiiiikehimgaa
