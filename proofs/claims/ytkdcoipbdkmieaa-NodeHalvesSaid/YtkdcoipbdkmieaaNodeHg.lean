/-
  Nodes as lists: a branch's keys rise; a kid that is hung is found at its key's place.
-/
import Derived.Test.YtkdcoipbdkmieaaNodeB
import Derived.Test.YtkdcoipbdkmieaaNodeW
namespace Go.Proofs.Ytkdcoipbdkmieaa
set_option linter.unusedVariables false
set_option linter.unusedSimpArgs false
/-- The keys rise. -/
def Rise (K : List Int) : Prop := K.Pairwise (· < ·)
theorem findAt_parts (key : Int) : ∀ (K : List Int) (i : Nat), ∃ q, findAt false key K i = (i + q, true) ∧ q ≤ K.length ∧ (∀ x ∈ K.take q, x ≤ key) ∧ (∀ x ∈ (K.drop q).head?, key < x) := by
  intro K
  induction K with
  | nil => exact fun i => ⟨0, rfl, Nat.le_refl _, by simp, by simp⟩
  | cons k r ih =>
    intro i
    by_cases h : key < k
    · refine ⟨0, ?_, Nat.zero_le _, by simp, by simpa using h⟩
      unfold findAt
      rw [if_neg (by simp), if_pos h]
      rfl
    · obtain ⟨q, h1, h2, h3, h4⟩ := ih (i + 1)
      refine ⟨q + 1, ?_, by simpa using h2, ?_, ?_⟩
      · unfold findAt
        rw [if_neg (by simp), if_neg h, h1]
        exact congrArg (fun t => (t, true)) (by omega)
      · intro x hx
        simp only [List.take_succ_cons, List.mem_cons] at hx
        rcases hx with rfl | hx
        · omega
        · exact h3 x hx
      · simpa using h4
theorem findAt_at (key : Int) (B : List Int) (hB : ∀ x ∈ B.head?, key < x) : ∀ (A : List Int) (i : Nat), (∀ x ∈ A, x ≤ key) → findAt false key (A ++ B) i = (i + A.length, true) := by
  intro A
  induction A with
  | nil =>
    intro i _
    cases B with
    | nil => rfl
    | cons b B =>
      have := hB b (by simp)
      simp only [List.nil_append]
      unfold findAt
      rw [if_neg (by simp), if_pos this]
      rfl
  | cons a A ih =>
    intro i hA
    have := hA a (by simp)
    simp only [List.cons_append]
    unfold findAt
    rw [if_neg (by simp), if_neg (by omega), ih (i + 1) fun x hx => hA x (by simp [hx])]
    exact congrArg (fun t => (t, true)) (by simp only [List.length_cons]; omega)
/-- In a branch a key that is there is found behind itself. -/
theorem findN_at (n : Nod) (hl : n.leaf = false) (hw : wholeB n = true) (hr : Rise n.K) (k : Nat) (hk : k < n.K.length) : findN n n.K[k] = (k + 1, true) := by
  have h1 : n.K.take (k + 1) ++ n.K.drop (k + 1) = n.K := List.take_append_drop _ _
  have h2 := findAt_at n.K[k] (n.K.drop (k + 1)) (by
    intro x hx
    have hx2 : x ∈ n.K.drop (k + 1) := List.mem_of_mem_head? hx
    rw [List.mem_iff_getElem] at hx2
    obtain ⟨j, hj, rfl⟩ := hx2
    rw [List.getElem_drop]
    exact List.pairwise_iff_getElem.1 hr k (k + 1 + j) hk (by simp at hj; omega) (by omega)) (n.K.take (k + 1)) 0 (by
    intro x hx
    rw [List.mem_iff_getElem] at hx
    obtain ⟨j, hj, rfl⟩ := hx
    rw [List.getElem_take]
    by_cases hjk : j = k
    · subst hjk; exact Int.le_refl _
    · exact Int.le_of_lt (List.pairwise_iff_getElem.1 hr j k (by simp at hj; omega) hk (by simp at hj; omega)))
  rw [h1] at h2
  unfold findN
  rw [if_pos hw, hl, h2, List.length_take]
  exact congrArg (fun t => (t, true)) (by omega)
/-- What stands ahead of the place and behind it. -/
theorem findN_parts (n : Nod) (key : Int) (hl : n.leaf = false) (hw : wholeB n = true) : (findN n key).2 = true ∧ (∀ x ∈ n.K.take (findN n key).1, x ≤ key) ∧ (∀ x ∈ (n.K.drop (findN n key).1).head?, key < x) := by
  obtain ⟨q, h1, h2, h3, h4⟩ := findAt_parts key n.K 0
  unfold findN
  rw [if_pos hw, hl, h1, Nat.zero_add]
  exact ⟨rfl, h3, h4⟩
theorem hang_eq (n : Nod) (p : Nat) (key kid : Int) (hl : n.leaf = false) (hw : wholeB n = true) (hp : p ≤ n.K.length) :
    hangN n (p : Int) key kid = { leaf := false, K := n.K.take p ++ [key] ++ n.K.drop p, V := [], C := n.C.take (p + 1) ++ [kid] ++ n.C.drop (p + 1) } := by
  unfold hangN
  rw [if_pos (by rw [hl, hw]; simp; omega), Int.toNat_natCast]
/-- A key that is not there, at its place. -/
theorem hang_rise (n : Nod) (key kid : Int) (hl : n.leaf = false) (hw : wholeB n = true) (hr : Rise n.K) (hn : hasN n key = false) : Rise (hangN n ((findN n key).1 : Int) key kid).K := by
  have hle := findN_le n key
  obtain ⟨_, h3, h4⟩ := findN_parts n key hl hw
  rw [hang_eq n _ key kid hl hw hle]
  unfold hasN at hn
  generalize (findN n key).1 = p at *
  show Rise (n.K.take p ++ [key] ++ n.K.drop p)
  have hsp := hr
  unfold Rise at hsp ⊢
  rw [← List.take_append_drop p n.K, List.pairwise_append] at hsp
  rw [List.pairwise_append, List.pairwise_append]
  have ha : ∀ x ∈ n.K.take p, x < key := by
    intro x hx
    have := h3 x hx
    rw [List.mem_iff_getElem] at hx
    obtain ⟨j, hj, rfl⟩ := hx
    rw [List.length_take] at hj
    have hp0 : 0 < p := by omega
    rw [List.getElem_take]
    have hne : n.K[p - 1] ≠ key := by
      intro hc
      rw [List.getD_eq_getElem?_getD, List.getElem?_eq_getElem (by omega)] at hn
      simp [hp0, hc] at hn
    have hle2 : n.K[p - 1] ≤ key := h3 _ (by rw [List.mem_iff_getElem]; exact ⟨p - 1, by rw [List.length_take]; omega, by rw [List.getElem_take]⟩)
    by_cases hjp : j = p - 1
    · subst hjp; omega
    · have := List.pairwise_iff_getElem.1 hr j (p - 1) (by omega) (by omega) (by omega)
      omega
  have hb : ∀ x ∈ n.K.drop p, key < x := by
    intro x hx
    cases hd : n.K.drop p with
    | nil => rw [hd] at hx; cases hx
    | cons y Y =>
      rw [hd] at h4 hx hsp
      have hy := h4 y (by simp)
      rcases List.mem_cons.1 hx with rfl | hx
      · exact hy
      · have := (List.pairwise_cons.1 hsp.2.1).1 x hx
        omega
  refine ⟨⟨hsp.1, List.pairwise_singleton _ _, ?_⟩, hsp.2.1, ?_⟩
  · intro x hx y hy
    rw [List.mem_singleton] at hy
    subst hy
    exact ha x hx
  · intro x hx y hy
    rcases List.mem_append.1 hx with hx | hx
    · exact hsp.2.2 x hx y hy
    · rw [List.mem_singleton] at hx
      subst hx
      exact hb y hy
theorem branchN_rise (L : List (Int × ByteArray)) (j : Nat) : Rise (branchN L j).K := by
  induction j with
  | zero => exact List.Pairwise.nil
  | succ j ih =>
    unfold branchN
    split
    · exact ih
    · rename_i h
      exact hang_rise _ _ _ (branchN_ok L j).1 (branchN_ok L j).2.1 ih (by simpa using h)
/-- Kid i of the parts. -/
theorem hang_kid (C : List Int) (p : Nat) (kid : Int) (hp : p + 1 ≤ C.length) : (C.take (p + 1) ++ [kid] ++ C.drop (p + 1)).length = C.length + 1 ∧ ∀ i (h : i < C.length) (h2 : i < (C.take (p + 1) ++ [kid] ++ C.drop (p + 1)).length) (h3 : i + 1 < (C.take (p + 1) ++ [kid] ++ C.drop (p + 1)).length),
    (i ≤ p → (C.take (p + 1) ++ [kid] ++ C.drop (p + 1))[i] = C[i]) ∧ (p < i → (C.take (p + 1) ++ [kid] ++ C.drop (p + 1))[i + 1] = C[i]) := by
  have hl : (C.take (p + 1) ++ [kid]).length = p + 2 := by simp; omega
  refine ⟨by simp; omega, fun i h h2 h3 => ⟨fun hi => ?_, fun hi => ?_⟩⟩
  · rw [List.getElem_append_left (by omega), List.getElem_append_left (by simp; omega), List.getElem_take]
  · rw [List.getElem_append_right (by omega), List.getElem_drop]
    congr 1
    omega
/-- What the law asks of a branch and of the one with a kid more. -/
theorem hang_facts (B : Nod) (key kid : Int) (p : Nat) (hl : B.leaf = false) (hw : wholeB B = true) (hr : Rise B.K) (hp : findN B key = (p, true)) (hn : hasN B key = false) (H : Nod) (hH : hangN B (p : Int) key kid = H) :
    H.leaf = false ∧ wholeB H = true ∧ H.K.length = B.K.length + 1 ∧ H.C.length = B.C.length + 1 ∧ B.C.length = B.K.length + 1 ∧ findN H key = (p + 1, true) ∧ H.C[p + 1]? = some kid ∧ unhangN H p = B ∧
    ∀ k (h : k < B.K.length), ∃ ka kb, findN B B.K[k] = (ka, true) ∧ findN H B.K[k] = (kb, true) ∧ ∃ (h1 : ka < B.C.length) (h2 : kb < H.C.length), B.C[ka] = H.C[kb] := by
  have hle := findN_le B key
  rw [hp] at hle
  have hwl := (wholeB_branch hl).1 hw
  have hle' : p ≤ B.K.length := hle
  have hb := hang_whole B (p : Int) key kid hl hw
  have hkl := hang_K B p key kid hl hw hle'
  have hri := hang_rise B key kid hl hw hr hn
  rw [hp] at hri
  have hri' : Rise (hangN B (p : Int) key kid).K := hri
  have huh := unhang_hang B p key kid hl hw hle'
  have heq := hang_eq B p key kid hl hw hle'
  have hKp : (hangN B (p : Int) key kid).K = B.K.take p ++ [key] ++ B.K.drop p := by rw [heq]
  have hCp : (hangN B (p : Int) key kid).C = B.C.take (p + 1) ++ [kid] ++ B.C.drop (p + 1) := by rw [heq]
  rw [hH] at hb hkl hri' huh hKp hCp
  clear heq hri
  have hkid := hang_kid B.C p kid (by omega)
  rw [← hCp] at hkid
  have hAl : (B.K.take p ++ [key]).length = p + 1 := by simp; omega
  have hK1 : ∀ i (h : i < B.K.length), (i < p → H.K[i]'(by omega) = B.K[i]) ∧ (p ≤ i → H.K[i + 1]'(by omega) = B.K[i]) := by
    intro i h
    refine ⟨fun hi => ?_, fun hi => ?_⟩
    · simp only [hKp]
      rw [List.getElem_append_left (by omega), List.getElem_append_left (by simp; omega), List.getElem_take]
    · simp only [hKp]
      rw [List.getElem_append_right (by omega), List.getElem_drop]
      congr 1
      omega
  have hKk : H.K[p]'(by omega) = key := by
    simp only [hKp]
    rw [List.getElem_append_left (by omega), List.getElem_append_right (by simp; omega)]
    simp
  refine ⟨hb.1, hb.2, hkl.1, hkl.2, hwl.1, ?_, ?_, huh, ?_⟩
  · have := findN_at H hb.1 hb.2 hri' p (by omega)
    rw [hKk] at this
    exact this
  · rw [hCp, List.getElem?_append_left (by simp; omega), List.getElem?_append_right (by simp; omega)]
    simp only [List.length_take]
    rw [Nat.min_eq_left (by omega), Nat.sub_self]
    rfl
  · intro k h
    have f1 := findN_at B hl hw hr k h
    by_cases hkp : k < p
    · have f2 := findN_at H hb.1 hb.2 hri' k (by omega)
      rw [(hK1 k h).1 hkp] at f2
      exact ⟨k + 1, k + 1, f1, f2, by omega, by omega, ((hkid.2 (k + 1) (by omega) (by omega) (by omega)).1 (by omega)).symm⟩
    · have f2 := findN_at H hb.1 hb.2 hri' (k + 1) (by omega)
      rw [(hK1 k h).2 (by omega)] at f2
      exact ⟨k + 1, k + 2, f1, f2, by omega, by omega, ((hkid.2 (k + 1) (by omega) (by omega) (by omega)).2 (by omega)).symm⟩
end Go.Proofs.Ytkdcoipbdkmieaa
