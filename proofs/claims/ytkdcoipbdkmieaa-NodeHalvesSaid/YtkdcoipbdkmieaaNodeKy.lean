/-
  Leaves as lists: the keys rise; a leaf and a map that were told the same have the same; a key that is taken out and put in again.
-/
import Derived.Test.YtkdcoipbdkmieaaNodeHg
import Derived.Test.YtkdcoipbdkmieaaMapU
namespace Go.Proofs.Ytkdcoipbdkmieaa
set_option linter.unusedVariables false
set_option linter.unusedSimpArgs false
theorem findAt_leaf (key : Int) : ∀ (K : List Int) (i : Nat), ∃ q ok, findAt true key K i = (i + q, ok) ∧ q ≤ K.length ∧ (∀ x ∈ K.take q, x < key) ∧ (ok = true → K[q]? = some key) ∧ (ok = false → ∀ x ∈ (K.drop q).head?, key < x) := by
  intro K
  induction K with
  | nil => exact fun i => ⟨0, false, rfl, Nat.le_refl _, by simp, by simp, by simp⟩
  | cons k r ih =>
    intro i
    by_cases he : k = key
    · exact ⟨0, true, by unfold findAt; rw [if_pos ⟨rfl, he⟩]; rfl, Nat.zero_le _, by simp, by simp [he], by simp⟩
    · by_cases h : key < k
      · exact ⟨0, false, by unfold findAt; rw [if_neg (by simp [he]), if_pos h]; rfl, Nat.zero_le _, by simp, by simp, by simpa using h⟩
      · obtain ⟨q, ok, h1, h2, h3, h4, h5⟩ := ih (i + 1)
        refine ⟨q + 1, ok, ?_, by simpa using h2, ?_, by simpa using h4, by simpa using h5⟩
        · unfold findAt
          rw [if_neg (by simp [he]), if_neg h, h1]
          exact congrArg (fun t => (t, ok)) (by omega)
        · intro x hx
          simp only [List.take_succ_cons, List.mem_cons] at hx
          rcases hx with rfl | hx
          · omega
          · exact h3 x hx
theorem findAt_gap (key : Int) (B : List Int) (hB : ∀ x ∈ B.head?, key < x) : ∀ (A : List Int) (i : Nat), (∀ x ∈ A, x < key) → findAt true key (A ++ B) i = (i + A.length, false) := by
  intro A
  induction A with
  | nil =>
    intro i _
    cases B with
    | nil => rfl
    | cons b B =>
      have := hB b (by simp)
      simp only [List.nil_append]
      unfold findAt
      rw [if_neg (by simp; omega), if_pos this]
      rfl
  | cons a A ih =>
    intro i hA
    have := hA a (by simp)
    simp only [List.cons_append]
    unfold findAt
    rw [if_neg (by simp; omega), if_neg (by omega), ih (i + 1) fun x hx => hA x (by simp [hx])]
    exact congrArg (fun t => (t, false)) (by simp only [List.length_cons]; omega)
theorem findN_leaf (n : Nod) (key : Int) (hl : n.leaf = true) (hw : wholeB n = true) : (∀ x ∈ n.K.take (findN n key).1, x < key) ∧ ((findN n key).2 = true → n.K[(findN n key).1]? = some key) ∧ ((findN n key).2 = false → ∀ x ∈ (n.K.drop (findN n key).1).head?, key < x) := by
  obtain ⟨q, ok, h1, h2, h3, h4, h5⟩ := findAt_leaf key n.K 0
  unfold findN
  rw [if_pos hw, hl, h1, Nat.zero_add]
  exact ⟨h3, h4, h5⟩
theorem above_of {K : List Int} (hr : Rise K) {p : Nat} {key : Int} (h : ∀ x ∈ (K.drop p).head?, key < x) : ∀ x ∈ K.drop p, key < x := by
  intro x hx
  have hsp := hr
  unfold Rise at hsp
  rw [← List.take_append_drop p K, List.pairwise_append] at hsp
  cases hd : K.drop p with
  | nil => rw [hd] at hx; cases hx
  | cons y Y =>
    rw [hd] at h hx hsp
    have hy := h y (by simp)
    rcases List.mem_cons.1 hx with rfl | hx
    · exact hy
    · have := (List.pairwise_cons.1 hsp.2.1).1 x hx
      omega
theorem rise_mid {A B : List Int} {key : Int} (hA : A.Pairwise (· < ·)) (hB : B.Pairwise (· < ·)) (h1 : ∀ x ∈ A, x < key) (h2 : ∀ x ∈ B, key < x) : Rise (A ++ [key] ++ B) := by
  unfold Rise
  rw [List.pairwise_append, List.pairwise_append]
  refine ⟨⟨hA, List.pairwise_singleton _ _, ?_⟩, hB, ?_⟩
  · intro x hx y hy
    rw [List.mem_singleton] at hy
    subst hy
    exact h1 x hx
  · intro x hx y hy
    rcases List.mem_append.1 hx with hx | hx
    · have := h1 x hx; have := h2 y hy; omega
    · rw [List.mem_singleton] at hx
      subst hx
      exact h2 y hy
theorem rise_drop {K : List Int} (hr : Rise K) (p : Nat) (hp : p < K.length) : ∀ x ∈ K.drop (p + 1), K[p] < x := by
  intro x hx
  obtain ⟨j, hj, rfl⟩ := List.mem_iff_getElem.1 hx
  rw [List.getElem_drop]
  exact List.pairwise_iff_getElem.1 hr p (p + 1 + j) hp (by simp at hj; omega) (by omega)
theorem rise_take {K : List Int} (hr : Rise K) (p : Nat) (hp : p < K.length) : ∀ x ∈ K.take p, x < K[p] := by
  intro x hx
  obtain ⟨j, hj, rfl⟩ := List.mem_iff_getElem.1 hx
  rw [List.getElem_take]
  exact List.pairwise_iff_getElem.1 hr j p (by simp at hj; omega) hp (by simp at hj; omega)
/-- What is taken ahead of the place and behind it when a key is put in. -/
theorem put_parts (n : Nod) (key : Int) (hl : n.leaf = true) (hw : wholeB n = true) (hr : Rise n.K) : (∀ x ∈ n.K.take (findN n key).1, x < key) ∧ (∀ x ∈ n.K.drop ((findN n key).1 + (if (findN n key).2 then 1 else 0)), key < x) := by
  obtain ⟨h1, h2, h3⟩ := findN_leaf n key hl hw
  refine ⟨h1, ?_⟩
  cases hf : (findN n key).2 with
  | false =>
    rw [hf] at h3
    simpa using above_of hr (h3 rfl)
  | true =>
    rw [hf] at h2
    obtain ⟨hq, hq2⟩ := List.getElem?_eq_some_iff.1 (h2 rfl)
    have := rise_drop hr _ hq
    rw [hq2] at this
    simpa using this
theorem put_eq (n : Nod) (key : Int) (v : ByteArray) (hl : n.leaf = true) (hw : wholeB n = true) :
    putN n key v = { leaf := true, K := n.K.take (findN n key).1 ++ [key] ++ n.K.drop ((findN n key).1 + (if (findN n key).2 then 1 else 0)), V := n.V.take (findN n key).1 ++ [v] ++ n.V.drop ((findN n key).1 + (if (findN n key).2 then 1 else 0)), C := [] } := by
  unfold putN
  rw [if_pos (by rw [hl, hw]; rfl)]
theorem put_rise (n : Nod) (key : Int) (v : ByteArray) (hl : n.leaf = true) (hw : wholeB n = true) (hr : Rise n.K) : Rise (putN n key v).K := by
  rw [put_eq n key v hl hw]
  obtain ⟨h1, h2⟩ := put_parts n key hl hw hr
  exact rise_mid (List.Pairwise.sublist (List.take_sublist _ _) hr) (List.Pairwise.sublist (List.drop_sublist _ _) hr) h1 h2
theorem growN_rise (L : List (Int × ByteArray)) (j : Nat) : Rise (growN L j).K := by
  induction j with
  | zero => exact List.Pairwise.nil
  | succ j ih =>
    by_cases h : j < L.length
    · rw [growN_succ L j h]
      exact put_rise _ _ _ (growN_leaf L j).1 (growN_leaf L j).2.1 ih
    · unfold growN at ih ⊢
      rw [List.take_of_length_le (by omega)] at ih ⊢
      exact ih
/-- What the leaf has at a key. -/
def pairsN (n : Nod) : List (Int × ByteArray) := n.K.zip n.V
theorem pairs_at (n : Nod) (i : Nat) (h : i < (pairsN n).length) (hk : i < n.K.length) (hv : i < n.V.length) : (pairsN n)[i] = (n.K[i], n.V[i]) := List.getElem_zip (h := h)
theorem mem_zip_K {K : List Int} {V : List ByteArray} {p : Int × ByteArray} (h : p ∈ K.zip V) : p.1 ∈ K := (List.of_mem_zip h).1
theorem put_pairs (n : Nod) (key : Int) (v : ByteArray) (hl : n.leaf = true) (hw : wholeB n = true) :
    pairsN (putN n key v) = (pairsN n).take (findN n key).1 ++ [(key, v)] ++ (pairsN n).drop ((findN n key).1 + (if (findN n key).2 then 1 else 0)) := by
  have h1 := (wholeB_leaf hl).1 hw
  have hle := findN_le n key
  rw [put_eq n key v hl hw]
  unfold pairsN
  dsimp only
  rw [List.zip_append (by simp; omega), List.zip_append (by simp; omega)]
  simp only [List.zip, List.take_zipWith, List.drop_zipWith]
  rfl
theorem get_put (n : Nod) (key : Int) (v : ByteArray) (hl : n.leaf = true) (hw : wholeB n = true) (hr : Rise n.K) (k : Int) : getM (pairsN (putN n key v)) k = if k = key then some v else getM (pairsN n) k := by
  obtain ⟨h1, h2⟩ := put_parts n key hl hw hr
  have hf := (findN_leaf n key hl hw).2.1
  rw [put_pairs n key v hl hw, getM_append, getM_append]
  have hA : ∀ x ∈ (pairsN n).take (findN n key).1, x.1 < key := by
    intro x hx
    unfold pairsN at hx
    rw [List.zip, List.take_zipWith] at hx
    exact h1 _ (List.of_mem_zip hx).1
  by_cases hk : k = key
  · subst hk
    rw [if_pos rfl, getM_none _ _ fun p hp => Int.ne_of_lt (hA p hp)]
    simp [getM]
  · rw [if_neg hk]
    have hmid : getM [(key, v)] k = none := getM_none _ _ (by intro p hp; rw [List.mem_singleton] at hp; subst hp; exact Ne.symm hk)
    rw [hmid]
    have hsp := getM_append ((pairsN n).take (findN n key).1) ((pairsN n).drop (findN n key).1) k
    rw [List.take_append_drop] at hsp
    rw [hsp]
    cases hfd : (findN n key).2 with
    | false =>
      simp only [Bool.false_eq_true, if_false, Nat.add_zero]
      cases getM ((pairsN n).take (findN n key).1) k <;> rfl
    | true =>
      simp only [if_true]
      rw [hfd] at hf
      obtain ⟨hq, hq2⟩ := List.getElem?_eq_some_iff.1 (hf rfl)
      have hvl := (wholeB_leaf hl).1 hw
      have hpl : (findN n key).1 < (pairsN n).length := by unfold pairsN; rw [List.length_zip]; omega
      rw [List.drop_eq_getElem_cons hpl]
      have h0 : (pairsN n)[(findN n key).1].1 = key := by rw [pairs_at n _ hpl hq (by omega)]; exact hq2
      simp only [getM]
      rw [if_neg (by rw [h0]; exact Ne.symm hk)]
      cases getM ((pairsN n).take (findN n key).1) k <;> rfl
/-- The key is found just if the leaf has it. -/
theorem find_get (n : Nod) (key : Int) (hl : n.leaf = true) (hw : wholeB n = true) (hr : Rise n.K) : (getM (pairsN n) key).isSome = (findN n key).2 := by
  obtain ⟨h1, h2, h3⟩ := findN_leaf n key hl hw
  have hvl := (wholeB_leaf hl).1 hw
  cases hf : (findN n key).2 with
  | false =>
    rw [hf] at h3
    have h4 := above_of hr (h3 rfl)
    rw [getM_none]
    · rfl
    · intro p hp hc
      have hpk := mem_zip_K hp
      rw [hc, ← List.take_append_drop (findN n key).1 n.K] at hpk
      rcases List.mem_append.1 hpk with hx | hx
      · have := h1 _ hx; omega
      · have := h4 _ hx; omega
  | true =>
    rw [hf] at h2
    obtain ⟨hq, hq2⟩ := List.getElem?_eq_some_iff.1 (h2 rfl)
    have hpl : (findN n key).1 < (pairsN n).length := by unfold pairsN; rw [List.length_zip]; omega
    rw [← List.take_append_drop (findN n key).1 (pairsN n), getM_append, List.drop_eq_getElem_cons hpl]
    have h0 : (pairsN n)[(findN n key).1].1 = key := by rw [pairs_at n _ hpl hq (by omega)]; exact hq2
    cases getM ((pairsN n).take (findN n key).1) key with
    | some v => rfl
    | none => simp only [getM, h0, if_true]; rfl
/-- What stands at place i. -/
theorem get_at (n : Nod) (hl : n.leaf = true) (hw : wholeB n = true) (hr : Rise n.K) (i : Nat) (hi : i < n.K.length) (hv : i < n.V.length) : getM (pairsN n) n.K[i] = some n.V[i] := by
  have hpl : i < (pairsN n).length := by unfold pairsN; rw [List.length_zip]; omega
  rw [← List.take_append_drop i (pairsN n), getM_append, List.drop_eq_getElem_cons hpl]
  have h0 : (pairsN n)[i] = (n.K[i], n.V[i]) := pairs_at n i hpl hi hv
  rw [getM_none _ _ (by
    intro p hp
    unfold pairsN at hp
    rw [List.zip, List.take_zipWith] at hp
    exact Int.ne_of_lt (rise_take hr i hi _ (List.of_mem_zip hp).1)), h0]
  simp [getM]
/-- What the map was told: the first j pairs. -/
def mapN (L : List (Int × ByteArray)) : Nat → List (Int × ByteArray)
  | 0 => []
  | j + 1 => setM (mapN L j) (L.getD j (0, ByteArray.empty)).1 (cut40 (L.getD j (0, ByteArray.empty)).2)
theorem map_grow (L : List (Int × ByteArray)) (j : Nat) (h : j ≤ L.length) : (∀ k, getM (mapN L j) k = getM (pairsN (growN L j)) k) ∧ (mapN L j).length = (growN L j).K.length := by
  induction j with
  | zero => exact ⟨fun k => rfl, rfl⟩
  | succ j ih =>
    obtain ⟨i1, i2⟩ := ih (by omega)
    have hj : j < L.length := by omega
    have hd : L.getD j (0, ByteArray.empty) = L[j] := by rw [List.getD_eq_getElem?_getD, List.getElem?_eq_getElem hj]; rfl
    have gl := growN_leaf L j
    have gr := growN_rise L j
    unfold mapN
    rw [hd, growN_succ L j hj]
    refine ⟨fun k => ?_, ?_⟩
    · rw [getM_set, get_put _ _ _ gl.1 gl.2.1 gr, i1]
    · have hfg := find_get _ L[j].1 gl.1 gl.2.1 gr
      rw [setM_len, put_K _ _ _ gl.1 gl.2.1, i2, i1]
      cases hc : (getM (pairsN (growN L j)) L[j].1).isSome with
      | false => rw [hc] at hfg; simp [← hfg]
      | true => rw [hc] at hfg; simp [← hfg]
theorem growN_all (L : List (Int × ByteArray)) (j : Nat) (h : L.length ≤ j) : growN L j = growN L L.length := by
  unfold growN
  rw [List.take_of_length_le h, List.take_of_length_le (Nat.le_refl _)]
/-- What the law asks of a leaf and of the one without a key. -/
theorem out_facts (n : Nod) (hl : n.leaf = true) (hw : wholeB n = true) (hr : Rise n.K) (o : Nat) (ho : o < n.K.length) (hv : o < n.V.length) :
    (withoutN n o).leaf = true ∧ wholeB (withoutN n o) = true ∧ (withoutN n o).K.length + 1 = n.K.length ∧ findN (withoutN n o) n.K[o] = (o, false) ∧ putN (withoutN n o) n.K[o] n.V[o] = n := by
  have hvl := (wholeB_leaf hl).1 hw
  have hwl : (withoutN n o).leaf = true := rfl
  have hwh : wholeB (withoutN n o) = true := by
    rw [wholeB_leaf hwl]
    unfold withoutN
    simp
    omega
  have hfd : findN (withoutN n o) n.K[o] = (o, false) := by
    unfold findN
    rw [if_pos hwh, hwl]
    have := findAt_gap n.K[o] (n.K.drop (o + 1)) (fun x hx => rise_drop hr o ho x (List.mem_of_mem_head? hx)) (n.K.take o) 0 (rise_take hr o ho)
    rw [List.length_take, Nat.min_eq_left (by omega), Nat.zero_add] at this
    exact this
  have hcut : ∀ {α : Type} (l : List α) (q : Nat) (h : q < l.length), (l.take q ++ l.drop (q + 1)).take q ++ [l[q]] ++ (l.take q ++ l.drop (q + 1)).drop q = l := by
    intro α l q h
    rw [List.take_append_of_le_length (by simp; omega), List.take_take, Nat.min_self, List.drop_append, List.drop_eq_nil_of_le (by simp; omega), List.length_take, Nat.min_eq_left (by omega), Nat.sub_self]
    simp
  refine ⟨hwl, hwh, by unfold withoutN; simp; omega, hfd, ?_⟩
  rw [put_eq _ _ _ hwl hwh, hfd]
  obtain ⟨lf, K, V, C⟩ := n
  dsimp only at *
  subst hl
  have hC : C = [] := List.length_eq_zero_iff.1 hvl.2
  subst hC
  simp only [withoutN, Bool.false_eq_true, if_false, Nat.add_zero]
  rw [hcut K o ho, hcut V o hv]
end Go.Proofs.Ytkdcoipbdkmieaa
