/-
  Nodes as lists: what Size tells, where Find ends, what Put, Without, Hang and Unhang make.
-/
import Derived.Test.YtkdcoipbdkmieaaSup
namespace Go.Proofs.Ytkdcoipbdkmieaa
set_option linter.unusedVariables false
set_option linter.unusedSimpArgs false
/-- A node: a leaf or not, its keys, values, kids. -/
structure Nod where
  leaf : Bool
  K : List Int
  V : List ByteArray
  C : List Int
/-- As many values or kids as there have to be. -/
def wholeB (n : Nod) : Bool := if n.leaf then decide (n.V.length = n.K.length) && decide (n.C.length = 0) else decide (n.C.length = n.K.length + 1) && decide (n.V.length = 0)
/-- The values' bytes. -/
def bytesV : List ByteArray → Nat
  | [] => 0
  | v :: l => v.size + bytesV l
theorem bytesV_append (l m : List ByteArray) : bytesV (l ++ m) = bytesV l + bytesV m := by
  induction l with
  | nil => simp [bytesV]
  | cons a l ih => simp [bytesV, ih]; omega
theorem bytesV_split (l : List ByteArray) (i : Nat) : bytesV (l.take i) + bytesV (l.drop i) = bytesV l := by
  rw [← bytesV_append, List.take_append_drop]
theorem bytesV_le (l : List ByteArray) (m : Nat) (h : ∀ v ∈ l, v.size ≤ m) : bytesV l ≤ l.length * m := by
  induction l with
  | nil => simp [bytesV]
  | cons a l ih =>
    have h1 := h a (by simp)
    have h2 := ih fun v hv => h v (by simp [hv])
    simp only [bytesV, List.length_cons, Nat.add_mul]
    omega
def sizeN (n : Nod) : Nat := if n.leaf then 1 + 9 * n.K.length + bytesV n.V else 1 + 8 * n.K.length + 2 * n.C.length
/-- Where the looking ends, from place i on, and if it was found. -/
def findAt (leaf : Bool) (key : Int) : List Int → Nat → Nat × Bool
  | [], i => (i, !leaf)
  | k :: r, i => if leaf = true ∧ k = key then (i, true) else if key < k then (i, !leaf) else findAt leaf key r (i + 1)
theorem findAt_step (leaf : Bool) (key : Int) (K : List Int) (i : Nat) (h : i < K.length) :
    findAt leaf key (K.drop i) i = if leaf = true ∧ K[i] = key then (i, true) else if key < K[i] then (i, !leaf) else findAt leaf key (K.drop (i + 1)) (i + 1) := by
  rw [List.drop_eq_getElem_cons h]
  rfl
theorem findAt_end (leaf : Bool) (key : Int) (K : List Int) (i : Nat) (h : K.length = i) : findAt leaf key (K.drop i) i = (i, !leaf) := by
  rw [List.drop_eq_nil_of_le (by omega)]
  rfl
theorem findAt_le (leaf : Bool) (key : Int) : ∀ (K : List Int) (i : Nat), i ≤ (findAt leaf key K i).1 ∧ (findAt leaf key K i).1 ≤ i + K.length ∧ ((findAt leaf key K i).2 = true → leaf = true → (findAt leaf key K i).1 < i + K.length) := by
  intro K
  induction K with
  | nil => intro i; simp [findAt]
  | cons k r ih =>
    intro i
    unfold findAt
    split
    · simp
    · split
      · refine ⟨Nat.le_refl _, by simp, ?_⟩
        intro h1 h2
        rw [h2] at h1
        exact absurd h1 (by simp)
      · have := ih (i + 1)
        simp only [List.length_cons]
        refine ⟨by omega, by omega, fun h1 h2 => by have := this.2.2 h1 h2; omega⟩
def findN (n : Nod) (key : Int) : Nat × Bool := if wholeB n then findAt n.leaf key n.K 0 else (0, false)
theorem findN_le (n : Nod) (key : Int) : (findN n key).1 ≤ n.K.length := by
  unfold findN
  split
  · have := (findAt_le n.leaf key n.K 0).2.1; omega
  · exact Nat.zero_le _
theorem findN_lt (n : Nod) (key : Int) (h : (findN n key).2 = true) (hl : n.leaf = true) : (findN n key).1 < n.K.length := by
  unfold findN at h ⊢
  split
  · rename_i hw
    rw [if_pos hw] at h
    have := (findAt_le n.leaf key n.K 0).2.2 h hl; omega
  · rename_i hw
    rw [if_neg hw] at h
    cases h
def putN (n : Nod) (key : Int) (v : ByteArray) : Nod :=
  if (n.leaf && wholeB n) = true then
    { leaf := true, K := n.K.take (findN n key).1 ++ [key] ++ n.K.drop ((findN n key).1 + (if (findN n key).2 then 1 else 0)), V := n.V.take (findN n key).1 ++ [v] ++ n.V.drop ((findN n key).1 + (if (findN n key).2 then 1 else 0)), C := [] }
  else n
def hangN (n : Nod) (i : Int) (key : Int) (kid : Int) : Nod :=
  if (!n.leaf && wholeB n && decide (0 ≤ i) && decide (i ≤ n.K.length)) = true then
    { leaf := false, K := n.K.take i.toNat ++ [key] ++ n.K.drop i.toNat, V := [], C := n.C.take (i.toNat + 1) ++ [kid] ++ n.C.drop (i.toNat + 1) }
  else n
theorem put_leaf (n : Nod) (key : Int) (v : ByteArray) (h : n.leaf = true) : (putN n key v).leaf = true := by unfold putN; split <;> first | rfl | exact h
theorem wholeB_leaf {n : Nod} (h : n.leaf = true) : wholeB n = true ↔ n.V.length = n.K.length ∧ n.C.length = 0 := by unfold wholeB; rw [h]; simp
theorem wholeB_branch {n : Nod} (h : n.leaf = false) : wholeB n = true ↔ n.C.length = n.K.length + 1 ∧ n.V.length = 0 := by unfold wholeB; rw [h]; simp
theorem put_whole (n : Nod) (key : Int) (v : ByteArray) (hl : n.leaf = true) (hw : wholeB n = true) : wholeB (putN n key v) = true := by
  have h1 := (wholeB_leaf hl).1 hw
  have h2 := findN_le n key
  have h3 := findN_lt n key
  rw [wholeB_leaf (put_leaf n key v hl)]
  unfold putN
  rw [if_pos (by rw [hl, hw]; rfl)]
  refine ⟨?_, rfl⟩
  simp only [List.length_append, List.length_take, List.length_drop, List.length_cons, List.length_nil]
  omega
theorem hang_whole (n : Nod) (i key kid : Int) (hl : n.leaf = false) (hw : wholeB n = true) : (hangN n i key kid).leaf = false ∧ wholeB (hangN n i key kid) = true := by
  have h1 := (wholeB_branch hl).1 hw
  unfold hangN
  split
  · rename_i h
    simp only [Bool.and_eq_true, decide_eq_true_eq] at h
    refine ⟨rfl, (wholeB_branch rfl).2 ⟨?_, rfl⟩⟩
    simp only [List.length_append, List.length_take, List.length_drop, List.length_cons, List.length_nil]
    omega
  · exact ⟨hl, hw⟩
/-- How many keys there are behind a Put. -/
theorem put_K (n : Nod) (key : Int) (v : ByteArray) (hl : n.leaf = true) (hw : wholeB n = true) : (putN n key v).K.length = n.K.length + (if (findN n key).2 then 0 else 1) := by
  have h2 := findN_le n key
  have h3 := findN_lt n key
  unfold putN
  rw [if_pos (by rw [hl, hw]; rfl)]
  simp only [List.length_append, List.length_take, List.length_drop, List.length_cons, List.length_nil]
  split
  · rename_i h
    have := h3 h hl
    omega
  · omega
theorem hang_K (n : Nod) (i : Nat) (key kid : Int) (hl : n.leaf = false) (hw : wholeB n = true) (hi : i ≤ n.K.length) : (hangN n i key kid).K.length = n.K.length + 1 ∧ (hangN n i key kid).C.length = n.C.length + 1 := by
  have h1 := (wholeB_branch hl).1 hw
  unfold hangN
  rw [if_pos (by rw [hl, hw]; simp; omega)]
  simp only [List.length_append, List.length_take, List.length_drop, List.length_cons, List.length_nil, Int.toNat_natCast]
  omega
/-- What a Put costs. -/
theorem put_cost (n : Nod) (key : Int) (v : ByteArray) (hl : n.leaf = true) (hw : wholeB n = true) :
    (sizeN (putN n key v) : Int) - (sizeN n : Int) = if (findN n key).2 then (v.size : Int) - ((n.V.getD (findN n key).1 ByteArray.empty).size : Int) else 9 + (v.size : Int) := by
  have h1 := (wholeB_leaf hl).1 hw
  have h2 := findN_le n key
  have h3 := findN_lt n key
  have hk := put_K n key v hl hw
  have hs := bytesV_split n.V (findN n key).1
  unfold sizeN
  rw [put_leaf n key v hl, hl, hk]
  simp only [if_true]
  have hv : (putN n key v).V = n.V.take (findN n key).1 ++ [v] ++ n.V.drop ((findN n key).1 + (if (findN n key).2 then 1 else 0)) := by
    unfold putN
    rw [if_pos (by rw [hl, hw]; rfl)]
  rw [hv, bytesV_append, bytesV_append]
  split
  · rename_i h
    have hlt := h3 h hl
    have hd : n.V.drop (findN n key).1 = n.V[(findN n key).1]'(by omega) :: n.V.drop ((findN n key).1 + 1) := List.drop_eq_getElem_cons (by omega)
    rw [hd] at hs
    rw [List.getD_eq_getElem?_getD, List.getElem?_eq_getElem (by omega)]
    simp only [bytesV, Option.getD_some] at hs ⊢
    omega
  · simp only [bytesV, Nat.add_zero]
    omega
theorem hang_size (n : Nod) (i : Nat) (key kid : Int) (hl : n.leaf = false) (hw : wholeB n = true) (hi : i ≤ n.K.length) : (sizeN (hangN n i key kid) : Int) - (sizeN n : Int) = 10 := by
  have hk := hang_K n i key kid hl hw hi
  have hb := hang_whole n i key kid hl hw
  unfold sizeN
  rw [hb.1, hl, hk.1, hk.2]
  simp only [Bool.false_eq_true, if_false]
  omega
end Go.Proofs.Ytkdcoipbdkmieaa
