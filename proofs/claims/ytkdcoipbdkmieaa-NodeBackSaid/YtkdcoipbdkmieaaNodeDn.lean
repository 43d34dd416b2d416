/-
  Nodes' bytes as lists: what is written, what is read, and that each undoes the other.
-/
import Derived.Test.YtkdcoipbdkmieaaTakePut
import Derived.Test.YtkdcoipbdkmieaaNodeEn
namespace Go.Proofs.Ytkdcoipbdkmieaa
open Go.RowKit
set_option linter.unusedVariables false
set_option linter.unusedSimpArgs false
def riseB (K : List Int) : Bool := (List.range (K.length - 1)).all fun i => decide (K.getD i 0 < K.getD (i + 1) 0)
theorem riseB_iff (K : List Int) : riseB K = true ↔ ∀ i (h : i + 1 < K.length), K[i] < K[i + 1] := by
  unfold riseB
  rw [List.all_eq_true]
  constructor
  · intro h i hi
    have := h i (List.mem_range.2 (by omega))
    rw [decide_eq_true_eq, List.getD_eq_getElem?_getD, List.getD_eq_getElem?_getD, List.getElem?_eq_getElem (by omega), List.getElem?_eq_getElem hi] at this
    exact this
  · intro h i hi
    have hi' := List.mem_range.1 hi
    rw [decide_eq_true_eq, List.getD_eq_getElem?_getD, List.getD_eq_getElem?_getD, List.getElem?_eq_getElem (by omega), List.getElem?_eq_getElem (by omega)]
    exact h i (by omega)
def plainB (n : Nod) : Bool := riseB n.K && n.V.all (fun v => decide (v.size ≤ 40)) && n.C.all fun c => decide (2 ≤ c ∧ c < 640)
theorem plainB_iff (n : Nod) : plainB n = true ↔ (∀ i (h : i + 1 < n.K.length), n.K[i] < n.K[i + 1]) ∧ (∀ v ∈ n.V, v.size ≤ 40) ∧ ∀ c ∈ n.C, 2 ≤ c ∧ c < 640 := by
  unfold plainB
  rw [Bool.and_eq_true, Bool.and_eq_true, riseB_iff, List.all_eq_true, List.all_eq_true]
  simp only [decide_eq_true_eq, and_assoc]
def rightN (n : Nod) : Bool := plainB n && wholeB n && (!n.leaf || decide (0 < n.K.length)) && decide (sizeN n ≤ 240)
theorem rightN_iff (n : Nod) : rightN n = true ↔ plainB n = true ∧ wholeB n = true ∧ (n.leaf = true → 0 < n.K.length) ∧ sizeN n ≤ 240 := by
  unfold rightN
  rw [Bool.and_eq_true, Bool.and_eq_true, Bool.and_eq_true, decide_eq_true_eq]
  cases n.leaf <;> simp [and_assoc]
/-- The bytes of a branch's first j keys. -/
def encBr (K C : List Int) : Nat → List UInt8
  | 0 => 2 :: putL (C.getD 0 0) 2
  | j + 1 => encBr K C j ++ putL (K.getD j 0) 8 ++ putL (C.getD (j + 1) 0) 2
def encN (n : Nod) : ByteArray := if n.leaf then Str (encJ n.K n.V n.K.length) else Str (encBr n.K n.C n.K.length)
def tailL : List Int → List ByteArray → ByteArray
  | k :: K, v :: V => Str (putL k 8) ++ (textL v ++ tailL K V)
  | _, _ => ⟨#[]⟩
def tailB : List Int → List Int → ByteArray
  | k :: K, c :: C => Str (putL k 8) ++ (Str (putL c 2) ++ tailB K C)
  | _, _ => ⟨#[]⟩
def rdLeaf : Nat → ByteArray → List Int × List ByteArray × Bool
  | 0, _ => ([], [], false)
  | f + 1, s => if s.size = 0 then ([], [], false) else
    (takeN s 8 :: (rdLeaf f (ttR (takeR s 8))).1, ttS (takeR s 8) :: (rdLeaf f (ttR (takeR s 8))).2.1, (decide (takeE s 8 ≠ 0) || decide (ttE (takeR s 8) ≠ 0)) || (rdLeaf f (ttR (takeR s 8))).2.2)
def rdBr : Nat → ByteArray → List Int × List Int × Bool
  | 0, _ => ([], [], false)
  | f + 1, s => if s.size = 0 then ([], [], false) else
    (takeN s 8 :: (rdBr f (takeR (takeR s 8) 2)).1, takeN (takeR s 8) 2 :: (rdBr f (takeR (takeR s 8) 2)).2.1, (decide (takeE s 8 ≠ 0) || decide (takeE (takeR s 8) 2 ≠ 0)) || (rdBr f (takeR (takeR s 8) 2)).2.2)
/-- The node and whether the reading was bad. -/
def rdN (s : ByteArray) : Option (Nod × Bool) :=
  if s.extract 0 1 = ⟨#[1]⟩ then some (⟨true, (rdLeaf s.size (s.extract 1 s.size)).1, (rdLeaf s.size (s.extract 1 s.size)).2.1, []⟩, (rdLeaf s.size (s.extract 1 s.size)).2.2)
  else if s.extract 0 1 = ⟨#[2]⟩ then some (⟨false, (rdBr s.size (takeR (s.extract 1 s.size) 2)).1, [], takeN (s.extract 1 s.size) 2 :: (rdBr s.size (takeR (s.extract 1 s.size) 2)).2.1⟩, decide (takeE (s.extract 1 s.size) 2 ≠ 0) || (rdBr s.size (takeR (s.extract 1 s.size) 2)).2.2)
  else none
def decN (s : ByteArray) : Option Nod :=
  if s.size = 0 ∨ 240 < s.size then none else
  match rdN s with
  | some (n, bad) => if (!bad && rightN n) = true then some n else none
  | none => none
theorem takeE_0 {s : ByteArray} {k : Int} : takeE s k = 0 ↔ takeOk s k = true := by
  unfold takeE
  split
  · simp [*]
  · split <;> simp [*]
theorem ttE_0 {s : ByteArray} : ttE s = 0 ↔ ttOk s = true := by
  unfold ttE
  split <;> simp [*]
theorem takeR_le (s : ByteArray) (k : Int) : (takeR s k).size ≤ s.size := by
  unfold takeR; split
  · rw [ByteArray.size_extract]; omega
  · exact Nat.zero_le _
theorem takeR_lt (s : ByteArray) (h : s.size ≠ 0) {k : Int} (h1 : 1 ≤ k) : (takeR s k).size < s.size := by
  unfold takeR; split
  · rw [ByteArray.size_extract]; omega
  · exact Nat.pos_of_ne_zero h
theorem ttR_le (s : ByteArray) : (ttR s).size ≤ s.size := by
  unfold ttR; split
  · have h : (ttB s).size ≤ s.size := by unfold ttB; rw [ByteArray.size_extract]; omega
    rw [ByteArray.size_extract]; omega
  · exact Nat.zero_le _
theorem ttS_le (s : ByteArray) : (ttS s).size ≤ 255 := by
  cases h : ttOk s with
  | true => have := tt_back s h; omega
  | false => rw [(tt_no s h).1]; exact Nat.zero_le _
theorem take_rng8 (s : ByteArray) : 0 ≤ takeN s 8 ∧ takeN s 8 ≤ 18446744073709551615 := by
  have h := pt_room s (k := 8) (by decide) (by decide)
  have h2 := putOk_lt h.2 h.1
  have e : (256 : Nat) ^ (8 : Int).toNat = 18446744073709551616 := by decide
  rw [e] at h2
  omega
theorem take_rng2 (s : ByteArray) : 0 ≤ takeN s 2 ∧ takeN s 2 ≤ 65535 := by
  have h := pt_room s (k := 2) (by decide) (by decide)
  have h2 := putOk_lt h.2 h.1
  have e : (256 : Nat) ^ (2 : Int).toNat = 65536 := by decide
  rw [e] at h2
  omega
theorem takeOk_room {s : ByteArray} {k : Int} (h : takeOk s k = true) : k ≤ s.size := by
  unfold takeOk at h; simp at h; omega
theorem rdLeaf_facts : ∀ (f : Nat) (s : ByteArray), (rdLeaf f s).1.length = (rdLeaf f s).2.1.length ∧ (rdLeaf f s).1.length ≤ f ∧ (rdLeaf f s).1.length ≤ s.size ∧ (∀ x ∈ (rdLeaf f s).1, 0 ≤ x ∧ x ≤ 18446744073709551615) ∧ (∀ v ∈ (rdLeaf f s).2.1, v.size ≤ 255) ∧ (s.size ≤ f → (rdLeaf f s).2.2 = false → tailL (rdLeaf f s).1 (rdLeaf f s).2.1 = s) := by
  intro f
  induction f with
  | zero =>
    intro s
    refine ⟨rfl, Nat.le_refl _, Nat.zero_le _, by simp [rdLeaf], by simp [rdLeaf], fun h _ => ?_⟩
    exact (empty_of_size (by omega)).symm
  | succ f ih =>
    intro s
    unfold rdLeaf
    by_cases h0 : s.size = 0
    · rw [if_pos h0]
      exact ⟨rfl, Nat.zero_le _, Nat.zero_le _, by simp, by simp, fun h _ => (empty_of_size h0).symm⟩
    · rw [if_neg h0]
      obtain ⟨i1, i2, i3, i4, i5, i6⟩ := ih (ttR (takeR s 8))
      have l1 := takeR_lt s h0 (k := 8) (by decide)
      have l2 := ttR_le (takeR s 8)
      refine ⟨by simp [i1], by simp; omega, by simp; omega, ?_, ?_, ?_⟩
      · intro x hx
        rcases List.mem_cons.1 hx with rfl | hx
        · exact take_rng8 s
        · exact i4 x hx
      · intro v hv
        rcases List.mem_cons.1 hv with rfl | hv
        · exact ttS_le _
        · exact i5 v hv
      · intro hf hb
        simp only [Bool.or_eq_false_iff, decide_eq_false_iff_not, Decidable.not_not, ne_eq] at hb
        obtain ⟨⟨e1, e2⟩, e3⟩ := hb
        have t1 := pt_back s (k := 8) (by decide) (by decide) (takeOk_room (takeE_0.1 e1))
        have t2 := tt_back (takeR s 8) (ttE_0.1 e2)
        show Str (putL (takeN s 8) 8) ++ (textL (ttS (takeR s 8)) ++ tailL _ _) = s
        rw [i6 (by omega) e3, t2.1, t1.1]
theorem rdBr_facts : ∀ (f : Nat) (s : ByteArray), (rdBr f s).1.length = (rdBr f s).2.1.length ∧ (rdBr f s).1.length ≤ f ∧ (rdBr f s).1.length ≤ s.size ∧ (∀ x ∈ (rdBr f s).1, 0 ≤ x ∧ x ≤ 18446744073709551615) ∧ (∀ v ∈ (rdBr f s).2.1, 0 ≤ v ∧ v ≤ 65535) ∧ (s.size ≤ f → (rdBr f s).2.2 = false → tailB (rdBr f s).1 (rdBr f s).2.1 = s) := by
  intro f
  induction f with
  | zero =>
    intro s
    refine ⟨rfl, Nat.le_refl _, Nat.zero_le _, by simp [rdBr], by simp [rdBr], fun h _ => ?_⟩
    exact (empty_of_size (by omega)).symm
  | succ f ih =>
    intro s
    unfold rdBr
    by_cases h0 : s.size = 0
    · rw [if_pos h0]
      exact ⟨rfl, Nat.zero_le _, Nat.zero_le _, by simp, by simp, fun h _ => (empty_of_size h0).symm⟩
    · rw [if_neg h0]
      obtain ⟨i1, i2, i3, i4, i5, i6⟩ := ih (takeR (takeR s 8) 2)
      have l1 := takeR_lt s h0 (k := 8) (by decide)
      have l2 := takeR_le (takeR s 8) 2
      refine ⟨by simp [i1], by simp; omega, by simp; omega, ?_, ?_, ?_⟩
      · intro x hx
        rcases List.mem_cons.1 hx with rfl | hx
        · exact take_rng8 s
        · exact i4 x hx
      · intro v hv
        rcases List.mem_cons.1 hv with rfl | hv
        · exact take_rng2 _
        · exact i5 v hv
      · intro hf hb
        simp only [Bool.or_eq_false_iff, decide_eq_false_iff_not, Decidable.not_not, ne_eq] at hb
        obtain ⟨⟨e1, e2⟩, e3⟩ := hb
        have t1 := pt_back s (k := 8) (by decide) (by decide) (takeOk_room (takeE_0.1 e1))
        have t2 := pt_back (takeR s 8) (k := 2) (by decide) (by decide) (takeOk_room (takeE_0.1 e2))
        show Str (putL (takeN s 8) 8) ++ (Str (putL (takeN (takeR s 8) 2) 2) ++ tailB _ _) = s
        rw [i6 (by omega) e3, t2.1, t1.1]
theorem put8 {k : Int} (h : 0 ≤ k ∧ k ≤ 18446744073709551615) : putOk k 8 = true := by
  obtain ⟨m, rfl⟩ := Int.eq_ofNat_of_zero_le h.1
  exact (putOk_nat m 8).2 ⟨by decide, by decide, by show m < 18446744073709551616; omega⟩
theorem put2 {k : Int} (h : 0 ≤ k ∧ k ≤ 65535) : putOk k 2 = true := by
  obtain ⟨m, rfl⟩ := Int.eq_ofNat_of_zero_le h.1
  exact (putOk_nat m 2).2 ⟨by decide, by decide, by show m < 65536; omega⟩
theorem pt_e {n k : Int} (rest : ByteArray) (h : putOk n k = true) : takeE (Str (putL n k) ++ rest) k = 0 := by
  rw [takeE_0]
  have := pt_size h
  unfold takeOk
  simp [putOk] at h
  rw [ByteArray.size_append, Bool.and_eq_true, decide_eq_true_eq, decide_eq_true_eq]
  omega
theorem rdLeaf_tail : ∀ (K : List Int) (V : List ByteArray) (f : Nat), K.length = V.length → K.length ≤ f → (∀ x ∈ K, 0 ≤ x ∧ x ≤ 18446744073709551615) → (∀ v ∈ V, v.size ≤ 255) → rdLeaf f (tailL K V) = (K, V, false) := by
  intro K
  induction K with
  | nil =>
    intro V f h1 h2 h3 h4
    have : V = [] := List.eq_nil_of_length_eq_zero (by simpa using h1.symm)
    subst this
    cases f <;> rfl
  | cons k K ih =>
    intro V f h1 h2 h3 h4
    cases V with
    | nil => simp at h1
    | cons v V =>
      cases f with
      | zero => simp at h2
      | succ f =>
        have p8 := put8 (h3 k (by simp))
        have hs := pt_size p8
        have e1 := pt_n (textL v ++ tailL K V) (h3 k (by simp)).1 p8
        have e2 := pt_e (textL v ++ tailL K V) p8
        have e3 := tt_text v (tailL K V) (h4 v (by simp))
        have ih' := ih V f (by simpa using h1) (by simpa using h2) (fun x hx => h3 x (by simp [hx])) (fun x hx => h4 x (by simp [hx]))
        unfold tailL rdLeaf
        rw [if_neg (by rw [ByteArray.size_append]; omega), e1.1, e1.2, e2, e3.1, e3.2.1, e3.2.2, ih']
        rfl
theorem rdBr_tail : ∀ (K C : List Int) (f : Nat), K.length = C.length → K.length ≤ f → (∀ x ∈ K, 0 ≤ x ∧ x ≤ 18446744073709551615) → (∀ v ∈ C, 0 ≤ v ∧ v ≤ 65535) → rdBr f (tailB K C) = (K, C, false) := by
  intro K
  induction K with
  | nil =>
    intro V f h1 h2 h3 h4
    have : V = [] := List.eq_nil_of_length_eq_zero (by simpa using h1.symm)
    subst this
    cases f <;> rfl
  | cons k K ih =>
    intro V f h1 h2 h3 h4
    cases V with
    | nil => simp at h1
    | cons v V =>
      cases f with
      | zero => simp at h2
      | succ f =>
        have p8 := put8 (h3 k (by simp))
        have p2 := put2 (h4 v (by simp))
        have hs := pt_size p8
        have e1 := pt_n (Str (putL v 2) ++ tailB K V) (h3 k (by simp)).1 p8
        have e2 := pt_e (Str (putL v 2) ++ tailB K V) p8
        have e3 := pt_n (tailB K V) (h4 v (by simp)).1 p2
        have e4 := pt_e (tailB K V) p2
        have ih' := ih V f (by simpa using h1) (by simpa using h2) (fun x hx => h3 x (by simp [hx])) (fun x hx => h4 x (by simp [hx]))
        unfold tailB rdBr
        rw [if_neg (by rw [ByteArray.size_append]; omega), e1.1, e1.2, e2, e3.1, e3.2, e4, ih']
        rfl
theorem tailL_snoc : ∀ (K : List Int) (V : List ByteArray) (k : Int) (v : ByteArray), K.length = V.length → tailL (K ++ [k]) (V ++ [v]) = tailL K V ++ (Str (putL k 8) ++ textL v) := by
  intro K
  induction K with
  | nil =>
    intro V k v h
    have : V = [] := List.eq_nil_of_length_eq_zero (by simpa using h.symm)
    subst this
    apply eq_of_data
    simp [tailL, append_list]
  | cons a K ih =>
    intro V k v h
    cases V with
    | nil => simp at h
    | cons b V =>
      show Str (putL a 8) ++ (textL b ++ tailL (K ++ [k]) (V ++ [v])) = _
      rw [ih V k v (by simpa using h)]
      apply eq_of_data
      simp [tailL, append_list]
theorem tailB_snoc : ∀ (K C : List Int) (k c : Int), K.length = C.length → tailB (K ++ [k]) (C ++ [c]) = tailB K C ++ (Str (putL k 8) ++ Str (putL c 2)) := by
  intro K
  induction K with
  | nil =>
    intro V k v h
    have : V = [] := List.eq_nil_of_length_eq_zero (by simpa using h.symm)
    subst this
    apply eq_of_data
    simp [tailB, append_list]
  | cons a K ih =>
    intro V k v h
    cases V with
    | nil => simp at h
    | cons b V =>
      show Str (putL a 8) ++ (Str (putL b 2) ++ tailB (K ++ [k]) (V ++ [v])) = _
      rw [ih V k v (by simpa using h)]
      apply eq_of_data
      simp [tailB, append_list]
theorem encJ_tail (K : List Int) (V : List ByteArray) (h : K.length = V.length) : ∀ j, j ≤ K.length → Str (encJ K V j) = Str [1] ++ tailL (K.take j) (V.take j) := by
  intro j
  induction j with
  | zero => intro _; apply eq_of_data; simp [encJ, tailL, append_list, Str_list]
  | succ j ih =>
    intro hj
    have e1 : K.take (j + 1) = K.take j ++ [K[j]] := List.take_succ_eq_append_getElem (by omega)
    have e2 : V.take (j + 1) = V.take j ++ [V[j]] := List.take_succ_eq_append_getElem (by omega)
    rw [e1, e2, tailL_snoc _ _ _ _ (by simp; omega)]
    have hi := congrArg (fun b : ByteArray => b.data.toList) (ih (by omega))
    simp only [Str_list, append_list] at hi
    apply eq_of_data
    simp only [encJ, append_list, Str_list, hi, List.append_assoc]
    rw [List.getD_eq_getElem?_getD, List.getElem?_eq_getElem (by omega), List.getD_eq_getElem?_getD, List.getElem?_eq_getElem (by omega)]
    rfl
theorem encBr_tail (K C : List Int) (h : C.length = K.length + 1) : ∀ j, j ≤ K.length → Str (encBr K C j) = Str [2] ++ (Str (putL (C.getD 0 0) 2) ++ tailB (K.take j) (C.tail.take j)) := by
  intro j
  induction j with
  | zero => intro _; apply eq_of_data; simp [encBr, tailB, append_list, Str_list]
  | succ j ih =>
    intro hj
    have e1 : K.take (j + 1) = K.take j ++ [K[j]] := List.take_succ_eq_append_getElem (by omega)
    have hl : j < C.tail.length := by simp; omega
    have e2 : C.tail.take (j + 1) = C.tail.take j ++ [C.tail[j]] := List.take_succ_eq_append_getElem hl
    have e3 : C.tail[j] = C.getD (j + 1) 0 := by rw [List.getElem_tail, List.getD_eq_getElem?_getD, List.getElem?_eq_getElem (by omega)]; rfl
    rw [e1, e2, tailB_snoc _ _ _ _ (by simp; omega), e3]
    have hi := congrArg (fun b : ByteArray => b.data.toList) (ih (by omega))
    simp only [Str_list, append_list] at hi
    apply eq_of_data
    simp only [encBr, append_list, Str_list, hi, List.append_assoc]
    rw [List.getD_eq_getElem?_getD (l := K), List.getElem?_eq_getElem (by omega)]
    rfl
theorem enc_leaf_eq (K : List Int) (V : List ByteArray) (h : K.length = V.length) : encN ⟨true, K, V, []⟩ = Str [1] ++ tailL K V := by
  have := encJ_tail K V h K.length (Nat.le_refl _)
  rw [List.take_length, h, List.take_length] at this
  unfold encN
  simp only [if_true]
  rw [h]; exact this
theorem enc_branch_eq (K C : List Int) (c : Int) (h : K.length = C.length) : encN ⟨false, K, [], c :: C⟩ = Str [2] ++ (Str (putL c 2) ++ tailB K C) := by
  have := encBr_tail K (c :: C) (by simp [h]) K.length (Nat.le_refl _)
  rw [List.take_length, List.tail_cons, h, List.take_length] at this
  unfold encN
  simp only [Bool.false_eq_true, if_false]
  rw [h]; exact this
theorem first_byte (b : UInt8) (t : ByteArray) : (Str [b] ++ t).extract 0 1 = ⟨#[b]⟩ ∧ (Str [b] ++ t).extract 1 (Str [b] ++ t).size = t := by
  have e : (Str [b]).size = 1 := rfl
  refine ⟨?_, ?_⟩
  · have := extract_left (Str [b]) t
    rw [e] at this; exact this
  · have := extract_right' (Str [b]) t
    rw [e] at this; exact this
theorem first_of (s : ByteArray) (b : UInt8) (h : s.extract 0 1 = ⟨#[b]⟩) : s = Str [b] ++ s.extract 1 s.size := by
  have h1 := take_extract s 1
  have h2 : Str (s.data.toList.take 1) = ⟨#[b]⟩ := by
    rw [← h]; apply eq_of_data; rw [extract_list, Str_list, List.drop_zero, Nat.sub_zero]
  rw [h2] at h1
  exact h1.symm
theorem enc_size (n : Nod) (hw : wholeB n = true) (ho : NodOk n) (hv : ∀ v ∈ n.V, v.size ≤ 40) (hc : ∀ c ∈ n.C, 2 ≤ c ∧ c < 640) : (encN n).size = sizeN n := by
  obtain ⟨lf, K, V, C⟩ := n
  cases lf with
  | true =>
    have h := (wholeB_leaf (n := ⟨true, K, V, C⟩) rfl).1 hw
    have hC : C = [] := List.eq_nil_of_length_eq_zero h.2
    subst hC
    rw [enc_leaf_eq K V h.1.symm, ByteArray.size_append]
    have : ∀ (K : List Int) (V : List ByteArray), K.length = V.length → (∀ x ∈ K, 0 ≤ x ∧ x ≤ 18446744073709551615) → (∀ v ∈ V, v.size ≤ 40) → (tailL K V).size = 9 * K.length + bytesV V := by
      intro K
      induction K with
      | nil => intro V h _ _; have : V = [] := List.eq_nil_of_length_eq_zero (by simpa using h.symm); subst this; rfl
      | cons k K ih =>
        intro V h h3 h4
        cases V with
        | nil => simp at h
        | cons v V =>
          have := ih V (by simpa using h) (fun x hx => h3 x (by simp [hx])) (fun x hx => h4 x (by simp [hx]))
          have e8 := pt_size (put8 (h3 k (by simp)))
          have et := textL_size1 v (by have := h4 v (by simp); omega)
          simp only [tailL, ByteArray.size_append, this, bytesV, List.length_cons]
          omega
    rw [this K V h.1.symm ho.kb hv]
    unfold sizeN
    simp only [if_true]
    show 1 + _ = _
    omega
  | false =>
    have h := (wholeB_branch (n := ⟨false, K, V, C⟩) rfl).1 hw
    have hV : V = [] := List.eq_nil_of_length_eq_zero h.2
    subst hV
    cases C with
    | nil => simp at h
    | cons c C =>
      have h1 : K.length = C.length := by have := h.1; simp at this; omega
      rw [enc_branch_eq K C c h1, ByteArray.size_append, ByteArray.size_append]
      have : ∀ (K C : List Int), K.length = C.length → (∀ x ∈ K, 0 ≤ x ∧ x ≤ 18446744073709551615) → (∀ v ∈ C, 2 ≤ v ∧ v < 640) → (tailB K C).size = 10 * K.length := by
        intro K
        induction K with
        | nil => intro V h _ _; have : V = [] := List.eq_nil_of_length_eq_zero (by simpa using h.symm); subst this; rfl
        | cons k K ih =>
          intro V h h3 h4
          cases V with
          | nil => simp at h
          | cons v V =>
            have := ih V (by simpa using h) (fun x hx => h3 x (by simp [hx])) (fun x hx => h4 x (by simp [hx]))
            have e8 := pt_size (put8 (h3 k (by simp)))
            have e2 := pt_size (put2 (k := v) (by have := h4 v (by simp); omega))
            simp only [tailB, ByteArray.size_append, this, List.length_cons]
            omega
      rw [this K C h1 ho.kb (fun v hv => hc v (by simp [hv]))]
      have e2 := pt_size (put2 (k := c) (by have := hc c (by simp); omega))
      unfold sizeN
      simp only [Bool.false_eq_true, if_false, List.length_cons]
      show 1 + _ = _
      omega
/-- What is written is read as it was. -/
theorem dec_enc (n : Nod) (ho : NodOk n) (hr : rightN n = true) : decN (encN n) = some n := by
  have hr' := hr
  rw [rightN_iff] at hr'
  obtain ⟨hp, hw, h0, hz⟩ := hr'
  rw [plainB_iff] at hp
  obtain ⟨p1, p2, p3⟩ := hp
  have hs := enc_size n hw ho p2 p3
  obtain ⟨lf, K, V, C⟩ := n
  cases lf with
  | true =>
    have h := (wholeB_leaf (n := ⟨true, K, V, C⟩) rfl).1 hw
    have hC : C = [] := List.eq_nil_of_length_eq_zero h.2
    subst hC
    have hk : K.length ≤ sizeN ⟨true, K, V, []⟩ := by unfold sizeN; simp only [if_true]; omega
    have hk0 : 0 < sizeN ⟨true, K, V, []⟩ := by unfold sizeN; simp only [if_true]; omega
    have hrd : rdN (encN ⟨true, K, V, []⟩) = some (⟨true, K, V, []⟩, false) := by
      rw [← hs] at hk
      rw [enc_leaf_eq K V h.1.symm] at hk ⊢
      have hf := first_byte 1 (tailL K V)
      unfold rdN
      rw [if_pos hf.1, hf.2, rdLeaf_tail K V _ h.1.symm hk ho.kb (fun v hv => by have := p2 v hv; omega)]
    unfold decN
    rw [if_neg (by omega), hrd]
    show (if (!false && rightN ⟨true, K, V, []⟩) = true then some (⟨true, K, V, []⟩ : Nod) else none) = _
    rw [hr]; rfl
  | false =>
    have h := (wholeB_branch (n := ⟨false, K, V, C⟩) rfl).1 hw
    have hV : V = [] := List.eq_nil_of_length_eq_zero h.2
    subst hV
    cases C with
    | nil => simp at h
    | cons c C =>
      have h1 : K.length = C.length := by have := h.1; simp at this; omega
      have hk : K.length ≤ sizeN ⟨false, K, [], c :: C⟩ := by unfold sizeN; simp only [Bool.false_eq_true, if_false]; omega
      have hk0 : 0 < sizeN ⟨false, K, [], c :: C⟩ := by unfold sizeN; simp only [Bool.false_eq_true, if_false]; omega
      have p2' := put2 (k := c) (by have := p3 c (by simp); omega)
      have hrd : rdN (encN ⟨false, K, [], c :: C⟩) = some (⟨false, K, [], c :: C⟩, false) := by
        rw [← hs] at hk
        rw [enc_branch_eq K C c h1] at hk ⊢
        have hf := first_byte 2 (Str (putL c 2) ++ tailB K C)
        have hn := pt_n (tailB K C) (by have := p3 c (by simp); omega) p2'
        have he := pt_e (tailB K C) p2'
        unfold rdN
        rw [if_neg (by rw [hf.1]; decide), if_pos hf.1, hf.2, hn.1, hn.2, he, rdBr_tail K C _ h1 hk ho.kb (fun v hv => by have := p3 v (by simp [hv]); omega)]
        rfl
      unfold decN
      rw [if_neg (by omega), hrd]
      show (if (!false && rightN ⟨false, K, [], c :: C⟩) = true then some (⟨false, K, [], c :: C⟩ : Nod) else none) = _
      rw [hr]; rfl
/-- What is read is written as it stood. -/
theorem enc_dec (s : ByteArray) (n : Nod) (h : decN s = some n) : encN n = s ∧ rightN n = true ∧ NodOk n := by
  unfold decN at h
  split at h
  · cases h
  · rename_i hsz
    split at h
    · rename_i m bad hrd
      split at h
      · rename_i hb
        obtain rfl := Option.some.inj h
        rw [Bool.and_eq_true, Bool.not_eq_true'] at hb
        obtain ⟨rfl, hr⟩ := hb
        refine ⟨?_, hr, ?_⟩
        all_goals
          unfold rdN at hrd
          split at hrd
          · rename_i h1
            obtain ⟨e1, e2⟩ := Prod.mk.inj (Option.some.inj hrd)
            obtain ⟨i1, i2, i3, i4, i5, i6⟩ := rdLeaf_facts s.size (s.extract 1 s.size)
            have hle : (s.extract 1 s.size).size ≤ s.size := by rw [ByteArray.size_extract]; omega
            subst e1
            first
              | exact (enc_leaf_eq _ _ i1).trans ((congrArg (Str [1] ++ ·) (i6 hle e2)).trans (first_of s 1 h1).symm)
              | exact ⟨by dsimp only; omega, by dsimp only; omega, Nat.zero_le _, i4, fun v hv => by have := i5 v hv; omega, fun x hx => by cases hx⟩
          · split at hrd
            · rename_i h0 h1
              obtain ⟨e1, e2⟩ := Prod.mk.inj (Option.some.inj hrd)
              obtain ⟨i1, i2, i3, i4, i5, i6⟩ := rdBr_facts s.size (takeR (s.extract 1 s.size) 2)
              have hle : (s.extract 1 s.size).size ≤ s.size := by rw [ByteArray.size_extract]; omega
              have hle2 := takeR_le (s.extract 1 s.size) 2
              simp only [Bool.or_eq_false_iff, decide_eq_false_iff_not, ne_eq, Decidable.not_not] at e2
              have t2 := pt_back (s.extract 1 s.size) (k := 2) (by decide) (by decide) (takeOk_room (takeE_0.1 e2.1))
              subst e1
              first
                | exact (enc_branch_eq _ _ _ i1).trans ((congrArg (fun t => Str [2] ++ (Str (putL (takeN (s.extract 1 s.size) 2) 2) ++ t)) (i6 (by omega) e2.2)).trans ((congrArg (Str [2] ++ ·) t2.1).trans (first_of s 2 h1).symm))
                | exact ⟨by dsimp only; omega, Nat.zero_le _, by simp only [List.length_cons]; omega, i4, (fun v hv => by cases hv), fun x hx => by
                    rcases List.mem_cons.1 hx with rfl | hx
                    · have := take_rng2 (s.extract 1 s.size); omega
                    · have := i5 x hx; omega⟩
            · cases hrd
      · cases h
    · cases h
end Go.Proofs.Ytkdcoipbdkmieaa
