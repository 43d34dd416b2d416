import Derived.Test.YtjcodjdhomhlpaaEx02
namespace Go.Proofs.Ytjcodjdhomhlpaa
open Go.RowKit
set_option linter.unusedVariables false

/-- Parts put together with points between. -/
def jo : List (List UInt8) → List UInt8
  | [] => []
  | [a] => a
  | a :: b :: r => a ++ 46 :: jo (b :: r)
theorem jo_spl (l cur : List UInt8) : jo (spl l cur) = cur ++ l := by
  induction l generalizing cur with
  | nil => simp [spl, jo]
  | cons c l ih =>
    rw [spl]
    split
    · rename_i h
      subst h
      have h0 := spl_ne l []
      have h1 := ih []
      cases hs : spl l [] with
      | nil => exact absurd hs h0
      | cons b r => rw [jo, ← hs, h1]; simp
    · rw [ih]; simp
theorem jo_snoc (L : List (List UInt8)) (x : List UInt8) : jo (L ++ [x]) = if L = [] then x else jo L ++ 46 :: x := by
  induction L with
  | nil => rfl
  | cons a L ih =>
    rw [if_neg (by simp)]
    cases L with
    | nil => rfl
    | cons b r =>
      rw [if_neg (by simp)] at ih
      simp only [List.cons_append, jo] at ih ⊢
      rw [ih]
      simp
theorem jo_pre (P Q : List (List UInt8)) : (jo P).length ≤ (jo (P ++ Q)).length := by
  induction P with
  | nil => simp [jo]
  | cons a P ih =>
    cases P with
    | nil =>
      cases Q with
      | nil => simp [jo]
      | cons b r => simp [jo]
    | cons b r =>
      simp only [List.cons_append, jo, List.length_append, List.length_cons] at ih ⊢
      omega
theorem spl_free (l cur : List UInt8) (h : ∀ c ∈ cur, c ≠ 46) : ∀ a ∈ spl l cur, ∀ c ∈ a, c ≠ 46 := by
  induction l generalizing cur with
  | nil => intro a ha; simp [spl] at ha; subst ha; exact h
  | cons c l ih =>
    intro a ha
    rw [spl] at ha
    split at ha
    · rcases List.mem_cons.1 ha with rfl | ha
      · exact h
      · exact ih [] (by simp) a ha
    · rename_i hc
      exact ih _ (by intro d hd; rcases List.mem_append.1 hd with h1 | h1; exact h d h1; simp at h1; subst h1; exact hc) a ha
def pts (l : List UInt8) : Nat := (l.filter fun c => c = 46).length
theorem spl_count (l cur : List UInt8) : (spl l cur).length = pts l + 1 := by
  unfold pts
  induction l generalizing cur with
  | nil => rfl
  | cons c l ih =>
    rw [spl]
    split
    · rename_i h; subst h; rw [List.length_cons, ih]; simp
    · rename_i h; rw [ih]; simp [h]
theorem pts_take (s : ByteArray) (j : Nat) (h : j < s.size) : pts (s.data.toList.take (j + 1)) = pts (s.data.toList.take j) + if (s[j]'h).toNat = 46 then 1 else 0 := by
  have hl : j < s.data.toList.length := by simpa using h
  have e : s.data.toList[j] = s[j]'h := by simp [ByteArray.getElem_eq_getElem_data]
  unfold pts
  rw [List.take_succ_eq_append_getElem hl, List.filter_append, List.length_append, e]
  have e2 : (s[j]'h = 46) ↔ (s[j]'h).toNat = 46 := by rw [← UInt8.toNat_inj]; rfl
  by_cases hc : (s[j]'h).toNat = 46
  · rw [if_pos hc]; simp [e2.2 hc]
  · rw [if_neg hc]
    have : ¬ s[j]'h = 46 := fun h => hc (e2.1 h)
    simp [this]
theorem pts_le (l : List UInt8) : pts l ≤ l.length := List.length_filter_le _ _
/-- What stands in front of part i. -/
def pre (L : List ByteArray) (i : Nat) : ByteArray := Str (jo ((L.take i).map fun a => a.data.toList))
theorem parts_data (s : ByteArray) : (partsL s).map (fun a => a.data.toList) = spl s.data.toList [] := by
  unfold partsL
  rw [List.map_map]
  have : ((fun a : ByteArray => a.data.toList) ∘ Str) = id := by funext l; simp [Str_list]
  rw [this]; simp
theorem pre_end (s : ByteArray) (n : Nat) (h : (partsL s).length ≤ n) : pre (partsL s) n = s := by
  unfold pre
  rw [List.take_of_length_le h, parts_data, jo_spl]
  exact Str_of s
theorem pre_size (s : ByteArray) (i : Nat) : (pre (partsL s) i).size ≤ s.size := by
  unfold pre
  rw [Str_size]
  have h1 := jo_pre (((partsL s).take i).map fun a => a.data.toList) (((partsL s).drop i).map fun a => a.data.toList)
  rw [← List.map_append, List.take_append_drop, parts_data, jo_spl] at h1
  simpa using h1
theorem pre_zero (L : List ByteArray) : pre L 0 = ⟨#[]⟩ := rfl
theorem pre_first (L : List ByteArray) (h : 0 < L.length) : pre L 0 ++ L[0] = pre L 1 := by
  apply eq_of_data
  unfold pre
  rw [List.take_succ_eq_append_getElem h]
  simp [Str, jo]
theorem pre_next (L : List ByteArray) (i : Nat) (h : i < L.length) (h0 : i ≠ 0) : pre L i ++ ⟨#[46]⟩ ++ L[i] = pre L (i + 1) := by
  unfold pre
  rw [List.take_succ_eq_append_getElem h, List.map_append, List.map_singleton, jo_snoc, if_neg, Str_append, Str_append]
  · congr 1
    simp
  · intro e
    have := congrArg List.length e
    rw [List.length_map, List.length_take, List.length_nil] at this
    omega
theorem parts_free (s : ByteArray) (i : Nat) (h : i < (partsL s).length) (k : Nat) (hk : k < ((partsL s)[i]).size) : (((partsL s)[i])[k]'hk).toNat ≠ 46 := by
  intro e
  have hm : ((partsL s)[i]).data.toList ∈ spl s.data.toList [] := by
    rw [← parts_data]
    exact List.mem_map_of_mem (List.getElem_mem h)
  have hk' : k < ((partsL s)[i]).data.toList.length := by simpa using hk
  have := spl_free _ _ (by simp) _ hm (((partsL s)[i]).data.toList[k]) (List.getElem_mem hk')
  apply this
  apply UInt8.toNat_inj.1
  have e2 : ((partsL s)[i]).data.toList[k] = ((partsL s)[i])[k]'hk := by simp [ByteArray.getElem_eq_getElem_data]
  rw [e2, e]
  rfl
theorem parts_count (s : ByteArray) : (partsL s).length = pts s.data.toList + 1 := by
  unfold partsL
  rw [List.length_map, spl_count]
set_option maxHeartbeats 3200000 in
theorem labelParts_walk (s : ByteArray) (L : List ByteArray) (n : Nat) (w : World) (hs : s.size ≤ 1048576) (HP : Hid (partsL s = L)) (hn : Hid (L.length = n)) (n1 : 1 ≤ n) (n2 : n ≤ 1048577) :
    Calls Try.prog 6 #[.string s] w fun e w' => e = .returned (.bool true) ∧ Below w.heap.size w w' := by
  go_enter Try.func6, Try.ntmps6
  try simp only [List.append_eq, List.cons_append, List.nil_append]
  go_wp2_with fail
  refine (examples_any _).mono ?_
  rintro e w1 ⟨rfl, bb⟩
  go_wp2_with fail
  refine (parts_any _ _ hs).mono ?_
  rw [HP.out]
  rintro e w2 ⟨⟨g, cap, rfl, T1⟩, b1⟩
  rw [hn.out]
  have CW := Lib.hid T1.cells
  replace bb := chain bb b1
  clear b1 T1
  go_wp2_with fail
  go_loop [5, 6, 7] (fun a i _ => ∃ (j : Nat) (A : ByteArray), j ≤ n ∧ i = .int .i64 (j : Int) ∧ a = .string A ∧ A.size ≤ s.size ∧ Hid (A = pre L j)) (fun _ i _ => n + 1 - (intOf i).toNat)
  case atStart => exact ⟨0, _, by omega, rfl, rfl, by show 0 ≤ _; omega, Lib.hid (pre_zero L).symm⟩
  case round =>
    obtain ⟨j, A, hj, rfl, rfl, hA, HA⟩ := hrel
    by_cases hlt : j < n
    · have hli : (j : Int) < (n : Int) := by omega
      have hjL : j < L.length := by rw [hn.out]; exact hlt
      have hcell := CW.out j hjL
      have hfree : ∀ k (hk : k < (L[j]).size), ((L[j])[k]'hk).toNat ≠ 46 := by
        obtain rfl := HP.out
        exact fun k hk => parts_free s j hjL k hk
      have hsz : (L[j]).size ≤ s.size := by
        have h1 := pre_size s (j + 1)
        rw [HP.out] at h1
        by_cases h0 : j = 0
        · subst h0
          rw [← pre_first L hjL, ByteArray.size_append] at h1; omega
        · rw [← pre_next L j hjL h0, ByteArray.size_append] at h1; omega
      have hpz := pre_size s (j + 1)
      rw [HP.out] at hpz
      have HF := Lib.hid hfree
      clear hfree
      by_cases h0 : j = 0
      · have NX : Hid (A ++ L[j] = pre L (j + 1)) := Lib.hid (by rw [HA.out]; subst h0; exact pre_first L hjL)
        rw [← NX.out] at hpz
        have hle : ¬ (0 : Int) < (j : Int) := by omega
        clear h0 HA
        generalize L[j] = x at *
        go_wp2_with fail
        go_loop [7] (fun k => ∃ t : Nat, t ≤ x.size ∧ k = .int .i64 (t : Int)) (fun k => x.size + 1 - (intOf k).toNat)
        case atStart => exact ⟨0, by omega, rfl⟩
        case round =>
          obtain ⟨t, ht, rfl⟩ := hrel
          by_cases htl : t < x.size
          · have hti : (t : Int) < (x.size : Int) := by omega
            have hne := HF.out t htl
            have hb : ((((x[t]'htl).toNat : Nat) : Int) == 46) = false := by simp; omega
            clear hne
            go_wp2_with fail
            go_round
            case rel => exact ⟨t + 1, by omega, by go_num⟩
            case measure => simp [intOf]; omega
          · have hti : (x.size : Int) ≤ (t : Int) := by omega
            go_wp2_with fail
            go_round
            case rel => exact ⟨j + 1, _, by omega, by go_num, rfl, hpz, NX⟩
            case measure => simp [intOf]; omega
      · have NX : Hid (A ++ ⟨#[46]⟩ ++ L[j] = pre L (j + 1)) := Lib.hid (by rw [HA.out]; exact pre_next L j hjL h0)
        rw [← NX.out] at hpz
        have hle : (0 : Int) < (j : Int) := by omega
        have hq : (A ++ ⟨#[46]⟩).size ≤ s.size + 1 := by rw [ByteArray.size_append]; show _ + 1 ≤ _; omega
        clear h0 HA
        generalize L[j] = x at *
        go_wp2_with fail
        go_loop [7] (fun k => ∃ t : Nat, t ≤ x.size ∧ k = .int .i64 (t : Int)) (fun k => x.size + 1 - (intOf k).toNat)
        case atStart => exact ⟨0, by omega, rfl⟩
        case round =>
          obtain ⟨t, ht, rfl⟩ := hrel
          by_cases htl : t < x.size
          · have hti : (t : Int) < (x.size : Int) := by omega
            have hne := HF.out t htl
            have hb : ((((x[t]'htl).toNat : Nat) : Int) == 46) = false := by simp; omega
            clear hne
            go_wp2_with fail
            go_round
            case rel => exact ⟨t + 1, by omega, by go_num⟩
            case measure => simp [intOf]; omega
          · have hti : (x.size : Int) ≤ (t : Int) := by omega
            go_wp2_with fail
            go_round
            case rel => exact ⟨j + 1, _, by omega, by go_num, rfl, hpz, NX⟩
            case measure => simp [intOf]; omega
    · have hli : (n : Int) ≤ (j : Int) := by omega
      have hAs : A = s := by rw [HA.out, ← HP.out]; exact pre_end s j (by rw [HP.out, hn.out]; omega)
      subst hAs
      have hcnt := parts_count A
      rw [HP.out, hn.out] at hcnt
      have CN := Lib.hid hcnt
      clear HA hcnt
      go_wp2_with fail
      go_loop [8, 9] (fun p i => ∃ t : Nat, t ≤ A.size ∧ i = .int .i64 (t : Int) ∧ p = .int .i64 (pts (A.data.toList.take t) : Int)) (fun _ i => A.size + 1 - (intOf i).toNat)
      case atStart => exact ⟨0, by omega, rfl, rfl⟩
      case round =>
        obtain ⟨t, ht, rfl, rfl⟩ := hrel
        by_cases htl : t < A.size
        · have hti : (t : Int) < (A.size : Int) := by omega
          have hst := pts_take A t htl
          have hpl := pts_le (A.data.toList.take t)
          have hpl2 : (A.data.toList.take t).length ≤ t := List.length_take_le _ _
          by_cases hc : (A[t]'htl).toNat = 46
          · have hb : ((((A[t]'htl).toNat : Nat) : Int) == 46) = true := by simp; omega
            rw [if_pos hc] at hst
            have ST := Lib.hid hst
            clear hst hc
            generalize pts (A.data.toList.take t) = q at *
            go_wp2_with fail
            go_round
            case rel => exact ⟨t + 1, by omega, by go_num, by rw [ST.out]; go_num⟩
            case measure => simp [intOf]; omega
          · have hb : ((((A[t]'htl).toNat : Nat) : Int) == 46) = false := by simp; omega
            rw [if_neg hc] at hst
            have ST := Lib.hid hst
            clear hst hc
            generalize pts (A.data.toList.take t) = q at *
            go_wp2_with fail
            go_round
            case rel => exact ⟨t + 1, by omega, by go_num, by rw [ST.out]; rfl⟩
            case measure => simp [intOf]; omega
        · have hti : (A.size : Int) ≤ (t : Int) := by omega
          rw [List.take_of_length_le (by rw [size_list]; omega)]
          have hb : ((n : Int) == (pts A.data.toList : Int) + 1) = true := by have := CN.out; simp; omega
          have hpl : pts A.data.toList ≤ 1048576 := by have := CN.out; omega
          generalize pts A.data.toList = q at *
          go_wp2_with fail
          go_ret
          exact ⟨ret_true (by simp), bb⟩
theorem labelParts_law (a0 : ByteArray) (w : World) (z0 : a0.size ≤ 1048576) :
    Calls Try.prog 6 #[.string a0] w fun e w' => e = .returned (.bool true) ∧ Below w.heap.size w w' :=
  labelParts_walk a0 _ _ w z0 (Lib.hid rfl) (Lib.hid rfl) (partsL_pos a0) (by have := partsL_length a0; omega)
end Go.Proofs.Ytjcodjdhomhlpaa
