/-
  Numbers and texts that are written and taken off again: equations.
-/
import Derived.Test.YtlbnakoaflladaaPutMath
namespace Go.Proofs.Ytlbnakoaflladaa
open Go.RowKit
set_option linter.unusedVariables false

theorem take_be (m s : Nat) (rest : ByteArray) : (Str (M.be s m) ++ rest).data.toList.take s = M.be s m := by
  rw [append_list, Str_list]
  exact List.take_left' (M.be_length s m)
theorem val_take_be (m s : Nat) (rest : ByteArray) (h : m < 256 ^ s) : M.val ((Str (M.be s m) ++ rest).data.toList.take s) = m := by
  rw [take_be, M.val_be, Nat.mod_eq_of_lt h]
theorem extract_right (l : List UInt8) (rest : ByteArray) : (Str l ++ rest).extract l.length (Str l ++ rest).size = rest := by
  apply eq_of_data
  rw [extract_list, append_list, Str_list, List.drop_left, List.take_of_length_le]
  simp [Str_size]
theorem extract_left (s rest : ByteArray) : (s ++ rest).extract 0 s.size = s := by
  apply eq_of_data
  rw [extract_list, append_list, List.drop_zero, Nat.sub_zero, List.take_left' (size_list s)]
theorem extract_right' (s rest : ByteArray) : (s ++ rest).extract s.size (s ++ rest).size = rest := by
  apply eq_of_data
  rw [extract_list, append_list, List.drop_left' (size_list s), List.take_of_length_le]
  simp
theorem take_extract (r : ByteArray) (n : Nat) : Str (r.data.toList.take n) ++ r.extract n r.size = r := by
  apply eq_of_data
  rw [append_list, Str_list, extract_list]
  have : (r.data.toList.drop n).take (r.size - n) = r.data.toList.drop n := List.take_of_length_le (by simp)
  rw [this, List.take_append_drop]
theorem put_val (r : ByteArray) (size : Nat) (h1 : 1 ≤ size) (h8 : size ≤ 8) : putOk (M.val (r.data.toList.take size) : Int) (size : Int) = true := by
  rw [putOk_nat]
  refine ⟨by omega, by omega, ?_⟩
  have h1 := M.val_lt (r.data.toList.take size)
  simp only [Int.toNat_natCast]
  exact Nat.lt_of_lt_of_le h1 (Nat.pow_le_pow_right (by decide) (List.length_take_le _ _))
theorem be_val_take (r : ByteArray) (size : Nat) (h : size ≤ r.size) : M.be size (M.val (r.data.toList.take size)) = r.data.toList.take size :=
  M.be_eq _ _ (by rw [List.length_take, size_list]; omega)
/-- A text that was written, with something behind it. -/
theorem textL_size1 (s : ByteArray) (h : s.size ≤ 255) : (textL s).size = s.size + 1 := by simp [textL, h, Str_size]
theorem text_app (s rest : ByteArray) (h : s.size ≤ 255) : textL s ++ rest = Str (UInt8.ofNat s.size :: (s ++ rest).data.toList) := by
  apply eq_of_data
  simp [textL, h, Str]
theorem ttN_text (s rest : ByteArray) (h : s.size ≤ 255) : ttN (textL s ++ rest) = s.size := by
  rw [text_app s rest h]
  unfold ttN
  rw [Str_list]
  simp only [Int.toNat_one, List.take_succ_cons, List.take_zero, M.val, List.foldl_cons, List.foldl_nil, UInt8.toNat_ofNat']
  omega
theorem ttB_text (s rest : ByteArray) (h : s.size ≤ 255) : ttB (textL s ++ rest) = s ++ rest := by
  apply eq_of_data
  unfold ttB
  rw [extract_list, text_app s rest h, Str_list]
  simp only [Int.toNat_one, List.drop_succ_cons, List.drop_zero]
  rw [List.take_of_length_le]
  simp [Str_size]
theorem ttOk_text (s rest : ByteArray) (h : s.size ≤ 255) : ttOk (textL s ++ rest) = true := by
  have e : (textL s ++ rest).size = s.size + 1 + rest.size := by rw [ByteArray.size_append, textL_size1 s h]
  simp only [ttOk, ttN_text s rest h, ttB_text s rest h, ByteArray.size_append, Bool.and_eq_true, decide_eq_true_eq, e]
  omega
theorem tt_text (s rest : ByteArray) (h : s.size ≤ 255) : ttS (textL s ++ rest) = s ∧ ttR (textL s ++ rest) = rest ∧ ttE (textL s ++ rest) = 0 := by
  simp only [ttS, ttR, ttE, ttOk_text s rest h, if_true, ttN_text s rest h, ttB_text s rest h, extract_left, extract_right', and_self]
theorem textE_0 (s : ByteArray) (h : s.size ≤ 255) : textE s = 0 := by simp [textE, h]
theorem textE_16 (s : ByteArray) (h : ¬ s.size ≤ 255) : textE s = 16 := by simp [textE, h]
theorem takeE_ne (b : ByteArray) (size : Int) (h : takeOk b size = false) : takeN b size = 0 ∧ takeR b size = ⟨#[]⟩ ∧ 1 ≤ takeE b size ∧ takeE b size ≤ 2 := by
  simp only [takeN, takeR, takeE, h]
  refine ⟨by simp, by simp, ?_, ?_⟩ <;> (simp; split <;> omega)


/-- A number that was written, with something behind it. -/
theorem pt_n {n k : Int} (rest : ByteArray) (h0 : 0 ≤ n) (h : putOk n k = true) : takeN (Str (putL n k) ++ rest) k = n ∧ takeR (Str (putL n k) ++ rest) k = rest := by
  obtain ⟨m, rfl⟩ := Int.eq_ofNat_of_zero_le h0
  obtain ⟨s1, s8, hm⟩ := (putOk_nat m k).1 h
  obtain ⟨s, rfl⟩ := Int.eq_ofNat_of_zero_le (show 0 ≤ k by omega)
  simp only [Int.toNat_natCast] at hm
  have e : putL (m : Int) (s : Int) = M.be s m := by unfold putL; rw [h, if_pos rfl]; rfl
  have hz : (Str (M.be s m)).size = s := by rw [Str_size, M.be_length]
  have hk : takeOk (Str (M.be s m) ++ rest) (s : Int) = true := by
    unfold takeOk
    rw [ByteArray.size_append, hz, Bool.and_eq_true, decide_eq_true_eq, decide_eq_true_eq]; omega
  rw [e]
  refine ⟨?_, ?_⟩
  · unfold takeN; rw [hk, if_pos rfl, Int.toNat_natCast, val_take_be m s rest hm]
  · unfold takeR; rw [hk, if_pos rfl, Int.toNat_natCast]
    have := extract_right (M.be s m) rest
    rw [M.be_length] at this; exact this
theorem pt_size {n k : Int} (h : putOk n k = true) : ((Str (putL n k)).size : Int) = k := by
  unfold putL
  rw [h, if_pos rfl, Str_size, M.be_length]
  simp [putOk] at h; omega
/-- What is taken has room. -/
theorem pt_room (s : ByteArray) {k : Int} (h1 : 1 ≤ k) (h8 : k ≤ 8) : putOk (takeN s k) k = true ∧ 0 ≤ takeN s k := by
  obtain ⟨j, rfl⟩ := Int.eq_ofNat_of_zero_le (show 0 ≤ k by omega)
  unfold takeN
  split
  · exact ⟨put_val s j (by omega) (by omega), by omega⟩
  · refine ⟨?_, Int.le_refl _⟩
    have := (putOk_nat 0 (j : Int)).2 ⟨by omega, by omega, Nat.pos_of_ne_zero (by simp)⟩
    exact this
/-- What is taken off a value, and what is left, are the value. -/
theorem pt_back (s : ByteArray) {k : Int} (h1 : 1 ≤ k) (h8 : k ≤ 8) (hs : k ≤ s.size) : Str (putL (takeN s k) k) ++ takeR s k = s ∧ ((takeR s k).size : Int) + k = s.size := by
  obtain ⟨j, rfl⟩ := Int.eq_ofNat_of_zero_le (show 0 ≤ k by omega)
  have hk : takeOk s (j : Int) = true := by unfold takeOk; rw [Bool.and_eq_true, decide_eq_true_eq, decide_eq_true_eq]; omega
  have ho := (pt_room s h1 h8).1
  have e : putL (takeN s j) j = s.data.toList.take j := by
    unfold putL; rw [ho, if_pos rfl, Int.toNat_natCast]
    unfold takeN; rw [hk, if_pos rfl, Int.toNat_natCast, Int.toNat_natCast]
    exact be_val_take s j (by omega)
  have e2 : takeR s j = s.extract j s.size := by unfold takeR; rw [hk, if_pos rfl, Int.toNat_natCast]
  rw [e, e2, take_extract]
  refine ⟨rfl, ?_⟩
  rw [ByteArray.size_extract]; omega
theorem takeR_off (s : ByteArray) {k : Int} (a : Nat) (h1 : 1 ≤ k) (h8 : k ≤ 8) (hs : (a : Int) + k ≤ s.size) : takeR (s.extract a s.size) k = s.extract (a + k.toNat) s.size := by
  obtain ⟨j, rfl⟩ := Int.eq_ofNat_of_zero_le (show 0 ≤ k by omega)
  have hz : (s.extract a s.size).size = s.size - a := by rw [ByteArray.size_extract]; omega
  have hk : takeOk (s.extract a s.size) (j : Int) = true := by unfold takeOk; rw [Bool.and_eq_true, decide_eq_true_eq, decide_eq_true_eq, hz]; omega
  unfold takeR
  rw [hk, if_pos rfl, hz, Int.toNat_natCast]
  apply eq_of_data
  simp only [extract_list, List.drop_take, List.drop_drop, List.take_take]
  congr 1
  omega
theorem extract_all (s : ByteArray) : s.extract 0 s.size = s := by
  apply eq_of_data
  rw [extract_list, List.drop_zero, List.take_of_length_le]
  simp
theorem takeR_first (s : ByteArray) {k : Int} (h1 : 1 ≤ k) (h8 : k ≤ 8) (hs : k ≤ s.size) : takeR s k = s.extract k.toNat s.size := by
  have := takeR_off s (k := k) 0 h1 h8 (by omega)
  rw [extract_all, Nat.zero_add] at this; exact this
theorem empty_of_size {s : ByteArray} (h : s.size = 0) : s = ⟨#[]⟩ := by
  apply eq_of_data
  have := size_list s
  rw [h] at this
  rw [List.length_eq_zero_iff.1 this]
theorem append_none {s t : ByteArray} (h : s = s ++ t) : t = ⟨#[]⟩ := by
  apply empty_of_size
  have := congrArg ByteArray.size h
  rw [ByteArray.size_append] at this; omega
theorem append_empty (s : ByteArray) : s ++ (⟨#[]⟩ : ByteArray) = s := by
  apply eq_of_data; rw [append_list]; simp
/-- A text that is taken, and what is left. -/
theorem tt_back (s : ByteArray) (h : ttOk s = true) : textL (ttS s) ++ ttR s = s ∧ (ttS s).size = ttN s ∧ ttN s ≤ 255 ∧ (ttS s).size + 1 + (ttR s).size = s.size := by
  have hk := h
  unfold ttOk at h
  simp only [Bool.and_eq_true, decide_eq_true_eq] at h
  obtain ⟨h1, h2⟩ := h
  have hb : ttB s = s.extract 1 s.size := rfl
  have hn : ttN s ≤ 255 := by have := take1_lt s; omega
  have hS : ttS s = (ttB s).extract 0 (ttN s) := by unfold ttS; rw [hk, if_pos rfl]
  have hR : ttR s = (ttB s).extract (ttN s) (ttB s).size := by unfold ttR; rw [hk, if_pos rfl]
  have hz : (ttS s).size = ttN s := by rw [hS, ByteArray.size_extract]; omega
  have hj : ttS s ++ ttR s = ttB s := by
    apply eq_of_data
    rw [append_list, hS, hR, extract_list, extract_list, List.drop_zero, Nat.sub_zero]
    have : ((ttB s).data.toList.drop (ttN s)).take ((ttB s).size - ttN s) = (ttB s).data.toList.drop (ttN s) := List.take_of_length_le (by simp)
    rw [this, List.take_append_drop]
  have hbz : (ttB s).size + 1 = s.size := by rw [hb, ByteArray.size_extract]; omega
  have hsum : (ttS s).size + (ttR s).size = (ttB s).size := by rw [← hj, ByteArray.size_append]
  refine ⟨?_, hz, hn, by omega⟩
  rw [text_app _ _ (by omega), hj, hz]
  apply eq_of_data
  rw [Str_list, hb, extract_list]
  obtain ⟨⟨l⟩⟩ := s
  cases l with
  | nil => simp [ByteArray.size] at h1
  | cons c t =>
    have e : UInt8.ofNat (ttN ⟨⟨c :: t⟩⟩) = c := by
      have : ttN ⟨⟨c :: t⟩⟩ = c.toNat := by simp [ttN, M.val]
      rw [this]; simp
    rw [e]
    simp [ByteArray.size]
theorem tt_no (s : ByteArray) (h : ttOk s = false) : ttS s = ⟨#[]⟩ ∧ ttR s = ⟨#[]⟩ := by
  unfold ttS ttR; rw [h]; exact ⟨rfl, rfl⟩
theorem take_short_R (s : ByteArray) {k : Int} (h : (s.size : Int) < k) : takeR s k = ⟨#[]⟩ ∧ takeN s k = 0 := by
  have hk : takeOk s k = false := by
    unfold takeOk; rw [Bool.and_eq_false_iff]; right; rw [decide_eq_false_iff_not]; omega
  unfold takeR takeN; rw [hk]; exact ⟨rfl, rfl⟩
end Go.Proofs.Ytlbnakoaflladaa
