import Derived.Test.YtlogfghcfmpjdaaPutFacts
namespace Go.Proofs.Ytlogfghcfmpjdaa
open Go.RowKit

theorem take_be (m s : Nat) (rest : ByteArray) : (Str (M.be s m) ++ rest).data.toList.take s = M.be s m := by
  rw [append_list, Str_list]
  exact List.take_left' (M.be_length s m)
theorem val_take_be (m s : Nat) (rest : ByteArray) (h : m < 256 ^ s) : M.val ((Str (M.be s m) ++ rest).data.toList.take s) = m := by
  rw [take_be, M.val_be, Nat.mod_eq_of_lt h]
theorem extract_right (l : List UInt8) (rest : ByteArray) : (Str l ++ rest).extract l.length (Str l ++ rest).size = rest := by
  apply eq_of_data
  rw [extract_list, append_list, Str_list, List.drop_left, List.take_of_length_le]
  simp [Str_size]
theorem extract_left (s rest : ByteArray) : (s ++ rest).extract 0 s.size = s := by
  apply eq_of_data
  rw [extract_list, append_list, List.drop_zero, Nat.sub_zero, List.take_left' (size_list s)]
theorem extract_right' (s rest : ByteArray) : (s ++ rest).extract s.size (s ++ rest).size = rest := by
  apply eq_of_data
  rw [extract_list, append_list, List.drop_left' (size_list s), List.take_of_length_le]
  simp
theorem take_extract (r : ByteArray) (n : Nat) : Str (r.data.toList.take n) ++ r.extract n r.size = r := by
  apply eq_of_data
  rw [append_list, Str_list, extract_list]
  have : (r.data.toList.drop n).take (r.size - n) = r.data.toList.drop n := List.take_of_length_le (by simp)
  rw [this, List.take_append_drop]
theorem put_val (r : ByteArray) (size : Nat) (h1 : 1 ≤ size) (h8 : size ≤ 8) : putOk (M.val (r.data.toList.take size) : Int) (size : Int) = true := by
  rw [putOk_nat]
  refine ⟨by omega, by omega, ?_⟩
  have h1 := M.val_lt (r.data.toList.take size)
  simp only [Int.toNat_natCast]
  exact Nat.lt_of_lt_of_le h1 (Nat.pow_le_pow_right (by decide) (List.length_take_le _ _))
theorem be_val_take (r : ByteArray) (size : Nat) (h : size ≤ r.size) : M.be size (M.val (r.data.toList.take size)) = r.data.toList.take size :=
  M.be_eq _ _ (by rw [List.length_take, size_list]; omega)
/-- A text that was written, with something behind it. -/
theorem textL_size (s : ByteArray) (h : s.size ≤ 255) : (textL s).size = s.size + 1 := by simp [textL, h, Str_size]
theorem text_app (s rest : ByteArray) (h : s.size ≤ 255) : textL s ++ rest = Str (UInt8.ofNat s.size :: (s ++ rest).data.toList) := by
  apply eq_of_data
  simp [textL, h, Str]
theorem ttN_text (s rest : ByteArray) (h : s.size ≤ 255) : ttN (textL s ++ rest) = s.size := by
  rw [text_app s rest h]
  unfold ttN
  rw [Str_list]
  simp only [Int.toNat_one, List.take_succ_cons, List.take_zero, M.val, List.foldl_cons, List.foldl_nil, UInt8.toNat_ofNat']
  omega
theorem ttB_text (s rest : ByteArray) (h : s.size ≤ 255) : ttB (textL s ++ rest) = s ++ rest := by
  apply eq_of_data
  unfold ttB
  rw [extract_list, text_app s rest h, Str_list]
  simp only [Int.toNat_one, List.drop_succ_cons, List.drop_zero]
  rw [List.take_of_length_le]
  simp [Str_size]
theorem ttOk_text (s rest : ByteArray) (h : s.size ≤ 255) : ttOk (textL s ++ rest) = true := by
  have e : (textL s ++ rest).size = s.size + 1 + rest.size := by rw [ByteArray.size_append, textL_size s h]
  simp only [ttOk, ttN_text s rest h, ttB_text s rest h, ByteArray.size_append, Bool.and_eq_true, decide_eq_true_eq, e]
  omega
theorem tt_text (s rest : ByteArray) (h : s.size ≤ 255) : ttS (textL s ++ rest) = s ∧ ttR (textL s ++ rest) = rest ∧ ttE (textL s ++ rest) = 0 := by
  simp only [ttS, ttR, ttE, ttOk_text s rest h, if_true, ttN_text s rest h, ttB_text s rest h, extract_left, extract_right', and_self]
theorem textE_0 (s : ByteArray) (h : s.size ≤ 255) : textE s = 0 := by simp [textE, h]
theorem textE_16 (s : ByteArray) (h : ¬ s.size ≤ 255) : textE s = 16 := by simp [textE, h]
theorem takeE_ne (b : ByteArray) (size : Int) (h : takeOk b size = false) : takeN b size = 0 ∧ takeR b size = ⟨#[]⟩ ∧ 1 ≤ takeE b size ∧ takeE b size ≤ 2 := by
  simp only [takeN, takeR, takeE, h]
  refine ⟨by simp, by simp, ?_, ?_⟩ <;> (simp; split <;> omega)

/-- Put, and Take of what it wrote. -/
def B1 (n size : Int) (rest : ByteArray) (p : ByteArray) : Prop :=
  putOk n size = true ∧ Str (M.be size.toNat n.toNat) = p ∧ takeOk (p ++ rest) size = true ∧ (M.val ((p ++ rest).data.toList.take size.toNat) : Int) = n ∧ (p ++ rest).extract size.toNat (p ++ rest).size = rest
def B3 (rest : ByteArray) (size : Int) (k : Int) (left p : ByteArray) : Prop :=
  takeOk rest size = true ∧ (M.val (rest.data.toList.take size.toNat) : Int) = k ∧ rest.extract size.toNat rest.size = left ∧ putOk k size = true ∧ Str (M.be size.toNat k.toNat) = p
theorem b1_of (m : Nat) (size : Int) (rest : ByteArray) (h : putOk (m : Int) size = true) : ∃ p : ByteArray, B1 m size rest p ∧ (p.size : Int) = size ∧ p.size ≤ 8 := by
  obtain ⟨s1, s8, hm⟩ := (putOk_nat m size).1 h
  obtain ⟨s, rfl⟩ := Int.eq_ofNat_of_zero_le (show 0 ≤ size by omega)
  simp only [Int.toNat_natCast] at hm
  have hz : (Str (M.be s m)).size = s := by rw [Str_size, M.be_length]
  have hz' : (Str (M.be s m) ++ rest).size = s + rest.size := by rw [ByteArray.size_append, hz]
  have e3 := extract_right (M.be s m) rest
  rw [M.be_length] at e3
  refine ⟨Str (M.be s m), ⟨h, by simp, ?_, ?_, ?_⟩, by omega, by omega⟩
  · simp only [takeOk, hz', Bool.and_eq_true, decide_eq_true_eq]; omega
  · simp only [Int.toNat_natCast]; rw [val_take_be m s rest hm]
  · simp only [Int.toNat_natCast]; exact e3
theorem b3_of (rest : ByteArray) (size : Int) (h : takeOk rest size = true) : ∃ (k : Int) (left p : ByteArray), B3 rest size k left p ∧ 0 ≤ k ∧ p ++ left = rest := by
  simp only [takeOk, Bool.and_eq_true, decide_eq_true_eq] at h
  obtain ⟨⟨s1, s8⟩, hl⟩ := h
  obtain ⟨s, rfl⟩ := Int.eq_ofNat_of_zero_le (show 0 ≤ size by omega)
  refine ⟨_, _, _, ⟨by simp [takeOk]; omega, rfl, rfl, put_val rest s (by omega) (by omega), rfl⟩, by omega, ?_⟩
  simp only [Int.toNat_natCast]
  rw [be_val_take rest s (by omega)]
  exact take_extract rest s

set_option maxHeartbeats 1000000 in
theorem numBack_walk (n size : Int) (s rest : ByteArray) (w : World) (h0 : 0 ≤ n) (hs : s.size ≤ 140737488351232) (hr : rest.size ≤ 140737488351232)
    (c1 : (∃ p : ByteArray, B1 n size rest p ∧ (p.size : Int) = size ∧ p.size ≤ 8) ∨ putOk n size = false)
    (c3 : (∃ (k : Int) (left p : ByteArray), B3 rest size k left p ∧ 0 ≤ k ∧ p ++ left = rest) ∨ takeOk rest size = false) :
    Calls Try.prog 5 #[.int .u64 n, .int .i64 size, .string s, .string rest] w fun e w' => e = .returned (.bool true) ∧ Below w.heap.size w w' := by
  have T1 := Lib.hid (fun h : s.size ≤ 255 => tt_text s rest h)
  have T2 := Lib.hid (fun h : s.size ≤ 255 => textL_size s h)
  have T3 := Lib.hid (textE_0 s)
  have T4 := Lib.hid (textE_16 s)
  generalize hT : textL s = t at T1 T2
  have TL := Lib.hid hT
  clear hT
  rcases c1 with ⟨p, hB, hp, hp8⟩ | hB
  all_goals
    have HB := Lib.hid hB
    clear hB
    by_cases h2 : s.size ≤ 255
    all_goals
      first | (have z1 : t.size ≤ s.size + 1 := Nat.le_of_eq (T2.out h2); have z2 : s.size + 1 ≤ t.size := Nat.le_of_eq (T2.out h2).symm) | skip
      rcases c3 with ⟨k, left, q, hD, hk0, hq⟩ | hD
      all_goals
        have HD := Lib.hid hD
        clear hD
        first | (have HQ := Lib.hid hq; clear hq) | skip
        go_enter Try.func5, Try.ntmps5
        go_wp2_with fail
        refine (examples_any _).mono ?_
        rintro e w1 ⟨rfl, bb⟩
        go_wp2_with fail
        first
          | (refine (put_yes _ _ _ h0 HB.out.1).mono ?_; rw [HB.out.2.1]; rintro e w2 ⟨rfl, b2⟩; replace bb := chain bb b2; clear b2; go_wp2_with fail; refine (take_yes _ _ _ HB.out.2.2.1).mono ?_; rw [HB.out.2.2.2.1, HB.out.2.2.2.2]; rintro e w3 ⟨rfl, b3⟩; replace bb := chain bb b3; clear b3)
          | (refine (put_no _ _ _ h0 HB.out).mono ?_; rintro e w2 ⟨rfl, b2⟩; replace bb := chain bb b2; clear b2)
        go_wp2_with fail
        first
          | (refine (text_any _ _).mono ?_; rw [T3.out h2, TL.out]; rintro e w4 ⟨rfl, b4⟩; replace bb := chain bb b4; clear b4; go_wp2_with fail; refine (takeText_any _ _ (by rw [ByteArray.size_append]; omega)).mono ?_; rw [(T1.out h2).1, (T1.out h2).2.1, (T1.out h2).2.2]; rintro e w5 ⟨rfl, b5⟩; replace bb := chain bb b5; clear b5)
          | (refine (text_any _ _).mono ?_; rw [T4.out h2, TL.out]; rintro e w4 ⟨rfl, b4⟩; replace bb := chain bb b4; clear b4)
        go_wp2_with fail
        first
          | (refine (take_yes _ _ _ HD.out.1).mono ?_; rw [HD.out.2.1, HD.out.2.2.1]; rintro e w6 ⟨rfl, b6⟩; replace bb := chain bb b6; clear b6; go_wp2_with fail; refine (put_yes _ _ _ hk0 HD.out.2.2.2.1).mono ?_; rw [HD.out.2.2.2.2]; rintro e w7 ⟨rfl, b7⟩; replace bb := chain bb b7; clear b7; have hq := HQ.out; have hqs : q.size + left.size ≤ 140737488351232 := (by rw [← ByteArray.size_append, hq]; exact hr))
          | (have HN := Lib.hid (takeE_ne rest size HD.out); have he1 := HN.out.2.2.1; refine (take_any _ _ _).mono ?_; rw [HN.out.1, HN.out.2.1]; rintro e w6 ⟨rfl, b6⟩; replace bb := chain bb b6; clear b6; go_wp2_with fail; refine (put_any _ _ _ (by omega)).mono ?_; rintro e w7 ⟨rfl, b7⟩; replace bb := chain bb b7; clear b7)
        go_wp2_with fail
        all_goals go_ret
        all_goals refine ⟨ret_true ?_, bb⟩
        all_goals first | (simp; done) | (simp; omega) | (simp [hq]; done) | (simp [hq]; omega)
theorem numBack_law (a0 a1 : Int) (a2 a3 : ByteArray) (w : World) (w0 : (Lit.int .u64 a0).wf = true) (_w1 : (Lit.int .i64 a1).wf = true) (z2 : a2.size ≤ 140737488351232) (z3 : a3.size ≤ 140737488351232) :
    Calls Try.prog 5 #[.int .u64 a0, .int .i64 a1, .string a2, .string a3] w fun e w' => e = .returned (.bool true) ∧ Below w.heap.size w w' := by
  obtain ⟨l, _⟩ := bounds_u64 w0
  refine numBack_walk a0 a1 a2 a3 w l z2 z3 ?_ ?_
  · cases h : putOk a0 a1
    · exact .inr rfl
    · obtain ⟨m, rfl⟩ := Int.eq_ofNat_of_zero_le l
      exact .inl (b1_of m a1 a3 h)
  · cases h : takeOk a3 a1
    · exact .inr rfl
    · exact .inl (b3_of a3 a1 h)
end Go.Proofs.Ytlogfghcfmpjdaa
