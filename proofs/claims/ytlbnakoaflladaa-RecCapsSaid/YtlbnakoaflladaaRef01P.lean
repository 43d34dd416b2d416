/-
  Contracts of package bailiwickref01: it answers what num answers.
-/
import Derived.Test.YtlbnakoaflladaaPutMath
namespace Go.Proofs.Ytlbnakoaflladaa
open Go.RowKit
set_option linter.unusedVariables false

def refArr (m size : Nat) : Nat → Array Value
  | 0 => (List.replicate size (.int .u8 0)).toArray
  | k + 1 => (refArr m size k).setIfInBounds (size - 1 - k) (.int .u8 (((m / 256 ^ k : Nat) : Int) % 256))
theorem refArr_size (m size k : Nat) : (refArr m size k).size = size := by
  induction k with
  | zero => simp [refArr]
  | succ k ih => simp [refArr, ih]
theorem refArr_at (m size k j : Nat) (hj : j < size) : ∃ v, (refArr m size k)[j]? = some v :=
  ⟨(refArr m size k)[j]'(by rw [refArr_size]; omega), Array.getElem?_eq_getElem _⟩
theorem refArr_get (m size k j : Nat) (hk : k ≤ size) (hj : j < size) (hjk : size - 1 - j < k) :
    (refArr m size k)[j]? = some (.int .u8 (((m / 256 ^ (size - 1 - j) : Nat) : Int) % 256)) := by
  induction k with
  | zero => omega
  | succ k ih =>
    rw [refArr]
    by_cases e : j = size - 1 - k
    · have ek : size - 1 - j = k := by omega
      rw [ek, ← e, Array.getElem?_setIfInBounds_self_of_lt (by rw [refArr_size]; omega)]
    · rw [Array.getElem?_setIfInBounds_ne (by omega)]
      exact ih (by omega) (by omega)
theorem refArr_be (m size j : Nat) (hj : j < (M.be size m).length) :
    (refArr m size size)[j]? = some (.int .u8 (((M.be size m)[j]).toNat : Int)) := by
  have hj' : j < size := by rwa [M.be_length] at hj
  rw [refArr_get _ _ _ _ (Nat.le_refl _) hj' (by omega)]
  have := M.be_get size m j hj'
  rw [List.getElem?_eq_getElem hj] at this
  rw [Option.some.inj this, UInt8.toNat_ofNat', Nat.mod_mod_of_dvd _ (by decide)]
  simp
theorem refMake (size : Nat) (h : size ≤ 8) (W : World) : (Instr.makeSlice 88 (.int .i64 (size : Int)) (.int .i64 (size : Int))).run Try.prog W =
    .ok (.slice (some ⟨W.heap.size, 0, none⟩) size size) (W.alloc (.cells (refArr 0 size 0) 5)) := by
  have hinfo : (Try.prog.info? 5).map (fun i => (i.zero, i.size, i.bytes)) = some (some (.int .u8 0), 1, 1) := by kernel_rfl
  obtain ⟨i0, hi, hz0, hz1, hz2⟩ := info_parts hinfo
  have := run_make (P := Try.prog) W 88 5 i0 (.int .u8 0) Try.underlying88 hi hz0 .i64 .i64 size size (by omega) (by omega) (by rw [hz2]; omega) (by omega)
  rw [this, hz1]
  have e : madeCells (Value.int .u8 0).cells (size * 1) = refArr 0 size 0 := by
    apply Array.toList_inj.1
    rw [show (Value.int .u8 0).cells = #[.int .u8 0] from rfl, toList_madeCells_one]
    simp [refArr]
  simp only [Int.toNat_natCast, e]
theorem refArr_zero (m size : Nat) : refArr 0 size 0 = refArr m size 0 := rfl

theorem div_step (m k : Nat) : (m : Int) / 256 ^ k / 256 = ((m / 256 ^ (k + 1) : Nat) : Int) := by
  rw [Nat.pow_succ, ← Nat.div_div_eq_div_mul]; simp

set_option maxRecDepth 20000 in
set_option maxHeartbeats 400000 in
theorem refPut_ok (m : Nat) (size : Nat) (w : World) (_hmm : m ≤ 18446744073709551615) (h1 : 1 ≤ size) (h8 : size ≤ 8) (hf : size < 8 → m / 2 ^ (8 * size) = 0) :
    Calls Try.prog 42 #[.int .u64 (m : Int), .int .i64 size] w fun e w' => e = .returned (.tuple #[.string (Str (M.be size m)), .bool true]) ∧ Below w.heap.size w w' := by
  have hf' : size < 8 → (m : Int) / 2 ^ (8 * size) = 0 := fun h => by have := hf h; exact_mod_cast this
  have hcells := fun j hj => refArr_be m size j hj
  have hconv := run_convert_bytes_back (P := Try.prog) (w.alloc (.cells (refArr m size size) 5)) 88 9 5 ⟨w.heap.size, 0, none⟩ size (M.be size m) Try.underlying88 Try.underlying5 Try.underlying9 (fun j hj => by
    have := hcells j hj
    rw [show (⟨w.heap.size, 0, none⟩ : Addr).add j = ⟨w.heap.size, j, none⟩ by unfold Addr.add; split <;> simp_all]
    rw [← this]; simp)
  rw [M.be_length] at hconv
  have HC := Lib.hid hconv
  have HMK := refMake size h8
  have HF := Lib.hid hf'
  clear hconv hcells hf hf'
  by_cases hs : size < 8
  all_goals
    have h2 := HF.out
    first | (have h3 := h2 hs; clear h2) | clear h2
    go_enter Try.func42, Try.ntmps42
    go_wp2_with fail
    go_loopw [0, 7] (fun n i wr => ∃ k : Nat, k ≤ size ∧ i = .int .i64 ((size : Int) - 1 - k) ∧ n = .int .u64 ((m / 256 ^ k : Nat) : Int) ∧ wr = w.alloc (.cells (refArr m size k) 5)) (fun _ i _ => (intOf i + 1).toNat)
    case atStart => exact ⟨0, Nat.zero_le _, by simp, by simp, rfl⟩
    case round =>
      obtain ⟨k, hk, rfl, rfl, rfl⟩ := hrel
      by_cases hlt : k < size
      · obtain ⟨v, hv⟩ := refArr_at m size k (size - 1 - k) (by omega)
        go_wp2
        go_roundw
        case rel => exact ⟨k + 1, by omega, by go_num, by rw [div_step], rfl⟩
        case measure => simp [intOf]; omega
      · obtain rfl : k = size := by omega
        have hconv := HC.out
        go_wp2
        go_ret2
        exact ⟨rfl, (Below.refl _ _).alloc (Nat.le_refl _) _⟩
set_option maxRecDepth 20000 in
set_option maxHeartbeats 400000 in
theorem refPut_size (n size : Int) (w : World) (h : ¬ (1 ≤ size ∧ size ≤ 8)) :
    Calls Try.prog 42 #[.int .u64 n, .int .i64 size] w fun e w' => e = .returned (.tuple #[.string ⟨#[]⟩, .bool false]) ∧ w = w' := by
  have h' : size < 1 ∨ 8 < size := by omega
  clear h
  rcases h' with h | h
  all_goals
    go_enter Try.func42, Try.ntmps42
    go_wp2
    go_ret2
    exact ⟨rfl, rfl⟩
set_option maxRecDepth 20000 in
set_option maxHeartbeats 400000 in
theorem refPut_wide (n : Int) (size : Nat) (w : World) (h1 : 1 ≤ size) (h8 : size < 8) (hf : 0 < n / 2 ^ (8 * size)) :
    Calls Try.prog 42 #[.int .u64 n, .int .i64 size] w fun e w' => e = .returned (.tuple #[.string ⟨#[]⟩, .bool false]) ∧ w = w' := by
  go_enter Try.func42, Try.ntmps42
  go_wp2
  go_ret2
  exact ⟨rfl, rfl⟩
theorem refPut_any (n size : Int) (w : World) (h0 : 0 ≤ n) (hm : n ≤ 18446744073709551615) :
    Calls Try.prog 42 #[.int .u64 n, .int .i64 size] w fun e w' => e = .returned (.tuple #[.string (Str (putL n size)), .bool (putOk n size)]) ∧ Below w.heap.size w w' := by
  obtain ⟨m, rfl⟩ := Int.eq_ofNat_of_zero_le h0
  by_cases h : 1 ≤ size ∧ size ≤ 8
  · obtain ⟨s, rfl⟩ := Int.eq_ofNat_of_zero_le (show 0 ≤ size by omega)
    cases hk : putOk (m : Int) (s : Int)
    · have hf : ¬ m / 2 ^ (8 * s) = 0 := by
        intro hf
        simp only [putOk, h, and_self, decide_true, Bool.true_and, beq_eq_false_iff_ne, show (8 * (s : Int)).toNat = 8 * s by omega] at hk
        apply hk
        exact_mod_cast hf
      have h8 : s < 8 := by
        rcases Nat.lt_or_ge s 8 with h' | h'
        · exact h'
        · exfalso
          apply hf
          apply Nat.div_eq_of_lt
          have e : s = 8 := by omega
          subst e
          have e : (2 : Nat) ^ (8 * 8) = 18446744073709551616 := by simp
          rw [e]; omega
      have hf' : 0 < (m : Int) / 2 ^ (8 * s) := by
        have : 0 < m / 2 ^ (8 * s) := Nat.pos_of_ne_zero hf
        exact_mod_cast this
      refine (refPut_wide m s w (by omega) h8 hf').mono ?_
      rintro e w' ⟨rfl, rfl⟩
      exact ⟨by simp [putL, hk, Str], Below.refl _ _⟩
    · have hf : m / 2 ^ (8 * s) = 0 := by
        simp only [putOk, Bool.and_eq_true, beq_iff_eq, show (8 * (s : Int)).toNat = 8 * s by omega] at hk
        exact_mod_cast hk.2
      refine (refPut_ok m s w (by omega) (by omega) (by omega) (fun _ => hf)).mono ?_
      rintro e w' ⟨rfl, hb⟩
      exact ⟨by simp [putL, hk], hb⟩
  · refine (refPut_size _ size w h).mono ?_
    rintro e w' ⟨rfl, rfl⟩
    have hk : putOk (m : Int) size = false := by simp [putOk, h]
    exact ⟨by simp [putL, hk, Str], Below.refl _ _⟩

set_option maxRecDepth 20000 in
set_option maxHeartbeats 400000 in
theorem refText_long (s : ByteArray) (w : World) (h : 255 < s.size) :
    Calls Try.prog 37 #[.string s] w fun e w' => e = .returned (.tuple #[.string ⟨#[]⟩, .bool false]) ∧ w = w' := by
  go_enter Try.func37, Try.ntmps37
  go_wp2
  go_ret2
  exact ⟨rfl, rfl⟩
theorem conv_one (s : ByteArray) (w : World) :
    (convert 88 9 (.slice (some ⟨w.heap.size, 0, none⟩) 1 1)).run Try.prog (w.alloc (.cells #[.int .u8 (s.size : Int)] 5)) = .ok (.string (Str [UInt8.ofNat s.size])) (w.alloc (.cells #[.int .u8 (s.size : Int)] 5)) := by
  have := run_convert_bytes_arg (P := Try.prog) (w.alloc (.cells #[.int .u8 (s.size : Int)] 5)) 88 5 Try.underlying88 Try.underlying5 w.heap.size 0 1 1 [(s.size : Int)] rfl (fun i hi => by
    obtain rfl : i = 0 := by omega
    simp) 9 Try.underlying9
  rw [this]
  simp [strOfNums, Str]
set_option maxRecDepth 20000 in
set_option maxHeartbeats 400000 in
theorem refText_short (s : ByteArray) (w : World) (h : s.size ≤ 255) :
    Calls Try.prog 37 #[.string s] w fun e w' => e = .returned (.tuple #[.string (textL s), .bool true]) ∧ Below w.heap.size w w' := by
  have hconv := conv_one s w
  have fin : Ending.returned (.tuple #[.string (Str [UInt8.ofNat s.size] ++ s), .bool true]) = Ending.returned (.tuple #[.string (textL s), .bool true]) := by
    rw [Str_append]; simp [textL, h]
  have F := Lib.hid fin
  have hz : (Str [UInt8.ofNat s.size]).size ≤ 1 := by rw [Str_size]; simp
  clear fin
  generalize Str [UInt8.ofNat s.size] = p at *
  go_enter Try.func37, Try.ntmps37
  go_wp2
  go_ret2
  exact ⟨F.out, (Below.refl _ _).alloc (Nat.le_refl _) _⟩
def textOk (s : ByteArray) : Bool := decide (s.size ≤ 255)
theorem refText_any (s : ByteArray) (w : World) :
    Calls Try.prog 37 #[.string s] w fun e w' => e = .returned (.tuple #[.string (textL s), .bool (textOk s)]) ∧ Below w.heap.size w w' := by
  by_cases h : s.size ≤ 255
  · have hk : textOk s = true := by simp [textOk, h]
    rw [hk]
    exact refText_short s w h
  · refine (refText_long s w (by omega)).mono ?_
    rintro e w' ⟨rfl, rfl⟩
    exact ⟨by simp [textL, textOk, h], Below.refl _ _⟩

set_option maxRecDepth 20000 in
set_option maxHeartbeats 400000 in
theorem refTake_ok (b : ByteArray) (size : Nat) (w : World) (h1 : 1 ≤ size) (h8 : size ≤ 8) (hl : size ≤ b.size) :
    Calls Try.prog 44 #[.string b, .int .i64 size] w fun e w' => e = .returned (.tuple #[.int .u64 (M.val (b.data.toList.take size)), .string (b.extract size b.size), .int .i64 0]) ∧ Below w.heap.size w w' := by
  have ht : decide (b.size < size) = false := by simp; omega
  have ht1 : decide ((size : Int) < 1) = false := by simp; omega
  have ht2 : decide (8 < (size : Int)) = false := by simp; omega
  go_enter Try.func44, Try.ntmps44
  go_wp2
  go_loop [7, 8] (fun n i => ∃ k : Nat, k ≤ size ∧ i = .int .i64 k ∧ n = .int .u64 (M.val (b.data.toList.take k))) (fun _ i => size - (intOf i).toNat)
  case atStart => exact ⟨0, Nat.zero_le _, rfl, rfl⟩
  case round =>
    obtain ⟨k, hk, rfl, rfl⟩ := hrel
    by_cases hlt : k < size
    · go_wp2
      go_round
      case rel => exact ⟨k + 1, by omega, by go_num, by rw [val_step b k (by omega), ← or_byte _ _ (val_room b k (by omega))]⟩
      case measure => simp [intOf]; omega
    · obtain rfl : k = size := by omega
      go_wp2
      go_region
      all_goals go_wp2
      all_goals go_ret3
      all_goals exact ⟨rfl, (Below.refl _ _).drew⟩
set_option maxRecDepth 20000 in
set_option maxHeartbeats 400000 in
theorem refTake_size (b : ByteArray) (size : Int) (w : World) (h : ¬ (1 ≤ size ∧ size ≤ 8)) :
    Calls Try.prog 44 #[.string b, .int .i64 size] w fun e w' => e = .returned (.tuple #[.int .u64 0, .string ⟨#[]⟩, .int .i64 1]) ∧ w = w' := by
  have h' : size < 1 ∨ 8 < size := by omega
  clear h
  rcases h' with h | h
  all_goals
    go_enter Try.func44, Try.ntmps44
    go_wp2
    go_ret3
    exact ⟨rfl, rfl⟩
set_option maxRecDepth 20000 in
set_option maxHeartbeats 400000 in
theorem refTake_short (b : ByteArray) (size : Int) (w : World) (h1 : 1 ≤ size) (h8 : size ≤ 8) (hl : (b.size : Int) < size) :
    Calls Try.prog 44 #[.string b, .int .i64 size] w fun e w' => e = .returned (.tuple #[.int .u64 0, .string ⟨#[]⟩, .int .i64 2]) ∧ w = w' := by
  go_enter Try.func44, Try.ntmps44
  go_wp2
  go_ret3
  exact ⟨rfl, rfl⟩
theorem refTake_any (b : ByteArray) (size : Int) (w : World) :
    Calls Try.prog 44 #[.string b, .int .i64 size] w fun e w' => e = .returned (.tuple #[.int .u64 (takeN b size), .string (takeR b size), .int .i64 (takeE b size)]) ∧ Below w.heap.size w w' := by
  by_cases h : 1 ≤ size ∧ size ≤ 8
  · by_cases hl : size ≤ b.size
    · have hk : takeOk b size = true := by simp [takeOk, h, hl]
      obtain ⟨s, rfl⟩ := Int.eq_ofNat_of_zero_le (show 0 ≤ size by omega)
      refine (refTake_ok b s w (by omega) (by omega) (by omega)).mono ?_
      rintro e w' ⟨rfl, hb⟩
      exact ⟨by simp [takeN, takeR, takeE, hk], hb⟩
    · refine (refTake_short b size w h.1 h.2 (by omega)).mono ?_
      rintro e w' ⟨rfl, rfl⟩
      exact ⟨by simp [takeN, takeR, takeE, takeOk, h, hl], Below.refl _ _⟩
  · refine (refTake_size b size w h).mono ?_
    rintro e w' ⟨rfl, rfl⟩
    exact ⟨by simp [takeN, takeR, takeE, takeOk, h], Below.refl _ _⟩

set_option maxRecDepth 20000 in
set_option maxHeartbeats 400000 in
theorem refTakeText_none (s : ByteArray) (w : World) (h : s.toList = []) :
    Calls Try.prog 39 #[.string s] w fun e w' => e = .returned (.tuple #[.string ⟨#[]⟩, .string ⟨#[]⟩, .bool false]) ∧ w = w' := by
  go_enter Try.func39, Try.ntmps39
  go_wp2
  go_ret3
  exact ⟨rfl, rfl⟩
set_option maxRecDepth 20000 in
set_option maxHeartbeats 400000 in
theorem refTakeText_short (s : ByteArray) (w : World) (h : 0 < s.size) (hm : s.size ≤ 9223372036854775807) (hx : s.size < 1 + s[0].toNat) :
    Calls Try.prog 39 #[.string s] w fun e w' => e = .returned (.tuple #[.string ⟨#[]⟩, .string ⟨#[]⟩, .bool false]) ∧ w = w' := by
  have hne := nonempty s h
  have hc : s[0].toNat < 256 := s[0].toNat_lt
  go_enter Try.func39, Try.ntmps39
  go_wp2
  all_goals go_ret3
  all_goals exact ⟨rfl, rfl⟩
set_option maxRecDepth 20000 in
set_option maxHeartbeats 400000 in
theorem refTakeText_ok (s : ByteArray) (w : World) (h : 0 < s.size) (hm : s.size ≤ 9223372036854775807) (hx : 1 + s[0].toNat ≤ s.size) :
    Calls Try.prog 39 #[.string s] w fun e w' => e = .returned (.tuple #[.string (s.extract 1 (1 + s[0].toNat)), .string (s.extract (1 + s[0].toNat) s.size), .bool true]) ∧ Below w.heap.size w w' := by
  have hne := nonempty s h
  have hc : s[0].toNat < 256 := s[0].toNat_lt
  go_enter Try.func39, Try.ntmps39
  go_wp2
  go_region
  all_goals go_wp2
  all_goals go_ret3
  all_goals exact ⟨rfl, (Below.refl _ _).drew⟩
theorem ttN_at (s : ByteArray) (h : 0 < s.size) : ttN s = s[0].toNat := by
  have := val_step s 0 h
  simpa [M.val, ttN] using this
theorem ttB_size (s : ByteArray) : (ttB s).size = s.size - 1 := by simp [ttB]
theorem ttS_eq (s : ByteArray) (_h : 0 < s.size) : (ttB s).extract 0 (ttN s) = s.extract 1 (1 + ttN s) := by
  apply eq_of_data
  rw [extract_list, extract_list]
  simp only [ttB]
  rw [extract_list]
  simp only [Int.toNat_one, Nat.sub_zero, List.drop_zero, Nat.add_sub_cancel_left]
  rw [List.take_take, List.take_eq_take_iff]
  simp
theorem ttR_eq (s : ByteArray) (_h : 0 < s.size) : (ttB s).extract (ttN s) (ttB s).size = s.extract (1 + ttN s) s.size := by
  apply eq_of_data
  rw [extract_list, extract_list, ttB_size]
  simp only [ttB]
  rw [extract_list]
  simp only [Int.toNat_one]
  rw [List.drop_take, List.drop_drop, List.take_take, List.take_eq_take_iff]
  simp
  omega
theorem refTakeText_any (s : ByteArray) (w : World) (hm : s.size ≤ 9223372036854775807) :
    Calls Try.prog 39 #[.string s] w fun e w' => e = .returned (.tuple #[.string (ttS s), .string (ttR s), .bool (ttOk s)]) ∧ Below w.heap.size w w' := by
  by_cases h : 0 < s.size
  · have hn := ttN_at s h
    have hb := ttB_size s
    by_cases hx : 1 + s[0].toNat ≤ s.size
    · have hk : ttOk s = true := by
        simp only [ttOk, Bool.and_eq_true, decide_eq_true_eq]; omega
      refine (refTakeText_ok s w h hm hx).mono ?_
      rintro e w' ⟨rfl, hb⟩
      refine ⟨?_, hb⟩
      have e1 := ttS_eq s h
      have e2 := ttR_eq s h
      rw [hn] at e1 e2
      simp only [ttS, ttR, hk, if_true, hn, e1, e2]
    · have hk : ttOk s = false := by
        simp only [ttOk, Bool.and_eq_false_iff, decide_eq_false_iff_not]; omega
      refine (refTakeText_short s w h hm (by omega)).mono ?_
      rintro e w' ⟨rfl, rfl⟩
      exact ⟨by simp [ttS, ttR, hk], Below.refl _ _⟩
  · refine (refTakeText_none s w (empty_list s (by omega))).mono ?_
    rintro e w' ⟨rfl, rfl⟩
    have hk : ttOk s = false := by simp [ttOk]; omega
    exact ⟨by simp [ttS, ttR, hk], Below.refl _ _⟩
end Go.Proofs.Ytlbnakoaflladaa
