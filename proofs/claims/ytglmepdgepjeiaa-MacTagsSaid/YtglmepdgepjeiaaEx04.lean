/-
  Same; the chapter's examples.
-/
import Derived.Test.YtglmepdgepjeiaaMac
import Derived.Test.YtglmepdgepjeiaaRefHex
namespace Go.Proofs.Ytglmepdgepjeiaa
open Go.RowKit
set_option linter.unusedVariables false

theorem mac_ex : macB ⟨#[107, 101, 121]⟩ ⟨#[84, 104, 101, 32, 113, 117, 105, 99, 107, 32, 98, 114, 111, 119, 110, 32, 102, 111, 120, 32, 106, 117, 109, 112, 115, 32, 111, 118, 101, 114, 32, 116, 104, 101, 32, 108, 97, 122, 121, 32, 100, 111, 103]⟩ = ⟨#[247, 188, 131, 244, 48, 83, 132, 36, 177, 50, 152, 230, 170, 111, 177, 67, 239, 77, 89, 161, 73, 70, 23, 89, 151, 71, 157, 188, 45, 26, 60, 216]⟩ := by decide +kernel
theorem hex_ex : hexB ⟨#[247, 188, 131, 244, 48, 83, 132, 36, 177, 50, 152, 230, 170, 111, 177, 67, 239, 77, 89, 161, 73, 70, 23, 89, 151, 71, 157, 188, 45, 26, 60, 216]⟩ = ⟨#[102, 55, 98, 99, 56, 51, 102, 52, 51, 48, 53, 51, 56, 52, 50, 52, 98, 49, 51, 50, 57, 56, 101, 54, 97, 97, 54, 102, 98, 49, 52, 51, 101, 102, 52, 100, 53, 57, 97, 49, 52, 57, 52, 54, 49, 55, 53, 57, 57, 55, 52, 55, 57, 100, 98, 99, 50, 100, 49, 97, 51, 99, 100, 56]⟩ := by decide +kernel
/-- Byte i, or 0 behind the end. -/
def atN (s : ByteArray) (i : Nat) : Nat := (s.data.toList.getD i 0).toNat
theorem atN_lt (s : ByteArray) (i : Nat) : atN s i < 256 := UInt8.toNat_lt _
set_option maxHeartbeats 400000 in
theorem at_any (s : ByteArray) (i : Nat) (w : World) :
    Calls Try.prog 18 #[.string s, .int .i64 (i : Int)] w fun e w' => e = .returned (.int .u8 (atN s i : Int)) ∧ w = w' := by
  by_cases h : i < s.size
  · have hi : (i : Int) < (s.size : Int) := by omega
    have hv : s[i].toNat = atN s i := by
      unfold atN
      rw [List.getD_eq_getElem?_getD, List.getElem?_eq_getElem (by simpa using h)]
      simp [ByteArray.getElem_eq_getElem_data]
    go_enter Try.func18, Try.ntmps18
    go_wp2_with fail
    go_ret
    exact ⟨rfl, rfl⟩
  · have hi : ¬ (i : Int) < (s.size : Int) := by omega
    have hv : atN s i = 0 := by
      unfold atN
      rw [List.getD_eq_getElem?_getD, List.getElem?_eq_none (by simp; omega)]
      rfl
    rw [hv]
    go_enter Try.func18, Try.ntmps18
    go_wp2_with fail
    go_ret
    exact ⟨rfl, rfl⟩
/-- How the first n bytes differ. -/
def diff (a b : ByteArray) : Nat → Nat
  | 0 => 0
  | n + 1 => diff a b n ||| (atN a n ^^^ atN b n)
theorem xor_lt8 {a b : Nat} (ha : a < 256) (hb : b < 256) : a ^^^ b < 256 := Nat.xor_lt_two_pow (n := 8) ha hb
theorem diff_lt (a b : ByteArray) (n : Nat) : diff a b n < 256 := by
  induction n with
  | zero => exact (by decide : (0 : Nat) < 256)
  | succ n ih => exact Nat.or_lt_two_pow (n := 8) ih (xor_lt8 (atN_lt _ _) (atN_lt _ _))
theorem xor_zero {a b : Nat} : a ^^^ b = 0 ↔ a = b := by
  constructor
  · intro h
    apply Nat.eq_of_testBit_eq
    intro i
    have := congrArg (Nat.testBit · i) h
    simpa using this
  · rintro rfl
    exact Nat.xor_self _
theorem diff_zero (a b : ByteArray) (n : Nat) : diff a b n = 0 ↔ ∀ i, i < n → atN a i = atN b i := by
  induction n with
  | zero => simp [diff]
  | succ n ih =>
    have h1 : diff a b (n + 1) = 0 ↔ diff a b n = 0 ∧ atN a n ^^^ atN b n = 0 := by
      show diff a b n ||| _ = 0 ↔ _
      exact Nat.or_eq_zero_iff
    rw [h1, ih, xor_zero]
    constructor
    · intro ⟨h, h'⟩ i hi
      rcases Nat.lt_succ_iff_lt_or_eq.1 hi with hi | rfl
      · exact h i hi
      · exact h'
    · intro h
      exact ⟨fun i hi => h i (by omega), h n (by omega)⟩
theorem same_iff (a b : ByteArray) (n : Nat) (h : n = max a.size b.size) : (diff a b n = 0 ∧ a.size = b.size) ↔ a = b := by
  constructor
  · rintro ⟨hd, hs⟩
    rw [diff_zero] at hd
    apply eq_of_data
    apply List.ext_getElem (by simpa using hs)
    intro i h1 h2
    have := hd i (by simp at h1; omega)
    unfold atN at this
    rw [List.getD_eq_getElem?_getD, List.getD_eq_getElem?_getD, List.getElem?_eq_getElem h1, List.getElem?_eq_getElem h2] at this
    exact UInt8.toNat_inj.1 this
  · rintro rfl
    exact ⟨(diff_zero _ _ _).2 fun _ _ => rfl, rfl⟩
theorem u8_or_nat (a b : Nat) (ha : a < 256) (hb : b < 256) : bits .or .u8 (a : Int) (b : Int) = ((a ||| b : Nat) : Int) := by
  have hx : a ||| b < 2 ^ 8 := Nat.or_lt_two_pow (by omega) (by omega)
  have h8 : ∀ a : Nat, a < 256 → (BitVec.ofInt 8 (a : Int)).toNat = a := fun a ha => by
    rw [BitVec.ofInt_natCast, BitVec.toNat_ofNat]; exact Nat.mod_eq_of_lt (by omega)
  show IntKind.u8.wrap ((BitVec.ofInt 8 (a : Int) ||| BitVec.ofInt 8 (b : Int)).toNat : Int) = _
  rw [BitVec.toNat_or, h8 a ha, h8 b hb, IntKind.wrap_u8]
  omega
set_option maxHeartbeats 1600000 in
theorem same_lt (a b : ByteArray) (v : Bool) (w : World) (ha : a.size ≤ 9223372036854775807) (hb : b.size ≤ 9223372036854775807) (hab : (a.size : Int) < (b.size : Int)) (hv : Hid (decide (diff a b b.size = 0 ∧ a.size = b.size) = v)) :
    Calls Try.prog 12 #[.string a, .string b] w fun e w' => e = .returned (.bool v) ∧ w = w' := by
  go_enter Try.func12, Try.ntmps12
  go_wp2_with fail
  go_loop [5, 12] (fun d i => ∃ n : Nat, n ≤ b.size ∧ d = .int .u8 (diff a b n : Int) ∧ i = .int .i64 (n : Int)) (fun _ i => b.size + 1 - (intOf i).toNat)
  case atStart => exact ⟨0, by omega, rfl, rfl⟩
  case round =>
    obtain ⟨n, hn, rfl, rfl⟩ := hrel
    by_cases hlt : n < b.size
    · have hli : (n : Int) < (b.size : Int) := by omega
      have hx := u8_xor_nat (atN a n) (atN b n) (atN_lt _ _) (atN_lt _ _)
      have ho := u8_or_nat (diff a b n) (atN a n ^^^ atN b n) (diff_lt _ _ _) (xor_lt8 (atN_lt _ _) (atN_lt _ _))
      have ST : Hid (diff a b (n + 1) = diff a b n ||| (atN a n ^^^ atN b n)) := Lib.hid rfl
      have A1 := fun w : World => at_any a n w
      have A2 := fun w : World => at_any b n w
      generalize atN a n = x at *
      generalize atN b n = y at *
      generalize x ^^^ y = z at *
      generalize diff a b n = d at *
      generalize d ||| z = d2 at *
      go_wp2_with fail
      refine (A1 _).mono ?_
      rintro e w1 ⟨rfl, rfl⟩
      go_wp2_with fail
      refine (A2 _).mono ?_
      rintro e w1 ⟨rfl, rfl⟩
      go_wp2_with fail
      go_round
      case rel => exact ⟨n + 1, by omega, by rw [ST.out], by go_num⟩
      case measure => simp [intOf]; omega
    · obtain rfl : n = b.size := by omega
      have hli : ¬ ((b.size : Int) < (b.size : Int)) := by omega
      generalize diff a b b.size = d at *
      by_cases h0 : d = 0
      · have h0i : (d : Int) = 0 := by omega
        go_wp2_with fail
        go_ret
        refine ⟨ret_bool ?_, rfl⟩
        rw [← hv.out]
        simp [h0]
        try (rw [Bool.eq_iff_iff]; simp only [beq_iff_eq, decide_eq_true_eq]; omega)
      · have h0i : ¬ ((d : Int) = 0) := by omega
        go_wp2_with fail
        go_ret
        refine ⟨ret_bool ?_, rfl⟩
        rw [← hv.out]
        simp [h0]
        try (rw [Bool.eq_iff_iff]; simp only [beq_iff_eq, decide_eq_true_eq]; omega)
set_option maxHeartbeats 1600000 in
theorem same_ge (a b : ByteArray) (v : Bool) (w : World) (ha : a.size ≤ 9223372036854775807) (hb : b.size ≤ 9223372036854775807) (hab : (b.size : Int) ≤ (a.size : Int)) (hv : Hid (decide (diff a b a.size = 0 ∧ a.size = b.size) = v)) :
    Calls Try.prog 12 #[.string a, .string b] w fun e w' => e = .returned (.bool v) ∧ w = w' := by
  go_enter Try.func12, Try.ntmps12
  go_wp2_with fail
  go_loop [5, 12] (fun d i => ∃ n : Nat, n ≤ a.size ∧ d = .int .u8 (diff a b n : Int) ∧ i = .int .i64 (n : Int)) (fun _ i => a.size + 1 - (intOf i).toNat)
  case atStart => exact ⟨0, by omega, rfl, rfl⟩
  case round =>
    obtain ⟨n, hn, rfl, rfl⟩ := hrel
    by_cases hlt : n < a.size
    · have hli : (n : Int) < (a.size : Int) := by omega
      have hx := u8_xor_nat (atN a n) (atN b n) (atN_lt _ _) (atN_lt _ _)
      have ho := u8_or_nat (diff a b n) (atN a n ^^^ atN b n) (diff_lt _ _ _) (xor_lt8 (atN_lt _ _) (atN_lt _ _))
      have ST : Hid (diff a b (n + 1) = diff a b n ||| (atN a n ^^^ atN b n)) := Lib.hid rfl
      have A1 := fun w : World => at_any a n w
      have A2 := fun w : World => at_any b n w
      generalize atN a n = x at *
      generalize atN b n = y at *
      generalize x ^^^ y = z at *
      generalize diff a b n = d at *
      generalize d ||| z = d2 at *
      go_wp2_with fail
      refine (A1 _).mono ?_
      rintro e w1 ⟨rfl, rfl⟩
      go_wp2_with fail
      refine (A2 _).mono ?_
      rintro e w1 ⟨rfl, rfl⟩
      go_wp2_with fail
      go_round
      case rel => exact ⟨n + 1, by omega, by rw [ST.out], by go_num⟩
      case measure => simp [intOf]; omega
    · obtain rfl : n = a.size := by omega
      have hli : ¬ ((a.size : Int) < (a.size : Int)) := by omega
      generalize diff a b a.size = d at *
      by_cases h0 : d = 0
      · have h0i : (d : Int) = 0 := by omega
        go_wp2_with fail
        go_ret
        refine ⟨ret_bool ?_, rfl⟩
        rw [← hv.out]
        simp [h0]
        try (rw [Bool.eq_iff_iff]; simp only [beq_iff_eq, decide_eq_true_eq]; omega)
      · have h0i : ¬ ((d : Int) = 0) := by omega
        go_wp2_with fail
        go_ret
        refine ⟨ret_bool ?_, rfl⟩
        rw [← hv.out]
        simp [h0]
        try (rw [Bool.eq_iff_iff]; simp only [beq_iff_eq, decide_eq_true_eq]; omega)
theorem same_is (a b : ByteArray) (w : World) (ha : a.size ≤ 9223372036854775807) (hb : b.size ≤ 9223372036854775807) :
    Calls Try.prog 12 #[.string a, .string b] w fun e w' => e = .returned (.bool (decide (a = b))) ∧ w = w' := by
  rcases Int.lt_or_le (a.size : Int) (b.size : Int) with h | h
  · exact same_lt a b _ w ha hb h (Lib.hid (by rw [decide_eq_decide]; exact same_iff a b _ (by omega)))
  · exact same_ge a b _ w ha hb h (Lib.hid (by rw [decide_eq_decide]; exact same_iff a b _ (by omega)))
set_option maxHeartbeats 800000 in
theorem examples_any (w : World) :
    Calls Try.prog 7 #[] w fun e w' => e = .returned (.bool true) ∧ Below w.heap.size w w' := by
  go_enter Try.func7, Try.ntmps7
  go_wp2_with fail
  refine (mac_is _ _ _ (by decide) (by decide)).mono ?_
  rw [mac_ex]
  rintro e w1 ⟨rfl, bb⟩
  go_wp2_with fail
  refine (refHex_is _ _ (by decide)).mono ?_
  rw [hex_ex]
  rintro e w2 ⟨rfl, b2⟩
  replace bb := chain bb b2
  clear b2
  go_wp2_with fail
  refine (same_is _ _ _ (by decide) (by decide)).mono ?_
  rw [show decide ((⟨#[97]⟩ : ByteArray) = ⟨#[97]⟩) = true from by decide]
  rintro e w2 ⟨rfl, rfl⟩
  go_wp2_with fail
  go_ret
  exact ⟨rfl, bb⟩
end Go.Proofs.Ytglmepdgepjeiaa
