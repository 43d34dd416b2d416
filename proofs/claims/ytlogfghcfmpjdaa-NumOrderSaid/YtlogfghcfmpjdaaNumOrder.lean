import Derived.Test.YtlogfghcfmpjdaaEx01
namespace Go.Proofs.Ytlogfghcfmpjdaa
open Go.RowKit

theorem be_less (s n m : Nat) (hn : n < 256 ^ s) (hm : m < 256 ^ s) : Op.bytesLess (M.be s n) (M.be s m) = decide (n < m) := by
  induction s generalizing n m with
  | zero =>
    simp at hn hm; subst hn; subst hm; simp [M.be, Op.bytesLess]
  | succ s ih =>
    rw [M.be_cons s n hn, M.be_cons s m hm]
    have hp : 0 < 256 ^ s := Nat.pow_pos (by decide)
    have h1 := Nat.div_add_mod n (256 ^ s)
    have h2 := Nat.div_add_mod m (256 ^ s)
    have h3 := Nat.mod_lt n hp
    have h4 := Nat.mod_lt m hp
    have d1 : n / 256 ^ s < 256 := Nat.div_lt_of_lt_mul (by rwa [Nat.pow_succ] at hn)
    have d2 : m / 256 ^ s < 256 := Nat.div_lt_of_lt_mul (by rwa [Nat.pow_succ] at hm)
    rw [Op.bytesLess, ih _ _ h3 h4]
    generalize n / 256 ^ s = a at *
    generalize m / 256 ^ s = b at *
    generalize n % 256 ^ s = x at *
    generalize m % 256 ^ s = y at *
    generalize 256 ^ s = p at *
    subst h1; subst h2
    have ea : (UInt8.ofNat a < UInt8.ofNat b) ↔ a < b := by
      rw [UInt8.lt_iff_toNat_lt, UInt8.toNat_ofNat', UInt8.toNat_ofNat']; omega
    have eb : (UInt8.ofNat a = UInt8.ofNat b) ↔ a = b := by
      rw [← UInt8.toNat_inj, UInt8.toNat_ofNat', UInt8.toNat_ofNat']; omega
    rw [Bool.eq_iff_iff]
    simp only [Bool.or_eq_true, Bool.and_eq_true, decide_eq_true_eq, beq_iff_eq, ea, eb]
    constructor
    · rintro (h | ⟨h, h'⟩)
      · have : p * (a + 1) ≤ p * b := Nat.mul_le_mul_left _ (by omega)
        rw [Nat.mul_add] at this; omega
      · subst h; omega
    · intro h
      by_cases hab : a < b
      · exact .inl hab
      · by_cases e : a = b
        · subst e; exact .inr ⟨rfl, by omega⟩
        · have : p * (b + 1) ≤ p * a := Nat.mul_le_mul_left _ (by omega)
          rw [Nat.mul_add] at this; omega

theorem putE_cases (n size : Int) : (putE n size = 0 ∧ putOk n size = true) ∨ (putE n size = 1 ∧ putOk n size = false) := by
  unfold putE; cases h : putOk n size <;> simp
theorem putE_zero {n size : Int} (h : putE n size = 0) : putOk n size = true := by
  rcases putE_cases n size with ⟨_, h'⟩ | ⟨h', _⟩
  · exact h'
  · omega
theorem putOk_lt {n size : Int} (h0 : 0 ≤ n) (h : putOk n size = true) : n.toNat < 256 ^ size.toNat ∧ 1 ≤ size ∧ size ≤ 8 := by
  simp only [putOk, Bool.and_eq_true, decide_eq_true_eq, beq_iff_eq] at h
  obtain ⟨⟨h1, h8⟩, h⟩ := h
  refine ⟨?_, h1, h8⟩
  obtain ⟨a, rfl⟩ := Int.eq_ofNat_of_zero_le h0
  obtain ⟨s, rfl⟩ := Int.eq_ofNat_of_zero_le (show 0 ≤ size by omega)
  rw [show (8 * (s : Int)).toNat = 8 * s by omega] at h
  have h' : a / 2 ^ (8 * s) = 0 := by exact_mod_cast h
  have hp : 0 < 2 ^ (8 * s) := Nat.pow_pos (by decide)
  have e : (256 : Nat) ^ s = 2 ^ (8 * s) := by rw [Nat.pow_mul]
  simp only [Int.toNat_natCast]
  rw [e]
  exact (Nat.div_eq_zero_iff_lt hp).1 h'
theorem order_fact {n m size : Int} (h0 : 0 ≤ n) (h1 : 0 ≤ m) (hn : putE n size = 0) (hm : putE m size = 0) :
    Op.bytesLess (Str (putL n size)).toList (Str (putL m size)).toList = decide (n < m) ∧ ((n == m) == ((Str (putL n size)).toList == (Str (putL m size)).toList)) = true := by
  have kn := putE_zero hn
  have km := putE_zero hm
  obtain ⟨ln, s1, s8⟩ := putOk_lt h0 kn
  obtain ⟨lm, _, _⟩ := putOk_lt h1 km
  rw [toList_data, toList_data, Str_list, Str_list]
  simp only [putL, kn, km, if_true]
  rw [be_less _ _ _ ln lm]
  refine ⟨by rw [decide_eq_decide]; omega, ?_⟩
  rw [beq_iff_eq, Bool.eq_iff_iff, beq_iff_eq, beq_iff_eq]
  constructor
  · rintro rfl; rfl
  · intro h; have := M.be_inj ln lm h; omega

set_option maxHeartbeats 400000 in
theorem numOrder_walk (n m size : Int) (w : World) (h0 : 0 ≤ n) (h1 : 0 ≤ m) :
    Calls Try.prog 6 #[.int .u64 n, .int .u64 m, .int .i64 size] w fun e w' => e = .returned (.bool true) ∧ Below w.heap.size w w' := by
  go_enter Try.func6, Try.ntmps6
  go_wp2_with fail
  refine (examples_any _).mono ?_
  rintro e w1 ⟨rfl, b1⟩
  go_wp2_with fail
  refine (put_any _ _ _ (by omega)).mono ?_
  rintro e w2 ⟨rfl, b2⟩
  go_wp2_with fail
  refine (put_any _ _ _ (by omega)).mono ?_
  rintro e w3 ⟨rfl, b3⟩
  have b : Below w.heap.size w w3 := (b1.trans (b2.mono b1.size)).trans (b3.mono (Nat.le_trans b1.size b2.size))
  clear b1 b2 b3
  have cn := putE_cases n size
  have cm := putE_cases m size
  have CN := Lib.hid cn
  have CM := Lib.hid cm
  clear cn cm
  go_wp2_with fail
  all_goals go_ret
  all_goals refine ⟨ret_true ?_, b⟩
  · rcases CM.out with ⟨h, _⟩ | ⟨h, _⟩ <;> simp_all
  · exact (order_fact h0 h1 (by assumption) (by simpa using ‹(putE m size != 0) = false›)).2
  · have := (order_fact h0 h1 (by assumption) (by simpa using ‹(putE m size != 0) = false›)).1
    exact absurd this.symm (by assumption)
  · rfl
  · rcases CN.out with ⟨h, _⟩ | ⟨h, _⟩ <;> simp_all
theorem numOrder_law (a0 a1 a2 : Int) (w : World) (w0 : (Lit.int .u64 a0).wf = true) (w1 : (Lit.int .u64 a1).wf = true) (_w2 : (Lit.int .i64 a2).wf = true) :
    Calls Try.prog 6 #[.int .u64 a0, .int .u64 a1, .int .i64 a2] w fun e w' => e = .returned (.bool true) ∧ Below w.heap.size w w' :=
  numOrder_walk a0 a1 a2 w (bounds_u64 w0).1 (bounds_u64 w1).1
end Go.Proofs.Ytlogfghcfmpjdaa
