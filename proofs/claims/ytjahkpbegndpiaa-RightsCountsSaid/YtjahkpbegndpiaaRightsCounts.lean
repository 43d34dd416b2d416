import Derived.Test.YtjahkpbegndpiaaRightsCuts
namespace Go.Proofs.Ytjahkpbegndpiaa
open Go.RowKit
set_option linter.unusedVariables false

theorem or_cast (x y : Nat) (hx : x ≤ 65535) (hy : y ≤ 65535) : bits .or .i64 (x : Int) (y : Int) = ((x ||| y : Nat) : Int) := i64_or_nat x y (by omega) (by omega)
theorem and_or_self (x y : Nat) : x &&& (x ||| y) = x := by
  apply Nat.eq_of_testBit_eq
  intro i
  simp only [Nat.testBit_and, Nat.testBit_or]
  cases x.testBit i <;> simp
theorem or_and_eq (x y : Nat) : ((x ||| y) &&& x == (x ||| y)) = (y &&& x == y) := by
  rw [Bool.eq_iff_iff, beq_iff_eq, beq_iff_eq]
  constructor
  · intro h
    apply Nat.eq_of_testBit_eq
    intro i
    have := congrArg (fun n : Nat => n.testBit i) h
    simp only [Nat.testBit_and, Nat.testBit_or] at this ⊢
    cases hx : x.testBit i <;> cases hy : y.testBit i <;> simp_all
  · intro h
    apply Nat.eq_of_testBit_eq
    intro i
    have := congrArg (fun n : Nat => n.testBit i) h
    simp only [Nat.testBit_and, Nat.testBit_or] at this ⊢
    cases hx : x.testBit i <;> cases hy : y.testBit i <;> simp_all

set_option maxHeartbeats 2000000 in
theorem rightsCounts_walk (x y o k p q r t : Nat) (n : Int) (v mk : Bool) (w : World) (hx : x ≤ 65535) (hy : y ≤ 65535) (p16 : p ≤ 16) (q16 : q ≤ 16) (r16 : r ≤ 16) (t16 : t ≤ 16)
    (ho : bits .or .i64 (x : Int) (y : Int) = (o : Int)) (f1 : Hid (cntN x = p)) (f2 : Hid (cntN y = q)) (f3 : Hid (cntN o = r)) (f4 : Hid (cutN x y = k)) (f5 : Hid (cntN k = t)) (f6 : Hid (subB x o = true)) (f7 : Hid (subB o x = v)) (f8 : Hid (subB y x = v)) (f9 : Hid (subB n n = mk))
    (hs : p + q ≤ r + t) (hs' : r + t ≤ p + q) (hm : (mk = true ∧ 0 ≤ n ∧ n < 65536) ∨ (mk = false ∧ n < 0) ∨ (mk = false ∧ 0 ≤ n ∧ 65536 ≤ n)) (g1 : Hid (mk = false → cntN n = 0 ∧ cutN n x = 0 ∧ subB x n = false)) :
    Calls Try.prog 8 #[.int .u16 (x : Int), .int .u16 (y : Int), .int .i64 n] w fun e w' => e = .returned (.bool true) ∧ Below w.heap.size w w' := by
  rcases hm with ⟨rfl, n0, n1⟩ | ⟨rfl, n0⟩ | ⟨rfl, n0, n1⟩
  all_goals
    cases v
    all_goals
      go_enter Try.func8, Try.ntmps8
      go_wp2_with fail
      refine (examples_any _).mono ?_
      rintro e w1 ⟨rfl, bb⟩
      go_wp2_with fail
      refine (count_any _ _).mono ?_
      rw [f1.out]
      rintro e w2 ⟨rfl, rfl⟩
      go_wp2_with fail
      refine (count_any _ _).mono ?_
      rw [f2.out]
      rintro e w2 ⟨rfl, rfl⟩
      go_wp2_with fail
      refine (count_any _ _).mono ?_
      rw [f3.out]
      rintro e w2 ⟨rfl, rfl⟩
      go_wp2_with fail
      refine (cut_any _ _ _).mono ?_
      rw [f4.out]
      rintro e w2 ⟨rfl, rfl⟩
      go_wp2_with fail
      refine (count_any _ _).mono ?_
      rw [f5.out]
      rintro e w2 ⟨rfl, rfl⟩
      go_wp2_with fail
      refine (sub_any _ _ _).mono ?_
      rw [f6.out]
      rintro e w2 ⟨rfl, rfl⟩
      go_wp2_with fail
      refine (sub_any _ _ _).mono ?_
      rw [f7.out]
      rintro e w2 ⟨rfl, rfl⟩
      go_wp2_with fail
      refine (sub_any _ _ _).mono ?_
      rw [f8.out]
      rintro e w2 ⟨rfl, rfl⟩
      go_wp2_with fail
      refine (sub_any _ _ _).mono ?_
      rw [f9.out]
      rintro e w2 ⟨rfl, rfl⟩
      go_wp2_with fail
      first
        | (have G := g1.out (by simp; done)
           refine (count_any _ _).mono ?_
           rw [G.1]
           rintro e w2 ⟨rfl, rfl⟩
           have G1 := Lib.hid G
           clear G
           go_wp2_with fail
           refine (cut_any _ _ _).mono ?_
           rw [G1.out.2.1]
           rintro e w2 ⟨rfl, rfl⟩
           go_wp2_with fail
           refine (sub_any _ _ _).mono ?_
           rw [G1.out.2.2]
           rintro e w2 ⟨rfl, rfl⟩
           go_wp2_with fail)
        | skip
      all_goals go_ret
      all_goals refine ⟨ret_true ?_, bb⟩
      all_goals first | (simp; done) | (simp; omega)
theorem maskOk_is (n : Int) : maskOk n = decide (0 ≤ n ∧ n ≤ 65535) := rfl
theorem subB_self (n : Int) : subB n n = maskOk n := by
  unfold subB
  rw [Nat.and_self]
  cases maskOk n <;> simp
theorem rightsCounts_law (a0 a1 a2 : Int) (w : World) (w0 : (Lit.int .u16 a0).wf = true) (w1 : (Lit.int .u16 a1).wf = true) (_w2 : (Lit.int .i64 a2).wf = true) :
    Calls Try.prog 8 #[.int .u16 a0, .int .u16 a1, .int .i64 a2] w fun e w' => e = .returned (.bool true) ∧ Below w.heap.size w w' := by
  have h0 := bounds_u16 w0
  have h1 := bounds_u16 w1
  obtain ⟨x, rfl⟩ := Int.eq_ofNat_of_zero_le h0.1
  obtain ⟨y, rfl⟩ := Int.eq_ofNat_of_zero_le h1.1
  have hx : x ≤ 65535 := by omega
  have hy : y ≤ 65535 := by omega
  have hk := and_le' x y hx
  have ho := or_le' x y hx hy
  have hs := pc_and_or 16 x y
  refine rightsCounts_walk x y (x ||| y) (x &&& y) _ _ _ _ a2 _ _ w hx hy (pc_le 16 x) (pc_le 16 y) (pc_le 16 (x ||| y)) (pc_le 16 (x &&& y)) (or_cast x y hx hy) (Lib.hid (cntN_nat x hx)) (Lib.hid (cntN_nat y hy)) (Lib.hid (cntN_nat _ ho)) (Lib.hid (cutN_nat x y hx hy)) (Lib.hid (cntN_nat _ hk)) (Lib.hid ?_) (Lib.hid (subB_nat _ x ho hx)) (Lib.hid ?_) (Lib.hid (subB_self a2)) (by omega) (by omega) ?_ (Lib.hid ?_)
  · rw [subB_nat x _ hx ho, beq_iff_eq]; exact and_or_self x y
  · rw [subB_nat y x hy hx]; exact (or_and_eq x y).symm
  · rw [maskOk_is]
    by_cases c1 : 0 ≤ a2
    · by_cases c2 : a2 < 65536
      · exact .inl ⟨by simp; omega, c1, c2⟩
      · exact .inr (.inr ⟨by simp; omega, c1, by omega⟩)
    · exact .inr (.inl ⟨by simp; omega, by omega⟩)
  · intro hm
    exact ⟨cnt_no a2 hm, by simp [cutN, hm], by simp [subB, hm]⟩
end Go.Proofs.Ytjahkpbegndpiaa
