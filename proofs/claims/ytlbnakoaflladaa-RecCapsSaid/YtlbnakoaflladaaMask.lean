/-
  Contracts: is a number a mask, is a mask part of another one.
-/
import Derived.Test.YtlbnakoaflladaaBitsNat
namespace Go.Proofs.Ytlbnakoaflladaa
open Go.RowKit
set_option linter.unusedVariables false

def maskOk (n : Int) : Bool := decide (0 ≤ n ∧ n ≤ 65535)
def subB (a b : Int) : Bool := maskOk a && maskOk b && (a.toNat &&& b.toNat == a.toNat)

theorem andNot_zero (a b : Nat) (ha : a ≤ 65535) (hb : b ≤ 65535) : (bits .andNot .i64 (a : Int) (b : Int) == 0) = (a &&& b == a) := by
  have hA := ofInt_i64 a (by omega)
  have hB := ofInt_i64 b (by omega)
  have hle : (BitVec.ofInt 64 (a : Int) &&& ~~~ BitVec.ofInt 64 (b : Int)).toNat ≤ a := by
    rw [BitVec.toNat_and, hA]; exact Nat.and_le_left
  have e : bits .andNot .i64 (a : Int) (b : Int) = ((BitVec.ofInt 64 (a : Int) &&& ~~~ BitVec.ofInt 64 (b : Int)).toNat : Int) := by
    show IntKind.i64.wrap ((BitVec.ofInt 64 (a : Int) &&& ~~~ BitVec.ofInt 64 (b : Int)).toNat : Int) = _
    rw [IntKind.wrap_i64]; omega
  rw [e, Bool.eq_iff_iff, beq_iff_eq, beq_iff_eq]
  generalize hx : BitVec.ofInt 64 (a : Int) = A at *
  generalize hy : BitVec.ofInt 64 (b : Int) = B at *
  have h1 : ((A &&& ~~~ B).toNat : Int) = 0 ↔ A &&& ~~~ B = 0#64 := by
    rw [← BitVec.toNat_inj]; simp
  have h2 : a &&& b = a ↔ A &&& B = A := by
    rw [← BitVec.toNat_inj, BitVec.toNat_and, hA, hB]
  rw [h1, h2]
  constructor
  · intro h
    apply BitVec.eq_of_getLsbD_eq
    intro i hi
    have := congrArg (fun v : BitVec 64 => v.getLsbD i) h
    simp [hi] at this ⊢
    exact this
  · intro h
    apply BitVec.eq_of_getLsbD_eq
    intro i hi
    have := congrArg (fun v : BitVec 64 => v.getLsbD i) h
    simp [hi] at this ⊢
    exact this

set_option maxHeartbeats 400000 in
theorem isMask_is (n : Int) (v : Bool) (w : World) (hv : maskOk n = v) :
    Calls Try.prog 62 #[.int .i64 n] w fun e w' => e = .returned (.bool v) ∧ w = w' := by
  have H : Hid ((decide (0 ≤ n) && decide (n ≤ 65535)) = v) := by rw [← hv, maskOk, Bool.decide_and]; exact rfl
  clear hv
  by_cases h : n < 0
  all_goals
    go_enter Try.func62, Try.ntmps62
    go_wp2
    go_ret
    refine ⟨?_, rfl⟩
    rw [← H.out]
    exact ret_bool (by rw [Bool.eq_iff_iff]; simp; omega)
set_option maxHeartbeats 400000 in
theorem mask_is (n : Int) (v : Bool) (w : World) (hv : maskOk n = v) :
    Calls Try.prog 52 #[.int .i64 n] w fun e w' => e = .returned (.bool v) ∧ w = w' := by
  have H : Hid ((decide (0 ≤ n) && decide (n ≤ 65535)) = v) := by rw [← hv, maskOk, Bool.decide_and]; exact rfl
  clear hv
  by_cases h : n < 0
  all_goals
    go_enter Try.func52, Try.ntmps52
    go_wp2
    go_ret
    refine ⟨?_, rfl⟩
    rw [← H.out]
    exact ret_bool (by rw [Bool.eq_iff_iff]; simp; omega)

theorem sub_and (a b : Int) (h1 : maskOk a = true) (h2 : maskOk b = true) : (bits .andNot .i64 a b == 0) = subB a b ∧ (bits .and .i64 a b == a) = subB a b := by
  have h1' := h1
  have h2' := h2
  simp only [maskOk, decide_eq_true_eq] at h1' h2'
  have e1 := andNot_zero a.toNat b.toNat (by omega) (by omega)
  have e2 := i64_and_nat a.toNat b.toNat (by omega) (by omega)
  rw [Int.toNat_of_nonneg h1'.1, Int.toNat_of_nonneg h2'.1] at e1 e2
  refine ⟨by rw [e1, subB, h1, h2]; rfl, ?_⟩
  rw [e2, subB, h1, h2, Bool.eq_iff_iff]
  simp only [Bool.and_self, Bool.true_and, beq_iff_eq]
  omega
theorem sub_no (a b : Int) (h : (maskOk a && maskOk b) = false) : subB a b = false := by unfold subB; rw [h]; rfl
set_option maxHeartbeats 400000 in
theorem sub_any (a b : Int) (w : World) :
    Calls Try.prog 51 #[.int .i64 a, .int .i64 b] w fun e w' => e = .returned (.bool (subB a b)) ∧ w = w' := by
  cases h1 : maskOk a
  · have H1 := Lib.hid h1
    have G' := Lib.hid (sub_no a b (by rw [h1]; rfl))
    clear h1
    go_enter Try.func51, Try.ntmps51
    go_wp2_with fail
    refine (isMask_is _ false _ H1.out).mono ?_
    rintro e w1 ⟨rfl, rfl⟩
    go_wp2_with fail
    go_ret
    exact ⟨by rw [G'.out]; rfl, rfl⟩
  · cases h2 : maskOk b
    · have H1 := Lib.hid h1
      have H2 := Lib.hid h2
      have G' := Lib.hid (sub_no a b (by rw [h1, h2]; rfl))
      clear h1 h2
      go_enter Try.func51, Try.ntmps51
      go_wp2_with fail
      refine (isMask_is _ true _ H1.out).mono ?_
      rintro e w1 ⟨rfl, rfl⟩
      go_wp2_with fail
      refine (isMask_is _ false _ H2.out).mono ?_
      rintro e w1 ⟨rfl, rfl⟩
      go_wp2_with fail
      go_ret
      exact ⟨by rw [G'.out]; rfl, rfl⟩
    · have H1 := Lib.hid h1
      have H2 := Lib.hid h2
      have F' := Lib.hid (sub_and a b h1 h2)
      clear h1 h2
      go_enter Try.func51, Try.ntmps51
      go_wp2_with fail
      refine (isMask_is _ true _ H1.out).mono ?_
      rintro e w1 ⟨rfl, rfl⟩
      go_wp2_with fail
      refine (isMask_is _ true _ H2.out).mono ?_
      rintro e w1 ⟨rfl, rfl⟩
      go_wp2_with fail
      go_ret
      exact ⟨by rw [← F'.out.1]; rfl, rfl⟩
set_option maxHeartbeats 400000 in
theorem refSub_any (a b : Int) (w : World) :
    Calls Try.prog 36 #[.int .i64 a, .int .i64 b] w fun e w' => e = .returned (.bool (subB a b)) ∧ w = w' := by
  cases h1 : maskOk a
  · have H1 := Lib.hid h1
    have G' := Lib.hid (sub_no a b (by rw [h1]; rfl))
    clear h1
    go_enter Try.func36, Try.ntmps36
    go_wp2_with fail
    refine (mask_is _ false _ H1.out).mono ?_
    rintro e w1 ⟨rfl, rfl⟩
    go_wp2_with fail
    go_ret
    exact ⟨by rw [G'.out]; rfl, rfl⟩
  · cases h2 : maskOk b
    · have H1 := Lib.hid h1
      have H2 := Lib.hid h2
      have G' := Lib.hid (sub_no a b (by rw [h1, h2]; rfl))
      clear h1 h2
      go_enter Try.func36, Try.ntmps36
      go_wp2_with fail
      refine (mask_is _ true _ H1.out).mono ?_
      rintro e w1 ⟨rfl, rfl⟩
      go_wp2_with fail
      refine (mask_is _ false _ H2.out).mono ?_
      rintro e w1 ⟨rfl, rfl⟩
      go_wp2_with fail
      go_ret
      exact ⟨by rw [G'.out]; rfl, rfl⟩
    · have H1 := Lib.hid h1
      have H2 := Lib.hid h2
      have F' := Lib.hid (sub_and a b h1 h2)
      clear h1 h2
      go_enter Try.func36, Try.ntmps36
      go_wp2_with fail
      refine (mask_is _ true _ H1.out).mono ?_
      rintro e w1 ⟨rfl, rfl⟩
      go_wp2_with fail
      refine (mask_is _ true _ H2.out).mono ?_
      rintro e w1 ⟨rfl, rfl⟩
      go_wp2_with fail
      go_ret
      exact ⟨by rw [← F'.out.2]; rfl, rfl⟩
end Go.Proofs.Ytlbnakoaflladaa
