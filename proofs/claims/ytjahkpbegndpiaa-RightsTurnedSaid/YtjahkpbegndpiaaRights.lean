/-
  Contracts of the masks of package rights, and of bailiwickref05.
-/
import Derived.Test.YtjahkpbegndpiaaOnes
namespace Go.Proofs.Ytjahkpbegndpiaa
open Go.RowKit
set_option linter.unusedVariables false

def maskOk (n : Int) : Bool := decide (0 ≤ n ∧ n ≤ 65535)
def cutN (a b : Int) : Int := if maskOk a && maskOk b then ((a.toNat &&& b.toNat : Nat) : Int) else 0
def subB (a b : Int) : Bool := maskOk a && maskOk b && (a.toNat &&& b.toNat == a.toNat)
def cntN (m : Int) : Int := if maskOk m then (pc 16 m.toNat : Int) else 0

theorem andNot_zero (a b : Nat) (ha : a ≤ 65535) (hb : b ≤ 65535) : (bits .andNot .i64 (a : Int) (b : Int) == 0) = (a &&& b == a) := by
  have hA := ofInt_i64 a (by omega)
  have hB := ofInt_i64 b (by omega)
  have hle : (BitVec.ofInt 64 (a : Int) &&& ~~~ BitVec.ofInt 64 (b : Int)).toNat ≤ a := by
    rw [BitVec.toNat_and, hA]; exact Nat.and_le_left
  have e : bits .andNot .i64 (a : Int) (b : Int) = ((BitVec.ofInt 64 (a : Int) &&& ~~~ BitVec.ofInt 64 (b : Int)).toNat : Int) := by
    show IntKind.i64.wrap ((BitVec.ofInt 64 (a : Int) &&& ~~~ BitVec.ofInt 64 (b : Int)).toNat : Int) = _
    rw [IntKind.wrap_i64]; omega
  rw [e, Bool.eq_iff_iff, beq_iff_eq, beq_iff_eq]
  generalize hx : BitVec.ofInt 64 (a : Int) = A at *
  generalize hy : BitVec.ofInt 64 (b : Int) = B at *
  have h1 : ((A &&& ~~~ B).toNat : Int) = 0 ↔ A &&& ~~~ B = 0#64 := by
    rw [← BitVec.toNat_inj]; simp
  have h2 : a &&& b = a ↔ A &&& B = A := by
    rw [← BitVec.toNat_inj, BitVec.toNat_and, hA, hB]
  rw [h1, h2]
  constructor
  · intro h
    apply BitVec.eq_of_getLsbD_eq
    intro i hi
    have := congrArg (fun v : BitVec 64 => v.getLsbD i) h
    simp [hi] at this ⊢
    exact this
  · intro h
    apply BitVec.eq_of_getLsbD_eq
    intro i hi
    have := congrArg (fun v : BitVec 64 => v.getLsbD i) h
    simp [hi] at this ⊢
    exact this

set_option maxHeartbeats 400000 in
theorem isMask_is (n : Int) (v : Bool) (w : World) (hv : maskOk n = v) :
    Calls Try.prog 20 #[.int .i64 n] w fun e w' => e = .returned (.bool v) ∧ w = w' := by
  have H : Hid ((decide (0 ≤ n) && decide (n ≤ 65535)) = v) := by rw [← hv, maskOk, Bool.decide_and]; exact rfl
  clear hv
  by_cases h : n < 0
  all_goals
    go_enter Try.func20, Try.ntmps20
    go_wp2
    go_ret
    refine ⟨?_, rfl⟩
    rw [← H.out]
    exact ret_bool (by rw [Bool.eq_iff_iff]; simp; omega)
set_option maxHeartbeats 400000 in
theorem mask_is (n : Int) (v : Bool) (w : World) (hv : maskOk n = v) :
    Calls Try.prog 21 #[.int .i64 n] w fun e w' => e = .returned (.bool v) ∧ w = w' := by
  have H : Hid ((decide (0 ≤ n) && decide (n ≤ 65535)) = v) := by rw [← hv, maskOk, Bool.decide_and]; exact rfl
  clear hv
  by_cases h : n < 0
  all_goals
    go_enter Try.func21, Try.ntmps21
    go_wp2
    go_ret
    refine ⟨?_, rfl⟩
    rw [← H.out]
    exact ret_bool (by rw [Bool.eq_iff_iff]; simp; omega)

set_option maxHeartbeats 400000 in
theorem cut_any (a b : Int) (w : World) :
    Calls Try.prog 16 #[.int .i64 a, .int .i64 b] w fun e w' => e = .returned (.int .i64 (cutN a b)) ∧ w = w' := by
  have F : Hid (maskOk a = true → maskOk b = true → bits .and .i64 a b = cutN a b) := by
    intro h1 h2
    have h1' := h1
    have h2' := h2
    simp only [maskOk, decide_eq_true_eq] at h1' h2'
    have := i64_and_nat a.toNat b.toNat (by omega) (by omega)
    rw [Int.toNat_of_nonneg h1'.1, Int.toNat_of_nonneg h2'.1] at this
    rw [this, cutN, h1, h2]; rfl
  have G : Hid ((maskOk a && maskOk b) = false → cutN a b = 0) := fun h => by unfold cutN; rw [h]; rfl
  cases h1 : maskOk a
  · have H1 := Lib.hid h1
    clear h1
    have G' := Lib.hid (G.out (by rw [H1.out]; rfl))
    go_enter Try.func16, Try.ntmps16
    go_wp2_with fail
    refine (isMask_is _ false _ H1.out).mono ?_
    rintro e w1 ⟨rfl, rfl⟩
    go_wp2_with fail
    go_ret
    exact ⟨by rw [G'.out]; rfl, rfl⟩
  · have H1 := Lib.hid h1
    clear h1
    cases h2 : maskOk b
    · have H2 := Lib.hid h2
      clear h2
      have G' := Lib.hid (G.out (by rw [H1.out, H2.out]; rfl))
      go_enter Try.func16, Try.ntmps16
      go_wp2_with fail
      refine (isMask_is _ true _ H1.out).mono ?_
      rintro e w1 ⟨rfl, rfl⟩
      go_wp2_with fail
      refine (isMask_is _ false _ H2.out).mono ?_
      rintro e w1 ⟨rfl, rfl⟩
      go_wp2_with fail
      go_ret
      exact ⟨by rw [G'.out]; rfl, rfl⟩
    · have H2 := Lib.hid h2
      clear h2
      have F' := Lib.hid (F.out H1.out H2.out)
      go_enter Try.func16, Try.ntmps16
      go_wp2_with fail
      refine (isMask_is _ true _ H1.out).mono ?_
      rintro e w1 ⟨rfl, rfl⟩
      go_wp2_with fail
      refine (isMask_is _ true _ H2.out).mono ?_
      rintro e w1 ⟨rfl, rfl⟩
      go_wp2_with fail
      go_ret
      exact ⟨by rw [← F'.out]; rfl, rfl⟩
set_option maxHeartbeats 400000 in
theorem refCut_any (a b : Int) (w : World) :
    Calls Try.prog 17 #[.int .i64 a, .int .i64 b] w fun e w' => e = .returned (.int .i64 (cutN a b)) ∧ w = w' := by
  have F : Hid (maskOk a = true → maskOk b = true → bits .and .i64 a b = cutN a b) := by
    intro h1 h2
    have h1' := h1
    have h2' := h2
    simp only [maskOk, decide_eq_true_eq] at h1' h2'
    have := i64_and_nat a.toNat b.toNat (by omega) (by omega)
    rw [Int.toNat_of_nonneg h1'.1, Int.toNat_of_nonneg h2'.1] at this
    rw [this, cutN, h1, h2]; rfl
  have G : Hid ((maskOk a && maskOk b) = false → cutN a b = 0) := fun h => by unfold cutN; rw [h]; rfl
  cases h1 : maskOk a
  · have H1 := Lib.hid h1
    clear h1
    have G' := Lib.hid (G.out (by rw [H1.out]; rfl))
    go_enter Try.func17, Try.ntmps17
    go_wp2_with fail
    refine (mask_is _ false _ H1.out).mono ?_
    rintro e w1 ⟨rfl, rfl⟩
    go_wp2_with fail
    go_ret
    exact ⟨by rw [G'.out]; rfl, rfl⟩
  · have H1 := Lib.hid h1
    clear h1
    cases h2 : maskOk b
    · have H2 := Lib.hid h2
      clear h2
      have G' := Lib.hid (G.out (by rw [H1.out, H2.out]; rfl))
      go_enter Try.func17, Try.ntmps17
      go_wp2_with fail
      refine (mask_is _ true _ H1.out).mono ?_
      rintro e w1 ⟨rfl, rfl⟩
      go_wp2_with fail
      refine (mask_is _ false _ H2.out).mono ?_
      rintro e w1 ⟨rfl, rfl⟩
      go_wp2_with fail
      go_ret
      exact ⟨by rw [G'.out]; rfl, rfl⟩
    · have H2 := Lib.hid h2
      clear h2
      have F' := Lib.hid (F.out H1.out H2.out)
      go_enter Try.func17, Try.ntmps17
      go_wp2_with fail
      refine (mask_is _ true _ H1.out).mono ?_
      rintro e w1 ⟨rfl, rfl⟩
      go_wp2_with fail
      refine (mask_is _ true _ H2.out).mono ?_
      rintro e w1 ⟨rfl, rfl⟩
      go_wp2_with fail
      go_ret
      exact ⟨by rw [← F'.out]; rfl, rfl⟩

theorem sub_and (a b : Int) (h1 : maskOk a = true) (h2 : maskOk b = true) : (bits .andNot .i64 a b == 0) = subB a b ∧ (bits .and .i64 a b == a) = subB a b := by
  have h1' := h1
  have h2' := h2
  simp only [maskOk, decide_eq_true_eq] at h1' h2'
  have e1 := andNot_zero a.toNat b.toNat (by omega) (by omega)
  have e2 := i64_and_nat a.toNat b.toNat (by omega) (by omega)
  rw [Int.toNat_of_nonneg h1'.1, Int.toNat_of_nonneg h2'.1] at e1 e2
  refine ⟨by rw [e1, subB, h1, h2]; rfl, ?_⟩
  rw [e2, subB, h1, h2, Bool.eq_iff_iff]
  simp only [Bool.and_self, Bool.true_and, beq_iff_eq]
  omega
theorem sub_no (a b : Int) (h : (maskOk a && maskOk b) = false) : subB a b = false := by unfold subB; rw [h]; rfl
set_option maxHeartbeats 400000 in
theorem sub_any (a b : Int) (w : World) :
    Calls Try.prog 14 #[.int .i64 a, .int .i64 b] w fun e w' => e = .returned (.bool (subB a b)) ∧ w = w' := by
  cases h1 : maskOk a
  · have H1 := Lib.hid h1
    have G' := Lib.hid (sub_no a b (by rw [h1]; rfl))
    clear h1
    go_enter Try.func14, Try.ntmps14
    go_wp2_with fail
    refine (isMask_is _ false _ H1.out).mono ?_
    rintro e w1 ⟨rfl, rfl⟩
    go_wp2_with fail
    go_ret
    exact ⟨by rw [G'.out]; rfl, rfl⟩
  · cases h2 : maskOk b
    · have H1 := Lib.hid h1
      have H2 := Lib.hid h2
      have G' := Lib.hid (sub_no a b (by rw [h1, h2]; rfl))
      clear h1 h2
      go_enter Try.func14, Try.ntmps14
      go_wp2_with fail
      refine (isMask_is _ true _ H1.out).mono ?_
      rintro e w1 ⟨rfl, rfl⟩
      go_wp2_with fail
      refine (isMask_is _ false _ H2.out).mono ?_
      rintro e w1 ⟨rfl, rfl⟩
      go_wp2_with fail
      go_ret
      exact ⟨by rw [G'.out]; rfl, rfl⟩
    · have H1 := Lib.hid h1
      have H2 := Lib.hid h2
      have F' := Lib.hid (sub_and a b h1 h2)
      clear h1 h2
      go_enter Try.func14, Try.ntmps14
      go_wp2_with fail
      refine (isMask_is _ true _ H1.out).mono ?_
      rintro e w1 ⟨rfl, rfl⟩
      go_wp2_with fail
      refine (isMask_is _ true _ H2.out).mono ?_
      rintro e w1 ⟨rfl, rfl⟩
      go_wp2_with fail
      go_ret
      exact ⟨by rw [← F'.out.1]; rfl, rfl⟩
set_option maxHeartbeats 400000 in
theorem refSub_any (a b : Int) (w : World) :
    Calls Try.prog 15 #[.int .i64 a, .int .i64 b] w fun e w' => e = .returned (.bool (subB a b)) ∧ w = w' := by
  cases h1 : maskOk a
  · have H1 := Lib.hid h1
    have G' := Lib.hid (sub_no a b (by rw [h1]; rfl))
    clear h1
    go_enter Try.func15, Try.ntmps15
    go_wp2_with fail
    refine (mask_is _ false _ H1.out).mono ?_
    rintro e w1 ⟨rfl, rfl⟩
    go_wp2_with fail
    go_ret
    exact ⟨by rw [G'.out]; rfl, rfl⟩
  · cases h2 : maskOk b
    · have H1 := Lib.hid h1
      have H2 := Lib.hid h2
      have G' := Lib.hid (sub_no a b (by rw [h1, h2]; rfl))
      clear h1 h2
      go_enter Try.func15, Try.ntmps15
      go_wp2_with fail
      refine (mask_is _ true _ H1.out).mono ?_
      rintro e w1 ⟨rfl, rfl⟩
      go_wp2_with fail
      refine (mask_is _ false _ H2.out).mono ?_
      rintro e w1 ⟨rfl, rfl⟩
      go_wp2_with fail
      go_ret
      exact ⟨by rw [G'.out]; rfl, rfl⟩
    · have H1 := Lib.hid h1
      have H2 := Lib.hid h2
      have F' := Lib.hid (sub_and a b h1 h2)
      clear h1 h2
      go_enter Try.func15, Try.ntmps15
      go_wp2_with fail
      refine (mask_is _ true _ H1.out).mono ?_
      rintro e w1 ⟨rfl, rfl⟩
      go_wp2_with fail
      refine (mask_is _ true _ H2.out).mono ?_
      rintro e w1 ⟨rfl, rfl⟩
      go_wp2_with fail
      go_ret
      exact ⟨by rw [← F'.out.2]; rfl, rfl⟩
theorem cnt_no (m : Int) (h : maskOk m = false) : cntN m = 0 := by unfold cntN; rw [h]; rfl
theorem cnt_yes (m : Int) (h : maskOk m = true) : cntN m = (pc 16 m.toNat : Int) := by unfold cntN; rw [h]; rfl
set_option maxHeartbeats 400000 in
theorem count_any (m : Int) (w : World) :
    Calls Try.prog 18 #[.int .i64 m] w fun e w' => e = .returned (.int .i64 (cntN m)) ∧ w = w' := by
  cases h1 : maskOk m
  · have H1 := Lib.hid h1
    have G' := Lib.hid (cnt_no m h1)
    clear h1
    go_enter Try.func18, Try.ntmps18
    go_wp2_with fail
    refine (isMask_is _ false _ H1.out).mono ?_
    rintro e w1 ⟨rfl, rfl⟩
    go_wp2_with fail
    go_ret
    exact ⟨by rw [G'.out]; rfl, rfl⟩
  · have H1 := Lib.hid h1
    have G' := Lib.hid (cnt_yes m h1)
    simp only [maskOk, decide_eq_true_eq] at h1
    obtain ⟨m0, m1⟩ := h1
    go_enter Try.func18, Try.ntmps18
    go_wp2_with fail
    refine (isMask_is _ true _ H1.out).mono ?_
    rintro e w1 ⟨rfl, rfl⟩
    go_wp2_with fail
    refine (ones_any _ _ m0 m1).mono ?_
    rw [← G'.out]
    rintro e w1 ⟨rfl, rfl⟩
    go_wp2_with fail
    go_ret
    exact ⟨rfl, rfl⟩
theorem bit_and (n k : Nat) (h : n ≤ 65535) : bits .and .i64 ((n : Int) / 2 ^ k) 1 = ((n / 2 ^ k % 2 : Nat) : Int) := by
  have hd : n / 2 ^ k ≤ n := Nat.div_le_self _ _
  have := i64_and_nat (n / 2 ^ k) 1 (by omega) (by decide)
  rw [Nat.and_one_is_mod, Int.natCast_ediv, Int.natCast_pow] at this
  exact this
theorem pc_le (k x : Nat) : pc k x ≤ k := by
  induction k generalizing x with
  | zero => simp [pc]
  | succ k ih => have := ih (x / 2); rw [pc]; omega
theorem bit_step (n k : Nat) (h : n ≤ 65535) (hk : k ≤ 16) : wrap64 ((pc k n : Int) + bits .and .i64 ((n : Int) / 2 ^ k) 1) = ((pc (k + 1) n : Nat) : Int) := by
  have h1 := pc_le k n
  rw [bit_and n k h, pc_succ, IntWalk.wrap64_in] <;> omega
set_option maxHeartbeats 400000 in
theorem refCount_any (m : Int) (w : World) :
    Calls Try.prog 19 #[.int .i64 m] w fun e w' => e = .returned (.int .i64 (cntN m)) ∧ w = w' := by
  cases h1 : maskOk m
  · have H1 := Lib.hid h1
    have G' := Lib.hid (cnt_no m h1)
    clear h1
    go_enter Try.func19, Try.ntmps19
    go_wp2_with fail
    refine (mask_is _ false _ H1.out).mono ?_
    rintro e w1 ⟨rfl, rfl⟩
    go_wp2_with fail
    go_ret
    exact ⟨by rw [G'.out]; rfl, rfl⟩
  · have H1 := Lib.hid h1
    have G' := Lib.hid (cnt_yes m h1)
    simp only [maskOk, decide_eq_true_eq] at h1
    obtain ⟨m0, m1⟩ := h1
    obtain ⟨n, rfl⟩ := Int.eq_ofNat_of_zero_le m0
    rw [Int.toNat_natCast] at G'
    go_enter Try.func19, Try.ntmps19
    go_wp2_with fail
    refine (mask_is _ true _ H1.out).mono ?_
    rintro e w1 ⟨rfl, rfl⟩
    go_wp2_with fail
    go_loop [3, 4] (fun c i => ∃ k : Nat, k ≤ 16 ∧ i = .int .i64 k ∧ c = .int .i64 (pc k n)) (fun _ i => 16 - (intOf i).toNat)
    case atStart => exact ⟨0, by omega, rfl, rfl⟩
    case round =>
      obtain ⟨k, hk, rfl, rfl⟩ := hrel
      by_cases hlt : k < 16
      · go_wp2_with fail
        go_round
        case rel => exact ⟨k + 1, by omega, by go_num, by rw [bit_step n k (by omega) (by omega)]⟩
        case measure => simp [intOf]; omega
      · obtain rfl : k = 16 := by omega
        go_wp2_with fail
        go_ret
        exact ⟨by rw [G'.out]; rfl, rfl⟩
end Go.Proofs.Ytjahkpbegndpiaa
