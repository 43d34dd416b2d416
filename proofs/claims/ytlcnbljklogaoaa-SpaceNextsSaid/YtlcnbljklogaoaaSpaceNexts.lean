import Derived.Test.YtlcnbljklogaoaaRef13
namespace Go.Proofs.Ytlcnbljklogaoaa
open Go.RowKit
set_option linter.unusedVariables false

set_option maxHeartbeats 2000000 in
theorem spaceNexts_walk (i a x p k n P Q R : Int) (more : Bool) (w : World) (i0 : 0 ≤ i) (i1 : i ≤ 255) (a0 : 0 ≤ a) (a1 : a ≤ 4294967295)
    (hx : i % 16 = x) (hp : a % 268435456 = p) (x1 : x ≤ 15) (p1 : p ≤ 268435455)
    (O1 : Hid (keyOk x p 4294967295 = true)) (L1 : Hid (keyN x p 4294967295 = k)) (k0 : 0 ≤ k) (K1 : Hid (k ≤ 18446744073709551615)) (N1 : Hid (nextN k = n)) (M1 : Hid (nextOk k = more)) (n0 : 0 ≤ n) (NB : Hid (n ≤ 18446744073709551615))
    (S : Hid (spK n = P ∧ spA n = Q ∧ spB n = R)) (F : Hid (Q = 0 → keyN (x + 1) 0 0 = n))
    (hc : (15 ≤ x ∧ 268435455 ≤ p ∧ more = false ∧ n = 0) ∨ (x < 15 ∧ 268435455 ≤ p ∧ more = true ∧ P = x + 1 ∧ Q = 0 ∧ R = 0) ∨ (p < 268435455 ∧ more = true ∧ P = x ∧ Q = p + 1 ∧ R = 0)) :
    Calls Try.prog 7 #[.int .u8 i, .int .u32 a] w fun e w' => e = .returned (.bool true) ∧ w = w' := by
  have T : Hid (nextN 18446744073709551615 = 0 ∧ nextOk 18446744073709551615 = false) := ⟨by unfold nextN topKey; rw [if_neg (by omega)], by unfold nextOk topKey; simp⟩
  rcases hc with ⟨c1, c2, rfl, rfl⟩ | ⟨c1, c2, rfl, rfl, rfl, rfl⟩ | ⟨c2, rfl, rfl, rfl, rfl⟩
  all_goals
    go_enter Try.func7, Try.ntmps7
    go_wp2_with fail
    refine (examples_any _).mono ?_
    rintro e w1 ⟨rfl, rfl⟩
    go_wp2_with fail
    refine (key_any _ _ _ _).mono ?_
    rw [O1.out, L1.out]
    rintro e w1 ⟨rfl, rfl⟩
    go_wp2_with fail
    refine (next_any _ _ k0 K1.out).mono ?_
    rw [N1.out, M1.out]
    rintro e w1 ⟨rfl, rfl⟩
    go_wp2_with fail
    refine (split_any _ _ n0 NB.out).mono ?_
    rw [S.out.1, S.out.2.1, S.out.2.2]
    rintro e w1 ⟨rfl, rfl⟩
    go_wp2_with fail
    refine (next_any _ _ (by omega) (by omega)).mono ?_
    rw [T.out.1, T.out.2]
    rintro e w1 ⟨rfl, rfl⟩
    go_wp2_with fail
    first
      | (refine (first_any _ _).mono ?_
         rw [F.out (by simp)]
         rintro e w1 ⟨rfl, rfl⟩
         go_wp2_with fail)
      | skip
    all_goals first | go_ret | (go_show; sorry)
    all_goals exact ⟨ret_true (by simp), rfl⟩
theorem spaceNexts_law (a0 a1 : Int) (w : World) (w0 : (Lit.int .u8 a0).wf = true) (w1 : (Lit.int .u32 a1).wf = true) :
    Calls Try.prog 7 #[.int .u8 a0, .int .u32 a1] w fun e w' => e = .returned (.bool true) ∧ Below w.heap.size w w' := by
  have h0 := bounds_u8 w0
  have h1 := bounds_u32 w1
  have hx0 : 0 ≤ a0 % 16 := by omega
  have hx1 : a0 % 16 ≤ 15 := by omega
  have hp0 : 0 ≤ a1 % 268435456 := by omega
  have hp1 : a1 % 268435456 ≤ 268435455 := by omega
  generalize hx : a0 % 16 = x at *
  generalize hp : a1 % 268435456 = p at *
  have o1 : keyOk x p 4294967295 = true := by simp only [keyOk, Bool.and_eq_true, decide_eq_true_eq]; omega
  have e1 : keyN x p 4294967295 = x * 1152921504606846976 + p * 4294967296 + 4294967295 := by unfold keyN; rw [if_pos o1]
  have bd := keyN_bd x p 4294967295
  have nb := nextN_bd _ bd.1
  refine (spaceNexts_walk a0 a1 x p _ _ _ _ _ _ w h0.1 h0.2 h1.1 h1.2 hx hp hx1 hp1 (Lib.hid o1) (Lib.hid rfl) bd.1 (Lib.hid bd.2) (Lib.hid rfl) (Lib.hid rfl) nb.1 (Lib.hid nb.2) (Lib.hid ⟨rfl, rfl, rfl⟩) (Lib.hid ?_) ?_).mono ?_
  · intro hq
    unfold spA nextN topKey at hq
    unfold nextN topKey
    by_cases ho : keyOk (x + 1) 0 0 = true
    · have e2 : keyN (x + 1) 0 0 = (x + 1) * 1152921504606846976 + 0 * 4294967296 + 0 := by unfold keyN; rw [if_pos ho]
      have ho' := ho
      simp only [keyOk, Bool.and_eq_true, decide_eq_true_eq] at ho'
      rw [if_pos (by omega)] at hq ⊢
      omega
    · have e2 : keyN (x + 1) 0 0 = 0 := by unfold keyN; rw [if_neg ho]
      simp only [keyOk, Bool.and_eq_true, decide_eq_true_eq] at ho
      have hx15 : x = 15 := by omega
      subst hx15
      by_cases hl : keyN 15 p 4294967295 < 18446744073709551615
      · rw [if_pos hl] at hq ⊢
        omega
      · rw [if_neg hl, e2]
  · unfold spK spA spB nextN nextOk topKey
    by_cases c2 : p < 268435455
    · have hl : keyN x p 4294967295 < 18446744073709551615 := by omega
      rw [if_pos hl]
      exact .inr (.inr ⟨c2, by simp [hl], by omega, by omega, by omega⟩)
    · by_cases c1 : x < 15
      · have hl : keyN x p 4294967295 < 18446744073709551615 := by omega
        rw [if_pos hl]
        exact .inr (.inl ⟨c1, by omega, by simp [hl], by omega, by omega, by omega⟩)
      · have hl : ¬ keyN x p 4294967295 < 18446744073709551615 := by omega
        rw [if_neg hl]
        exact .inl ⟨by omega, by omega, by simp [hl], rfl⟩
  · rintro e w' ⟨rfl, rfl⟩
    exact ⟨rfl, Below.refl _ _⟩
end Go.Proofs.Ytlcnbljklogaoaa
