import Derived.Test.YtlcnbljklogaoaaRef13
namespace Go.Proofs.Ytlcnbljklogaoaa
open Go.RowKit
set_option linter.unusedVariables false

theorem keyOk_of' {k a b : Int} (k0 : 0 ≤ k) (k1 : k ≤ 15) (a0 : 0 ≤ a) (a1 : a ≤ 268435455) (b0 : 0 ≤ b) (b1 : b ≤ 4294967295) : keyOk k a b = true := by
  simp only [keyOk, Bool.and_eq_true, decide_eq_true_eq]; omega
theorem keyN_of' {k a b : Int} (h : keyOk k a b = true) : keyN k a b = k * 1152921504606846976 + a * 4294967296 + b := by unfold keyN; rw [if_pos h]
theorem inKey_of {key k a : Int} (h1 : k * 1152921504606846976 + a * 4294967296 ≤ key) (h2 : key ≤ k * 1152921504606846976 + a * 4294967296 + 4294967295) (a0 : 0 ≤ a) (a1 : a ≤ 268435455) : inKey key k a = true := by
  simp only [inKey, spK, spA, Bool.and_eq_true, beq_iff_eq]
  omega

set_option maxHeartbeats 2000000 in
theorem spaceWithin_walk (i a b c key x p mn mx lo hi : Int) (w : World) (i0 : 0 ≤ i) (i1 : i ≤ 255) (a0 : 0 ≤ a) (a1 : a ≤ 4294967295) (b0 : 0 ≤ b) (b1 : b ≤ 4294967295) (c0 : 0 ≤ c) (c1 : c ≤ 4294967295) (k0 : 0 ≤ key) (K1 : Hid (key ≤ 18446744073709551615))
    (hx : i % 16 = x) (hp : a % 268435456 = p) (x0 : 0 ≤ x) (p0 : 0 ≤ p) (x1 : x ≤ 15) (p1 : p ≤ 268435455)
    (hm : (b < c ∧ mn = b ∧ mx = c) ∨ (c < b ∧ mn = c ∧ mx = b) ∨ (b = c ∧ mn = b ∧ mx = b))
    (O1 : Hid (keyOk x p mn = true)) (O2 : Hid (keyOk x p mx = true)) (L1 : Hid (keyN x p mn = lo)) (L2 : Hid (keyN x p mx = hi)) (hlh : lo ≤ hi) (l0 : 0 ≤ lo) (h0 : 0 ≤ hi) (LB : Hid (lo ≤ 18446744073709551615)) (HB : Hid (hi ≤ 18446744073709551615))
    (I1 : Hid (inKey lo x p = true)) (I2 : Hid (inKey hi x p = true)) (hk : (lo ≤ key ∧ key ≤ hi ∧ inKey key x p = true) ∨ key < lo ∨ (lo ≤ key ∧ hi < key)) :
    Calls Try.prog 6 #[.int .u8 i, .int .u32 a, .int .u32 b, .int .u32 c, .int .u64 key] w fun e w' => e = .returned (.bool true) ∧ w = w' := by
  rcases hm with ⟨m1, rfl, rfl⟩ | ⟨m1, rfl, rfl⟩ | ⟨rfl, rfl, rfl⟩
  all_goals
    rcases hk with ⟨k2, k3, k4⟩ | k2 | ⟨k2, k3⟩
    all_goals
      first | (have I3 := Lib.hid k4; clear k4) | skip
      go_enter Try.func6, Try.ntmps6
      go_wp2_with fail
      refine (examples_any _).mono ?_
      rintro e w1 ⟨rfl, rfl⟩
      go_wp2_with fail
      refine (key_any _ _ _ _).mono ?_
      rw [O1.out, L1.out]
      rintro e w1 ⟨rfl, rfl⟩
      go_wp2_with fail
      refine (key_any _ _ _ _).mono ?_
      rw [O2.out, L2.out]
      rintro e w1 ⟨rfl, rfl⟩
      go_wp2_with fail
      first
        | (have i3 := I3.out
           refine (in_any _ _ _ _ k0 K1.out).mono ?_
           rw [i3]
           clear i3
           rintro e w1 ⟨rfl, rfl⟩
           go_wp2_with fail)
        | skip
      refine (in_any _ _ _ _ l0 LB.out).mono ?_
      rw [I1.out]
      rintro e w1 ⟨rfl, rfl⟩
      go_wp2_with fail
      refine (in_any _ _ _ _ h0 HB.out).mono ?_
      rw [I2.out]
      rintro e w1 ⟨rfl, rfl⟩
      go_wp2_with fail
      go_ret
      exact ⟨ret_true (by simp), rfl⟩
theorem spaceWithin_law (a0 a1 a2 a3 a4 : Int) (w : World) (w0 : (Lit.int .u8 a0).wf = true) (w1 : (Lit.int .u32 a1).wf = true) (w2 : (Lit.int .u32 a2).wf = true) (w3 : (Lit.int .u32 a3).wf = true) (w4 : (Lit.int .u64 a4).wf = true) :
    Calls Try.prog 6 #[.int .u8 a0, .int .u32 a1, .int .u32 a2, .int .u32 a3, .int .u64 a4] w fun e w' => e = .returned (.bool true) ∧ Below w.heap.size w w' := by
  have h0 := bounds_u8 w0
  have h1 := bounds_u32 w1
  have h2 := bounds_u32 w2
  have h3 := bounds_u32 w3
  have h4 := bounds_u64 w4
  have o1 : keyOk (a0 % 16) (a1 % 268435456) (min a2 a3) = true := keyOk_of' (by omega) (by omega) (by omega) (by omega) (by omega) (by omega)
  have o2 : keyOk (a0 % 16) (a1 % 268435456) (max a2 a3) = true := keyOk_of' (by omega) (by omega) (by omega) (by omega) (by omega) (by omega)
  have e1 := keyN_of' o1
  have e2 := keyN_of' o2
  have d1 := keyN_bd (a0 % 16) (a1 % 268435456) (min a2 a3)
  have d2 := keyN_bd (a0 % 16) (a1 % 268435456) (max a2 a3)
  refine (spaceWithin_walk a0 a1 a2 a3 a4 _ _ (min a2 a3) (max a2 a3) _ _ w h0.1 h0.2 h1.1 h1.2 h2.1 h2.2 h3.1 h3.2 h4.1 (Lib.hid h4.2) rfl rfl (by omega) (by omega) (by omega) (by omega) (by omega) (Lib.hid o1) (Lib.hid o2) (Lib.hid rfl) (Lib.hid rfl) (by omega) d1.1 d2.1 (Lib.hid d1.2) (Lib.hid d2.2)
    (Lib.hid (inKey_of (by omega) (by omega) (by omega) (by omega))) (Lib.hid (inKey_of (by omega) (by omega) (by omega) (by omega))) ?_).mono ?_
  · by_cases c1 : a4 < keyN (a0 % 16) (a1 % 268435456) (min a2 a3)
    · exact .inr (.inl c1)
    · by_cases c2 : keyN (a0 % 16) (a1 % 268435456) (max a2 a3) < a4
      · exact .inr (.inr ⟨by omega, c2⟩)
      · exact .inl ⟨by omega, by omega, inKey_of (by omega) (by omega) (by omega) (by omega)⟩
  · rintro e w' ⟨rfl, rfl⟩
    exact ⟨rfl, Below.refl _ _⟩
end Go.Proofs.Ytlcnbljklogaoaa
