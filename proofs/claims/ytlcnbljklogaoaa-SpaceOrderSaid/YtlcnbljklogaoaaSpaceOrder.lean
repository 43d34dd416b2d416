import Derived.Test.YtlcnbljklogaoaaRef13
namespace Go.Proofs.Ytlcnbljklogaoaa
open Go.RowKit

theorem keyOk_of {k a b : Int} (k0 : 0 ≤ k) (k1 : k ≤ 15) (a0 : 0 ≤ a) (a1 : a ≤ 268435455) (b0 : 0 ≤ b) (b1 : b ≤ 4294967295) : keyOk k a b = true := by
  simp only [keyOk, Bool.and_eq_true, decide_eq_true_eq]; omega
theorem keyN_of {k a b : Int} (h : keyOk k a b = true) : keyN k a b = k * 1152921504606846976 + a * 4294967296 + b := by unfold keyN; rw [if_pos h]

/-- The order of two keys, as the law says it. -/
def Less (x p b y q d : Int) (v : Bool) : Prop :=
  (x < y ∧ v = true) ∨ (y < x ∧ v = false) ∨ (x = y ∧ p < q ∧ v = true) ∨ (x = y ∧ q < p ∧ v = false) ∨ (x = y ∧ p = q ∧ b < d ∧ v = true) ∨ (x = y ∧ p = q ∧ d ≤ b ∧ v = false)
theorem less_of {x p b y q d : Int} (h1 : keyOk x p b = true) (h2 : keyOk y q d = true) : Less x p b y q d (decide (keyN x p b < keyN y q d)) := by
  have e1 := keyN_of h1
  have e2 := keyN_of h2
  simp only [keyOk, Bool.and_eq_true, decide_eq_true_eq] at h1 h2
  rw [e1, e2]
  unfold Less
  by_cases c1 : x < y
  · exact .inl ⟨c1, by simp; omega⟩
  by_cases c2 : y < x
  · exact .inr (.inl ⟨c2, by simp; omega⟩)
  by_cases c3 : p < q
  · exact .inr (.inr (.inl ⟨by omega, c3, by simp; omega⟩))
  by_cases c4 : q < p
  · exact .inr (.inr (.inr (.inl ⟨by omega, c4, by simp; omega⟩)))
  by_cases c5 : b < d
  · exact .inr (.inr (.inr (.inr (.inl ⟨by omega, by omega, c5, by simp; omega⟩))))
  · exact .inr (.inr (.inr (.inr (.inr ⟨by omega, by omega, by omega, by simp; omega⟩))))

set_option maxHeartbeats 2000000 in
theorem spaceOrder_walk (i a b j c d x p y q k l f g : Int) (v : Bool) (w : World) (i0 : 0 ≤ i) (i1 : i ≤ 255) (j0 : 0 ≤ j) (j1 : j ≤ 255) (a0 : 0 ≤ a) (a1 : a ≤ 4294967295) (c0 : 0 ≤ c) (c1 : c ≤ 4294967295) (b0 : 0 ≤ b) (b1 : b ≤ 4294967295) (d0 : 0 ≤ d) (d1 : d ≤ 4294967295)
    (hx : i % 16 = x) (hy : j % 16 = y) (hp : a % 268435456 = p) (hq : c % 268435456 = q) (x0 : 0 ≤ x) (y0 : 0 ≤ y) (p0 : 0 ≤ p) (q0 : 0 ≤ q) (x1 : x ≤ 15) (y1 : y ≤ 15)
    (O1 : Hid (keyOk x p b = true)) (O2 : Hid (keyOk y q d = true)) (K1 : Hid (keyN x p b = k)) (K2 : Hid (keyN y q d = l)) (F1 : Hid (keyN x 0 0 = f)) (F2 : Hid (keyN (x - 1) 0 0 = g)) (hfk : f ≤ k) (hg : x ≤ 0 ∨ (0 < x ∧ g < f))
    (hv : decide (k < l) = v) (hL : Less x p b y q d v) :
    Calls Try.prog 5 #[.int .u8 i, .int .u32 a, .int .u32 b, .int .u8 j, .int .u32 c, .int .u32 d] w fun e w' => e = .returned (.bool true) ∧ w = w' := by
  rcases hL with ⟨l1, rfl⟩ | ⟨l1, rfl⟩ | ⟨rfl, l3, rfl⟩ | ⟨rfl, l3, rfl⟩ | ⟨rfl, rfl, l5, rfl⟩ | ⟨rfl, rfl, l5, rfl⟩
  all_goals
    have hkl : (k < l ∧ decide (k < l) = true) ∨ (l ≤ k ∧ decide (k < l) = false) := by by_cases h : k < l <;> simp [h]; omega
    rw [hv] at hkl
    simp only [Bool.true_eq_false, Bool.false_eq_true, and_false, and_true, or_false, false_or] at hkl
    clear hv
    rcases hg with hx0 | ⟨hx0, hgf⟩
    all_goals first | (exfalso; omega) | skip
    all_goals
      go_enter Try.func5, Try.ntmps5
      go_wp2_with fail
      refine (examples_any _).mono ?_
      rintro e w1 ⟨rfl, rfl⟩
      go_wp2_with fail
      refine (key_any _ _ _ _).mono ?_
      rw [O1.out, K1.out]
      rintro e w1 ⟨rfl, rfl⟩
      go_wp2_with fail
      refine (key_any _ _ _ _).mono ?_
      rw [O2.out, K2.out]
      rintro e w1 ⟨rfl, rfl⟩
      go_wp2_with fail
      refine (first_any _ _).mono ?_
      rw [F1.out]
      rintro e w1 ⟨rfl, rfl⟩
      go_wp2_with fail
      first
        | (refine (first_any _ _).mono ?_
           rw [F2.out]
           rintro e w1 ⟨rfl, rfl⟩
           go_wp2_with fail
           refine (first_any _ _).mono ?_
           rw [F1.out]
           rintro e w1 ⟨rfl, rfl⟩
           go_wp2_with fail)
        | skip
      all_goals first | go_ret | (go_show; sorry)
      all_goals exact ⟨ret_true (by simp), rfl⟩
theorem keyN_first {k a b : Int} (h : keyOk k a b = true) : keyN k 0 0 ≤ keyN k a b ∧ (k ≤ 0 ∨ (0 < k ∧ keyN (k - 1) 0 0 < keyN k 0 0)) := by
  have h' := h
  simp only [keyOk, Bool.and_eq_true, decide_eq_true_eq] at h'
  obtain ⟨⟨⟨k0, k1⟩, a0, a1⟩, b0, b1⟩ := h'
  have e0 : keyOk k 0 0 = true := keyOk_of k0 k1 (by omega) (by omega) (by omega) (by omega)
  rw [keyN_of h, keyN_of e0]
  refine ⟨by omega, ?_⟩
  by_cases hk : k ≤ 0
  · exact .inl hk
  · have e1 : keyOk (k - 1) 0 0 = true := keyOk_of (by omega) (by omega) (by omega) (by omega) (by omega) (by omega)
    rw [keyN_of e1]
    exact .inr ⟨by omega, by omega⟩
theorem spaceOrder_law (a0 a1 a2 a3 a4 a5 : Int) (w : World) (w0 : (Lit.int .u8 a0).wf = true) (w1 : (Lit.int .u32 a1).wf = true) (w2 : (Lit.int .u32 a2).wf = true) (w3 : (Lit.int .u8 a3).wf = true) (w4 : (Lit.int .u32 a4).wf = true) (w5 : (Lit.int .u32 a5).wf = true) :
    Calls Try.prog 5 #[.int .u8 a0, .int .u32 a1, .int .u32 a2, .int .u8 a3, .int .u32 a4, .int .u32 a5] w fun e w' => e = .returned (.bool true) ∧ Below w.heap.size w w' := by
  have h0 := bounds_u8 w0
  have h1 := bounds_u32 w1
  have h2 := bounds_u32 w2
  have h3 := bounds_u8 w3
  have h4 := bounds_u32 w4
  have h5 := bounds_u32 w5
  have o1 : keyOk (a0 % 16) (a1 % 268435456) a2 = true := keyOk_of (by omega) (by omega) (by omega) (by omega) (by omega) (by omega)
  have o2 : keyOk (a3 % 16) (a4 % 268435456) a5 = true := keyOk_of (by omega) (by omega) (by omega) (by omega) (by omega) (by omega)
  have hf := keyN_first o1
  refine (spaceOrder_walk a0 a1 a2 a3 a4 a5 _ _ _ _ _ _ _ _ _ w h0.1 h0.2 h3.1 h3.2 h1.1 h1.2 h4.1 h4.2 h2.1 h2.2 h5.1 h5.2 rfl rfl rfl rfl (by omega) (by omega) (by omega) (by omega) (by omega) (by omega) (Lib.hid o1) (Lib.hid o2) (Lib.hid rfl) (Lib.hid rfl) (Lib.hid rfl) (Lib.hid rfl) hf.1 hf.2 rfl (less_of o1 o2)).mono ?_
  rintro e w' ⟨rfl, rfl⟩
  exact ⟨rfl, Below.refl _ _⟩
end Go.Proofs.Ytlcnbljklogaoaa
