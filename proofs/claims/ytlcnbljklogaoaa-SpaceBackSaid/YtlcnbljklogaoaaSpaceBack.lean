import Derived.Test.YtlcnbljklogaoaaRef13
namespace Go.Proofs.Ytlcnbljklogaoaa
open Go.RowKit

theorem split_key (key : Int) (k0 : 0 ≤ key) (k1 : key ≤ 18446744073709551615) : keyOk (spK key) (spA key) (spB key) = true ∧ keyN (spK key) (spA key) (spB key) = key := by
  have h : keyOk (spK key) (spA key) (spB key) = true := by
    simp only [keyOk, Bool.and_eq_true, decide_eq_true_eq]
    unfold spK spA spB
    omega
  refine ⟨h, ?_⟩
  unfold keyN
  rw [if_pos h]
  unfold spK spA spB
  omega
theorem key_split (k a b : Int) (h : keyOk k a b = true) : spK (keyN k a b) = k ∧ spA (keyN k a b) = a ∧ spB (keyN k a b) = b ∧ inKey (keyN k a b) k a = true := by
  have h' := h
  simp only [keyOk, Bool.and_eq_true, decide_eq_true_eq] at h'
  have e1 : spK (keyN k a b) = k := by simp only [keyN, h, if_true, spK]; omega
  have e2 : spA (keyN k a b) = a := by simp only [keyN, h, if_true, spA]; omega
  refine ⟨e1, e2, by simp only [keyN, h, if_true, spB]; omega, ?_⟩
  simp [inKey, e1, e2]

set_option maxHeartbeats 1000000 in
theorem spaceBack_walk (key k a b : Int) (n : Int) (more : Bool) (w : World) (k0 : 0 ≤ key) (k1 : key ≤ 18446744073709551615) (hn : nextN key = n) (hm : nextOk key = more)
    (hc : (more = true ∧ key < n ∧ n ≤ key + 1 ∧ IntKind.u64.wrap (key + 1) = n) ∨ (more = false ∧ n ≤ key)) :
    Calls Try.prog 4 #[.int .u64 key, .int .i64 k, .int .i64 a, .int .i64 b] w fun e w' => e = .returned (.bool true) ∧ w = w' := by
  have K1 := Lib.hid k1
  have N := Lib.hid hn
  have MO := Lib.hid hm
  have S1 := Lib.hid (split_key key k0 k1)
  have S2 := Lib.hid (key_split k a b)
  have KB := Lib.hid (keyN_bd k a b)
  clear k1 hn hm
  generalize hl : keyN k a b = l at S2 KB
  have L := Lib.hid hl
  clear hl
  cases ho : keyOk k a b
  all_goals
    have O := Lib.hid ho
    have S3 := Lib.hid (fun h => S2.out (ho.trans h))
    have hcond : (0 ≤ k ∧ k ≤ 15 ∧ 0 ≤ a ∧ a ≤ 268435455 ∧ 0 ≤ b ∧ b ≤ 4294967295) ↔ keyOk k a b = true := by
      simp only [keyOk, Bool.and_eq_true, decide_eq_true_eq]; omega
    rw [ho] at hcond
    have HC := Lib.hid hcond
    clear ho hcond
    rcases hc with ⟨rfl, c1, c2, c3⟩ | ⟨rfl, c1⟩
    all_goals
      go_enter Try.func4, Try.ntmps4
      go_wp2_with fail
      refine (examples_any _).mono ?_
      rintro e w1 ⟨rfl, rfl⟩
      go_wp2_with fail
      refine (split_any _ _ k0 K1.out).mono ?_
      rintro e w1 ⟨rfl, rfl⟩
      go_wp2_with fail
      refine (key_any _ _ _ _).mono ?_
      rw [S1.out.1, S1.out.2]
      rintro e w1 ⟨rfl, rfl⟩
      go_wp2_with fail
      refine (next_any _ _ k0 K1.out).mono ?_
      rw [N.out, MO.out]
      rintro e w1 ⟨rfl, rfl⟩
      go_wp2_with fail
      refine (key_any _ _ _ _).mono ?_
      rw [O.out, L.out]
      rintro e w1 ⟨rfl, rfl⟩
      go_wp2_with fail
      first
        | (refine (split_any _ _ KB.out.1 KB.out.2).mono ?_
           have s3 := S3.out (by simp); rw [s3.1, s3.2.1, s3.2.2.1]; clear s3
           rintro e w1 ⟨rfl, rfl⟩
           go_wp2_with fail
           refine (in_any _ _ _ _ KB.out.1 KB.out.2).mono ?_
           have s3 := S3.out (by simp); rw [s3.2.2.2]; clear s3
           rintro e w1 ⟨rfl, rfl⟩
           have hin := HC.out.2 (by simp)
           obtain ⟨i1, i2, i3, i4, i5, i6⟩ := hin)
        | skip
      go_wp2_with fail
      all_goals go_ret
      all_goals refine ⟨ret_true ?_, rfl⟩
      all_goals have hh := HC.out
      all_goals first | (simp; done) | (simp at hh ⊢; omega)
theorem spaceBack_law (a0 a1 a2 a3 : Int) (w : World) (w0 : (Lit.int .u64 a0).wf = true) (_w1 : (Lit.int .i64 a1).wf = true) (_w2 : (Lit.int .i64 a2).wf = true) (_w3 : (Lit.int .i64 a3).wf = true) :
    Calls Try.prog 4 #[.int .u64 a0, .int .i64 a1, .int .i64 a2, .int .i64 a3] w fun e w' => e = .returned (.bool true) ∧ Below w.heap.size w w' := by
  obtain ⟨l, h⟩ := bounds_u64 w0
  refine (spaceBack_walk a0 a1 a2 a3 _ _ w l h rfl rfl ?_).mono ?_
  · have hw := (next_wrap a0 l h).1
    unfold nextN nextOk topKey at *
    by_cases hh : a0 < 18446744073709551615
    · rw [if_pos hh] at hw ⊢
      refine .inl ⟨by simp [hh], by omega, by omega, hw⟩
    · rw [if_neg hh]
      exact .inr ⟨by simp [hh], by omega⟩
  · rintro e w' ⟨rfl, rfl⟩
    exact ⟨rfl, Below.refl _ _⟩
end Go.Proofs.Ytlcnbljklogaoaa
