import Derived.Test.YtlcgohmpbmmcpaaEx08
namespace Go.Proofs.Ytlcgohmpbmmcpaa
open Go.RowKit
set_option linter.unusedVariables false

theorem cntL_zeros (k : Nat) : cntL (List.replicate k 0) = 0 := by
  induction k with
  | zero => rfl
  | succ k ih =>
    simp only [cntL, List.replicate_succ, List.map_cons, List.sum_cons] at ih ⊢
    rw [ih]
    decide
theorem hasB_zeros (k : Nat) (i : Int) : hasB (Str (List.replicate k 0)) i = false := by
  unfold hasB bitL
  rw [Str_list]
  split
  · rw [List.getElem_replicate]
    simp
  · simp
theorem neg_mod (n M : Int) (hn : n < 0) (h : (-(n + 1)) % 100001 = M) : -(n + 1).tmod 100001 = M := by
  rw [← h, ← Int.tmod_eq_emod_of_nonneg (by omega), Int.neg_tmod]
set_option maxHeartbeats 800000 in
theorem bitsNew_walk (n i M : Int) (s : ByteArray) (k : Nat) (w : World) (h0 : -9223372036854775808 ≤ n) (h1 : n < 9223372036854775808) (i1 : i < 9223372036854775808) (m0 : 0 ≤ M) (m1 : M ≤ 100000)
    (hs : Hid (Str (List.replicate (newN M) 0) = s)) (hk : s.size = k) (hk1 : M ≤ 8 * (k : Int)) (hk2 : 8 * (k : Int) < M + 8) (hk3 : k ≤ 12500) (HC : Hid (cntL s.data.toList = 0)) (HH : Hid (hasB s i = false)) (HE : Hid (Str (List.replicate (newN (-M - 1)) 0) = ⟨#[]⟩))
    (hn : (0 ≤ n ∧ n % 100001 = M) ∨ (n < 0 ∧ (-(n + 1)) % 100001 = M)) :
    Calls Try.prog 8 #[.int .i64 n, .int .i64 i] w fun e w' => e = .returned (.bool true) ∧ Below w.heap.size w w' := by
  rcases hn with ⟨hn, hM⟩ | ⟨hn, hM⟩
  · go_enter Try.func8, Try.ntmps8
    go_wp2_with fail
    refine (examples_any _).mono ?_
    rintro e w1 ⟨rfl, bb⟩
    go_wp2_with fail
    refine (new_any _ _ (by omega) (by omega)).mono ?_
    rw [hs.out]
    rintro e w2 ⟨rfl, b2⟩
    replace bb := chain bb b2
    clear b2
    go_wp2_with fail
    refine (count_any _ _ (by omega)).mono ?_
    rw [HC.out]
    rintro e w3 ⟨rfl, rfl⟩
    go_wp2_with fail
    refine (has_any _ _ _ i1).mono ?_
    rw [HH.out]
    rintro e w4 ⟨rfl, rfl⟩
    go_wp2_with fail
    refine (new_any _ _ (by omega) (by omega)).mono ?_
    rw [HE.out]
    rintro e w5 ⟨rfl, b5⟩
    replace bb := chain bb b5
    clear b5
    go_wp2_with fail
    go_ret
    exact ⟨ret_true (by simp), bb⟩
  · have hM2 := neg_mod n M hn hM
    clear hM
    go_enter Try.func8, Try.ntmps8
    go_wp2_with fail
    refine (examples_any _).mono ?_
    rintro e w1 ⟨rfl, bb⟩
    go_wp2_with fail
    refine (new_any _ _ (by omega) (by omega)).mono ?_
    rw [hs.out]
    rintro e w2 ⟨rfl, b2⟩
    replace bb := chain bb b2
    clear b2
    go_wp2_with fail
    refine (count_any _ _ (by omega)).mono ?_
    rw [HC.out]
    rintro e w3 ⟨rfl, rfl⟩
    go_wp2_with fail
    refine (has_any _ _ _ i1).mono ?_
    rw [HH.out]
    rintro e w4 ⟨rfl, rfl⟩
    go_wp2_with fail
    refine (new_any _ _ (by omega) (by omega)).mono ?_
    rw [HE.out]
    rintro e w5 ⟨rfl, b5⟩
    replace bb := chain bb b5
    clear b5
    go_wp2_with fail
    go_ret
    exact ⟨ret_true (by simp), bb⟩
theorem bitsNew_law (a0 a1 : Int) (w : World) (w0 : (Lit.int .i64 a0).wf = true) (w1 : (Lit.int .i64 a1).wf = true) :
    Calls Try.prog 8 #[.int .i64 a0, .int .i64 a1] w fun e w' => e = .returned (.bool true) ∧ Below w.heap.size w w' := by
  have h0 := bounds_i64 w0
  have h1 := bounds_i64 w1
  have key := fun (M : Int) (m0 : 0 ≤ M) (m1 : M ≤ 100000) => bitsNew_walk a0 a1 M _ (newN M) w (by omega) (by omega) (by omega) m0 m1 (Lib.hid rfl) (by rw [Str_size, List.length_replicate]) (by unfold newN; omega) (by unfold newN; omega) (by unfold newN; omega) (Lib.hid (by rw [Str_list]; exact cntL_zeros _)) (Lib.hid (hasB_zeros _ _))
    (Lib.hid (by rw [show newN (-M - 1) = 0 by unfold newN; omega]; rfl))
  rcases Int.lt_or_le a0 0 with hn | hn
  · exact key _ (by omega) (by omega) (.inr ⟨hn, rfl⟩)
  · exact key _ (by omega) (by omega) (.inl ⟨hn, rfl⟩)
end Go.Proofs.Ytlcgohmpbmmcpaa
