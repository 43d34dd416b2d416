import Derived.Test.YtlogfghcfmpjdaaPutFacts
namespace Go.Proofs.Ytlogfghcfmpjdaa
open Go.RowKit

def NumLo (m j : Nat) : Prop := j = 1 ∨ m / 256 ^ (j - 1) ≠ 0
theorem numLo_le {m j : Nat} (hm : m < 256 ^ 8) (hq : m / 256 ^ j ≠ 0) : j ≤ 7 := by
  rcases Nat.lt_or_ge j 8 with h | h
  · omega
  · exfalso
    apply hq
    apply Nat.div_eq_of_lt
    exact Nat.lt_of_lt_of_le hm (Nat.pow_le_pow_right (by decide) h)
theorem sizes_yes {m j : Nat} {size : Int} (hlo : NumLo m j) (h1 : 1 ≤ j) (hk : putOk (m : Int) size = true) : (j : Int) ≤ size ∧ size ≤ 8 := by
  obtain ⟨s1, s8, h⟩ := (putOk_nat m size).1 hk
  refine ⟨?_, s8⟩
  obtain ⟨s, rfl⟩ := Int.eq_ofNat_of_zero_le (show 0 ≤ size by omega)
  rcases Nat.lt_or_ge s j with hlt | hge
  · rcases hlo with h' | h'
    · omega
    · exfalso; apply h'
      apply Nat.div_eq_of_lt
      simp only [Int.toNat_natCast] at h
      exact Nat.lt_of_lt_of_le h (Nat.pow_le_pow_right (by decide) (by omega))
  · omega
theorem sizes_no {m j : Nat} {size : Int} (hq : m / 256 ^ j = 0) (h1 : 1 ≤ j) (hk : putOk (m : Int) size = false) : ¬ ((j : Int) ≤ size ∧ size ≤ 8) := by
  rintro ⟨h, h8⟩
  have : putOk (m : Int) size = true := by
    rw [putOk_nat]
    refine ⟨by omega, h8, ?_⟩
    have hp : 0 < 256 ^ j := Nat.pow_pos (by decide)
    exact Nat.lt_of_lt_of_le ((Nat.div_eq_zero_iff_lt hp).1 hq) (Nat.pow_le_pow_right (by decide) (by omega))
  rw [hk] at this; cases this
theorem step_div (m j : Nat) : ((m / 256 ^ j : Nat) : Int) / 256 = ((m / 256 ^ (j + 1) : Nat) : Int) := by
  rw [Nat.pow_succ, ← Nat.div_div_eq_div_mul]; omega

set_option maxHeartbeats 400000 in
theorem numSizes_yes (m : Nat) (size : Int) (w : World) (hm : m < 256 ^ 8) (hmm : m ≤ 18446744073709551615) (hk : putOk (m : Int) size = true) :
    Calls Try.prog 7 #[.int .u64 (m : Int), .int .i64 size] w fun e w' => e = .returned (.bool true) ∧ Below w.heap.size w w' := by
  have k8 : putOk (m : Int) 8 = true := (putOk_nat m 8).2 ⟨by omega, by omega, hm⟩
  have K8 := Lib.hid k8
  have K := Lib.hid hk
  have HM := Lib.hid hm
  clear k8 hk hm
  go_enter Try.func7, Try.ntmps7
  go_wp2_with fail
  refine (examples_any _).mono ?_
  rintro e w1 ⟨rfl, b1⟩
  go_wp2_with fail
  refine (put_yes _ _ _ (by omega) K8.out).mono ?_
  rintro e w2 ⟨rfl, b2⟩
  go_wp2_with fail
  refine (put_yes _ _ _ (by omega) K.out).mono ?_
  rintro e w3 ⟨rfl, b3⟩
  have b : Below w.heap.size w w3 := (b1.trans (b2.mono b1.size)).trans (b3.mono (Nat.le_trans b1.size b2.size))
  clear b1 b2 b3
  go_wp2_with fail
  go_loop [10, 11] (fun need k => ∃ j : Nat, 1 ≤ j ∧ j ≤ 8 ∧ need = .int .i64 j ∧ k = .int .u64 ((m / 256 ^ j : Nat) : Int) ∧ NumLo m j) (fun _ k => (intOf k).toNat)
  case atStart => exact ⟨1, by omega, by omega, rfl, by simp, .inl rfl⟩
  case round =>
    obtain ⟨j, hj1, hj8, rfl, rfl, hlo⟩ := hrel
    have LO := Lib.hid hlo
    have hstep := Lib.hid (step_div m j)
    have hle := Lib.hid (@numLo_le m j HM.out)
    have hy := Lib.hid (@sizes_yes m j size LO.out hj1 K.out)
    have hlo' : Hid (m / 256 ^ j ≠ 0 → NumLo m (j + 1)) := Lib.hid (fun h => .inr h)
    have hqm : m / 256 ^ j ≤ 18446744073709551615 := Nat.le_trans (Nat.div_le_self _ _) hmm
    clear hlo
    generalize m / 256 ^ j = q at *
    by_cases hz : 0 < q
    · have hle' := hle.out (by omega)
      go_wp2
      go_round
      case rel => exact ⟨j + 1, by omega, by omega, by go_num, by rw [hstep.out], hlo'.out (by omega)⟩
      case measure => simp [intOf]; omega
    · obtain rfl : q = 0 := by omega
      obtain ⟨y1, y2⟩ := hy.out
      go_wp2
      go_ret
      exact ⟨ret_true (by simp), b⟩
set_option maxHeartbeats 400000 in
theorem numSizes_no (m : Nat) (size : Int) (w : World) (hm : m < 256 ^ 8) (hmm : m ≤ 18446744073709551615) (hk : putOk (m : Int) size = false) :
    Calls Try.prog 7 #[.int .u64 (m : Int), .int .i64 size] w fun e w' => e = .returned (.bool true) ∧ Below w.heap.size w w' := by
  have k8 : putOk (m : Int) 8 = true := (putOk_nat m 8).2 ⟨by omega, by omega, hm⟩
  have K8 := Lib.hid k8
  have K := Lib.hid hk
  have HM := Lib.hid hm
  clear k8 hk hm
  go_enter Try.func7, Try.ntmps7
  go_wp2_with fail
  refine (examples_any _).mono ?_
  rintro e w1 ⟨rfl, b1⟩
  go_wp2_with fail
  refine (put_yes _ _ _ (by omega) K8.out).mono ?_
  rintro e w2 ⟨rfl, b2⟩
  go_wp2_with fail
  refine (put_no _ _ _ (by omega) K.out).mono ?_
  rintro e w3 ⟨rfl, b3⟩
  have b : Below w.heap.size w w3 := (b1.trans (b2.mono b1.size)).trans (b3.mono (Nat.le_trans b1.size b2.size))
  clear b1 b2 b3
  go_wp2_with fail
  go_loop [10, 11] (fun need k => ∃ j : Nat, 1 ≤ j ∧ j ≤ 8 ∧ need = .int .i64 j ∧ k = .int .u64 ((m / 256 ^ j : Nat) : Int) ∧ NumLo m j) (fun _ k => (intOf k).toNat)
  case atStart => exact ⟨1, by omega, by omega, rfl, by simp, .inl rfl⟩
  case round =>
    obtain ⟨j, hj1, hj8, rfl, rfl, hlo⟩ := hrel
    have LO := Lib.hid hlo
    have hstep := Lib.hid (step_div m j)
    have hle := Lib.hid (@numLo_le m j HM.out)
    have hy := Lib.hid (fun hq => @sizes_no m j size hq hj1 K.out)
    have hlo' : Hid (m / 256 ^ j ≠ 0 → NumLo m (j + 1)) := Lib.hid (fun h => .inr h)
    have hqm : m / 256 ^ j ≤ 18446744073709551615 := Nat.le_trans (Nat.div_le_self _ _) hmm
    clear hlo
    generalize m / 256 ^ j = q at *
    by_cases hz : 0 < q
    · have hle' := hle.out (by omega)
      go_wp2
      go_round
      case rel => exact ⟨j + 1, by omega, by omega, by go_num, by rw [hstep.out], hlo'.out (by omega)⟩
      case measure => simp [intOf]; omega
    · obtain rfl : q = 0 := by omega
      have hn := Lib.hid (hy.out rfl)
      have hn' : size < (j : Int) ∨ 8 < size := by have := hn.out; omega
      clear hn
      rcases hn' with h | h
      · go_wp2
        go_ret
        exact ⟨ret_true (by simp), b⟩
      · have h' : decide (size ≤ 8) = false := by simp; omega
        by_cases hj : (j : Int) ≤ size
        · go_wp2
          go_ret
          exact ⟨ret_true (by simp), b⟩
        · go_wp2
          go_ret
          exact ⟨ret_true (by simp), b⟩
theorem numSizes_law (a0 a1 : Int) (w : World) (w0 : (Lit.int .u64 a0).wf = true) (_w1 : (Lit.int .i64 a1).wf = true) :
    Calls Try.prog 7 #[.int .u64 a0, .int .i64 a1] w fun e w' => e = .returned (.bool true) ∧ Below w.heap.size w w' := by
  obtain ⟨l, h⟩ := bounds_u64 w0
  obtain ⟨m, rfl⟩ := Int.eq_ofNat_of_zero_le l
  have hm : m ≤ 18446744073709551615 := by omega
  have h8 : m < 256 ^ 8 := by
    have e : (256 : Nat) ^ 8 = 18446744073709551616 := by simp
    rw [e]; omega
  cases hk : putOk (m : Int) a1
  · exact numSizes_no m a1 w h8 hm hk
  · exact numSizes_yes m a1 w h8 hm hk
end Go.Proofs.Ytlogfghcfmpjdaa
