/-
  First.
-/
import Derived.Test.YtlcgohmpbmmcpaaBits
namespace Go.Proofs.Ytlcgohmpbmmcpaa
open Go.RowKit
set_option linter.unusedVariables false

def firstO (b : ByteArray) (n : Int) : Option Nat := (List.range (min n (8 * (b.size : Int))).toNat).find? fun i => !hasB b (i : Int)
def firstN (b : ByteArray) (n : Int) : Int := match firstO b n with
  | some i => (i : Int)
  | none => 0
def firstK (b : ByteArray) (n : Int) : Bool := (firstO b n).isSome
theorem find_hit (p : Nat → Bool) (m j : Nat) (h : ∀ i, i < j → p i = false) (hj : p j = true) (hm : j < m) : (List.range m).find? p = some j := by
  rw [List.find?_range_eq_some]
  exact ⟨hj, by simpa using hm, fun i hi => by simp [h i hi]⟩
theorem find_none (p : Nat → Bool) (m : Nat) (h : ∀ i, i < m → p i = false) : (List.range m).find? p = none := by
  rw [List.find?_range_eq_none]
  intro i hi
  simp [h i hi]
theorem first_hit (b : ByteArray) (n : Int) (j : Nat) (h : ∀ i, i < j → hasB b (i : Int) = true) (hj : hasB b (j : Int) = false) (h1 : (j : Int) < n) (h2 : (j : Int) < 8 * (b.size : Int)) : firstN b n = (j : Int) ∧ firstK b n = true := by
  unfold firstN firstK firstO
  rw [find_hit _ _ j (fun i hi => by rw [h i hi]; rfl) (by rw [hj]; rfl) (by omega)]
  exact ⟨rfl, rfl⟩
theorem first_none (b : ByteArray) (n : Int) (j : Nat) (h : ∀ i, i < j → hasB b (i : Int) = true) (hj : n ≤ (j : Int) ∨ 8 * (b.size : Int) ≤ (j : Int)) : firstN b n = 0 ∧ firstK b n = false := by
  unfold firstN firstK firstO
  rw [find_none _ _ (fun i hi => by rw [h i (by omega)]; rfl)]
  exact ⟨rfl, rfl⟩

set_option maxHeartbeats 800000 in
theorem first_any (b : ByteArray) (n : Int) (w : World) (hb : b.size ≤ 140737488351232) (h0 : -9223372036854775808 ≤ n) (h1 : n < 9223372036854775808) :
    Calls Try.prog 11 #[.string b, .int .i64 n] w fun e w' => e = .returned (.tuple #[.int .i64 (firstN b n), .bool (firstK b n)]) ∧ w = w' := by
  rcases (Int.lt_or_le ((b.size : Int) * 8) n).symm with hcmp | hcmp
  · go_enter Try.func11, Try.ntmps11
    go_wp2_with fail
    go_loopw [12] (fun i wr => ∃ j : Nat, i = .int .i64 (j : Int) ∧ j ≤ 8 * b.size ∧ Hid (∀ k, k < j → hasB b (k : Int) = true) ∧ wr = w) (fun i _ => 8 * b.size + 1 - (intOf i).toNat)
    case atStart => exact ⟨0, rfl, by omega, Lib.hid (fun k hk => absurd hk (Nat.not_lt_zero k)), rfl⟩
    case round =>
      obtain ⟨j, rfl, hj, hall, rfl⟩ := hrel
      by_cases hlt : (j : Int) < n
      · cases hv : hasB b (j : Int)
        · have hh := first_hit b n j hall.out hv (by omega) (by omega)
          have HV := Lib.hid hv
          have H1 := Lib.hid hh.1
          have H2 := Lib.hid hh.2
          clear hv hh
          go_wp2_with fail
          refine (has_any _ _ _ (by omega)).mono ?_
          rw [HV.out]
          rintro e w1 ⟨rfl, rfl⟩
          go_wp2_with fail
          go_ret2
          exact ⟨by rw [H1.out, H2.out]; rfl, rfl⟩
        · have HV := Lib.hid hv
          have HS : Hid (∀ k, k < j + 1 → hasB b (k : Int) = true) := Lib.hid fun k hk => by
            rcases Nat.lt_or_ge k j with h | h
            · exact hall.out k h
            · obtain rfl : k = j := by omega
              exact hv
          clear hv
          go_wp2_with fail
          refine (has_any _ _ _ (by omega)).mono ?_
          rw [HV.out]
          rintro e w1 ⟨rfl, rfl⟩
          go_wp2_with fail
          go_roundw
          case rel => exact ⟨j + 1, by go_num, by omega, HS, trivial⟩
          case measure => simp [intOf]; omega
      · have hh := first_none b n j hall.out (by omega)
        have H1 := Lib.hid hh.1
        have H2 := Lib.hid hh.2
        clear hh
        go_wp2_with fail
        go_ret2
        exact ⟨by rw [H1.out, H2.out]; rfl, rfl⟩
  · go_enter Try.func11, Try.ntmps11
    go_wp2_with fail
    go_loopw [12] (fun i wr => ∃ j : Nat, i = .int .i64 (j : Int) ∧ j ≤ 8 * b.size ∧ Hid (∀ k, k < j → hasB b (k : Int) = true) ∧ wr = w) (fun i _ => 8 * b.size + 1 - (intOf i).toNat)
    case atStart => exact ⟨0, rfl, by omega, Lib.hid (fun k hk => absurd hk (Nat.not_lt_zero k)), rfl⟩
    case round =>
      obtain ⟨j, rfl, hj, hall, rfl⟩ := hrel
      by_cases hlt : (j : Int) < (b.size : Int) * 8
      · cases hv : hasB b (j : Int)
        · have hh := first_hit b n j hall.out hv (by omega) (by omega)
          have HV := Lib.hid hv
          have H1 := Lib.hid hh.1
          have H2 := Lib.hid hh.2
          clear hv hh
          go_wp2_with fail
          refine (has_any _ _ _ (by omega)).mono ?_
          rw [HV.out]
          rintro e w1 ⟨rfl, rfl⟩
          go_wp2_with fail
          go_ret2
          exact ⟨by rw [H1.out, H2.out]; rfl, rfl⟩
        · have HV := Lib.hid hv
          have HS : Hid (∀ k, k < j + 1 → hasB b (k : Int) = true) := Lib.hid fun k hk => by
            rcases Nat.lt_or_ge k j with h | h
            · exact hall.out k h
            · obtain rfl : k = j := by omega
              exact hv
          clear hv
          go_wp2_with fail
          refine (has_any _ _ _ (by omega)).mono ?_
          rw [HV.out]
          rintro e w1 ⟨rfl, rfl⟩
          go_wp2_with fail
          go_roundw
          case rel => exact ⟨j + 1, by go_num, by omega, HS, trivial⟩
          case measure => simp [intOf]; omega
      · have hh := first_none b n j hall.out (by omega)
        have H1 := Lib.hid hh.1
        have H2 := Lib.hid hh.2
        clear hh
        go_wp2_with fail
        go_ret2
        exact ⟨by rw [H1.out, H2.out]; rfl, rfl⟩
set_option maxHeartbeats 800000 in
theorem refFirst_any (b : ByteArray) (n : Int) (w : World) (hb : b.size ≤ 140737488351232) (h0 : -9223372036854775808 ≤ n) (h1 : n < 9223372036854775808) :
    Calls Try.prog 12 #[.string b, .int .i64 n] w fun e w' => e = .returned (.tuple #[.int .i64 (firstN b n), .bool (firstK b n)]) ∧ w = w' := by
  go_enter Try.func12, Try.ntmps12
  go_wp2_with fail
  go_loopw [6] (fun i wr => ∃ j : Nat, i = .int .i64 (j : Int) ∧ j ≤ 8 * b.size ∧ Hid (∀ k, k < j → hasB b (k : Int) = true) ∧ wr = w) (fun i _ => 8 * b.size + 1 - (intOf i).toNat)
  case atStart => exact ⟨0, rfl, by omega, Lib.hid (fun k hk => absurd hk (Nat.not_lt_zero k)), rfl⟩
  case round =>
    obtain ⟨j, rfl, hj, hall, rfl⟩ := hrel
    by_cases hl1 : (j : Int) < 8 * (b.size : Int)
    · by_cases hlt : (j : Int) < n
      · cases hv : hasB b (j : Int)
        · have hh := first_hit b n j hall.out hv (by omega) (by omega)
          have HV := Lib.hid hv
          have H1 := Lib.hid hh.1
          have H2 := Lib.hid hh.2
          clear hv hh
          go_wp2_with fail
          refine (refHas_any _ _ _ (by omega)).mono ?_
          rw [HV.out]
          rintro e w1 ⟨rfl, rfl⟩
          go_wp2_with fail
          go_ret2
          exact ⟨by rw [H1.out, H2.out]; rfl, rfl⟩
        · have HV := Lib.hid hv
          have HS : Hid (∀ k, k < j + 1 → hasB b (k : Int) = true) := Lib.hid fun k hk => by
            rcases Nat.lt_or_ge k j with h | h
            · exact hall.out k h
            · obtain rfl : k = j := by omega
              exact hv
          clear hv
          go_wp2_with fail
          refine (refHas_any _ _ _ (by omega)).mono ?_
          rw [HV.out]
          rintro e w1 ⟨rfl, rfl⟩
          go_wp2_with fail
          go_roundw
          case rel => exact ⟨j + 1, by go_num, by omega, HS, trivial⟩
          case measure => simp [intOf]; omega
      · have hh := first_none b n j hall.out (by omega)
        have H1 := Lib.hid hh.1
        have H2 := Lib.hid hh.2
        clear hh
        go_wp2_with fail
        go_ret2
        exact ⟨by rw [H1.out, H2.out]; rfl, rfl⟩
    · have hh := first_none b n j hall.out (by omega)
      have H1 := Lib.hid hh.1
      have H2 := Lib.hid hh.2
      clear hh
      go_wp2_with fail
      go_ret2
      exact ⟨by rw [H1.out, H2.out]; rfl, rfl⟩
end Go.Proofs.Ytlcgohmpbmmcpaa
