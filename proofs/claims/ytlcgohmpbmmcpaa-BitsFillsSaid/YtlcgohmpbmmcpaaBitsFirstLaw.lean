import Derived.Test.YtlcgohmpbmmcpaaEx08
namespace Go.Proofs.Ytlcgohmpbmmcpaa
open Go.RowKit
set_option linter.unusedVariables false

theorem find_some (p : Nat → Bool) (m k : Nat) (h : (List.range m).find? p = some k) : p k = true ∧ k < m ∧ ∀ i, i < k → p i = false := by
  rw [List.find?_range_eq_some] at h
  refine ⟨h.1, by simpa using h.2.1, fun i hi => by simpa using h.2.2 i hi⟩
theorem find_no (p : Nat → Bool) (m : Nat) (h : (List.range m).find? p = none) : ∀ i, i < m → p i = false := by
  rw [List.find?_range_eq_none] at h
  intro i hi
  simpa using h i hi
/-- What First says. -/
theorem first_says (b : ByteArray) (n : Int) :
    (firstK b n = false ∧ firstN b n = 0 ∧ ∀ i : Nat, (i : Int) < n → (i : Int) < 8 * (b.size : Int) → hasB b (i : Int) = true) ∨
    (∃ k : Nat, firstK b n = true ∧ firstN b n = (k : Int) ∧ (k : Int) < n ∧ (k : Int) < 8 * (b.size : Int) ∧ hasB b (k : Int) = false ∧ ∀ i : Nat, i < k → hasB b (i : Int) = true) := by
  unfold firstK firstN
  cases h : firstO b n with
  | none =>
    have hh := find_no _ _ h
    exact .inl ⟨rfl, rfl, fun i h1 h2 => by simpa using hh i (by omega)⟩
  | some k =>
    have hh := find_some _ _ _ h
    have h2 := hh.2.1
    exact .inr ⟨k, rfl, rfl, by omega, by omega, by simpa using hh.1, fun i hi => by simpa using hh.2.2 i hi⟩
set_option maxHeartbeats 1600000 in
theorem bitsFirst_bl (b c : ByteArray) (n : Int) (w : World) (hb : b.size ≤ 140737488351232) (h0 : -9223372036854775808 ≤ n) (h1 : n ≤ 9223372036854775807) (hc : Hid (b.extract 0 60 = c)) (hcs : c.size ≤ 60) (hbb : 60 < (b.size : Int)) (hn : 600 < n) :
    Calls Try.prog 6 #[.string b, .int .i64 n] w fun e w' => e = .returned (.bool true) ∧ Below w.heap.size w w' := by
  have dum := trivial
  · clear dum
    go_enter Try.func6, Try.ntmps6
    go_wp2_with fail
    refine (examples_any _).mono ?_
    rintro e w1 ⟨rfl, bb⟩
    go_wp2_with fail
    rw [hc.out]
    refine (first_any _ _ _ (by omega) (by omega) (by omega)).mono ?_
    rcases first_says c 600 with ⟨hk, hN, hall⟩ | ⟨k, hk, hN, hkn, hkb, hno, hall⟩
    · rw [hk, hN]
      have ALL := Lib.hid hall
      clear hk hN hall
      rintro e w2 ⟨rfl, rfl⟩
      go_wp2_with fail
      all_goals
        go_loopw [9] (fun i wr => ∃ j : Nat, j ≤ 600 ∧ i = .int .i64 (j : Int) ∧ Below w.heap.size w wr) (fun i _ => 601 - (intOf i).toNat)
        case atStart => exact ⟨0, by omega, rfl, bb⟩
        case round =>
          obtain ⟨j, hj, rfl, hbw⟩ := hrel
          by_cases hlt : (j : Int) < 600 ∧ (j : Int) < 8 * (c.size : Int)
          · have HV := Lib.hid (ALL.out j hlt.1 hlt.2)
            obtain ⟨hl1, hl2⟩ := hlt
            go_wp2_with fail
            refine (has_any _ _ _ (by omega)).mono ?_
            rw [HV.out]
            rintro e w3 ⟨rfl, rfl⟩
            go_wp2_with fail
            go_roundw
            case rel => exact ⟨j + 1, by omega, by go_num, hbw⟩
            case measure => simp [intOf]; omega
          · go_wp2_with fail
            go_ret
            exact ⟨ret_true (by simp), hbw⟩
    · rw [hk, hN]
      have ALL := Lib.hid hall
      have HN := Lib.hid hno
      clear hk hN hall hno
      rintro e w2 ⟨rfl, rfl⟩
      go_wp2_with fail
      all_goals
        refine (has_any _ _ _ (by omega)).mono ?_
        rw [HN.out]
        rintro e w3 ⟨rfl, rfl⟩
        clear hkn
        go_wp2_with fail
        go_loopw [9] (fun i wr => ∃ j : Nat, j ≤ k ∧ i = .int .i64 (j : Int) ∧ Below w.heap.size w wr) (fun i _ => k + 1 - (intOf i).toNat)
        case atStart => exact ⟨0, by omega, rfl, bb⟩
        case round =>
          obtain ⟨j, hj, rfl, hbw⟩ := hrel
          by_cases hlt : (j : Int) < (k : Int)
          · have HV := Lib.hid (ALL.out j (by omega))
            go_wp2_with fail
            refine (has_any _ _ _ (by omega)).mono ?_
            rw [HV.out]
            rintro e w3 ⟨rfl, rfl⟩
            go_wp2_with fail
            go_roundw
            case rel => exact ⟨j + 1, by omega, by go_num, hbw⟩
            case measure => simp [intOf]; omega
          · go_wp2_with fail
            go_ret
            exact ⟨ret_true (by simp), hbw⟩
set_option maxHeartbeats 1600000 in
theorem bitsFirst_bs (b c : ByteArray) (n : Int) (w : World) (hb : b.size ≤ 140737488351232) (h0 : -9223372036854775808 ≤ n) (h1 : n ≤ 9223372036854775807) (hc : Hid (b.extract 0 60 = c)) (hcs : c.size ≤ 60) (hbb : 60 < (b.size : Int)) (hn : n ≤ 600) :
    Calls Try.prog 6 #[.string b, .int .i64 n] w fun e w' => e = .returned (.bool true) ∧ Below w.heap.size w w' := by
  have dum := trivial
  · clear dum
    go_enter Try.func6, Try.ntmps6
    go_wp2_with fail
    refine (examples_any _).mono ?_
    rintro e w1 ⟨rfl, bb⟩
    go_wp2_with fail
    rw [hc.out]
    refine (first_any _ _ _ (by omega) (by omega) (by omega)).mono ?_
    rcases first_says c n with ⟨hk, hN, hall⟩ | ⟨k, hk, hN, hkn, hkb, hno, hall⟩
    · rw [hk, hN]
      have ALL := Lib.hid hall
      clear hk hN hall
      rintro e w2 ⟨rfl, rfl⟩
      go_wp2_with fail
      all_goals
        go_loopw [9] (fun i wr => ∃ j : Nat, j ≤ 600 ∧ i = .int .i64 (j : Int) ∧ Below w.heap.size w wr) (fun i _ => 601 - (intOf i).toNat)
        case atStart => exact ⟨0, by omega, rfl, bb⟩
        case round =>
          obtain ⟨j, hj, rfl, hbw⟩ := hrel
          by_cases hlt : (j : Int) < n ∧ (j : Int) < 8 * (c.size : Int)
          · have HV := Lib.hid (ALL.out j hlt.1 hlt.2)
            obtain ⟨hl1, hl2⟩ := hlt
            go_wp2_with fail
            refine (has_any _ _ _ (by omega)).mono ?_
            rw [HV.out]
            rintro e w3 ⟨rfl, rfl⟩
            go_wp2_with fail
            go_roundw
            case rel => exact ⟨j + 1, by omega, by go_num, hbw⟩
            case measure => simp [intOf]; omega
          · go_wp2_with fail
            go_ret
            exact ⟨ret_true (by simp), hbw⟩
    · rw [hk, hN]
      have ALL := Lib.hid hall
      have HN := Lib.hid hno
      clear hk hN hall hno
      rintro e w2 ⟨rfl, rfl⟩
      go_wp2_with fail
      all_goals
        refine (has_any _ _ _ (by omega)).mono ?_
        rw [HN.out]
        rintro e w3 ⟨rfl, rfl⟩
        go_wp2_with fail
        go_loopw [9] (fun i wr => ∃ j : Nat, j ≤ k ∧ i = .int .i64 (j : Int) ∧ Below w.heap.size w wr) (fun i _ => k + 1 - (intOf i).toNat)
        case atStart => exact ⟨0, by omega, rfl, bb⟩
        case round =>
          obtain ⟨j, hj, rfl, hbw⟩ := hrel
          by_cases hlt : (j : Int) < (k : Int)
          · have HV := Lib.hid (ALL.out j (by omega))
            go_wp2_with fail
            refine (has_any _ _ _ (by omega)).mono ?_
            rw [HV.out]
            rintro e w3 ⟨rfl, rfl⟩
            go_wp2_with fail
            go_roundw
            case rel => exact ⟨j + 1, by omega, by go_num, hbw⟩
            case measure => simp [intOf]; omega
          · go_wp2_with fail
            go_ret
            exact ⟨ret_true (by simp), hbw⟩
set_option maxHeartbeats 1600000 in
theorem bitsFirst_sl (b c : ByteArray) (n : Int) (w : World) (hb : b.size ≤ 140737488351232) (h0 : -9223372036854775808 ≤ n) (h1 : n ≤ 9223372036854775807) (hbb : (b.size : Int) ≤ 60) (hn : 600 < n) :
    Calls Try.prog 6 #[.string b, .int .i64 n] w fun e w' => e = .returned (.bool true) ∧ Below w.heap.size w w' := by
  have dum := trivial
  · clear dum
    go_enter Try.func6, Try.ntmps6
    go_wp2_with fail
    refine (examples_any _).mono ?_
    rintro e w1 ⟨rfl, bb⟩
    go_wp2_with fail
    refine (first_any _ _ _ (by omega) (by omega) (by omega)).mono ?_
    rcases first_says b 600 with ⟨hk, hN, hall⟩ | ⟨k, hk, hN, hkn, hkb, hno, hall⟩
    · rw [hk, hN]
      have ALL := Lib.hid hall
      clear hk hN hall
      rintro e w2 ⟨rfl, rfl⟩
      go_wp2_with fail
      all_goals
        go_loopw [9] (fun i wr => ∃ j : Nat, j ≤ 600 ∧ i = .int .i64 (j : Int) ∧ Below w.heap.size w wr) (fun i _ => 601 - (intOf i).toNat)
        case atStart => exact ⟨0, by omega, rfl, bb⟩
        case round =>
          obtain ⟨j, hj, rfl, hbw⟩ := hrel
          by_cases hlt : (j : Int) < 600 ∧ (j : Int) < 8 * (b.size : Int)
          · have HV := Lib.hid (ALL.out j hlt.1 hlt.2)
            obtain ⟨hl1, hl2⟩ := hlt
            go_wp2_with fail
            refine (has_any _ _ _ (by omega)).mono ?_
            rw [HV.out]
            rintro e w3 ⟨rfl, rfl⟩
            go_wp2_with fail
            go_roundw
            case rel => exact ⟨j + 1, by omega, by go_num, hbw⟩
            case measure => simp [intOf]; omega
          · go_wp2_with fail
            go_ret
            exact ⟨ret_true (by simp), hbw⟩
    · rw [hk, hN]
      have ALL := Lib.hid hall
      have HN := Lib.hid hno
      clear hk hN hall hno
      rintro e w2 ⟨rfl, rfl⟩
      go_wp2_with fail
      all_goals
        refine (has_any _ _ _ (by omega)).mono ?_
        rw [HN.out]
        rintro e w3 ⟨rfl, rfl⟩
        clear hkn
        go_wp2_with fail
        go_loopw [9] (fun i wr => ∃ j : Nat, j ≤ k ∧ i = .int .i64 (j : Int) ∧ Below w.heap.size w wr) (fun i _ => k + 1 - (intOf i).toNat)
        case atStart => exact ⟨0, by omega, rfl, bb⟩
        case round =>
          obtain ⟨j, hj, rfl, hbw⟩ := hrel
          by_cases hlt : (j : Int) < (k : Int)
          · have HV := Lib.hid (ALL.out j (by omega))
            go_wp2_with fail
            refine (has_any _ _ _ (by omega)).mono ?_
            rw [HV.out]
            rintro e w3 ⟨rfl, rfl⟩
            go_wp2_with fail
            go_roundw
            case rel => exact ⟨j + 1, by omega, by go_num, hbw⟩
            case measure => simp [intOf]; omega
          · go_wp2_with fail
            go_ret
            exact ⟨ret_true (by simp), hbw⟩
set_option maxHeartbeats 1600000 in
theorem bitsFirst_ss (b c : ByteArray) (n : Int) (w : World) (hb : b.size ≤ 140737488351232) (h0 : -9223372036854775808 ≤ n) (h1 : n ≤ 9223372036854775807) (hbb : (b.size : Int) ≤ 60) (hn : n ≤ 600) :
    Calls Try.prog 6 #[.string b, .int .i64 n] w fun e w' => e = .returned (.bool true) ∧ Below w.heap.size w w' := by
  have dum := trivial
  · clear dum
    go_enter Try.func6, Try.ntmps6
    go_wp2_with fail
    refine (examples_any _).mono ?_
    rintro e w1 ⟨rfl, bb⟩
    go_wp2_with fail
    refine (first_any _ _ _ (by omega) (by omega) (by omega)).mono ?_
    rcases first_says b n with ⟨hk, hN, hall⟩ | ⟨k, hk, hN, hkn, hkb, hno, hall⟩
    · rw [hk, hN]
      have ALL := Lib.hid hall
      clear hk hN hall
      rintro e w2 ⟨rfl, rfl⟩
      go_wp2_with fail
      all_goals
        go_loopw [9] (fun i wr => ∃ j : Nat, j ≤ 600 ∧ i = .int .i64 (j : Int) ∧ Below w.heap.size w wr) (fun i _ => 601 - (intOf i).toNat)
        case atStart => exact ⟨0, by omega, rfl, bb⟩
        case round =>
          obtain ⟨j, hj, rfl, hbw⟩ := hrel
          by_cases hlt : (j : Int) < n ∧ (j : Int) < 8 * (b.size : Int)
          · have HV := Lib.hid (ALL.out j hlt.1 hlt.2)
            obtain ⟨hl1, hl2⟩ := hlt
            go_wp2_with fail
            refine (has_any _ _ _ (by omega)).mono ?_
            rw [HV.out]
            rintro e w3 ⟨rfl, rfl⟩
            go_wp2_with fail
            go_roundw
            case rel => exact ⟨j + 1, by omega, by go_num, hbw⟩
            case measure => simp [intOf]; omega
          · go_wp2_with fail
            go_ret
            exact ⟨ret_true (by simp), hbw⟩
    · rw [hk, hN]
      have ALL := Lib.hid hall
      have HN := Lib.hid hno
      clear hk hN hall hno
      rintro e w2 ⟨rfl, rfl⟩
      go_wp2_with fail
      all_goals
        refine (has_any _ _ _ (by omega)).mono ?_
        rw [HN.out]
        rintro e w3 ⟨rfl, rfl⟩
        go_wp2_with fail
        go_loopw [9] (fun i wr => ∃ j : Nat, j ≤ k ∧ i = .int .i64 (j : Int) ∧ Below w.heap.size w wr) (fun i _ => k + 1 - (intOf i).toNat)
        case atStart => exact ⟨0, by omega, rfl, bb⟩
        case round =>
          obtain ⟨j, hj, rfl, hbw⟩ := hrel
          by_cases hlt : (j : Int) < (k : Int)
          · have HV := Lib.hid (ALL.out j (by omega))
            go_wp2_with fail
            refine (has_any _ _ _ (by omega)).mono ?_
            rw [HV.out]
            rintro e w3 ⟨rfl, rfl⟩
            go_wp2_with fail
            go_roundw
            case rel => exact ⟨j + 1, by omega, by go_num, hbw⟩
            case measure => simp [intOf]; omega
          · go_wp2_with fail
            go_ret
            exact ⟨ret_true (by simp), hbw⟩
theorem bitsFirst_law (a0 : ByteArray) (a1 : Int) (w : World) (z0 : a0.size ≤ 140737488351232) (w1 : (Lit.int .i64 a1).wf = true) :
    Calls Try.prog 6 #[.string a0, .int .i64 a1] w fun e w' => e = .returned (.bool true) ∧ Below w.heap.size w w' := by
  have h1 := bounds_i64 w1
  have hz : (a0.extract 0 60).size ≤ 60 := by rw [ByteArray.size_extract]; omega
  rcases Int.lt_or_le 60 (a0.size : Int) with hs | hs <;> rcases Int.lt_or_le 600 a1 with hn | hn
  · exact bitsFirst_bl a0 _ a1 w z0 h1.1 h1.2 (Lib.hid rfl) hz hs hn
  · exact bitsFirst_bs a0 _ a1 w z0 h1.1 h1.2 (Lib.hid rfl) hz hs hn
  · exact bitsFirst_sl a0 a0 a1 w z0 h1.1 h1.2 hs hn
  · exact bitsFirst_ss a0 a0 a1 w z0 h1.1 h1.2 hs hn
end Go.Proofs.Ytlcgohmpbmmcpaa
