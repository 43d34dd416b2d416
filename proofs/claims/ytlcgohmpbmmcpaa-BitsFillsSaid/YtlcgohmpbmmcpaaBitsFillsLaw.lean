import Derived.Test.YtlcgohmpbmmcpaaBitsFacts
import Derived.Test.YtlcgohmpbmmcpaaBitsFirstLaw
namespace Go.Proofs.Ytlcgohmpbmmcpaa
open Go.RowKit
set_option linter.unusedVariables false

/-- All numbers up to L are in, and so many numbers. -/
def Fill (d : ByteArray) (L : Int) (m : Nat) : Prop := (∀ t : Nat, (t : Int) ≤ L → hasB d (t : Int) = true) ∧ cntL d.data.toList = m
theorem fill_step (d : ByteArray) (L : Int) (m k : Nat) (h : Fill d L m) (hk : (k : Int) < 8 * (d.size : Int)) (hno : hasB d (k : Int) = false) (hall : ∀ i : Nat, i < k → hasB d (i : Int) = true) : L < (k : Int) ∧ Fill (withB d (k : Int) true) (k : Int) (m + 1) := by
  have hr : roomB d (k : Int) = true := (room_iff d _).2 ⟨by omega, hk⟩
  refine ⟨?_, fun t ht => ?_, ?_⟩
  · rcases Int.lt_or_le L (k : Int) with h1 | h1
    · exact h1
    · rw [h.1 k h1] at hno; cases hno
  · rw [has_with d _ _ _ hr]
    by_cases e : (t : Int) = (k : Int)
    · rw [if_pos e]
    · rw [if_neg e]; exact hall t (by omega)
  · have h2 := cnt_with d _ hr
    rcases with_same d _ hr with e | e
    · have h3 := has_with d (k : Int) (k : Int) true hr
      rw [if_pos rfl, e, hno] at h3; cases h3
    · rw [e, h.2] at h2; exact h2
set_option maxHeartbeats 3200000 in
theorem bitsFills_b (b c : ByteArray) (n T : Int) (q : Nat) (w : World) (hb : b.size ≤ 140737488351232) (n0 : 0 ≤ n) (n1 : n ≤ 255) (hT : n % 65 = T) (T0 : 0 ≤ T) (T1 : T ≤ 64) (hc : Hid (b.extract 0 8 = c)) (hbb : 8 < (b.size : Int)) (hcs : c.size ≤ 8) (CQ : Hid (cntL c.data.toList = q)) (hq : q ≤ 64) :
    Calls Try.prog 9 #[.string b, .int .u8 n] w fun e w' => e = .returned (.bool true) ∧ Below w.heap.size w w' := by
  go_enter Try.func9, Try.ntmps9
  try simp only [List.append_eq, List.cons_append, List.nil_append]
  go_wp2_with fail
  refine (examples_any _).mono ?_
  rintro e w1 ⟨rfl, bb⟩
  go_wp2_with fail
  rw [hc.out]
  refine (count_any _ _ (by omega)).mono ?_
  rw [CQ.out]
  rintro e w9 ⟨rfl, rfl⟩
  go_wp2_with fail
  go_loopw [0, 7, 9, 10] (fun v l s i wr => ∃ (j : Nat) (L : Int) (d : ByteArray), v = .string d ∧ l = .int .i64 L ∧ s = .int .i64 (j : Int) ∧ i = .int .i64 (j : Int) ∧ d.size = c.size ∧ (j : Int) - 1 ≤ L ∧ L < 64 ∧ Hid (Fill d L (q + j)) ∧ Below w.heap.size w wr) (fun _ _ _ i _ => 66 - (intOf i).toNat)
  case atStart => exact ⟨0, -1, _, rfl, rfl, rfl, rfl, rfl, by omega, by omega, Lib.hid ⟨fun t ht => by omega, CQ.out⟩, bb⟩
  case round =>
    obtain ⟨j, L, d, rfl, rfl, rfl, rfl, hd, hjL, hL, hF, hbw⟩ := hrel
    have hds : d.size ≤ 8 := by omega
    have HD := Lib.hid hd
    clear hd
    rcases first_says d T with ⟨hk, hN, hall⟩ | ⟨k, hk, hN, hkn, hkb, hno, hall⟩
    · have HK := Lib.hid hk
      have HN := Lib.hid hN
      have ALL := Lib.hid hall
      have CNT := Lib.hid hF.out.2
      clear hk hN hall
      go_wp2_with fail
      refine (first_any _ _ _ (by omega) (by omega) (by omega)).mono ?_
      rw [HN.out, HK.out]
      rintro e w9 ⟨rfl, rfl⟩
      go_wp2_with fail
      go_loopw [13] (fun i w2 => ∃ t : Nat, t ≤ 64 ∧ i = .int .i64 (t : Int) ∧ Below w.heap.size w w2) (fun i _ => 65 - (intOf i).toNat)
      case atStart => exact ⟨0, by omega, rfl, hbw⟩
      case round =>
        obtain ⟨t, ht, rfl, hb2⟩ := hrel
        by_cases hlt : (t : Int) < T ∧ (t : Int) < 8 * (d.size : Int)
        · have HV := Lib.hid (ALL.out t hlt.1 hlt.2)
          obtain ⟨hl1, hl2⟩ := hlt
          go_wp2_with fail
          all_goals
            refine (has_any _ _ _ (by omega)).mono ?_
            rw [HV.out]
            rintro e w9 ⟨rfl, rfl⟩
            go_wp2_with fail
            go_roundw
            case rel => exact ⟨t + 1, by omega, by go_num, hb2⟩
            case measure => simp [intOf]; omega
        · have hx : T ≤ (t : Int) ∨ 8 * (d.size : Int) ≤ (t : Int) := by omega
          clear hlt
          go_wp2_with fail
          all_goals
            refine (first_any _ _ _ (by omega) (by omega) (by omega)).mono ?_
            rw [HN.out, HK.out]
            rintro e w9 ⟨rfl, rfl⟩
            go_wp2_with fail
            refine (count_any _ _ (by omega)).mono ?_
            rw [CNT.out]
            rintro e w9 ⟨rfl, rfl⟩
            go_wp2_with fail
            all_goals go_ret
            all_goals exact ⟨ret_true (by simp), hb2⟩
    · obtain ⟨hLk, hF2⟩ := fill_step d L _ k hF.out hkb hno hall
      have HK := Lib.hid hk
      have HN := Lib.hid hN
      have F2 := Lib.hid hF2
      have SZ := Lib.hid (withB_size d (k : Int) true)
      clear hk hN hall hno hF2 hF
      go_wp2_with fail
      refine (first_any _ _ _ (by omega) (by omega) (by omega)).mono ?_
      rw [HN.out, HK.out]
      rintro e w9 ⟨rfl, rfl⟩
      go_wp2_with fail
      refine (with_any _ _ _ _ (by omega)).mono ?_
      rintro e w9 ⟨rfl, b9⟩
      replace hbw := chain hbw b9
      clear b9
      go_wp2_with fail
      go_roundw
      case rel => exact ⟨j + 1, (k : Int), _, rfl, rfl, by go_num, by go_num, by rw [SZ.out]; exact HD.out, by omega, by omega, F2, hbw⟩
      case measure => simp [intOf]; omega
set_option maxHeartbeats 3200000 in
theorem bitsFills_s (b c : ByteArray) (n T : Int) (q : Nat) (w : World) (hb : b.size ≤ 140737488351232) (n0 : 0 ≤ n) (n1 : n ≤ 255) (hT : n % 65 = T) (T0 : 0 ≤ T) (T1 : T ≤ 64) (hbb : (b.size : Int) ≤ 8) (hcs : b.size ≤ 8) (CQ : Hid (cntL b.data.toList = q)) (hq : q ≤ 64) :
    Calls Try.prog 9 #[.string b, .int .u8 n] w fun e w' => e = .returned (.bool true) ∧ Below w.heap.size w w' := by
  go_enter Try.func9, Try.ntmps9
  try simp only [List.append_eq, List.cons_append, List.nil_append]
  go_wp2_with fail
  refine (examples_any _).mono ?_
  rintro e w1 ⟨rfl, bb⟩
  go_wp2_with fail
  refine (count_any _ _ (by omega)).mono ?_
  rw [CQ.out]
  rintro e w9 ⟨rfl, rfl⟩
  go_wp2_with fail
  go_loopw [0, 7, 9, 10] (fun v l s i wr => ∃ (j : Nat) (L : Int) (d : ByteArray), v = .string d ∧ l = .int .i64 L ∧ s = .int .i64 (j : Int) ∧ i = .int .i64 (j : Int) ∧ d.size = b.size ∧ (j : Int) - 1 ≤ L ∧ L < 64 ∧ Hid (Fill d L (q + j)) ∧ Below w.heap.size w wr) (fun _ _ _ i _ => 66 - (intOf i).toNat)
  case atStart => exact ⟨0, -1, _, rfl, rfl, rfl, rfl, rfl, by omega, by omega, Lib.hid ⟨fun t ht => by omega, CQ.out⟩, bb⟩
  case round =>
    obtain ⟨j, L, d, rfl, rfl, rfl, rfl, hd, hjL, hL, hF, hbw⟩ := hrel
    have hds : d.size ≤ 8 := by omega
    have HD := Lib.hid hd
    clear hd
    rcases first_says d T with ⟨hk, hN, hall⟩ | ⟨k, hk, hN, hkn, hkb, hno, hall⟩
    · have HK := Lib.hid hk
      have HN := Lib.hid hN
      have ALL := Lib.hid hall
      have CNT := Lib.hid hF.out.2
      clear hk hN hall
      go_wp2_with fail
      refine (first_any _ _ _ (by omega) (by omega) (by omega)).mono ?_
      rw [HN.out, HK.out]
      rintro e w9 ⟨rfl, rfl⟩
      go_wp2_with fail
      go_loopw [13] (fun i w2 => ∃ t : Nat, t ≤ 64 ∧ i = .int .i64 (t : Int) ∧ Below w.heap.size w w2) (fun i _ => 65 - (intOf i).toNat)
      case atStart => exact ⟨0, by omega, rfl, hbw⟩
      case round =>
        obtain ⟨t, ht, rfl, hb2⟩ := hrel
        by_cases hlt : (t : Int) < T ∧ (t : Int) < 8 * (d.size : Int)
        · have HV := Lib.hid (ALL.out t hlt.1 hlt.2)
          obtain ⟨hl1, hl2⟩ := hlt
          go_wp2_with fail
          all_goals
            refine (has_any _ _ _ (by omega)).mono ?_
            rw [HV.out]
            rintro e w9 ⟨rfl, rfl⟩
            go_wp2_with fail
            go_roundw
            case rel => exact ⟨t + 1, by omega, by go_num, hb2⟩
            case measure => simp [intOf]; omega
        · have hx : T ≤ (t : Int) ∨ 8 * (d.size : Int) ≤ (t : Int) := by omega
          clear hlt
          go_wp2_with fail
          all_goals
            refine (first_any _ _ _ (by omega) (by omega) (by omega)).mono ?_
            rw [HN.out, HK.out]
            rintro e w9 ⟨rfl, rfl⟩
            go_wp2_with fail
            refine (count_any _ _ (by omega)).mono ?_
            rw [CNT.out]
            rintro e w9 ⟨rfl, rfl⟩
            go_wp2_with fail
            all_goals go_ret
            all_goals exact ⟨ret_true (by simp), hb2⟩
    · obtain ⟨hLk, hF2⟩ := fill_step d L _ k hF.out hkb hno hall
      have HK := Lib.hid hk
      have HN := Lib.hid hN
      have F2 := Lib.hid hF2
      have SZ := Lib.hid (withB_size d (k : Int) true)
      clear hk hN hall hno hF2 hF
      go_wp2_with fail
      refine (first_any _ _ _ (by omega) (by omega) (by omega)).mono ?_
      rw [HN.out, HK.out]
      rintro e w9 ⟨rfl, rfl⟩
      go_wp2_with fail
      refine (with_any _ _ _ _ (by omega)).mono ?_
      rintro e w9 ⟨rfl, b9⟩
      replace hbw := chain hbw b9
      clear b9
      go_wp2_with fail
      go_roundw
      case rel => exact ⟨j + 1, (k : Int), _, rfl, rfl, by go_num, by go_num, by rw [SZ.out]; exact HD.out, by omega, by omega, F2, hbw⟩
      case measure => simp [intOf]; omega
theorem bitsFills_law (a0 : ByteArray) (a1 : Int) (w : World) (z0 : a0.size ≤ 140737488351232) (w1 : (Lit.int .u8 a1).wf = true) :
    Calls Try.prog 9 #[.string a0, .int .u8 a1] w fun e w' => e = .returned (.bool true) ∧ Below w.heap.size w w' := by
  have h1 := bounds_u8 w1
  have hz : (a0.extract 0 8).size ≤ 8 := by rw [ByteArray.size_extract]; omega
  have cl : ∀ c : ByteArray, c.size ≤ 8 → cntL c.data.toList ≤ 64 := fun c hc => by
    have := cntL_le c.data.toList
    rw [size_list] at this
    omega
  rcases Int.lt_or_le 8 (a0.size : Int) with hs | hs
  · exact bitsFills_b a0 _ a1 _ _ w z0 h1.1 (by omega) rfl (by omega) (by omega) (Lib.hid rfl) hs hz (Lib.hid rfl) (cl _ hz)
  · exact bitsFills_s a0 a0 a1 _ _ w z0 h1.1 (by omega) rfl (by omega) (by omega) hs (by omega) (Lib.hid rfl) (cl _ (by omega))
end Go.Proofs.Ytlcgohmpbmmcpaa
