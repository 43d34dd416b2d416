import Derived.Test.YtjicpdkdkakfdaaEx03
import Derived.Outline
namespace Go.Proofs.Ytjicpdkdkakfdaa
open Go.RowKit
set_option linter.unusedVariables false

theorem digit_any (x d : Nat) (w : World) (hx : (digN d).toNat = x) (hd : d < 16) :
    Calls Try.prog 12 #[.int .u8 (x : Int)] w fun e w' => e = .returned (.int .i64 (d : Int)) ∧ w = w' := by
  have h : ((d < 10 ∧ x = 48 + d) ∨ (10 ≤ d ∧ x = 87 + d)) := by
    rw [← hx]
    have := (by decide +kernel : ∀ i : Fin 16, ((i.val < 10 ∧ (digN i.val).toNat = 48 + i.val) ∨ (10 ≤ i.val ∧ (digN i.val).toNat = 87 + i.val)))
    exact this ⟨d, hd⟩
  clear hx
  rcases h with ⟨h, rfl⟩ | ⟨h, rfl⟩
  · have h1 : (d : Int) < 10 := by omega
    go_enter Try.func12, Try.ntmps12
    go_wp2_with fail
    go_ret
    exact ⟨ret_int (by first | omega | (unfold wrap64; omega)), rfl⟩
  · have h1 : 10 ≤ (d : Int) := by omega
    have h2 : (d : Int) < 16 := by omega
    go_enter Try.func12, Try.ntmps12
    go_wp2_with fail
    go_ret
    exact ⟨ret_int (by first | omega | (unfold wrap64; omega)), rfl⟩
theorem empty_end (s : ByteArray) : s ++ ⟨#[]⟩ = s := by apply eq_of_data; simp
theorem hexL_get (l : List UInt8) : ∀ k, (h : k < l.length) → (hexL l)[2 * k]? = some (digN (l[k].toNat / 16)) ∧ (hexL l)[2 * k + 1]? = some (digN (l[k].toNat % 16)) := by
  induction l with
  | nil => intro k h; simp at h
  | cons b l ih =>
    intro k h
    have e : hexL (b :: l) = digN (b.toNat / 16) :: digN (b.toNat % 16) :: hexL l := rfl
    rw [e]
    cases k with
    | zero => exact ⟨rfl, rfl⟩
    | succ k =>
      have := ih k (by simpa using h)
      rw [show 2 * (k + 1) = 2 * k + 1 + 1 by omega]
      exact this
theorem pair_at (s h : ByteArray) (k : Nat) (hk : k < s.size) (e : hexB s = h) :
    ∃ x q r : Nat, s[k].toNat = x ∧ (∀ hp : 2 * k < h.size, h[2 * k].toNat = (digN q).toNat) ∧ (∀ hp : 2 * k + 1 < h.size, h[2 * k + 1].toNat = (digN r).toNat) ∧ q < 16 ∧ r < 16 ∧ q * 16 + r = x := by
  have hl : k < s.data.toList.length := by simpa using hk
  obtain ⟨h1, h2⟩ := hexL_get s.data.toList k hl
  have hs : s.data.toList[k] = s[k] := by simp [ByteArray.getElem_eq_getElem_data]
  rw [hs] at h1 h2
  have hd : h.data.toList = hexL s.data.toList := by rw [← e]; unfold hexB; rw [Str_list]
  refine ⟨_, s[k].toNat / 16, s[k].toNat % 16, rfl, fun hp => ?_, fun hp => ?_, ?_, ?_, by omega⟩
  · rw [← hd, List.getElem?_eq_getElem (by simpa using hp)] at h1
    injection h1 with h1
    rw [← h1]
    simp [ByteArray.getElem_eq_getElem_data]
  · rw [← hd, List.getElem?_eq_getElem (by simpa using hp)] at h2
    injection h2 with h2
    rw [← h2]
    simp [ByteArray.getElem_eq_getElem_data]
  · have := s[k].toNat_lt; omega
  · omega
set_option maxHeartbeats 3200000 in
theorem shaSizes_b (s c h y : ByteArray) (w : World) (hs : s.size ≤ 140737488351232) (hc : Hid (s.extract 0 1000 = c)) (hcs : c.size ≤ 1000) (hbb : 1000 < (s.size : Int))
    (HH : Hid (hexB c = h)) (HY : Hid (sumB c = y)) (HYS : y.size = 32) (HHS : h.size = 2 * c.size) :
    Calls Try.prog 4 #[.string s] w fun e w' => e = .returned (.bool true) ∧ Below w.heap.size w w' := by
  go_enter Try.func4, Try.ntmps4
  try simp only [List.append_eq, List.cons_append, List.nil_append]
  go_wp2_with fail
  refine (examples_any _).mono ?_
  rintro e w1 ⟨rfl, bb⟩
  go_wp2_with fail
  rw [hc.out]
  have hcb : (c.size : Int) ≤ 1000 := by omega
  clear hbb
  refine (hex_is _ _ (by omega)).mono ?_
  rw [HH.out]
  rintro e w9 ⟨rfl, b9⟩
  replace bb := chain bb b9
  clear b9
  go_wp2_with fail
  refine (sum_is _ _ (by omega)).mono ?_
  rw [HY.out]
  rintro e w9 ⟨rfl, b9⟩
  replace bb := chain bb b9
  clear b9
  go_wp2_with fail
  refine (sum_is _ _ (by omega)).mono ?_
  rw [HY.out]
  rintro e w9 ⟨rfl, b9⟩
  replace bb := chain bb b9
  clear b9
  go_wp2_with fail
  try rw [empty_end]
  refine (sum_is _ _ (by omega)).mono ?_
  rw [HY.out]
  rintro e w9 ⟨rfl, b9⟩
  replace bb := chain bb b9
  clear b9
  go_wp2_with fail
  have BB := Lib.hid bb
  clear bb
  go_loopw [5] (fun i wr => ∃ k : Nat, k ≤ c.size ∧ i = .int .i64 (k : Int) ∧ Hid (Below w.heap.size w wr)) (fun i _ => c.size + 1 - (intOf i).toNat)
  case atStart => exact ⟨0, by omega, rfl, BB⟩
  case round =>
    obtain ⟨k, hk, rfl, HB⟩ := hrel
    by_cases hlt : k < c.size
    · have hli : (k : Int) < (c.size : Int) := by omega
      obtain ⟨x, q, r, e0, e1, e2, hq, hr, hx⟩ := pair_at c h k hlt HH.out
      have i1 : 2 * (k : Int) < (h.size : Int) := by omega
      have i2 : 2 * (k : Int) + 1 < (h.size : Int) := by omega
      have hsum : (q : Int) * 16 + (r : Int) = (x : Int) := by omega
      obtain ⟨x1, g1⟩ : ∃ x1, (digN q).toNat = x1 := ⟨_, rfl⟩
      obtain ⟨x2, g2⟩ : ∃ x2, (digN r).toNat = x2 := ⟨_, rfl⟩
      rw [g1] at e1
      rw [g2] at e2
      have G1 := Lib.hid g1
      have G2 := Lib.hid g2
      clear g1 g2
      go_wp2_with fail
      have k1 : IntKind.i64.wrap (2 * (k : Int)) = 2 * (k : Int) := by rw [IntKind.wrap_i64]; omega
      have k2 : IntKind.i64.wrap (2 * (k : Int) + 1) = 2 * (k : Int) + 1 := by rw [IntKind.wrap_i64]; omega
      have k3 : IntKind.i64.wrap ((q : Int) * 16) = (q : Int) * 16 := by rw [IntKind.wrap_i64]; omega
      have k4 : IntKind.i64.wrap ((x : Int)) = (x : Int) := by rw [IntKind.wrap_i64]; omega
      have k5 : (2 * (k : Int)).toNat = 2 * k := by omega
      have k6 : (2 * (k : Int) + 1).toNat = 2 * k + 1 := by omega
      have k7 : 0 ≤ 2 * (k : Int) := by omega
      have k8 : 0 ≤ 2 * (k : Int) + 1 := by omega
      go_quiet ((go_at_call 12; exact Calls.quiet_of_same ((digit_any _ _ _ (by first | exact G1.out | exact G2.out) (by first | exact hq | exact hr)).mono fun _ _ h => ⟨h.1, h.2.symm⟩)))
      have HB2 := Lib.hid (drewN_below HB.out nq)
      go_wp2_with fail
      go_roundw
      case rel => exact ⟨k + 1, by omega, by go_num, HB2⟩
      case measure => simp [intOf]; omega
    · obtain rfl : k = c.size := by omega
      have hli : ¬ ((c.size : Int) < (c.size : Int)) := by omega
      have hbw := HB.out
      go_wp2_with fail
      go_ret
      exact ⟨rfl, hbw⟩
set_option maxHeartbeats 3200000 in
theorem shaSizes_s (s c h y : ByteArray) (w : World) (hs : s.size ≤ 140737488351232) (hbb : (s.size : Int) ≤ 1000)
    (HH : Hid (hexB s = h)) (HY : Hid (sumB s = y)) (HYS : y.size = 32) (HHS : h.size = 2 * s.size) :
    Calls Try.prog 4 #[.string s] w fun e w' => e = .returned (.bool true) ∧ Below w.heap.size w w' := by
  go_enter Try.func4, Try.ntmps4
  try simp only [List.append_eq, List.cons_append, List.nil_append]
  go_wp2_with fail
  refine (examples_any _).mono ?_
  rintro e w1 ⟨rfl, bb⟩
  go_wp2_with fail
  refine (hex_is _ _ (by omega)).mono ?_
  rw [HH.out]
  rintro e w9 ⟨rfl, b9⟩
  replace bb := chain bb b9
  clear b9
  go_wp2_with fail
  refine (sum_is _ _ (by omega)).mono ?_
  rw [HY.out]
  rintro e w9 ⟨rfl, b9⟩
  replace bb := chain bb b9
  clear b9
  go_wp2_with fail
  refine (sum_is _ _ (by omega)).mono ?_
  rw [HY.out]
  rintro e w9 ⟨rfl, b9⟩
  replace bb := chain bb b9
  clear b9
  go_wp2_with fail
  try rw [empty_end]
  refine (sum_is _ _ (by omega)).mono ?_
  rw [HY.out]
  rintro e w9 ⟨rfl, b9⟩
  replace bb := chain bb b9
  clear b9
  go_wp2_with fail
  have BB := Lib.hid bb
  clear bb
  go_loopw [5] (fun i wr => ∃ k : Nat, k ≤ s.size ∧ i = .int .i64 (k : Int) ∧ Hid (Below w.heap.size w wr)) (fun i _ => s.size + 1 - (intOf i).toNat)
  case atStart => exact ⟨0, by omega, rfl, BB⟩
  case round =>
    obtain ⟨k, hk, rfl, HB⟩ := hrel
    by_cases hlt : k < s.size
    · have hli : (k : Int) < (s.size : Int) := by omega
      obtain ⟨x, q, r, e0, e1, e2, hq, hr, hx⟩ := pair_at s h k hlt HH.out
      have i1 : 2 * (k : Int) < (h.size : Int) := by omega
      have i2 : 2 * (k : Int) + 1 < (h.size : Int) := by omega
      have hsum : (q : Int) * 16 + (r : Int) = (x : Int) := by omega
      obtain ⟨x1, g1⟩ : ∃ x1, (digN q).toNat = x1 := ⟨_, rfl⟩
      obtain ⟨x2, g2⟩ : ∃ x2, (digN r).toNat = x2 := ⟨_, rfl⟩
      rw [g1] at e1
      rw [g2] at e2
      have G1 := Lib.hid g1
      have G2 := Lib.hid g2
      clear g1 g2
      go_wp2_with fail
      have k1 : IntKind.i64.wrap (2 * (k : Int)) = 2 * (k : Int) := by rw [IntKind.wrap_i64]; omega
      have k2 : IntKind.i64.wrap (2 * (k : Int) + 1) = 2 * (k : Int) + 1 := by rw [IntKind.wrap_i64]; omega
      have k3 : IntKind.i64.wrap ((q : Int) * 16) = (q : Int) * 16 := by rw [IntKind.wrap_i64]; omega
      have k4 : IntKind.i64.wrap ((x : Int)) = (x : Int) := by rw [IntKind.wrap_i64]; omega
      have k5 : (2 * (k : Int)).toNat = 2 * k := by omega
      have k6 : (2 * (k : Int) + 1).toNat = 2 * k + 1 := by omega
      have k7 : 0 ≤ 2 * (k : Int) := by omega
      have k8 : 0 ≤ 2 * (k : Int) + 1 := by omega
      go_quiet ((go_at_call 12; exact Calls.quiet_of_same ((digit_any _ _ _ (by first | exact G1.out | exact G2.out) (by first | exact hq | exact hr)).mono fun _ _ h => ⟨h.1, h.2.symm⟩)))
      have HB2 := Lib.hid (drewN_below HB.out nq)
      go_wp2_with fail
      go_roundw
      case rel => exact ⟨k + 1, by omega, by go_num, HB2⟩
      case measure => simp [intOf]; omega
    · obtain rfl : k = s.size := by omega
      have hli : ¬ ((s.size : Int) < (s.size : Int)) := by omega
      have hbw := HB.out
      go_wp2_with fail
      go_ret
      exact ⟨rfl, hbw⟩
theorem shaSizes_law (a0 : ByteArray) (w : World) (z0 : a0.size ≤ 140737488351232) :
    Calls Try.prog 4 #[.string a0] w fun e w' => e = .returned (.bool true) ∧ Below w.heap.size w w' := by
  have hz : (a0.extract 0 1000).size ≤ 1000 := by rw [ByteArray.size_extract]; omega
  rcases Int.lt_or_le 1000 (a0.size : Int) with hs | hs
  · exact shaSizes_b a0 _ _ _ w z0 (Lib.hid rfl) hz hs (Lib.hid rfl) (Lib.hid rfl) (sumB_size _) (hexB_size _)
  · exact shaSizes_s a0 a0 _ _ w z0 hs (Lib.hid rfl) (Lib.hid rfl) (sumB_size _) (hexB_size _)
end Go.Proofs.Ytjicpdkdkakfdaa
