import Derived.Test.YtglmepdgepjeiaaEx04
import Derived.Test.YtglmepdgepjeiaaZeros
import Derived.Outline
namespace Go.Proofs.Ytglmepdgepjeiaa
open Go.RowKit
set_option linter.unusedVariables false

theorem mac_sum (k s : ByteArray) (h : 64 < k.size) : macB (sumB k) s = macB k s := by
  have h1 : keyB (sumB k) = sumB k := by unfold keyB; rw [if_neg (by rw [sumB_size]; omega)]
  have h2 : keyB k = sumB k := by unfold keyB; rw [if_pos h]
  unfold macB
  rw [h1, h2]
theorem mac_pad (k s : ByteArray) (n : Nat) (h : k.size + n ≤ 64) : macB (k ++ Str (List.replicate n 0)) s = macB k s := by
  have hs : (k ++ Str (List.replicate n 0)).size = k.size + n := by rw [ByteArray.size_append, Str_size, List.length_replicate]
  have h1 : keyB (k ++ Str (List.replicate n 0)) = k ++ Str (List.replicate n 0) := by unfold keyB; rw [if_neg (by omega)]
  have h2 : keyB k = k := by unfold keyB; rw [if_neg (by omega)]
  have h3 : pad64 (k ++ Str (List.replicate n 0)).data.toList = pad64 k.data.toList := by
    have hk : k.data.toList.length = k.size := by simp
    unfold pad64
    rw [append_list, Str_list, List.append_assoc, List.length_append, List.length_replicate, List.replicate_append_replicate, hk]
    congr 2
    omega
  have h4 : ∀ m, turnB (k ++ Str (List.replicate n 0)) m = turnB k m := fun m => by unfold turnB; rw [h3]
  unfold macB
  rw [h1, h2, h4, h4]
set_option maxHeartbeats 3200000 in
theorem macKeys_cc (k s c d y u : ByteArray) (n : Int) (w : World) (zk : k.size ≤ 140737488351232) (zs : s.size ≤ 140737488351232) (n0 : -9223372036854775808 ≤ n) (n1 : n ≤ 9223372036854775807) (hc : Hid (k.extract 0 300 = c)) (hcs : (c.size : Int) = 300) (hkk : 300 < (k.size : Int)) (hd : Hid (s.extract 0 300 = d)) (hds : (d.size : Int) ≤ 300) (hss : 300 < (s.size : Int))
    (HM : Hid (macB c d = y)) (HU : Hid (sumB c = u)) (hy : y.size = 32) (hu : u.size = 32) :
    Calls Try.prog 4 #[.string k, .string s, .int .i64 n] w fun e w' => e = .returned (.bool true) ∧ Below w.heap.size w w' := by
  have HP : Hid (macB u d = y) := Lib.hid (by rw [← HU.out, mac_sum _ _ (by omega)]; exact HM.out)
  go_enter Try.func4, Try.ntmps4
  try simp only [List.append_eq, List.cons_append, List.nil_append]
  go_wp2_with fail
  refine (examples_any _).mono ?_
  rintro e w1 ⟨rfl, bb⟩
  go_wp2_with fail
  rw [hc.out]
  rw [hd.out]
  refine (mac_is _ _ _ (by omega) (by omega)).mono ?_
  rw [HM.out]
  rintro e w9 ⟨rfl, b9⟩
  replace bb := chain bb b9
  clear b9
  go_wp2_with fail
  have hS := bb.size
  go_region_held3 (fun w' => w.heap.size ≤ w'.heap.size) (first | assumption | (have h9 := Below.size b9; simp at h9; omega)) ((first | (go_at_call 10; refine (tag_is _ _ _ (by omega) (by omega)).mono ?_; rw [HM.out]; rintro e w9 ⟨rfl, b9⟩)))
  clear hS
  replace bb := chain (Below.drew bb) b9
  clear b9
  go_wp2_with fail
  refine (sum_is _ _ (by omega)).mono ?_
  rw [HU.out]
  rintro e w9 ⟨rfl, b9⟩
  replace bb := chain bb b9
  clear b9
  go_wp2_with fail
  refine (mac_is _ _ _ (by omega) (by omega)).mono ?_
  rw [HP.out]
  rintro e w9 ⟨rfl, b9⟩
  replace bb := chain bb b9
  clear b9
  go_wp2_with fail
  go_ret
  exact ⟨rfl, bb⟩
set_option maxHeartbeats 3200000 in
theorem macKeys_cs (k s c d y u : ByteArray) (n : Int) (w : World) (zk : k.size ≤ 140737488351232) (zs : s.size ≤ 140737488351232) (n0 : -9223372036854775808 ≤ n) (n1 : n ≤ 9223372036854775807) (hc : Hid (k.extract 0 300 = c)) (hcs : (c.size : Int) = 300) (hkk : 300 < (k.size : Int)) (hss : (s.size : Int) ≤ 300)
    (HM : Hid (macB c s = y)) (HU : Hid (sumB c = u)) (hy : y.size = 32) (hu : u.size = 32) :
    Calls Try.prog 4 #[.string k, .string s, .int .i64 n] w fun e w' => e = .returned (.bool true) ∧ Below w.heap.size w w' := by
  have HP : Hid (macB u s = y) := Lib.hid (by rw [← HU.out, mac_sum _ _ (by omega)]; exact HM.out)
  go_enter Try.func4, Try.ntmps4
  try simp only [List.append_eq, List.cons_append, List.nil_append]
  go_wp2_with fail
  refine (examples_any _).mono ?_
  rintro e w1 ⟨rfl, bb⟩
  go_wp2_with fail
  rw [hc.out]
  refine (mac_is _ _ _ (by omega) (by omega)).mono ?_
  rw [HM.out]
  rintro e w9 ⟨rfl, b9⟩
  replace bb := chain bb b9
  clear b9
  go_wp2_with fail
  have hS := bb.size
  go_region_held3 (fun w' => w.heap.size ≤ w'.heap.size) (first | assumption | (have h9 := Below.size b9; simp at h9; omega)) ((first | (go_at_call 10; refine (tag_is _ _ _ (by omega) (by omega)).mono ?_; rw [HM.out]; rintro e w9 ⟨rfl, b9⟩)))
  clear hS
  replace bb := chain (Below.drew bb) b9
  clear b9
  go_wp2_with fail
  refine (sum_is _ _ (by omega)).mono ?_
  rw [HU.out]
  rintro e w9 ⟨rfl, b9⟩
  replace bb := chain bb b9
  clear b9
  go_wp2_with fail
  refine (mac_is _ _ _ (by omega) (by omega)).mono ?_
  rw [HP.out]
  rintro e w9 ⟨rfl, b9⟩
  replace bb := chain bb b9
  clear b9
  go_wp2_with fail
  go_ret
  exact ⟨rfl, bb⟩
set_option maxHeartbeats 3200000 in
theorem macKeys_bc (k s c d y u : ByteArray) (n : Int) (w : World) (zk : k.size ≤ 140737488351232) (zs : s.size ≤ 140737488351232) (n0 : -9223372036854775808 ≤ n) (n1 : n ≤ 9223372036854775807) (hkk : (k.size : Int) ≤ 300) (hkb : 64 < (k.size : Int)) (hd : Hid (s.extract 0 300 = d)) (hds : (d.size : Int) ≤ 300) (hss : 300 < (s.size : Int))
    (HM : Hid (macB k d = y)) (HU : Hid (sumB k = u)) (hy : y.size = 32) (hu : u.size = 32) :
    Calls Try.prog 4 #[.string k, .string s, .int .i64 n] w fun e w' => e = .returned (.bool true) ∧ Below w.heap.size w w' := by
  have HP : Hid (macB u d = y) := Lib.hid (by rw [← HU.out, mac_sum _ _ (by omega)]; exact HM.out)
  go_enter Try.func4, Try.ntmps4
  try simp only [List.append_eq, List.cons_append, List.nil_append]
  go_wp2_with fail
  refine (examples_any _).mono ?_
  rintro e w1 ⟨rfl, bb⟩
  go_wp2_with fail
  rw [hd.out]
  refine (mac_is _ _ _ (by omega) (by omega)).mono ?_
  rw [HM.out]
  rintro e w9 ⟨rfl, b9⟩
  replace bb := chain bb b9
  clear b9
  go_wp2_with fail
  have hS := bb.size
  go_region_held3 (fun w' => w.heap.size ≤ w'.heap.size) (first | assumption | (have h9 := Below.size b9; simp at h9; omega)) ((first | (go_at_call 10; refine (tag_is _ _ _ (by omega) (by omega)).mono ?_; rw [HM.out]; rintro e w9 ⟨rfl, b9⟩)))
  clear hS
  replace bb := chain (Below.drew bb) b9
  clear b9
  go_wp2_with fail
  refine (sum_is _ _ (by omega)).mono ?_
  rw [HU.out]
  rintro e w9 ⟨rfl, b9⟩
  replace bb := chain bb b9
  clear b9
  go_wp2_with fail
  refine (mac_is _ _ _ (by omega) (by omega)).mono ?_
  rw [HP.out]
  rintro e w9 ⟨rfl, b9⟩
  replace bb := chain bb b9
  clear b9
  go_wp2_with fail
  go_ret
  exact ⟨rfl, bb⟩
set_option maxHeartbeats 3200000 in
theorem macKeys_bs (k s c d y u : ByteArray) (n : Int) (w : World) (zk : k.size ≤ 140737488351232) (zs : s.size ≤ 140737488351232) (n0 : -9223372036854775808 ≤ n) (n1 : n ≤ 9223372036854775807) (hkk : (k.size : Int) ≤ 300) (hkb : 64 < (k.size : Int)) (hss : (s.size : Int) ≤ 300)
    (HM : Hid (macB k s = y)) (HU : Hid (sumB k = u)) (hy : y.size = 32) (hu : u.size = 32) :
    Calls Try.prog 4 #[.string k, .string s, .int .i64 n] w fun e w' => e = .returned (.bool true) ∧ Below w.heap.size w w' := by
  have HP : Hid (macB u s = y) := Lib.hid (by rw [← HU.out, mac_sum _ _ (by omega)]; exact HM.out)
  go_enter Try.func4, Try.ntmps4
  try simp only [List.append_eq, List.cons_append, List.nil_append]
  go_wp2_with fail
  refine (examples_any _).mono ?_
  rintro e w1 ⟨rfl, bb⟩
  go_wp2_with fail
  refine (mac_is _ _ _ (by omega) (by omega)).mono ?_
  rw [HM.out]
  rintro e w9 ⟨rfl, b9⟩
  replace bb := chain bb b9
  clear b9
  go_wp2_with fail
  have hS := bb.size
  go_region_held3 (fun w' => w.heap.size ≤ w'.heap.size) (first | assumption | (have h9 := Below.size b9; simp at h9; omega)) ((first | (go_at_call 10; refine (tag_is _ _ _ (by omega) (by omega)).mono ?_; rw [HM.out]; rintro e w9 ⟨rfl, b9⟩)))
  clear hS
  replace bb := chain (Below.drew bb) b9
  clear b9
  go_wp2_with fail
  refine (sum_is _ _ (by omega)).mono ?_
  rw [HU.out]
  rintro e w9 ⟨rfl, b9⟩
  replace bb := chain bb b9
  clear b9
  go_wp2_with fail
  refine (mac_is _ _ _ (by omega) (by omega)).mono ?_
  rw [HP.out]
  rintro e w9 ⟨rfl, b9⟩
  replace bb := chain bb b9
  clear b9
  go_wp2_with fail
  go_ret
  exact ⟨rfl, bb⟩
set_option maxHeartbeats 3200000 in
theorem macKeys_scm (k s c d y u : ByteArray) (n : Int) (w : World) (zk : k.size ≤ 140737488351232) (zs : s.size ≤ 140737488351232) (n0 : -9223372036854775808 ≤ n) (n1 : n ≤ 9223372036854775807) (hkk : (k.size : Int) ≤ 64) (hn : n < 0) (hd : Hid (s.extract 0 300 = d)) (hds : (d.size : Int) ≤ 300) (hss : 300 < (s.size : Int))
    (HM : Hid (macB k d = y)) (HU : Hid (sumB k = u)) (hy : y.size = 32) (hu : u.size = 32) :
    Calls Try.prog 4 #[.string k, .string s, .int .i64 n] w fun e w' => e = .returned (.bool true) ∧ Below w.heap.size w w' := by
  obtain ⟨i, hi, hmod⟩ : ∃ i : Nat, k.size + i ≤ 64 ∧ ((-(n + 1))).tmod (65 - (k.size : Int)) = (i : Int) := ⟨(((-(n + 1))) % (65 - (k.size : Int))).toNat, by have := Int.emod_lt_of_pos ((-(n + 1))) (show (0 : Int) < 65 - (k.size : Int) by omega); have := Int.emod_nonneg ((-(n + 1))) (show (65 - (k.size : Int)) ≠ 0 by omega); omega, by rw [Int.tmod_eq_emod_of_nonneg (by omega)]; have := Int.emod_nonneg ((-(n + 1))) (show (65 - (k.size : Int)) ≠ 0 by omega); omega⟩
  have HP : Hid (macB (k ++ Str (List.replicate i 0)) d = y) := Lib.hid (by rw [mac_pad _ _ _ hi]; exact HM.out)
  go_enter Try.func4, Try.ntmps4
  try simp only [List.append_eq, List.cons_append, List.nil_append]
  go_wp2_with fail
  refine (examples_any _).mono ?_
  rintro e w1 ⟨rfl, bb⟩
  go_wp2_with fail
  rw [hd.out]
  refine (mac_is _ _ _ (by omega) (by omega)).mono ?_
  rw [HM.out]
  rintro e w9 ⟨rfl, b9⟩
  replace bb := chain bb b9
  clear b9
  go_wp2_with fail
  have hS := bb.size
  go_region_held3 (fun w' => w.heap.size ≤ w'.heap.size) (first | assumption | (have h9 := Below.size b9; simp at h9; omega)) ((first | (go_at_call 10; refine (tag_is _ _ _ (by omega) (by omega)).mono ?_; rw [HM.out]; rintro e w9 ⟨rfl, b9⟩)))
  clear hS
  replace bb := chain (Below.drew bb) b9
  clear b9
  obtain ⟨w2, hmk, hbuf, bz, hcv⟩ := Buf.zeros w9 i (by omega)
  replace bb := chain bb bz
  clear bz hbuf
  have hz : Hid ((Str (List.replicate i 0)).size = i) := Lib.hid (by rw [Str_size, List.length_replicate])
  generalize Str (List.replicate i 0) = z at *
  have hzs : (z.size : Int) ≤ 64 := by rw [hz.out]; omega
  go_wp2_with fail
  refine (mac_is _ _ _ (by rw [ByteArray.size_append, hz.out]; omega) (by omega)).mono ?_
  rw [HP.out]
  rintro e w9 ⟨rfl, b9⟩
  replace bb := chain bb b9
  clear b9
  go_wp2_with fail
  go_ret
  exact ⟨rfl, bb⟩
set_option maxHeartbeats 3200000 in
theorem macKeys_scp (k s c d y u : ByteArray) (n : Int) (w : World) (zk : k.size ≤ 140737488351232) (zs : s.size ≤ 140737488351232) (n0 : -9223372036854775808 ≤ n) (n1 : n ≤ 9223372036854775807) (hkk : (k.size : Int) ≤ 64) (hn : 0 ≤ n) (hd : Hid (s.extract 0 300 = d)) (hds : (d.size : Int) ≤ 300) (hss : 300 < (s.size : Int))
    (HM : Hid (macB k d = y)) (HU : Hid (sumB k = u)) (hy : y.size = 32) (hu : u.size = 32) :
    Calls Try.prog 4 #[.string k, .string s, .int .i64 n] w fun e w' => e = .returned (.bool true) ∧ Below w.heap.size w w' := by
  obtain ⟨i, hi, hmod⟩ : ∃ i : Nat, k.size + i ≤ 64 ∧ (n).tmod (65 - (k.size : Int)) = (i : Int) := ⟨((n) % (65 - (k.size : Int))).toNat, by have := Int.emod_lt_of_pos (n) (show (0 : Int) < 65 - (k.size : Int) by omega); have := Int.emod_nonneg (n) (show (65 - (k.size : Int)) ≠ 0 by omega); omega, by rw [Int.tmod_eq_emod_of_nonneg (by omega)]; have := Int.emod_nonneg (n) (show (65 - (k.size : Int)) ≠ 0 by omega); omega⟩
  have HP : Hid (macB (k ++ Str (List.replicate i 0)) d = y) := Lib.hid (by rw [mac_pad _ _ _ hi]; exact HM.out)
  go_enter Try.func4, Try.ntmps4
  try simp only [List.append_eq, List.cons_append, List.nil_append]
  go_wp2_with fail
  refine (examples_any _).mono ?_
  rintro e w1 ⟨rfl, bb⟩
  go_wp2_with fail
  rw [hd.out]
  refine (mac_is _ _ _ (by omega) (by omega)).mono ?_
  rw [HM.out]
  rintro e w9 ⟨rfl, b9⟩
  replace bb := chain bb b9
  clear b9
  go_wp2_with fail
  have hS := bb.size
  go_region_held3 (fun w' => w.heap.size ≤ w'.heap.size) (first | assumption | (have h9 := Below.size b9; simp at h9; omega)) ((first | (go_at_call 10; refine (tag_is _ _ _ (by omega) (by omega)).mono ?_; rw [HM.out]; rintro e w9 ⟨rfl, b9⟩)))
  clear hS
  replace bb := chain (Below.drew bb) b9
  clear b9
  obtain ⟨w2, hmk, hbuf, bz, hcv⟩ := Buf.zeros w9 i (by omega)
  replace bb := chain bb bz
  clear bz hbuf
  have hz : Hid ((Str (List.replicate i 0)).size = i) := Lib.hid (by rw [Str_size, List.length_replicate])
  generalize Str (List.replicate i 0) = z at *
  have hzs : (z.size : Int) ≤ 64 := by rw [hz.out]; omega
  go_wp2_with fail
  refine (mac_is _ _ _ (by rw [ByteArray.size_append, hz.out]; omega) (by omega)).mono ?_
  rw [HP.out]
  rintro e w9 ⟨rfl, b9⟩
  replace bb := chain bb b9
  clear b9
  go_wp2_with fail
  go_ret
  exact ⟨rfl, bb⟩
set_option maxHeartbeats 3200000 in
theorem macKeys_ssm (k s c d y u : ByteArray) (n : Int) (w : World) (zk : k.size ≤ 140737488351232) (zs : s.size ≤ 140737488351232) (n0 : -9223372036854775808 ≤ n) (n1 : n ≤ 9223372036854775807) (hkk : (k.size : Int) ≤ 64) (hn : n < 0) (hss : (s.size : Int) ≤ 300)
    (HM : Hid (macB k s = y)) (HU : Hid (sumB k = u)) (hy : y.size = 32) (hu : u.size = 32) :
    Calls Try.prog 4 #[.string k, .string s, .int .i64 n] w fun e w' => e = .returned (.bool true) ∧ Below w.heap.size w w' := by
  obtain ⟨i, hi, hmod⟩ : ∃ i : Nat, k.size + i ≤ 64 ∧ ((-(n + 1))).tmod (65 - (k.size : Int)) = (i : Int) := ⟨(((-(n + 1))) % (65 - (k.size : Int))).toNat, by have := Int.emod_lt_of_pos ((-(n + 1))) (show (0 : Int) < 65 - (k.size : Int) by omega); have := Int.emod_nonneg ((-(n + 1))) (show (65 - (k.size : Int)) ≠ 0 by omega); omega, by rw [Int.tmod_eq_emod_of_nonneg (by omega)]; have := Int.emod_nonneg ((-(n + 1))) (show (65 - (k.size : Int)) ≠ 0 by omega); omega⟩
  have HP : Hid (macB (k ++ Str (List.replicate i 0)) s = y) := Lib.hid (by rw [mac_pad _ _ _ hi]; exact HM.out)
  go_enter Try.func4, Try.ntmps4
  try simp only [List.append_eq, List.cons_append, List.nil_append]
  go_wp2_with fail
  refine (examples_any _).mono ?_
  rintro e w1 ⟨rfl, bb⟩
  go_wp2_with fail
  refine (mac_is _ _ _ (by omega) (by omega)).mono ?_
  rw [HM.out]
  rintro e w9 ⟨rfl, b9⟩
  replace bb := chain bb b9
  clear b9
  go_wp2_with fail
  have hS := bb.size
  go_region_held3 (fun w' => w.heap.size ≤ w'.heap.size) (first | assumption | (have h9 := Below.size b9; simp at h9; omega)) ((first | (go_at_call 10; refine (tag_is _ _ _ (by omega) (by omega)).mono ?_; rw [HM.out]; rintro e w9 ⟨rfl, b9⟩)))
  clear hS
  replace bb := chain (Below.drew bb) b9
  clear b9
  obtain ⟨w2, hmk, hbuf, bz, hcv⟩ := Buf.zeros w9 i (by omega)
  replace bb := chain bb bz
  clear bz hbuf
  have hz : Hid ((Str (List.replicate i 0)).size = i) := Lib.hid (by rw [Str_size, List.length_replicate])
  generalize Str (List.replicate i 0) = z at *
  have hzs : (z.size : Int) ≤ 64 := by rw [hz.out]; omega
  go_wp2_with fail
  refine (mac_is _ _ _ (by rw [ByteArray.size_append, hz.out]; omega) (by omega)).mono ?_
  rw [HP.out]
  rintro e w9 ⟨rfl, b9⟩
  replace bb := chain bb b9
  clear b9
  go_wp2_with fail
  go_ret
  exact ⟨rfl, bb⟩
set_option maxHeartbeats 3200000 in
theorem macKeys_ssp (k s c d y u : ByteArray) (n : Int) (w : World) (zk : k.size ≤ 140737488351232) (zs : s.size ≤ 140737488351232) (n0 : -9223372036854775808 ≤ n) (n1 : n ≤ 9223372036854775807) (hkk : (k.size : Int) ≤ 64) (hn : 0 ≤ n) (hss : (s.size : Int) ≤ 300)
    (HM : Hid (macB k s = y)) (HU : Hid (sumB k = u)) (hy : y.size = 32) (hu : u.size = 32) :
    Calls Try.prog 4 #[.string k, .string s, .int .i64 n] w fun e w' => e = .returned (.bool true) ∧ Below w.heap.size w w' := by
  obtain ⟨i, hi, hmod⟩ : ∃ i : Nat, k.size + i ≤ 64 ∧ (n).tmod (65 - (k.size : Int)) = (i : Int) := ⟨((n) % (65 - (k.size : Int))).toNat, by have := Int.emod_lt_of_pos (n) (show (0 : Int) < 65 - (k.size : Int) by omega); have := Int.emod_nonneg (n) (show (65 - (k.size : Int)) ≠ 0 by omega); omega, by rw [Int.tmod_eq_emod_of_nonneg (by omega)]; have := Int.emod_nonneg (n) (show (65 - (k.size : Int)) ≠ 0 by omega); omega⟩
  have HP : Hid (macB (k ++ Str (List.replicate i 0)) s = y) := Lib.hid (by rw [mac_pad _ _ _ hi]; exact HM.out)
  go_enter Try.func4, Try.ntmps4
  try simp only [List.append_eq, List.cons_append, List.nil_append]
  go_wp2_with fail
  refine (examples_any _).mono ?_
  rintro e w1 ⟨rfl, bb⟩
  go_wp2_with fail
  refine (mac_is _ _ _ (by omega) (by omega)).mono ?_
  rw [HM.out]
  rintro e w9 ⟨rfl, b9⟩
  replace bb := chain bb b9
  clear b9
  go_wp2_with fail
  have hS := bb.size
  go_region_held3 (fun w' => w.heap.size ≤ w'.heap.size) (first | assumption | (have h9 := Below.size b9; simp at h9; omega)) ((first | (go_at_call 10; refine (tag_is _ _ _ (by omega) (by omega)).mono ?_; rw [HM.out]; rintro e w9 ⟨rfl, b9⟩)))
  clear hS
  replace bb := chain (Below.drew bb) b9
  clear b9
  obtain ⟨w2, hmk, hbuf, bz, hcv⟩ := Buf.zeros w9 i (by omega)
  replace bb := chain bb bz
  clear bz hbuf
  have hz : Hid ((Str (List.replicate i 0)).size = i) := Lib.hid (by rw [Str_size, List.length_replicate])
  generalize Str (List.replicate i 0) = z at *
  have hzs : (z.size : Int) ≤ 64 := by rw [hz.out]; omega
  go_wp2_with fail
  refine (mac_is _ _ _ (by rw [ByteArray.size_append, hz.out]; omega) (by omega)).mono ?_
  rw [HP.out]
  rintro e w9 ⟨rfl, b9⟩
  replace bb := chain bb b9
  clear b9
  go_wp2_with fail
  go_ret
  exact ⟨rfl, bb⟩
theorem macKeys_law (a0 a1 : ByteArray) (a2 : Int) (w : World) (z0 : a0.size ≤ 140737488351232) (z1 : a1.size ≤ 140737488351232) (w2 : (Lit.int .i64 a2).wf = true) :
    Calls Try.prog 4 #[.string a0, .string a1, .int .i64 a2] w fun e w' => e = .returned (.bool true) ∧ Below w.heap.size w w' := by
  have h2 := bounds_i64 w2
  have hz : ∀ a : ByteArray, ((a.extract 0 300).size : Int) ≤ 300 := fun a => by rw [ByteArray.size_extract]; omega
  have hk : 300 < (a0.size : Int) → ((a0.extract 0 300).size : Int) = 300 := fun h => by rw [ByteArray.size_extract]; omega
  rcases Int.lt_or_le 300 (a1.size : Int) with ht | ht
  · rcases Int.lt_or_le 300 (a0.size : Int) with hs | hs
    · exact macKeys_cc a0 a1 _ _ _ _ a2 w z0 z1 h2.1 (by omega) (Lib.hid rfl) (hk hs) hs (Lib.hid rfl) (hz _) ht (Lib.hid rfl) (Lib.hid rfl) (macB_size _ _) (sumB_size _)
    · rcases Int.lt_or_le 64 (a0.size : Int) with hb | hb
      · exact macKeys_bc a0 a1 a0 _ _ _ a2 w z0 z1 h2.1 (by omega) hs hb (Lib.hid rfl) (hz _) ht (Lib.hid rfl) (Lib.hid rfl) (macB_size _ _) (sumB_size _)
      · rcases Int.lt_or_le a2 0 with hn | hn
        · exact macKeys_scm a0 a1 a0 _ _ _ a2 w z0 z1 h2.1 (by omega) hb hn (Lib.hid rfl) (hz _) ht (Lib.hid rfl) (Lib.hid rfl) (macB_size _ _) (sumB_size _)
        · exact macKeys_scp a0 a1 a0 _ _ _ a2 w z0 z1 h2.1 (by omega) hb hn (Lib.hid rfl) (hz _) ht (Lib.hid rfl) (Lib.hid rfl) (macB_size _ _) (sumB_size _)
  · rcases Int.lt_or_le 300 (a0.size : Int) with hs | hs
    · exact macKeys_cs a0 a1 _ a0 _ _ a2 w z0 z1 h2.1 (by omega) (Lib.hid rfl) (hk hs) hs ht (Lib.hid rfl) (Lib.hid rfl) (macB_size _ _) (sumB_size _)
    · rcases Int.lt_or_le 64 (a0.size : Int) with hb | hb
      · exact macKeys_bs a0 a1 a0 a0 _ _ a2 w z0 z1 h2.1 (by omega) hs hb ht (Lib.hid rfl) (Lib.hid rfl) (macB_size _ _) (sumB_size _)
      · rcases Int.lt_or_le a2 0 with hn | hn
        · exact macKeys_ssm a0 a1 a0 a0 _ _ a2 w z0 z1 h2.1 (by omega) hb hn ht (Lib.hid rfl) (Lib.hid rfl) (macB_size _ _) (sumB_size _)
        · exact macKeys_ssp a0 a1 a0 a0 _ _ a2 w z0 z1 h2.1 (by omega) hb hn ht (Lib.hid rfl) (Lib.hid rfl) (macB_size _ _) (sumB_size _)
end Go.Proofs.Ytglmepdgepjeiaa
