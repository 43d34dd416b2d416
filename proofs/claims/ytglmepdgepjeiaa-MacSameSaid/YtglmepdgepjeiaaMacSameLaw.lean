import Derived.Test.YtglmepdgepjeiaaEx04
import Derived.Outline
namespace Go.Proofs.Ytglmepdgepjeiaa
open Go.RowKit
set_option linter.unusedVariables false

theorem empty_end (s : ByteArray) : s ++ ⟨#[]⟩ = s := by apply eq_of_data; simp
theorem append_ne (s m : ByteArray) (h : 0 < m.size) : ¬ (s = s ++ m) ∧ ¬ (s ++ m = s) := by
  have : (s ++ m).size = s.size + m.size := ByteArray.size_append
  constructor
  · intro e; have := congrArg ByteArray.size e; omega
  · intro e; have := congrArg ByteArray.size e; omega
theorem set_ne (s : ByteArray) (i : Nat) (hi : i < s.size) (b : UInt8) (hb : b ≠ s.data.toList[i]'(by simpa using hi)) : ¬ (s = Str (s.data.toList.set i b)) ∧ ¬ (Str (s.data.toList.set i b) = s) := by
  have h : ¬ (s = Str (s.data.toList.set i b)) := by
    intro e
    have h1 : s.data.toList = s.data.toList.set i b := by conv => lhs; rw [e, Str_list]
    have h2 : (s.data.toList)[i]? = (s.data.toList.set i b)[i]? := by rw [← h1]
    rw [List.getElem?_set_self (by simpa using hi), List.getElem?_eq_getElem (by simpa using hi)] at h2
    injection h2 with h2
    exact hb h2.symm
  exact ⟨h, fun e => h e.symm⟩
set_option maxHeartbeats 1600000 in
theorem macSame_nm (s m : ByteArray) (a : Int) (w : World) (hs : s.size ≤ 140737488351232) (hm : m.size ≤ 140737488351232) (a0 : -9223372036854775808 ≤ a) (a1 : a ≤ 9223372036854775807) (hm0 : 0 < m.size) (hs0 : 0 < s.size) (ha : a < 0) :
    Calls Try.prog 5 #[.string s, .int .i64 a, .string m] w fun e w' => e = .returned (.bool true) ∧ Below w.heap.size w w' := by
  have E1 : decide ((s : ByteArray) = s ++ m) = false := decide_eq_false (append_ne _ m hm0).1
  have E2 : decide ((s : ByteArray) ++ m = s) = false := decide_eq_false (append_ne _ m hm0).2
  have hmi : m.toList.isEmpty = false := nonempty m hm0
  have hsi : s.toList.isEmpty = false := nonempty s hs0
  obtain ⟨i, hi, hmod⟩ : ∃ i : Nat, i < s.size ∧ (-(a + 1)).tmod (s.size : Int) = (i : Int) := ⟨((-(a + 1)) % (s.size : Int)).toNat, by have := Int.emod_lt_of_pos (-(a + 1)) (show (0 : Int) < s.size by omega); omega, by rw [Int.tmod_eq_emod_of_nonneg (by omega)]; have := Int.emod_nonneg (-(a + 1)) (show (s.size : Int) ≠ 0 by omega); omega⟩
  have E1' := Lib.hid E1
  have E2' := Lib.hid E2
  clear E1 E2
  go_enter Try.func5, Try.ntmps5
  try simp only [List.append_eq, List.cons_append, List.nil_append]
  go_wp2_with fail
  refine (examples_any _).mono ?_
  rintro e w1 ⟨rfl, bb⟩
  have hw1 := bb.size
  go_wp2_with fail
  refine (same_is _ _ _ (by first | omega | decide) (by first | omega | decide)).mono ?_
  rw [decide_eq_true (rfl : (s : ByteArray) = s)]
  rintro e w2 ⟨rfl, rfl⟩
  go_wp2_with fail
  refine (same_is _ _ _ (by first | omega | decide) (by have hes : (⟨#[]⟩ : ByteArray).size = 0 := rfl; rw [ByteArray.size_append]; omega)).mono ?_
  rw [E1'.out]
  rintro e w2 ⟨rfl, rfl⟩
  go_wp2_with fail
  refine (same_is _ _ _ (by have hes : (⟨#[]⟩ : ByteArray).size = 0 := rfl; rw [ByteArray.size_append]; omega) (by first | omega | decide)).mono ?_
  rw [E2'.out]
  rintro e w2 ⟨rfl, rfl⟩
  obtain ⟨cap, w2, g, hcv, hbuf, b2, hgw⟩ := Buf.opened w1 s
  replace bb := chain bb b2
  clear b2
  have hl : s.data.toList.length = s.size := by simp
  have hc := hbuf.cell i (by omega)
  have hf := hbuf.free i (by omega)
  have hil : i < s.data.toList.length := by omega
  obtain ⟨x, hx⟩ : ∃ x, s.data.toList[i] = x := ⟨_, rfl⟩
  rw [hx] at hc
  have hby : (((x.toNat : Int) + 1) % 256) = (((x + 1).toNat : Nat) : Int) := by rw [UInt8.toNat_add]; simp
  have hb2 := Lib.hid (hbuf.set i (by omega) (x + 1))
  have hne : x + 1 ≠ x := by intro h; have := congrArg UInt8.toNat h; rw [UInt8.toNat_add] at this; simp at this; have := x.toNat_lt; omega
  obtain ⟨N1, N2⟩ := set_ne s i hi (x + 1) (by rw [hx]; exact hne)
  have N1' : Hid (decide (s = Str (s.data.toList.set i (x + 1))) = false) := Lib.hid (decide_eq_false N1)
  have N2' : Hid (decide (Str (s.data.toList.set i (x + 1)) = s) = false) := Lib.hid (decide_eq_false N2)
  have hcv2 := hb2.out.conv cap
  rw [List.length_set, hl] at hcv2
  have SL : Hid ((Str (s.data.toList.set i (x + 1))).size = s.size) := Lib.hid (by rw [Str_size, List.length_set]; exact hl)
  have bb2 : Hid (Below w.heap.size w (w2.setCell ⟨g, i, none⟩ (.int .u8 (((x + 1).toNat : Nat) : Int)))) := Lib.hid (bb.setCell (Nat.le_trans hw1 hgw) _)
  generalize Str (s.data.toList.set i (x + 1)) = t at *
  generalize (x + 1).toNat = y at *
  clear hbuf hb2 hne N1 N2 hx bb
  go_wp2_with fail
  refine (same_is _ _ _ (by omega) (by rw [SL.out]; omega)).mono ?_
  rw [N1'.out]
  rintro e w9 ⟨rfl, rfl⟩
  go_wp2_with fail
  refine (same_is _ _ _ (by rw [SL.out]; omega) (by omega)).mono ?_
  rw [N2'.out]
  rintro e w9 ⟨rfl, rfl⟩
  go_wp2_with fail
  go_ret
  exact ⟨rfl, bb2.out⟩
set_option maxHeartbeats 1600000 in
theorem macSame_np (s m : ByteArray) (a : Int) (w : World) (hs : s.size ≤ 140737488351232) (hm : m.size ≤ 140737488351232) (a0 : -9223372036854775808 ≤ a) (a1 : a ≤ 9223372036854775807) (hm0 : 0 < m.size) (hs0 : 0 < s.size) (ha : 0 ≤ a) :
    Calls Try.prog 5 #[.string s, .int .i64 a, .string m] w fun e w' => e = .returned (.bool true) ∧ Below w.heap.size w w' := by
  have E1 : decide ((s : ByteArray) = s ++ m) = false := decide_eq_false (append_ne _ m hm0).1
  have E2 : decide ((s : ByteArray) ++ m = s) = false := decide_eq_false (append_ne _ m hm0).2
  have hmi : m.toList.isEmpty = false := nonempty m hm0
  have hsi : s.toList.isEmpty = false := nonempty s hs0
  obtain ⟨i, hi, hmod⟩ : ∃ i : Nat, i < s.size ∧ (a).tmod (s.size : Int) = (i : Int) := ⟨((a) % (s.size : Int)).toNat, by have := Int.emod_lt_of_pos (a) (show (0 : Int) < s.size by omega); omega, by rw [Int.tmod_eq_emod_of_nonneg (by omega)]; have := Int.emod_nonneg (a) (show (s.size : Int) ≠ 0 by omega); omega⟩
  have E1' := Lib.hid E1
  have E2' := Lib.hid E2
  clear E1 E2
  go_enter Try.func5, Try.ntmps5
  try simp only [List.append_eq, List.cons_append, List.nil_append]
  go_wp2_with fail
  refine (examples_any _).mono ?_
  rintro e w1 ⟨rfl, bb⟩
  have hw1 := bb.size
  go_wp2_with fail
  refine (same_is _ _ _ (by first | omega | decide) (by first | omega | decide)).mono ?_
  rw [decide_eq_true (rfl : (s : ByteArray) = s)]
  rintro e w2 ⟨rfl, rfl⟩
  go_wp2_with fail
  refine (same_is _ _ _ (by first | omega | decide) (by have hes : (⟨#[]⟩ : ByteArray).size = 0 := rfl; rw [ByteArray.size_append]; omega)).mono ?_
  rw [E1'.out]
  rintro e w2 ⟨rfl, rfl⟩
  go_wp2_with fail
  refine (same_is _ _ _ (by have hes : (⟨#[]⟩ : ByteArray).size = 0 := rfl; rw [ByteArray.size_append]; omega) (by first | omega | decide)).mono ?_
  rw [E2'.out]
  rintro e w2 ⟨rfl, rfl⟩
  obtain ⟨cap, w2, g, hcv, hbuf, b2, hgw⟩ := Buf.opened w1 s
  replace bb := chain bb b2
  clear b2
  have hl : s.data.toList.length = s.size := by simp
  have hc := hbuf.cell i (by omega)
  have hf := hbuf.free i (by omega)
  have hil : i < s.data.toList.length := by omega
  obtain ⟨x, hx⟩ : ∃ x, s.data.toList[i] = x := ⟨_, rfl⟩
  rw [hx] at hc
  have hby : (((x.toNat : Int) + 1) % 256) = (((x + 1).toNat : Nat) : Int) := by rw [UInt8.toNat_add]; simp
  have hb2 := Lib.hid (hbuf.set i (by omega) (x + 1))
  have hne : x + 1 ≠ x := by intro h; have := congrArg UInt8.toNat h; rw [UInt8.toNat_add] at this; simp at this; have := x.toNat_lt; omega
  obtain ⟨N1, N2⟩ := set_ne s i hi (x + 1) (by rw [hx]; exact hne)
  have N1' : Hid (decide (s = Str (s.data.toList.set i (x + 1))) = false) := Lib.hid (decide_eq_false N1)
  have N2' : Hid (decide (Str (s.data.toList.set i (x + 1)) = s) = false) := Lib.hid (decide_eq_false N2)
  have hcv2 := hb2.out.conv cap
  rw [List.length_set, hl] at hcv2
  have SL : Hid ((Str (s.data.toList.set i (x + 1))).size = s.size) := Lib.hid (by rw [Str_size, List.length_set]; exact hl)
  have bb2 : Hid (Below w.heap.size w (w2.setCell ⟨g, i, none⟩ (.int .u8 (((x + 1).toNat : Nat) : Int)))) := Lib.hid (bb.setCell (Nat.le_trans hw1 hgw) _)
  generalize Str (s.data.toList.set i (x + 1)) = t at *
  generalize (x + 1).toNat = y at *
  clear hbuf hb2 hne N1 N2 hx bb
  go_wp2_with fail
  refine (same_is _ _ _ (by omega) (by rw [SL.out]; omega)).mono ?_
  rw [N1'.out]
  rintro e w9 ⟨rfl, rfl⟩
  go_wp2_with fail
  refine (same_is _ _ _ (by rw [SL.out]; omega) (by omega)).mono ?_
  rw [N2'.out]
  rintro e w9 ⟨rfl, rfl⟩
  go_wp2_with fail
  go_ret
  exact ⟨rfl, bb2.out⟩
set_option maxHeartbeats 1600000 in
theorem macSame_em (s m : ByteArray) (a : Int) (w : World) (hs : s.size ≤ 140737488351232) (hm : m.size ≤ 140737488351232) (a0 : -9223372036854775808 ≤ a) (a1 : a ≤ 9223372036854775807) (hs0 : 0 < s.size) (ha : a < 0) :
    Calls Try.prog 5 #[.string s, .int .i64 a, .string ⟨#[]⟩] w fun e w' => e = .returned (.bool true) ∧ Below w.heap.size w w' := by
  have E1 : decide ((s : ByteArray) = s ++ ⟨#[]⟩) = true := by simp [empty_end]
  have E2 : decide ((s : ByteArray) ++ ⟨#[]⟩ = s) = true := by simp [empty_end]
  have hsi : s.toList.isEmpty = false := nonempty s hs0
  obtain ⟨i, hi, hmod⟩ : ∃ i : Nat, i < s.size ∧ (-(a + 1)).tmod (s.size : Int) = (i : Int) := ⟨((-(a + 1)) % (s.size : Int)).toNat, by have := Int.emod_lt_of_pos (-(a + 1)) (show (0 : Int) < s.size by omega); omega, by rw [Int.tmod_eq_emod_of_nonneg (by omega)]; have := Int.emod_nonneg (-(a + 1)) (show (s.size : Int) ≠ 0 by omega); omega⟩
  have E1' := Lib.hid E1
  have E2' := Lib.hid E2
  clear E1 E2
  go_enter Try.func5, Try.ntmps5
  try simp only [List.append_eq, List.cons_append, List.nil_append]
  go_wp2_with fail
  refine (examples_any _).mono ?_
  rintro e w1 ⟨rfl, bb⟩
  have hw1 := bb.size
  go_wp2_with fail
  refine (same_is _ _ _ (by first | omega | decide) (by first | omega | decide)).mono ?_
  rw [decide_eq_true (rfl : (s : ByteArray) = s)]
  rintro e w2 ⟨rfl, rfl⟩
  go_wp2_with fail
  refine (same_is _ _ _ (by first | omega | decide) (by have hes : (⟨#[]⟩ : ByteArray).size = 0 := rfl; rw [ByteArray.size_append]; omega)).mono ?_
  rw [E1'.out]
  rintro e w2 ⟨rfl, rfl⟩
  go_wp2_with fail
  refine (same_is _ _ _ (by have hes : (⟨#[]⟩ : ByteArray).size = 0 := rfl; rw [ByteArray.size_append]; omega) (by first | omega | decide)).mono ?_
  rw [E2'.out]
  rintro e w2 ⟨rfl, rfl⟩
  obtain ⟨cap, w2, g, hcv, hbuf, b2, hgw⟩ := Buf.opened w1 s
  replace bb := chain bb b2
  clear b2
  have hl : s.data.toList.length = s.size := by simp
  have hc := hbuf.cell i (by omega)
  have hf := hbuf.free i (by omega)
  have hil : i < s.data.toList.length := by omega
  obtain ⟨x, hx⟩ : ∃ x, s.data.toList[i] = x := ⟨_, rfl⟩
  rw [hx] at hc
  have hby : (((x.toNat : Int) + 1) % 256) = (((x + 1).toNat : Nat) : Int) := by rw [UInt8.toNat_add]; simp
  have hb2 := Lib.hid (hbuf.set i (by omega) (x + 1))
  have hne : x + 1 ≠ x := by intro h; have := congrArg UInt8.toNat h; rw [UInt8.toNat_add] at this; simp at this; have := x.toNat_lt; omega
  obtain ⟨N1, N2⟩ := set_ne s i hi (x + 1) (by rw [hx]; exact hne)
  have N1' : Hid (decide (s = Str (s.data.toList.set i (x + 1))) = false) := Lib.hid (decide_eq_false N1)
  have N2' : Hid (decide (Str (s.data.toList.set i (x + 1)) = s) = false) := Lib.hid (decide_eq_false N2)
  have hcv2 := hb2.out.conv cap
  rw [List.length_set, hl] at hcv2
  have SL : Hid ((Str (s.data.toList.set i (x + 1))).size = s.size) := Lib.hid (by rw [Str_size, List.length_set]; exact hl)
  have bb2 : Hid (Below w.heap.size w (w2.setCell ⟨g, i, none⟩ (.int .u8 (((x + 1).toNat : Nat) : Int)))) := Lib.hid (bb.setCell (Nat.le_trans hw1 hgw) _)
  generalize Str (s.data.toList.set i (x + 1)) = t at *
  generalize (x + 1).toNat = y at *
  clear hbuf hb2 hne N1 N2 hx bb
  go_wp2_with fail
  refine (same_is _ _ _ (by omega) (by rw [SL.out]; omega)).mono ?_
  rw [N1'.out]
  rintro e w9 ⟨rfl, rfl⟩
  go_wp2_with fail
  refine (same_is _ _ _ (by rw [SL.out]; omega) (by omega)).mono ?_
  rw [N2'.out]
  rintro e w9 ⟨rfl, rfl⟩
  go_wp2_with fail
  go_ret
  exact ⟨rfl, bb2.out⟩
set_option maxHeartbeats 1600000 in
theorem macSame_ep (s m : ByteArray) (a : Int) (w : World) (hs : s.size ≤ 140737488351232) (hm : m.size ≤ 140737488351232) (a0 : -9223372036854775808 ≤ a) (a1 : a ≤ 9223372036854775807) (hs0 : 0 < s.size) (ha : 0 ≤ a) :
    Calls Try.prog 5 #[.string s, .int .i64 a, .string ⟨#[]⟩] w fun e w' => e = .returned (.bool true) ∧ Below w.heap.size w w' := by
  have E1 : decide ((s : ByteArray) = s ++ ⟨#[]⟩) = true := by simp [empty_end]
  have E2 : decide ((s : ByteArray) ++ ⟨#[]⟩ = s) = true := by simp [empty_end]
  have hsi : s.toList.isEmpty = false := nonempty s hs0
  obtain ⟨i, hi, hmod⟩ : ∃ i : Nat, i < s.size ∧ (a).tmod (s.size : Int) = (i : Int) := ⟨((a) % (s.size : Int)).toNat, by have := Int.emod_lt_of_pos (a) (show (0 : Int) < s.size by omega); omega, by rw [Int.tmod_eq_emod_of_nonneg (by omega)]; have := Int.emod_nonneg (a) (show (s.size : Int) ≠ 0 by omega); omega⟩
  have E1' := Lib.hid E1
  have E2' := Lib.hid E2
  clear E1 E2
  go_enter Try.func5, Try.ntmps5
  try simp only [List.append_eq, List.cons_append, List.nil_append]
  go_wp2_with fail
  refine (examples_any _).mono ?_
  rintro e w1 ⟨rfl, bb⟩
  have hw1 := bb.size
  go_wp2_with fail
  refine (same_is _ _ _ (by first | omega | decide) (by first | omega | decide)).mono ?_
  rw [decide_eq_true (rfl : (s : ByteArray) = s)]
  rintro e w2 ⟨rfl, rfl⟩
  go_wp2_with fail
  refine (same_is _ _ _ (by first | omega | decide) (by have hes : (⟨#[]⟩ : ByteArray).size = 0 := rfl; rw [ByteArray.size_append]; omega)).mono ?_
  rw [E1'.out]
  rintro e w2 ⟨rfl, rfl⟩
  go_wp2_with fail
  refine (same_is _ _ _ (by have hes : (⟨#[]⟩ : ByteArray).size = 0 := rfl; rw [ByteArray.size_append]; omega) (by first | omega | decide)).mono ?_
  rw [E2'.out]
  rintro e w2 ⟨rfl, rfl⟩
  obtain ⟨cap, w2, g, hcv, hbuf, b2, hgw⟩ := Buf.opened w1 s
  replace bb := chain bb b2
  clear b2
  have hl : s.data.toList.length = s.size := by simp
  have hc := hbuf.cell i (by omega)
  have hf := hbuf.free i (by omega)
  have hil : i < s.data.toList.length := by omega
  obtain ⟨x, hx⟩ : ∃ x, s.data.toList[i] = x := ⟨_, rfl⟩
  rw [hx] at hc
  have hby : (((x.toNat : Int) + 1) % 256) = (((x + 1).toNat : Nat) : Int) := by rw [UInt8.toNat_add]; simp
  have hb2 := Lib.hid (hbuf.set i (by omega) (x + 1))
  have hne : x + 1 ≠ x := by intro h; have := congrArg UInt8.toNat h; rw [UInt8.toNat_add] at this; simp at this; have := x.toNat_lt; omega
  obtain ⟨N1, N2⟩ := set_ne s i hi (x + 1) (by rw [hx]; exact hne)
  have N1' : Hid (decide (s = Str (s.data.toList.set i (x + 1))) = false) := Lib.hid (decide_eq_false N1)
  have N2' : Hid (decide (Str (s.data.toList.set i (x + 1)) = s) = false) := Lib.hid (decide_eq_false N2)
  have hcv2 := hb2.out.conv cap
  rw [List.length_set, hl] at hcv2
  have SL : Hid ((Str (s.data.toList.set i (x + 1))).size = s.size) := Lib.hid (by rw [Str_size, List.length_set]; exact hl)
  have bb2 : Hid (Below w.heap.size w (w2.setCell ⟨g, i, none⟩ (.int .u8 (((x + 1).toNat : Nat) : Int)))) := Lib.hid (bb.setCell (Nat.le_trans hw1 hgw) _)
  generalize Str (s.data.toList.set i (x + 1)) = t at *
  generalize (x + 1).toNat = y at *
  clear hbuf hb2 hne N1 N2 hx bb
  go_wp2_with fail
  refine (same_is _ _ _ (by omega) (by rw [SL.out]; omega)).mono ?_
  rw [N1'.out]
  rintro e w9 ⟨rfl, rfl⟩
  go_wp2_with fail
  refine (same_is _ _ _ (by rw [SL.out]; omega) (by omega)).mono ?_
  rw [N2'.out]
  rintro e w9 ⟨rfl, rfl⟩
  go_wp2_with fail
  go_ret
  exact ⟨rfl, bb2.out⟩
set_option maxHeartbeats 1600000 in
theorem macSame_ne (s m : ByteArray) (a : Int) (w : World) (hs : s.size ≤ 140737488351232) (hm : m.size ≤ 140737488351232) (a0 : -9223372036854775808 ≤ a) (a1 : a ≤ 9223372036854775807) (hm0 : 0 < m.size) :
    Calls Try.prog 5 #[.string ⟨#[]⟩, .int .i64 a, .string m] w fun e w' => e = .returned (.bool true) ∧ Below w.heap.size w w' := by
  have E1 : decide ((⟨#[]⟩ : ByteArray) = ⟨#[]⟩ ++ m) = false := decide_eq_false (append_ne _ m hm0).1
  have E2 : decide ((⟨#[]⟩ : ByteArray) ++ m = ⟨#[]⟩) = false := decide_eq_false (append_ne _ m hm0).2
  have hmi : m.toList.isEmpty = false := nonempty m hm0
  have E1' := Lib.hid E1
  have E2' := Lib.hid E2
  clear E1 E2
  go_enter Try.func5, Try.ntmps5
  try simp only [List.append_eq, List.cons_append, List.nil_append]
  go_wp2_with fail
  refine (examples_any _).mono ?_
  rintro e w1 ⟨rfl, bb⟩
  go_wp2_with fail
  refine (same_is _ _ _ (by first | omega | decide) (by first | omega | decide)).mono ?_
  rw [decide_eq_true (rfl : (⟨#[]⟩ : ByteArray) = ⟨#[]⟩)]
  rintro e w2 ⟨rfl, rfl⟩
  go_wp2_with fail
  refine (same_is _ _ _ (by first | omega | decide) (by have hes : (⟨#[]⟩ : ByteArray).size = 0 := rfl; rw [ByteArray.size_append]; omega)).mono ?_
  rw [E1'.out]
  rintro e w2 ⟨rfl, rfl⟩
  go_wp2_with fail
  refine (same_is _ _ _ (by have hes : (⟨#[]⟩ : ByteArray).size = 0 := rfl; rw [ByteArray.size_append]; omega) (by first | omega | decide)).mono ?_
  rw [E2'.out]
  rintro e w2 ⟨rfl, rfl⟩
  go_wp2_with fail
  go_ret
  exact ⟨rfl, bb⟩
set_option maxHeartbeats 1600000 in
theorem macSame_ee (s m : ByteArray) (a : Int) (w : World) (hs : s.size ≤ 140737488351232) (hm : m.size ≤ 140737488351232) (a0 : -9223372036854775808 ≤ a) (a1 : a ≤ 9223372036854775807) :
    Calls Try.prog 5 #[.string ⟨#[]⟩, .int .i64 a, .string ⟨#[]⟩] w fun e w' => e = .returned (.bool true) ∧ Below w.heap.size w w' := by
  have E1 : decide ((⟨#[]⟩ : ByteArray) = ⟨#[]⟩ ++ ⟨#[]⟩) = true := by simp [empty_end]
  have E2 : decide ((⟨#[]⟩ : ByteArray) ++ ⟨#[]⟩ = ⟨#[]⟩) = true := by simp [empty_end]
  have E1' := Lib.hid E1
  have E2' := Lib.hid E2
  clear E1 E2
  go_enter Try.func5, Try.ntmps5
  try simp only [List.append_eq, List.cons_append, List.nil_append]
  go_wp2_with fail
  refine (examples_any _).mono ?_
  rintro e w1 ⟨rfl, bb⟩
  go_wp2_with fail
  refine (same_is _ _ _ (by first | omega | decide) (by first | omega | decide)).mono ?_
  rw [decide_eq_true (rfl : (⟨#[]⟩ : ByteArray) = ⟨#[]⟩)]
  rintro e w2 ⟨rfl, rfl⟩
  go_wp2_with fail
  refine (same_is _ _ _ (by first | omega | decide) (by have hes : (⟨#[]⟩ : ByteArray).size = 0 := rfl; rw [ByteArray.size_append]; omega)).mono ?_
  rw [E1'.out]
  rintro e w2 ⟨rfl, rfl⟩
  go_wp2_with fail
  refine (same_is _ _ _ (by have hes : (⟨#[]⟩ : ByteArray).size = 0 := rfl; rw [ByteArray.size_append]; omega) (by first | omega | decide)).mono ?_
  rw [E2'.out]
  rintro e w2 ⟨rfl, rfl⟩
  go_wp2_with fail
  go_ret
  exact ⟨rfl, bb⟩
theorem macSame_law (a0 : ByteArray) (a1 : Int) (a2 : ByteArray) (w : World) (z0 : a0.size ≤ 140737488351232) (w1 : (Lit.int .i64 a1).wf = true) (z2 : a2.size ≤ 140737488351232) :
    Calls Try.prog 5 #[.string a0, .int .i64 a1, .string a2] w fun e w' => e = .returned (.bool true) ∧ Below w.heap.size w w' := by
  have h1 := bounds_i64 w1
  have he : ∀ b : ByteArray, b.size = 0 → b = ⟨#[]⟩ := fun b h => by apply ByteArray.ext; exact Array.eq_empty_of_size_eq_zero h
  rcases Nat.eq_zero_or_pos a2.size with hm | hm
  · obtain rfl := he a2 hm
    rcases Nat.eq_zero_or_pos a0.size with hs | hs
    · obtain rfl := he a0 hs
      exact macSame_ee ⟨#[]⟩ ⟨#[]⟩ a1 w z0 z2 h1.1 (by omega)
    · rcases Int.lt_or_le a1 0 with ha | ha
      · exact macSame_em a0 ⟨#[]⟩ a1 w z0 z2 h1.1 (by omega) hs ha
      · exact macSame_ep a0 ⟨#[]⟩ a1 w z0 z2 h1.1 (by omega) hs ha
  · rcases Nat.eq_zero_or_pos a0.size with hs | hs
    · obtain rfl := he a0 hs
      exact macSame_ne ⟨#[]⟩ a2 a1 w z0 z2 h1.1 (by omega) hm
    · rcases Int.lt_or_le a1 0 with ha | ha
      · exact macSame_nm a0 a2 a1 w z0 z2 h1.1 (by omega) hm hs ha
      · exact macSame_np a0 a2 a1 w z0 z2 h1.1 (by omega) hm hs ha
end Go.Proofs.Ytglmepdgepjeiaa
