import Derived.Test.YtlcgohmpbmmcpaaRefMore
namespace Go.Proofs.Ytlcgohmpbmmcpaa
open Go.RowKit
set_option linter.unusedVariables false

set_option maxHeartbeats 1600000 in
theorem bitsBoth_bb (a b c d y z : ByteArray) (p : Nat) (w : World) (ha : a.size ≤ 140737488351232) (hb : b.size ≤ 140737488351232) (hc : Hid (a.extract 0 300 = c)) (hcs : c.size ≤ 300) (haa : 300 < (a.size : Int)) (hd : Hid (b.extract 0 300 = d)) (hds : d.size ≤ 300) (hbb : 300 < (b.size : Int))
    (JY : Hid (mergeB (· ||| ·) c d = y)) (LZ : Hid (mergeB lessN c d = z)) (CP : Hid (cntL c.data.toList = p)) :
    Calls Try.prog 4 #[.string a, .string b] w fun e w' => e = .returned (.bool true) ∧ Below w.heap.size w w' := by
  go_enter Try.func4, Try.ntmps4
  try simp only [List.append_eq, List.cons_append, List.nil_append]
  go_wp2_with fail
  refine (examples_any _).mono ?_
  rintro e w1 ⟨rfl, bb⟩
  go_wp2_with fail
  rw [hc.out]
  rw [hd.out]
  refine (join_any _ _ _ (by omega) (by omega)).mono ?_
  rw [JY.out]
  rintro e w9 ⟨rfl, b9⟩
  replace bb := chain bb b9
  clear b9
  go_wp2_with fail
  refine (refJoin_any _ _ _ (by omega) (by omega)).mono ?_
  rw [JY.out]
  rintro e w9 ⟨rfl, b9⟩
  replace bb := chain bb b9
  clear b9
  go_wp2_with fail
  refine (less_any _ _ _ (by omega) (by omega)).mono ?_
  rw [LZ.out]
  rintro e w9 ⟨rfl, b9⟩
  replace bb := chain bb b9
  clear b9
  go_wp2_with fail
  refine (refLess_any _ _ _ (by omega) (by omega)).mono ?_
  rw [LZ.out]
  rintro e w9 ⟨rfl, b9⟩
  replace bb := chain bb b9
  clear b9
  go_wp2_with fail
  refine (count_any _ _ (by omega)).mono ?_
  rw [CP.out]
  rintro e w9 ⟨rfl, rfl⟩
  go_wp2_with fail
  refine (refCount_any _ _ (by omega)).mono ?_
  rw [CP.out]
  rintro e w9 ⟨rfl, rfl⟩
  go_wp2_with fail
  go_ret
  refine ⟨ret_true ?_, bb⟩
  first | (simp; done) | (simp; omega)
set_option maxHeartbeats 1600000 in
theorem bitsBoth_bs (a b c d y z : ByteArray) (p : Nat) (w : World) (ha : a.size ≤ 140737488351232) (hb : b.size ≤ 140737488351232) (hc : Hid (a.extract 0 300 = c)) (hcs : c.size ≤ 300) (haa : 300 < (a.size : Int)) (hbb : (b.size : Int) ≤ 300)
    (JY : Hid (mergeB (· ||| ·) c b = y)) (LZ : Hid (mergeB lessN c b = z)) (CP : Hid (cntL c.data.toList = p)) :
    Calls Try.prog 4 #[.string a, .string b] w fun e w' => e = .returned (.bool true) ∧ Below w.heap.size w w' := by
  go_enter Try.func4, Try.ntmps4
  try simp only [List.append_eq, List.cons_append, List.nil_append]
  go_wp2_with fail
  refine (examples_any _).mono ?_
  rintro e w1 ⟨rfl, bb⟩
  go_wp2_with fail
  rw [hc.out]
  refine (join_any _ _ _ (by omega) (by omega)).mono ?_
  rw [JY.out]
  rintro e w9 ⟨rfl, b9⟩
  replace bb := chain bb b9
  clear b9
  go_wp2_with fail
  refine (refJoin_any _ _ _ (by omega) (by omega)).mono ?_
  rw [JY.out]
  rintro e w9 ⟨rfl, b9⟩
  replace bb := chain bb b9
  clear b9
  go_wp2_with fail
  refine (less_any _ _ _ (by omega) (by omega)).mono ?_
  rw [LZ.out]
  rintro e w9 ⟨rfl, b9⟩
  replace bb := chain bb b9
  clear b9
  go_wp2_with fail
  refine (refLess_any _ _ _ (by omega) (by omega)).mono ?_
  rw [LZ.out]
  rintro e w9 ⟨rfl, b9⟩
  replace bb := chain bb b9
  clear b9
  go_wp2_with fail
  refine (count_any _ _ (by omega)).mono ?_
  rw [CP.out]
  rintro e w9 ⟨rfl, rfl⟩
  go_wp2_with fail
  refine (refCount_any _ _ (by omega)).mono ?_
  rw [CP.out]
  rintro e w9 ⟨rfl, rfl⟩
  go_wp2_with fail
  go_ret
  refine ⟨ret_true ?_, bb⟩
  first | (simp; done) | (simp; omega)
set_option maxHeartbeats 1600000 in
theorem bitsBoth_sb (a b c d y z : ByteArray) (p : Nat) (w : World) (ha : a.size ≤ 140737488351232) (hb : b.size ≤ 140737488351232) (haa : (a.size : Int) ≤ 300) (hd : Hid (b.extract 0 300 = d)) (hds : d.size ≤ 300) (hbb : 300 < (b.size : Int))
    (JY : Hid (mergeB (· ||| ·) a d = y)) (LZ : Hid (mergeB lessN a d = z)) (CP : Hid (cntL a.data.toList = p)) :
    Calls Try.prog 4 #[.string a, .string b] w fun e w' => e = .returned (.bool true) ∧ Below w.heap.size w w' := by
  go_enter Try.func4, Try.ntmps4
  try simp only [List.append_eq, List.cons_append, List.nil_append]
  go_wp2_with fail
  refine (examples_any _).mono ?_
  rintro e w1 ⟨rfl, bb⟩
  go_wp2_with fail
  rw [hd.out]
  refine (join_any _ _ _ (by omega) (by omega)).mono ?_
  rw [JY.out]
  rintro e w9 ⟨rfl, b9⟩
  replace bb := chain bb b9
  clear b9
  go_wp2_with fail
  refine (refJoin_any _ _ _ (by omega) (by omega)).mono ?_
  rw [JY.out]
  rintro e w9 ⟨rfl, b9⟩
  replace bb := chain bb b9
  clear b9
  go_wp2_with fail
  refine (less_any _ _ _ (by omega) (by omega)).mono ?_
  rw [LZ.out]
  rintro e w9 ⟨rfl, b9⟩
  replace bb := chain bb b9
  clear b9
  go_wp2_with fail
  refine (refLess_any _ _ _ (by omega) (by omega)).mono ?_
  rw [LZ.out]
  rintro e w9 ⟨rfl, b9⟩
  replace bb := chain bb b9
  clear b9
  go_wp2_with fail
  refine (count_any _ _ (by omega)).mono ?_
  rw [CP.out]
  rintro e w9 ⟨rfl, rfl⟩
  go_wp2_with fail
  refine (refCount_any _ _ (by omega)).mono ?_
  rw [CP.out]
  rintro e w9 ⟨rfl, rfl⟩
  go_wp2_with fail
  go_ret
  refine ⟨ret_true ?_, bb⟩
  first | (simp; done) | (simp; omega)
set_option maxHeartbeats 1600000 in
theorem bitsBoth_ss (a b c d y z : ByteArray) (p : Nat) (w : World) (ha : a.size ≤ 140737488351232) (hb : b.size ≤ 140737488351232) (haa : (a.size : Int) ≤ 300) (hbb : (b.size : Int) ≤ 300)
    (JY : Hid (mergeB (· ||| ·) a b = y)) (LZ : Hid (mergeB lessN a b = z)) (CP : Hid (cntL a.data.toList = p)) :
    Calls Try.prog 4 #[.string a, .string b] w fun e w' => e = .returned (.bool true) ∧ Below w.heap.size w w' := by
  go_enter Try.func4, Try.ntmps4
  try simp only [List.append_eq, List.cons_append, List.nil_append]
  go_wp2_with fail
  refine (examples_any _).mono ?_
  rintro e w1 ⟨rfl, bb⟩
  go_wp2_with fail
  refine (join_any _ _ _ (by omega) (by omega)).mono ?_
  rw [JY.out]
  rintro e w9 ⟨rfl, b9⟩
  replace bb := chain bb b9
  clear b9
  go_wp2_with fail
  refine (refJoin_any _ _ _ (by omega) (by omega)).mono ?_
  rw [JY.out]
  rintro e w9 ⟨rfl, b9⟩
  replace bb := chain bb b9
  clear b9
  go_wp2_with fail
  refine (less_any _ _ _ (by omega) (by omega)).mono ?_
  rw [LZ.out]
  rintro e w9 ⟨rfl, b9⟩
  replace bb := chain bb b9
  clear b9
  go_wp2_with fail
  refine (refLess_any _ _ _ (by omega) (by omega)).mono ?_
  rw [LZ.out]
  rintro e w9 ⟨rfl, b9⟩
  replace bb := chain bb b9
  clear b9
  go_wp2_with fail
  refine (count_any _ _ (by omega)).mono ?_
  rw [CP.out]
  rintro e w9 ⟨rfl, rfl⟩
  go_wp2_with fail
  refine (refCount_any _ _ (by omega)).mono ?_
  rw [CP.out]
  rintro e w9 ⟨rfl, rfl⟩
  go_wp2_with fail
  go_ret
  refine ⟨ret_true ?_, bb⟩
  first | (simp; done) | (simp; omega)
theorem bitsBoth_law (a0 a1 : ByteArray) (w : World) (z0 : a0.size ≤ 140737488351232) (z1 : a1.size ≤ 140737488351232) :
    Calls Try.prog 4 #[.string a0, .string a1] w fun e w' => e = .returned (.bool true) ∧ Below w.heap.size w w' := by
  have hz : ∀ a : ByteArray, (a.extract 0 300).size ≤ 300 := fun a => by rw [ByteArray.size_extract]; omega
  rcases Int.lt_or_le 300 (a0.size : Int) with hs | hs <;> rcases Int.lt_or_le 300 (a1.size : Int) with hn | hn
  · exact bitsBoth_bb a0 a1 _ _ _ _ _ w z0 z1 (Lib.hid rfl) (hz _) hs (Lib.hid rfl) (hz _) hn (Lib.hid rfl) (Lib.hid rfl) (Lib.hid rfl)
  · exact bitsBoth_bs a0 a1 _ a1 _ _ _ w z0 z1 (Lib.hid rfl) (hz _) hs hn (Lib.hid rfl) (Lib.hid rfl) (Lib.hid rfl)
  · exact bitsBoth_sb a0 a1 a0 _ _ _ _ w z0 z1 hs (Lib.hid rfl) (hz _) hn (Lib.hid rfl) (Lib.hid rfl) (Lib.hid rfl)
  · exact bitsBoth_ss a0 a1 a0 a1 _ _ _ w z0 z1 hs hn (Lib.hid rfl) (Lib.hid rfl) (Lib.hid rfl)
end Go.Proofs.Ytlcgohmpbmmcpaa
