import Derived.Test.YtnbljpdfmomjjaaEx20
import Derived.Outline
namespace Go.Proofs.Ytnbljpdfmomjjaa
open Go.RowKit
set_option linter.unusedVariables false

set_option maxHeartbeats 3200000 in
set_option maxRecDepth 20000 in
theorem frameBack_c (s m c f : ByteArray) (w : World) (hs : (s.size : Int) ≤ 200) (hm : m.size ≤ 140737488351232) (hc : Hid (m.extract 0 1 = c)) (hcs : (c.size : Int) ≤ 1) (hmm : 1 < (m.size : Int)) (hf : Hid (frB s = f)) (hfs : (f.size : Int) = (s.size : Int) + 2)
    (HA : Hid ([] ++ (f ++ c).data.toList = M.be 2 s.size ++ (s.data.toList ++ c.data.toList))) :
    Calls Try.prog 6 #[.string s, .string m] w fun e w' => e = .returned (.bool true) ∧ Below w.heap.size w w' := by
  have hval := Lib.hid (fr_val s.size (s.data.toList ++ c.data.toList) (by omega))
  have htext := Lib.hid (fr_text s c.data.toList)
  have hrest := Lib.hid (fr_rest s c.data.toList)
  have hall : (M.be 2 s.size ++ (s.data.toList ++ c.data.toList)).length = 2 + s.size + c.size := by
    rw [List.length_append, List.length_append, M.be_length]; simp; omega
  have hml : c.data.toList.length = c.size := by simp
  go_enter Try.func6, Try.ntmps6
  try simp only [List.append_eq, List.cons_append, List.nil_append]
  go_wp2_with fail
  refine (examples_any _).mono ?_
  rintro e w1 ⟨rfl, b1⟩
  go_wp2_with fail
  refine (new_any _).mono ?_
  rintro e w2 ⟨rfl, r2, b2⟩
  have B2 := Lib.hid (chain b1 b2)
  have hb1 := b1.size
  clear b1 b2
  go_wp2_with fail
  refine (fput_good _ _ _ hs hf).mono ?_
  rintro e w3 ⟨rfl, b3⟩
  have R3 := Lib.hid (r2.below b3)
  have B3 := Lib.hid (chain B2.out b3)
  have hlo : w1.heap.size ≤ w3.heap.size := Nat.le_of_lt R3.out.lt
  clear r2 b3 B2
  generalize w1.heap.size = lo at *
  go_wp2_with fail
  rw [hc.out]
  refine (add_good lo lo [] _ _ hlo R3.out (by rw [ByteArray.size_append]; simp; omega)).mono ?_
  rw [HA.out]
  generalize hL : M.be 2 s.size ++ (s.data.toList ++ c.data.toList) = L at *
  rintro e w4 ⟨rfl, r4, b4⟩
  have R4 := Lib.hid r4
  have B4 := Lib.hid (B3.out.trans (b4.mono hb1))
  have hlo4 := Nat.le_trans hlo b4.size
  clear r4 b4 R3 B3
  go_wp2_with fail
  refine (next_tell lo lo L s.size s _ htext hlo4 R4.out (by omega) (by omega) (by omega) hval hs).mono ?_
  rw [hrest.out]
  rintro e w5 ⟨rfl, r5, b5⟩
  have R5 := Lib.hid r5
  have B5 := Lib.hid (B4.out.trans (b5.mono hb1))
  clear r5 b5 R4 B4
  go_wp2_with fail
  refine (next_short lo lo _ _ R5.out (by omega)).mono ?_
  rintro e w6 ⟨rfl, rfl⟩
  go_wp2_with fail
  refine (rest_any lo lo _ false _ R5.out).mono ?_
  rw [hml]
  rintro e w6 ⟨rfl, rfl⟩
  go_wp2_with fail
  go_ret
  refine ⟨ret_true ?_, B5.out⟩
  first | (simp; done) | (simp; omega)
set_option maxHeartbeats 3200000 in
set_option maxRecDepth 20000 in
theorem frameBack_s (s m c f : ByteArray) (w : World) (hs : (s.size : Int) ≤ 200) (hm : m.size ≤ 140737488351232) (hmm : (m.size : Int) ≤ 1) (hf : Hid (frB s = f)) (hfs : (f.size : Int) = (s.size : Int) + 2)
    (HA : Hid ([] ++ (f ++ m).data.toList = M.be 2 s.size ++ (s.data.toList ++ m.data.toList))) :
    Calls Try.prog 6 #[.string s, .string m] w fun e w' => e = .returned (.bool true) ∧ Below w.heap.size w w' := by
  have hval := Lib.hid (fr_val s.size (s.data.toList ++ m.data.toList) (by omega))
  have htext := Lib.hid (fr_text s m.data.toList)
  have hrest := Lib.hid (fr_rest s m.data.toList)
  have hall : (M.be 2 s.size ++ (s.data.toList ++ m.data.toList)).length = 2 + s.size + m.size := by
    rw [List.length_append, List.length_append, M.be_length]; simp; omega
  have hml : m.data.toList.length = m.size := by simp
  go_enter Try.func6, Try.ntmps6
  try simp only [List.append_eq, List.cons_append, List.nil_append]
  go_wp2_with fail
  refine (examples_any _).mono ?_
  rintro e w1 ⟨rfl, b1⟩
  go_wp2_with fail
  refine (new_any _).mono ?_
  rintro e w2 ⟨rfl, r2, b2⟩
  have B2 := Lib.hid (chain b1 b2)
  have hb1 := b1.size
  clear b1 b2
  go_wp2_with fail
  refine (fput_good _ _ _ hs hf).mono ?_
  rintro e w3 ⟨rfl, b3⟩
  have R3 := Lib.hid (r2.below b3)
  have B3 := Lib.hid (chain B2.out b3)
  have hlo : w1.heap.size ≤ w3.heap.size := Nat.le_of_lt R3.out.lt
  clear r2 b3 B2
  generalize w1.heap.size = lo at *
  go_wp2_with fail
  refine (add_good lo lo [] _ _ hlo R3.out (by rw [ByteArray.size_append]; simp; omega)).mono ?_
  rw [HA.out]
  generalize hL : M.be 2 s.size ++ (s.data.toList ++ m.data.toList) = L at *
  rintro e w4 ⟨rfl, r4, b4⟩
  have R4 := Lib.hid r4
  have B4 := Lib.hid (B3.out.trans (b4.mono hb1))
  have hlo4 := Nat.le_trans hlo b4.size
  clear r4 b4 R3 B3
  go_wp2_with fail
  refine (next_tell lo lo L s.size s _ htext hlo4 R4.out (by omega) (by omega) (by omega) hval hs).mono ?_
  rw [hrest.out]
  rintro e w5 ⟨rfl, r5, b5⟩
  have R5 := Lib.hid r5
  have B5 := Lib.hid (B4.out.trans (b5.mono hb1))
  clear r5 b5 R4 B4
  go_wp2_with fail
  refine (next_short lo lo _ _ R5.out (by omega)).mono ?_
  rintro e w6 ⟨rfl, rfl⟩
  go_wp2_with fail
  refine (rest_any lo lo _ false _ R5.out).mono ?_
  rw [hml]
  rintro e w6 ⟨rfl, rfl⟩
  go_wp2_with fail
  go_ret
  refine ⟨ret_true ?_, B5.out⟩
  first | (simp; done) | (simp; omega)
set_option maxHeartbeats 800000 in
theorem frameBack_long (s m : ByteArray) (w : World) (hs : 200 < (s.size : Int)) :
    Calls Try.prog 6 #[.string s, .string m] w fun e w' => e = .returned (.bool true) ∧ Below w.heap.size w w' := by
  go_enter Try.func6, Try.ntmps6
  try simp only [List.append_eq, List.cons_append, List.nil_append]
  go_wp2_with fail
  refine (examples_any _).mono ?_
  rintro e w1 ⟨rfl, b1⟩
  go_wp2_with fail
  refine (new_any _).mono ?_
  rintro e w2 ⟨rfl, r2, b2⟩
  have B2 := Lib.hid (chain b1 b2)
  clear b1 b2 r2
  go_wp2_with fail
  refine (fput_long _ _ hs).mono ?_
  rintro e w3 ⟨rfl, rfl⟩
  go_wp2_with fail
  go_ret
  refine ⟨ret_true ?_, B2.out⟩
  first | rfl | (simp; done) | (simp; omega)
theorem frameBack_law (a0 a1 : ByteArray) (w : World) (z0 : a0.size ≤ 140737488351232) (z1 : a1.size ≤ 140737488351232) :
    Calls Try.prog 6 #[.string a0, .string a1] w fun e w' => e = .returned (.bool true) ∧ Below w.heap.size w w' := by
  rcases Int.lt_or_le 200 (a0.size : Int) with hs | hs
  · exact frameBack_long a0 a1 w hs
  have hz : ((a1.extract 0 1).size : Int) ≤ 1 := by rw [ByteArray.size_extract]; omega
  have hfs : ((frB a0).size : Int) = (a0.size : Int) + 2 := by rw [frB_size]; omega
  rcases Int.lt_or_le 1 (a1.size : Int) with hm | hm
  · exact frameBack_c a0 a1 _ _ w hs z1 (Lib.hid rfl) hz hm (Lib.hid rfl) hfs (Lib.hid (frB_list _ _))
  · exact frameBack_s a0 a1 a1 _ w hs z1 hm (Lib.hid rfl) hfs (Lib.hid (frB_list _ _))
end Go.Proofs.Ytnbljpdfmomjjaa
