import Derived.Test.YtnbljpdfmomjjaaEx20
import Derived.Test.YtnbljpdfmomjjaaFrOff
import Derived.Outline
namespace Go.Proofs.Ytnbljpdfmomjjaa
open Go.RowKit
set_option linter.unusedVariables false

theorem conv_two (w : World) (x y : UInt8) (z1 z2 : Int) (h1 : (x.toNat : Int) = z1) (h2 : (y.toNat : Int) = z2) :
    (convert 45 9 (.slice (some ⟨w.heap.size, 0, none⟩) 2 2)).run Try.prog (w.alloc (.cells #[.int .u8 z1, .int .u8 z2] 5)) = .ok (.string (Str [x, y])) (w.alloc (.cells #[.int .u8 z1, .int .u8 z2] 5)) := by
  subst h1 h2
  refine run_convert_bytes_back (P := Try.prog) _ 45 9 5 ⟨w.heap.size, 0, none⟩ 2 [x, y] Try.underlying45 Try.underlying5 Try.underlying9 (fun j hj => ?_)
  rw [addr_add, World.cell?_alloc_new]
  have : j = 0 ∨ j = 1 := by simp at hj; omega
  rcases this with rfl | rfl <;> rfl
set_option maxHeartbeats 3200000 in
set_option maxRecDepth 20000 in
theorem frameLong_c_wait (s m c f hb t2 : ByteArray) (n : Nat) (R : List UInt8) (w : World) (hn : (n : Int) ≤ 65535) (hm : (m.size : Int) ≤ 140737488351232) (hc : Hid (s.extract 0 200 = c)) (hcs : (c.size : Int) ≤ 200) (hss : 200 < (s.size : Int)) (hn2 : (n : Int) ≤ 200) (hcase : (m.size : Int) < (n : Int)) (hf : Hid (frB c = f)) (hfs : (f.size : Int) = (c.size : Int) + 2)
    (hhb : Hid (∀ w : World, (convert 45 9 (.slice (some ⟨w.heap.size, 0, none⟩) 2 2)).run Try.prog (w.alloc (.cells #[.int .u8 ((n : Int) / 256), .int .u8 (n : Int)] 5)) = .ok (.string hb) (w.alloc (.cells #[.int .u8 ((n : Int) / 256), .int .u8 (n : Int)] 5))))
    (hbs : (hb.size : Int) = 2) (HA : Hid ([] ++ (f ++ hb ++ m).data.toList = M.be 2 c.size ++ (c.data.toList ++ R))) (hR : R.length = 2 + m.size) (hRv : Hid (M.val (R.take 2) = n)) (ht2 : Hid (Str ((R.drop 2).take n) = t2)) :
    Calls Try.prog 5 #[.string s, .int .u16 (n : Int), .string m] w fun e w' => e = .returned (.bool true) ∧ Below w.heap.size w w' := by
  have hval := Lib.hid (fr_val c.size (c.data.toList ++ R) (by omega))
  have htext := Lib.hid (fr_text c R)
  have hrest := Lib.hid (fr_rest c R)
  have hall : (M.be 2 c.size ++ (c.data.toList ++ R)).length = 2 + c.size + R.length := by
    rw [List.length_append, List.length_append, M.be_length]; simp; omega
  have hcv := hhb.out
  go_enter Try.func5, Try.ntmps5
  try simp only [List.append_eq, List.cons_append, List.nil_append]
  go_wp2_with fail
  refine (examples_any _).mono ?_
  rintro e w1 ⟨rfl, b1⟩
  go_wp2_with fail
  refine (new_any _).mono ?_
  rintro e w2 ⟨rfl, r2, b2⟩
  have B2 := Lib.hid (chain b1 b2)
  have hb1 := b1.size
  clear b1 b2
  go_wp2_with fail
  rw [hc.out]
  refine (fput_good _ _ _ hcs hf).mono ?_
  rintro e w3 ⟨rfl, b3⟩
  have R3 := Lib.hid (r2.below b3)
  have B3 := Lib.hid (chain B2.out b3)
  clear r2 b3 B2
  generalize w1.heap.size = lo at *
  have R3' := Lib.hid (R3.out.below ((Below.refl _ _).alloc (Nat.le_refl _) (.cells #[.int .u8 ((n : Int) / 256), .int .u8 (n : Int)] 5)))
  have B3' := Lib.hid (B3.out.alloc B3.out.size (.cells #[.int .u8 ((n : Int) / 256), .int .u8 (n : Int)] 5))
  clear R3 B3
  go_wp2_with fail
  have hlo := Nat.le_of_lt R3'.out.lt
  refine (add_good lo lo [] (f ++ hb ++ m) _ hlo R3'.out (by rw [ByteArray.size_append, ByteArray.size_append]; simp; omega)).mono ?_
  rw [HA.out]
  generalize hL : M.be 2 c.size ++ (c.data.toList ++ R) = L at *
  rintro e w4 ⟨rfl, r4, b4⟩
  have R4 := Lib.hid (r4.off (by omega))
  have B4 := Lib.hid (B3'.out.trans (b4.mono hb1))
  have hlo4 := Nat.le_trans hlo b4.size
  clear r4 b4 R3' B3' hcv
  go_wp2_with fail
  refine (nextO_tell lo lo L c.size c _ htext hlo4 R4.out (by omega) (by omega) hval hcs).mono ?_
  rw [hrest.out]
  rintro e w5 ⟨rfl, r5, b5⟩
  have R5 := Lib.hid r5
  have B5 := Lib.hid (B4.out.trans (b5.mono hb1))
  have hlo5 := Nat.le_trans hlo4 b5.size
  clear r5 b5 R4 B4
  go_wp2_with fail
  refine (nextO_wait lo lo R n _ hlo5 R5.out (by omega) hRv hn2 (by omega)).mono ?_
  rintro e w6 ⟨rfl, r6, b6⟩
  have R6 : Hid (BadIs w6 lo lo false) := Lib.hid r6
  have B6 := Lib.hid (B5.out.trans (b6.mono hb1))
  clear r6 b6 R5 B5
  go_wp2_with fail
  refine (badO_any lo lo false _ R6.out).mono ?_
  rintro e w7 ⟨rfl, rfl⟩
  go_wp2_with fail
  go_ret
  refine ⟨ret_true ?_, B6.out⟩
  first | rfl | (simp; done) | (simp; omega)
set_option maxHeartbeats 3200000 in
set_option maxRecDepth 20000 in
theorem frameLong_c_tell (s m c f hb t2 : ByteArray) (n : Nat) (R : List UInt8) (w : World) (hn : (n : Int) ≤ 65535) (hm : (m.size : Int) ≤ 140737488351232) (hc : Hid (s.extract 0 200 = c)) (hcs : (c.size : Int) ≤ 200) (hss : 200 < (s.size : Int)) (hn2 : (n : Int) ≤ 200) (hcase : (n : Int) < (m.size : Int)) (hf : Hid (frB c = f)) (hfs : (f.size : Int) = (c.size : Int) + 2)
    (hhb : Hid (∀ w : World, (convert 45 9 (.slice (some ⟨w.heap.size, 0, none⟩) 2 2)).run Try.prog (w.alloc (.cells #[.int .u8 ((n : Int) / 256), .int .u8 (n : Int)] 5)) = .ok (.string hb) (w.alloc (.cells #[.int .u8 ((n : Int) / 256), .int .u8 (n : Int)] 5))))
    (hbs : (hb.size : Int) = 2) (HA : Hid ([] ++ (f ++ hb ++ m).data.toList = M.be 2 c.size ++ (c.data.toList ++ R))) (hR : R.length = 2 + m.size) (hRv : Hid (M.val (R.take 2) = n)) (ht2 : Hid (Str ((R.drop 2).take n) = t2)) :
    Calls Try.prog 5 #[.string s, .int .u16 (n : Int), .string m] w fun e w' => e = .returned (.bool true) ∧ Below w.heap.size w w' := by
  have hval := Lib.hid (fr_val c.size (c.data.toList ++ R) (by omega))
  have htext := Lib.hid (fr_text c R)
  have hrest := Lib.hid (fr_rest c R)
  have hall : (M.be 2 c.size ++ (c.data.toList ++ R)).length = 2 + c.size + R.length := by
    rw [List.length_append, List.length_append, M.be_length]; simp; omega
  have hcv := hhb.out
  go_enter Try.func5, Try.ntmps5
  try simp only [List.append_eq, List.cons_append, List.nil_append]
  go_wp2_with fail
  refine (examples_any _).mono ?_
  rintro e w1 ⟨rfl, b1⟩
  go_wp2_with fail
  refine (new_any _).mono ?_
  rintro e w2 ⟨rfl, r2, b2⟩
  have B2 := Lib.hid (chain b1 b2)
  have hb1 := b1.size
  clear b1 b2
  go_wp2_with fail
  rw [hc.out]
  refine (fput_good _ _ _ hcs hf).mono ?_
  rintro e w3 ⟨rfl, b3⟩
  have R3 := Lib.hid (r2.below b3)
  have B3 := Lib.hid (chain B2.out b3)
  clear r2 b3 B2
  generalize w1.heap.size = lo at *
  have R3' := Lib.hid (R3.out.below ((Below.refl _ _).alloc (Nat.le_refl _) (.cells #[.int .u8 ((n : Int) / 256), .int .u8 (n : Int)] 5)))
  have B3' := Lib.hid (B3.out.alloc B3.out.size (.cells #[.int .u8 ((n : Int) / 256), .int .u8 (n : Int)] 5))
  clear R3 B3
  go_wp2_with fail
  have hlo := Nat.le_of_lt R3'.out.lt
  refine (add_good lo lo [] (f ++ hb ++ m) _ hlo R3'.out (by rw [ByteArray.size_append, ByteArray.size_append]; simp; omega)).mono ?_
  rw [HA.out]
  generalize hL : M.be 2 c.size ++ (c.data.toList ++ R) = L at *
  rintro e w4 ⟨rfl, r4, b4⟩
  have R4 := Lib.hid (r4.off (by omega))
  have B4 := Lib.hid (B3'.out.trans (b4.mono hb1))
  have hlo4 := Nat.le_trans hlo b4.size
  clear r4 b4 R3' B3' hcv
  go_wp2_with fail
  refine (nextO_tell lo lo L c.size c _ htext hlo4 R4.out (by omega) (by omega) hval hcs).mono ?_
  rw [hrest.out]
  rintro e w5 ⟨rfl, r5, b5⟩
  have R5 := Lib.hid r5
  have B5 := Lib.hid (B4.out.trans (b5.mono hb1))
  have hlo5 := Nat.le_trans hlo4 b5.size
  clear r5 b5 R4 B4
  go_wp2_with fail
  refine (nextO_tell lo lo R n t2 _ ht2 hlo5 R5.out (by omega) (by omega) hRv hn2).mono ?_
  rintro e w6 ⟨rfl, r6, b6⟩
  have R6 : Hid (BadIs w6 lo lo false) := Lib.hid r6.badIs
  have B6 := Lib.hid (B5.out.trans (b6.mono hb1))
  clear r6 b6 R5 B5
  go_wp2_with fail
  refine (badO_any lo lo false _ R6.out).mono ?_
  rintro e w7 ⟨rfl, rfl⟩
  go_wp2_with fail
  go_ret
  refine ⟨ret_true ?_, B6.out⟩
  first | rfl | (simp; done) | (simp; omega)
set_option maxHeartbeats 3200000 in
set_option maxRecDepth 20000 in
theorem frameLong_c_end (s m c f hb t2 : ByteArray) (n : Nat) (R : List UInt8) (w : World) (hn : (n : Int) ≤ 65535) (hm : (m.size : Int) ≤ 140737488351232) (hc : Hid (s.extract 0 200 = c)) (hcs : (c.size : Int) ≤ 200) (hss : 200 < (s.size : Int)) (hn2 : (n : Int) ≤ 200) (hcase : (m.size : Int) = (n : Int)) (hf : Hid (frB c = f)) (hfs : (f.size : Int) = (c.size : Int) + 2)
    (hhb : Hid (∀ w : World, (convert 45 9 (.slice (some ⟨w.heap.size, 0, none⟩) 2 2)).run Try.prog (w.alloc (.cells #[.int .u8 ((n : Int) / 256), .int .u8 (n : Int)] 5)) = .ok (.string hb) (w.alloc (.cells #[.int .u8 ((n : Int) / 256), .int .u8 (n : Int)] 5))))
    (hbs : (hb.size : Int) = 2) (HA : Hid ([] ++ (f ++ hb ++ m).data.toList = M.be 2 c.size ++ (c.data.toList ++ R))) (hR : R.length = 2 + m.size) (hRv : Hid (M.val (R.take 2) = n)) (ht2 : Hid (Str ((R.drop 2).take n) = t2)) :
    Calls Try.prog 5 #[.string s, .int .u16 (n : Int), .string m] w fun e w' => e = .returned (.bool true) ∧ Below w.heap.size w w' := by
  have hval := Lib.hid (fr_val c.size (c.data.toList ++ R) (by omega))
  have htext := Lib.hid (fr_text c R)
  have hrest := Lib.hid (fr_rest c R)
  have hall : (M.be 2 c.size ++ (c.data.toList ++ R)).length = 2 + c.size + R.length := by
    rw [List.length_append, List.length_append, M.be_length]; simp; omega
  have hcv := hhb.out
  go_enter Try.func5, Try.ntmps5
  try simp only [List.append_eq, List.cons_append, List.nil_append]
  go_wp2_with fail
  refine (examples_any _).mono ?_
  rintro e w1 ⟨rfl, b1⟩
  go_wp2_with fail
  refine (new_any _).mono ?_
  rintro e w2 ⟨rfl, r2, b2⟩
  have B2 := Lib.hid (chain b1 b2)
  have hb1 := b1.size
  clear b1 b2
  go_wp2_with fail
  rw [hc.out]
  refine (fput_good _ _ _ hcs hf).mono ?_
  rintro e w3 ⟨rfl, b3⟩
  have R3 := Lib.hid (r2.below b3)
  have B3 := Lib.hid (chain B2.out b3)
  clear r2 b3 B2
  generalize w1.heap.size = lo at *
  have R3' := Lib.hid (R3.out.below ((Below.refl _ _).alloc (Nat.le_refl _) (.cells #[.int .u8 ((n : Int) / 256), .int .u8 (n : Int)] 5)))
  have B3' := Lib.hid (B3.out.alloc B3.out.size (.cells #[.int .u8 ((n : Int) / 256), .int .u8 (n : Int)] 5))
  clear R3 B3
  go_wp2_with fail
  have hlo := Nat.le_of_lt R3'.out.lt
  refine (add_good lo lo [] (f ++ hb ++ m) _ hlo R3'.out (by rw [ByteArray.size_append, ByteArray.size_append]; simp; omega)).mono ?_
  rw [HA.out]
  generalize hL : M.be 2 c.size ++ (c.data.toList ++ R) = L at *
  rintro e w4 ⟨rfl, r4, b4⟩
  have R4 := Lib.hid (r4.off (by omega))
  have B4 := Lib.hid (B3'.out.trans (b4.mono hb1))
  have hlo4 := Nat.le_trans hlo b4.size
  clear r4 b4 R3' B3' hcv
  go_wp2_with fail
  refine (nextO_tell lo lo L c.size c _ htext hlo4 R4.out (by omega) (by omega) hval hcs).mono ?_
  rw [hrest.out]
  rintro e w5 ⟨rfl, r5, b5⟩
  have R5 := Lib.hid r5
  have B5 := Lib.hid (B4.out.trans (b5.mono hb1))
  have hlo5 := Nat.le_trans hlo4 b5.size
  clear r5 b5 R4 B4
  go_wp2_with fail
  refine (nextO_end lo lo R n t2 _ ht2 hlo5 R5.out (by omega) hRv hn2).mono ?_
  rintro e w6 ⟨rfl, r6, b6⟩
  have R6 : Hid (BadIs w6 lo lo false) := Lib.hid r6
  have B6 := Lib.hid (B5.out.trans (b6.mono hb1))
  clear r6 b6 R5 B5
  go_wp2_with fail
  refine (badO_any lo lo false _ R6.out).mono ?_
  rintro e w7 ⟨rfl, rfl⟩
  go_wp2_with fail
  go_ret
  refine ⟨ret_true ?_, B6.out⟩
  first | rfl | (simp; done) | (simp; omega)
set_option maxHeartbeats 3200000 in
set_option maxRecDepth 20000 in
theorem frameLong_c_spoil (s m c f hb t2 : ByteArray) (n : Nat) (R : List UInt8) (w : World) (hn : (n : Int) ≤ 65535) (hm : (m.size : Int) ≤ 140737488351232) (hc : Hid (s.extract 0 200 = c)) (hcs : (c.size : Int) ≤ 200) (hss : 200 < (s.size : Int)) (hn2 : 200 < (n : Int)) (hf : Hid (frB c = f)) (hfs : (f.size : Int) = (c.size : Int) + 2)
    (hhb : Hid (∀ w : World, (convert 45 9 (.slice (some ⟨w.heap.size, 0, none⟩) 2 2)).run Try.prog (w.alloc (.cells #[.int .u8 ((n : Int) / 256), .int .u8 ((n : Int) % 256)] 5)) = .ok (.string hb) (w.alloc (.cells #[.int .u8 ((n : Int) / 256), .int .u8 ((n : Int) % 256)] 5))))
    (hbs : (hb.size : Int) = 2) (HA : Hid ([] ++ (f ++ hb ++ m).data.toList = M.be 2 c.size ++ (c.data.toList ++ R))) (hR : R.length = 2 + m.size) (hRv : Hid (M.val (R.take 2) = n)) (ht2 : Hid (Str ((R.drop 2).take n) = t2)) :
    Calls Try.prog 5 #[.string s, .int .u16 (n : Int), .string m] w fun e w' => e = .returned (.bool true) ∧ Below w.heap.size w w' := by
  have hval := Lib.hid (fr_val c.size (c.data.toList ++ R) (by omega))
  have htext := Lib.hid (fr_text c R)
  have hrest := Lib.hid (fr_rest c R)
  have hall : (M.be 2 c.size ++ (c.data.toList ++ R)).length = 2 + c.size + R.length := by
    rw [List.length_append, List.length_append, M.be_length]; simp; omega
  have hcv := hhb.out
  go_enter Try.func5, Try.ntmps5
  try simp only [List.append_eq, List.cons_append, List.nil_append]
  go_wp2_with fail
  refine (examples_any _).mono ?_
  rintro e w1 ⟨rfl, b1⟩
  go_wp2_with fail
  refine (new_any _).mono ?_
  rintro e w2 ⟨rfl, r2, b2⟩
  have B2 := Lib.hid (chain b1 b2)
  have hb1 := b1.size
  clear b1 b2
  go_wp2_with fail
  rw [hc.out]
  refine (fput_good _ _ _ hcs hf).mono ?_
  rintro e w3 ⟨rfl, b3⟩
  have R3 := Lib.hid (r2.below b3)
  have B3 := Lib.hid (chain B2.out b3)
  clear r2 b3 B2
  generalize w1.heap.size = lo at *
  have R3' := Lib.hid (R3.out.below ((Below.refl _ _).alloc (Nat.le_refl _) (.cells #[.int .u8 ((n : Int) / 256), .int .u8 ((n : Int) % 256)] 5)))
  have B3' := Lib.hid (B3.out.alloc B3.out.size (.cells #[.int .u8 ((n : Int) / 256), .int .u8 ((n : Int) % 256)] 5))
  clear R3 B3
  go_wp2_with fail
  have hlo := Nat.le_of_lt R3'.out.lt
  refine (add_good lo lo [] (f ++ hb ++ m) _ hlo R3'.out (by rw [ByteArray.size_append, ByteArray.size_append]; simp; omega)).mono ?_
  rw [HA.out]
  generalize hL : M.be 2 c.size ++ (c.data.toList ++ R) = L at *
  rintro e w4 ⟨rfl, r4, b4⟩
  have R4 := Lib.hid (r4.off (by omega))
  have B4 := Lib.hid (B3'.out.trans (b4.mono hb1))
  have hlo4 := Nat.le_trans hlo b4.size
  clear r4 b4 R3' B3' hcv
  go_wp2_with fail
  refine (nextO_tell lo lo L c.size c _ htext hlo4 R4.out (by omega) (by omega) hval hcs).mono ?_
  rw [hrest.out]
  rintro e w5 ⟨rfl, r5, b5⟩
  have R5 := Lib.hid r5
  have B5 := Lib.hid (B4.out.trans (b5.mono hb1))
  have hlo5 := Nat.le_trans hlo4 b5.size
  clear r5 b5 R4 B4
  go_wp2_with fail
  refine (nextO_spoil lo lo R n _ hlo5 R5.out (by omega) hRv hn2).mono ?_
  rintro e w6 ⟨rfl, r6, b6⟩
  have R6 := Lib.hid r6
  have B6 := Lib.hid (B5.out.trans (b6.mono hb1))
  clear r6 b6 R5 B5
  go_wp2_with fail
  refine (next_bad lo lo _ R6.out).mono ?_
  rintro e w7 ⟨rfl, rfl⟩
  go_wp2_with fail
  refine (bad_any lo lo [] true _ R6.out).mono ?_
  rintro e w7 ⟨rfl, rfl⟩
  go_wp2_with fail
  refine (rest_any lo lo [] true _ R6.out).mono ?_
  rintro e w7 ⟨rfl, rfl⟩
  go_wp2_with fail
  refine (add_bad lo lo [] _ _ R6.out).mono ?_
  rintro e w7 ⟨rfl, rfl⟩
  go_wp2_with fail
  go_ret
  refine ⟨ret_true ?_, B6.out⟩
  first | rfl | (simp; done) | (simp; omega)
set_option maxHeartbeats 3200000 in
set_option maxRecDepth 20000 in
theorem frameLong_s_wait (s m c f hb t2 : ByteArray) (n : Nat) (R : List UInt8) (w : World) (hn : (n : Int) ≤ 65535) (hm : (m.size : Int) ≤ 140737488351232) (hss : (s.size : Int) ≤ 200) (hn2 : (n : Int) ≤ 200) (hcase : (m.size : Int) < (n : Int)) (hf : Hid (frB s = f)) (hfs : (f.size : Int) = (s.size : Int) + 2)
    (hhb : Hid (∀ w : World, (convert 45 9 (.slice (some ⟨w.heap.size, 0, none⟩) 2 2)).run Try.prog (w.alloc (.cells #[.int .u8 ((n : Int) / 256), .int .u8 (n : Int)] 5)) = .ok (.string hb) (w.alloc (.cells #[.int .u8 ((n : Int) / 256), .int .u8 (n : Int)] 5))))
    (hbs : (hb.size : Int) = 2) (HA : Hid ([] ++ (f ++ hb ++ m).data.toList = M.be 2 s.size ++ (s.data.toList ++ R))) (hR : R.length = 2 + m.size) (hRv : Hid (M.val (R.take 2) = n)) (ht2 : Hid (Str ((R.drop 2).take n) = t2)) :
    Calls Try.prog 5 #[.string s, .int .u16 (n : Int), .string m] w fun e w' => e = .returned (.bool true) ∧ Below w.heap.size w w' := by
  have hval := Lib.hid (fr_val s.size (s.data.toList ++ R) (by omega))
  have htext := Lib.hid (fr_text s R)
  have hrest := Lib.hid (fr_rest s R)
  have hall : (M.be 2 s.size ++ (s.data.toList ++ R)).length = 2 + s.size + R.length := by
    rw [List.length_append, List.length_append, M.be_length]; simp; omega
  have hcv := hhb.out
  go_enter Try.func5, Try.ntmps5
  try simp only [List.append_eq, List.cons_append, List.nil_append]
  go_wp2_with fail
  refine (examples_any _).mono ?_
  rintro e w1 ⟨rfl, b1⟩
  go_wp2_with fail
  refine (new_any _).mono ?_
  rintro e w2 ⟨rfl, r2, b2⟩
  have B2 := Lib.hid (chain b1 b2)
  have hb1 := b1.size
  clear b1 b2
  go_wp2_with fail
  refine (fput_good _ _ _ hss hf).mono ?_
  rintro e w3 ⟨rfl, b3⟩
  have R3 := Lib.hid (r2.below b3)
  have B3 := Lib.hid (chain B2.out b3)
  clear r2 b3 B2
  generalize w1.heap.size = lo at *
  have R3' := Lib.hid (R3.out.below ((Below.refl _ _).alloc (Nat.le_refl _) (.cells #[.int .u8 ((n : Int) / 256), .int .u8 (n : Int)] 5)))
  have B3' := Lib.hid (B3.out.alloc B3.out.size (.cells #[.int .u8 ((n : Int) / 256), .int .u8 (n : Int)] 5))
  clear R3 B3
  go_wp2_with fail
  have hlo := Nat.le_of_lt R3'.out.lt
  refine (add_good lo lo [] (f ++ hb ++ m) _ hlo R3'.out (by rw [ByteArray.size_append, ByteArray.size_append]; simp; omega)).mono ?_
  rw [HA.out]
  generalize hL : M.be 2 s.size ++ (s.data.toList ++ R) = L at *
  rintro e w4 ⟨rfl, r4, b4⟩
  have R4 := Lib.hid (r4.off (by omega))
  have B4 := Lib.hid (B3'.out.trans (b4.mono hb1))
  have hlo4 := Nat.le_trans hlo b4.size
  clear r4 b4 R3' B3' hcv
  go_wp2_with fail
  refine (nextO_tell lo lo L s.size s _ htext hlo4 R4.out (by omega) (by omega) hval hss).mono ?_
  rw [hrest.out]
  rintro e w5 ⟨rfl, r5, b5⟩
  have R5 := Lib.hid r5
  have B5 := Lib.hid (B4.out.trans (b5.mono hb1))
  have hlo5 := Nat.le_trans hlo4 b5.size
  clear r5 b5 R4 B4
  go_wp2_with fail
  refine (nextO_wait lo lo R n _ hlo5 R5.out (by omega) hRv hn2 (by omega)).mono ?_
  rintro e w6 ⟨rfl, r6, b6⟩
  have R6 : Hid (BadIs w6 lo lo false) := Lib.hid r6
  have B6 := Lib.hid (B5.out.trans (b6.mono hb1))
  clear r6 b6 R5 B5
  go_wp2_with fail
  refine (badO_any lo lo false _ R6.out).mono ?_
  rintro e w7 ⟨rfl, rfl⟩
  go_wp2_with fail
  go_ret
  refine ⟨ret_true ?_, B6.out⟩
  first | rfl | (simp; done) | (simp; omega)
set_option maxHeartbeats 3200000 in
set_option maxRecDepth 20000 in
theorem frameLong_s_tell (s m c f hb t2 : ByteArray) (n : Nat) (R : List UInt8) (w : World) (hn : (n : Int) ≤ 65535) (hm : (m.size : Int) ≤ 140737488351232) (hss : (s.size : Int) ≤ 200) (hn2 : (n : Int) ≤ 200) (hcase : (n : Int) < (m.size : Int)) (hf : Hid (frB s = f)) (hfs : (f.size : Int) = (s.size : Int) + 2)
    (hhb : Hid (∀ w : World, (convert 45 9 (.slice (some ⟨w.heap.size, 0, none⟩) 2 2)).run Try.prog (w.alloc (.cells #[.int .u8 ((n : Int) / 256), .int .u8 (n : Int)] 5)) = .ok (.string hb) (w.alloc (.cells #[.int .u8 ((n : Int) / 256), .int .u8 (n : Int)] 5))))
    (hbs : (hb.size : Int) = 2) (HA : Hid ([] ++ (f ++ hb ++ m).data.toList = M.be 2 s.size ++ (s.data.toList ++ R))) (hR : R.length = 2 + m.size) (hRv : Hid (M.val (R.take 2) = n)) (ht2 : Hid (Str ((R.drop 2).take n) = t2)) :
    Calls Try.prog 5 #[.string s, .int .u16 (n : Int), .string m] w fun e w' => e = .returned (.bool true) ∧ Below w.heap.size w w' := by
  have hval := Lib.hid (fr_val s.size (s.data.toList ++ R) (by omega))
  have htext := Lib.hid (fr_text s R)
  have hrest := Lib.hid (fr_rest s R)
  have hall : (M.be 2 s.size ++ (s.data.toList ++ R)).length = 2 + s.size + R.length := by
    rw [List.length_append, List.length_append, M.be_length]; simp; omega
  have hcv := hhb.out
  go_enter Try.func5, Try.ntmps5
  try simp only [List.append_eq, List.cons_append, List.nil_append]
  go_wp2_with fail
  refine (examples_any _).mono ?_
  rintro e w1 ⟨rfl, b1⟩
  go_wp2_with fail
  refine (new_any _).mono ?_
  rintro e w2 ⟨rfl, r2, b2⟩
  have B2 := Lib.hid (chain b1 b2)
  have hb1 := b1.size
  clear b1 b2
  go_wp2_with fail
  refine (fput_good _ _ _ hss hf).mono ?_
  rintro e w3 ⟨rfl, b3⟩
  have R3 := Lib.hid (r2.below b3)
  have B3 := Lib.hid (chain B2.out b3)
  clear r2 b3 B2
  generalize w1.heap.size = lo at *
  have R3' := Lib.hid (R3.out.below ((Below.refl _ _).alloc (Nat.le_refl _) (.cells #[.int .u8 ((n : Int) / 256), .int .u8 (n : Int)] 5)))
  have B3' := Lib.hid (B3.out.alloc B3.out.size (.cells #[.int .u8 ((n : Int) / 256), .int .u8 (n : Int)] 5))
  clear R3 B3
  go_wp2_with fail
  have hlo := Nat.le_of_lt R3'.out.lt
  refine (add_good lo lo [] (f ++ hb ++ m) _ hlo R3'.out (by rw [ByteArray.size_append, ByteArray.size_append]; simp; omega)).mono ?_
  rw [HA.out]
  generalize hL : M.be 2 s.size ++ (s.data.toList ++ R) = L at *
  rintro e w4 ⟨rfl, r4, b4⟩
  have R4 := Lib.hid (r4.off (by omega))
  have B4 := Lib.hid (B3'.out.trans (b4.mono hb1))
  have hlo4 := Nat.le_trans hlo b4.size
  clear r4 b4 R3' B3' hcv
  go_wp2_with fail
  refine (nextO_tell lo lo L s.size s _ htext hlo4 R4.out (by omega) (by omega) hval hss).mono ?_
  rw [hrest.out]
  rintro e w5 ⟨rfl, r5, b5⟩
  have R5 := Lib.hid r5
  have B5 := Lib.hid (B4.out.trans (b5.mono hb1))
  have hlo5 := Nat.le_trans hlo4 b5.size
  clear r5 b5 R4 B4
  go_wp2_with fail
  refine (nextO_tell lo lo R n t2 _ ht2 hlo5 R5.out (by omega) (by omega) hRv hn2).mono ?_
  rintro e w6 ⟨rfl, r6, b6⟩
  have R6 : Hid (BadIs w6 lo lo false) := Lib.hid r6.badIs
  have B6 := Lib.hid (B5.out.trans (b6.mono hb1))
  clear r6 b6 R5 B5
  go_wp2_with fail
  refine (badO_any lo lo false _ R6.out).mono ?_
  rintro e w7 ⟨rfl, rfl⟩
  go_wp2_with fail
  go_ret
  refine ⟨ret_true ?_, B6.out⟩
  first | rfl | (simp; done) | (simp; omega)
set_option maxHeartbeats 3200000 in
set_option maxRecDepth 20000 in
theorem frameLong_s_end (s m c f hb t2 : ByteArray) (n : Nat) (R : List UInt8) (w : World) (hn : (n : Int) ≤ 65535) (hm : (m.size : Int) ≤ 140737488351232) (hss : (s.size : Int) ≤ 200) (hn2 : (n : Int) ≤ 200) (hcase : (m.size : Int) = (n : Int)) (hf : Hid (frB s = f)) (hfs : (f.size : Int) = (s.size : Int) + 2)
    (hhb : Hid (∀ w : World, (convert 45 9 (.slice (some ⟨w.heap.size, 0, none⟩) 2 2)).run Try.prog (w.alloc (.cells #[.int .u8 ((n : Int) / 256), .int .u8 (n : Int)] 5)) = .ok (.string hb) (w.alloc (.cells #[.int .u8 ((n : Int) / 256), .int .u8 (n : Int)] 5))))
    (hbs : (hb.size : Int) = 2) (HA : Hid ([] ++ (f ++ hb ++ m).data.toList = M.be 2 s.size ++ (s.data.toList ++ R))) (hR : R.length = 2 + m.size) (hRv : Hid (M.val (R.take 2) = n)) (ht2 : Hid (Str ((R.drop 2).take n) = t2)) :
    Calls Try.prog 5 #[.string s, .int .u16 (n : Int), .string m] w fun e w' => e = .returned (.bool true) ∧ Below w.heap.size w w' := by
  have hval := Lib.hid (fr_val s.size (s.data.toList ++ R) (by omega))
  have htext := Lib.hid (fr_text s R)
  have hrest := Lib.hid (fr_rest s R)
  have hall : (M.be 2 s.size ++ (s.data.toList ++ R)).length = 2 + s.size + R.length := by
    rw [List.length_append, List.length_append, M.be_length]; simp; omega
  have hcv := hhb.out
  go_enter Try.func5, Try.ntmps5
  try simp only [List.append_eq, List.cons_append, List.nil_append]
  go_wp2_with fail
  refine (examples_any _).mono ?_
  rintro e w1 ⟨rfl, b1⟩
  go_wp2_with fail
  refine (new_any _).mono ?_
  rintro e w2 ⟨rfl, r2, b2⟩
  have B2 := Lib.hid (chain b1 b2)
  have hb1 := b1.size
  clear b1 b2
  go_wp2_with fail
  refine (fput_good _ _ _ hss hf).mono ?_
  rintro e w3 ⟨rfl, b3⟩
  have R3 := Lib.hid (r2.below b3)
  have B3 := Lib.hid (chain B2.out b3)
  clear r2 b3 B2
  generalize w1.heap.size = lo at *
  have R3' := Lib.hid (R3.out.below ((Below.refl _ _).alloc (Nat.le_refl _) (.cells #[.int .u8 ((n : Int) / 256), .int .u8 (n : Int)] 5)))
  have B3' := Lib.hid (B3.out.alloc B3.out.size (.cells #[.int .u8 ((n : Int) / 256), .int .u8 (n : Int)] 5))
  clear R3 B3
  go_wp2_with fail
  have hlo := Nat.le_of_lt R3'.out.lt
  refine (add_good lo lo [] (f ++ hb ++ m) _ hlo R3'.out (by rw [ByteArray.size_append, ByteArray.size_append]; simp; omega)).mono ?_
  rw [HA.out]
  generalize hL : M.be 2 s.size ++ (s.data.toList ++ R) = L at *
  rintro e w4 ⟨rfl, r4, b4⟩
  have R4 := Lib.hid (r4.off (by omega))
  have B4 := Lib.hid (B3'.out.trans (b4.mono hb1))
  have hlo4 := Nat.le_trans hlo b4.size
  clear r4 b4 R3' B3' hcv
  go_wp2_with fail
  refine (nextO_tell lo lo L s.size s _ htext hlo4 R4.out (by omega) (by omega) hval hss).mono ?_
  rw [hrest.out]
  rintro e w5 ⟨rfl, r5, b5⟩
  have R5 := Lib.hid r5
  have B5 := Lib.hid (B4.out.trans (b5.mono hb1))
  have hlo5 := Nat.le_trans hlo4 b5.size
  clear r5 b5 R4 B4
  go_wp2_with fail
  refine (nextO_end lo lo R n t2 _ ht2 hlo5 R5.out (by omega) hRv hn2).mono ?_
  rintro e w6 ⟨rfl, r6, b6⟩
  have R6 : Hid (BadIs w6 lo lo false) := Lib.hid r6
  have B6 := Lib.hid (B5.out.trans (b6.mono hb1))
  clear r6 b6 R5 B5
  go_wp2_with fail
  refine (badO_any lo lo false _ R6.out).mono ?_
  rintro e w7 ⟨rfl, rfl⟩
  go_wp2_with fail
  go_ret
  refine ⟨ret_true ?_, B6.out⟩
  first | rfl | (simp; done) | (simp; omega)
set_option maxHeartbeats 3200000 in
set_option maxRecDepth 20000 in
theorem frameLong_s_spoil (s m c f hb t2 : ByteArray) (n : Nat) (R : List UInt8) (w : World) (hn : (n : Int) ≤ 65535) (hm : (m.size : Int) ≤ 140737488351232) (hss : (s.size : Int) ≤ 200) (hn2 : 200 < (n : Int)) (hf : Hid (frB s = f)) (hfs : (f.size : Int) = (s.size : Int) + 2)
    (hhb : Hid (∀ w : World, (convert 45 9 (.slice (some ⟨w.heap.size, 0, none⟩) 2 2)).run Try.prog (w.alloc (.cells #[.int .u8 ((n : Int) / 256), .int .u8 ((n : Int) % 256)] 5)) = .ok (.string hb) (w.alloc (.cells #[.int .u8 ((n : Int) / 256), .int .u8 ((n : Int) % 256)] 5))))
    (hbs : (hb.size : Int) = 2) (HA : Hid ([] ++ (f ++ hb ++ m).data.toList = M.be 2 s.size ++ (s.data.toList ++ R))) (hR : R.length = 2 + m.size) (hRv : Hid (M.val (R.take 2) = n)) (ht2 : Hid (Str ((R.drop 2).take n) = t2)) :
    Calls Try.prog 5 #[.string s, .int .u16 (n : Int), .string m] w fun e w' => e = .returned (.bool true) ∧ Below w.heap.size w w' := by
  have hval := Lib.hid (fr_val s.size (s.data.toList ++ R) (by omega))
  have htext := Lib.hid (fr_text s R)
  have hrest := Lib.hid (fr_rest s R)
  have hall : (M.be 2 s.size ++ (s.data.toList ++ R)).length = 2 + s.size + R.length := by
    rw [List.length_append, List.length_append, M.be_length]; simp; omega
  have hcv := hhb.out
  go_enter Try.func5, Try.ntmps5
  try simp only [List.append_eq, List.cons_append, List.nil_append]
  go_wp2_with fail
  refine (examples_any _).mono ?_
  rintro e w1 ⟨rfl, b1⟩
  go_wp2_with fail
  refine (new_any _).mono ?_
  rintro e w2 ⟨rfl, r2, b2⟩
  have B2 := Lib.hid (chain b1 b2)
  have hb1 := b1.size
  clear b1 b2
  go_wp2_with fail
  refine (fput_good _ _ _ hss hf).mono ?_
  rintro e w3 ⟨rfl, b3⟩
  have R3 := Lib.hid (r2.below b3)
  have B3 := Lib.hid (chain B2.out b3)
  clear r2 b3 B2
  generalize w1.heap.size = lo at *
  have R3' := Lib.hid (R3.out.below ((Below.refl _ _).alloc (Nat.le_refl _) (.cells #[.int .u8 ((n : Int) / 256), .int .u8 ((n : Int) % 256)] 5)))
  have B3' := Lib.hid (B3.out.alloc B3.out.size (.cells #[.int .u8 ((n : Int) / 256), .int .u8 ((n : Int) % 256)] 5))
  clear R3 B3
  go_wp2_with fail
  have hlo := Nat.le_of_lt R3'.out.lt
  refine (add_good lo lo [] (f ++ hb ++ m) _ hlo R3'.out (by rw [ByteArray.size_append, ByteArray.size_append]; simp; omega)).mono ?_
  rw [HA.out]
  generalize hL : M.be 2 s.size ++ (s.data.toList ++ R) = L at *
  rintro e w4 ⟨rfl, r4, b4⟩
  have R4 := Lib.hid (r4.off (by omega))
  have B4 := Lib.hid (B3'.out.trans (b4.mono hb1))
  have hlo4 := Nat.le_trans hlo b4.size
  clear r4 b4 R3' B3' hcv
  go_wp2_with fail
  refine (nextO_tell lo lo L s.size s _ htext hlo4 R4.out (by omega) (by omega) hval hss).mono ?_
  rw [hrest.out]
  rintro e w5 ⟨rfl, r5, b5⟩
  have R5 := Lib.hid r5
  have B5 := Lib.hid (B4.out.trans (b5.mono hb1))
  have hlo5 := Nat.le_trans hlo4 b5.size
  clear r5 b5 R4 B4
  go_wp2_with fail
  refine (nextO_spoil lo lo R n _ hlo5 R5.out (by omega) hRv hn2).mono ?_
  rintro e w6 ⟨rfl, r6, b6⟩
  have R6 := Lib.hid r6
  have B6 := Lib.hid (B5.out.trans (b6.mono hb1))
  clear r6 b6 R5 B5
  go_wp2_with fail
  refine (next_bad lo lo _ R6.out).mono ?_
  rintro e w7 ⟨rfl, rfl⟩
  go_wp2_with fail
  refine (bad_any lo lo [] true _ R6.out).mono ?_
  rintro e w7 ⟨rfl, rfl⟩
  go_wp2_with fail
  refine (rest_any lo lo [] true _ R6.out).mono ?_
  rintro e w7 ⟨rfl, rfl⟩
  go_wp2_with fail
  refine (add_bad lo lo [] _ _ R6.out).mono ?_
  rintro e w7 ⟨rfl, rfl⟩
  go_wp2_with fail
  go_ret
  refine ⟨ret_true ?_, B6.out⟩
  first | rfl | (simp; done) | (simp; omega)
theorem frameLong_law (a0 : ByteArray) (a1 : Int) (a2 : ByteArray) (w : World) (z0 : a0.size ≤ 140737488351232) (w1 : (Lit.int .u16 a1).wf = true) (z2 : a2.size ≤ 140737488351232) :
    Calls Try.prog 5 #[.string a0, .int .u16 a1, .string a2] w fun e w' => e = .returned (.bool true) ∧ Below w.heap.size w w' := by
  have h1 := bounds_u16 w1
  obtain ⟨n, rfl⟩ : ∃ n : Nat, a1 = (n : Int) := ⟨a1.toNat, by omega⟩
  have hn : (n : Int) ≤ 65535 := by omega
  have hm : (a2.size : Int) ≤ 140737488351232 := by omega
  have hz : ((a0.extract 0 200).size : Int) ≤ 200 := by rw [ByteArray.size_extract]; omega
  have hfs : ∀ s : ByteArray, ((frB s).size : Int) = (s.size : Int) + 2 := fun s => by rw [frB_size]; omega
  have x1 : (((UInt8.ofNat (n / 256)).toNat : Nat) : Int) = (n : Int) / 256 := by
    have : (UInt8.ofNat (n / 256)).toNat = n / 256 % 256 := rfl
    omega
  have x2 : (((UInt8.ofNat (n % 256)).toNat : Nat) : Int) = (n : Int) % 256 := by
    have : (UInt8.ofNat (n % 256)).toNat = n % 256 % 256 := rfl
    omega
  have hv : Hid (M.val (([UInt8.ofNat (n / 256), UInt8.ofNat (n % 256)] ++ a2.data.toList).take 2) = n) := Lib.hid (by
    have e : ([UInt8.ofNat (n / 256), UInt8.ofNat (n % 256)] ++ a2.data.toList).take 2 = [UInt8.ofNat (n / 256), UInt8.ofNat (n % 256)] := rfl
    rw [e]
    have e2 : M.val [UInt8.ofNat (n / 256), UInt8.ofNat (n % 256)] = (0 * 256 + (UInt8.ofNat (n / 256)).toNat) * 256 + (UInt8.ofNat (n % 256)).toNat := rfl
    rw [e2]
    omega)
  have hcv := Lib.hid (fun w : World => conv_two w (UInt8.ofNat (n / 256)) (UInt8.ofNat (n % 256)) _ _ x1 x2)
  have hcv2 := fun h : (n : Int) ≤ 200 => Lib.hid (fun w : World => conv_two w (UInt8.ofNat (n / 256)) (UInt8.ofNat (n % 256)) _ (n : Int) x1 (by omega))
  have hbs : ((Str [UInt8.ofNat (n / 256), UInt8.ofNat (n % 256)]).size : Int) = 2 := by rw [Str_size]; rfl
  have hA : ∀ s : ByteArray, Hid ([] ++ (frB s ++ Str [UInt8.ofNat (n / 256), UInt8.ofNat (n % 256)] ++ a2).data.toList = M.be 2 s.size ++ (s.data.toList ++ ([UInt8.ofNat (n / 256), UInt8.ofNat (n % 256)] ++ a2.data.toList))) := fun s => Lib.hid (by
    rw [append_list, frB_list, Str_list, List.nil_append]
    simp [List.append_assoc])
  have hR : ([UInt8.ofNat (n / 256), UInt8.ofNat (n % 256)] ++ a2.data.toList).length = 2 + a2.size := by simp; omega
  rcases Int.lt_or_le 200 (a0.size : Int) with hs | hs
  · skip
    rcases Int.lt_or_le 200 (n : Int) with hn2 | hn2
    · exact frameLong_c_spoil a0 a2 _ _ _ _ n _ w hn hm (Lib.hid rfl) hz hs hn2 (Lib.hid rfl) (hfs _) hcv hbs (hA _) hR hv (Lib.hid rfl)
    · rcases (by omega : (a2.size : Int) < (n : Int) ∨ (n : Int) < (a2.size : Int) ∨ (a2.size : Int) = (n : Int)) with hcase | hcase | hcase
      · exact frameLong_c_wait a0 a2 _ _ _ _ n _ w hn hm (Lib.hid rfl) hz hs hn2 hcase (Lib.hid rfl) (hfs _) (hcv2 hn2) hbs (hA _) hR hv (Lib.hid rfl)
      · exact frameLong_c_tell a0 a2 _ _ _ _ n _ w hn hm (Lib.hid rfl) hz hs hn2 hcase (Lib.hid rfl) (hfs _) (hcv2 hn2) hbs (hA _) hR hv (Lib.hid rfl)
      · exact frameLong_c_end a0 a2 _ _ _ _ n _ w hn hm (Lib.hid rfl) hz hs hn2 hcase (Lib.hid rfl) (hfs _) (hcv2 hn2) hbs (hA _) hR hv (Lib.hid rfl)
  · skip
    rcases Int.lt_or_le 200 (n : Int) with hn2 | hn2
    · exact frameLong_s_spoil a0 a2 a0 _ _ _ n _ w hn hm hs hn2 (Lib.hid rfl) (hfs _) hcv hbs (hA _) hR hv (Lib.hid rfl)
    · rcases (by omega : (a2.size : Int) < (n : Int) ∨ (n : Int) < (a2.size : Int) ∨ (a2.size : Int) = (n : Int)) with hcase | hcase | hcase
      · exact frameLong_s_wait a0 a2 a0 _ _ _ n _ w hn hm hs hn2 hcase (Lib.hid rfl) (hfs _) (hcv2 hn2) hbs (hA _) hR hv (Lib.hid rfl)
      · exact frameLong_s_tell a0 a2 a0 _ _ _ n _ w hn hm hs hn2 hcase (Lib.hid rfl) (hfs _) (hcv2 hn2) hbs (hA _) hR hv (Lib.hid rfl)
      · exact frameLong_s_end a0 a2 a0 _ _ _ n _ w hn hm hs hn2 hcase (Lib.hid rfl) (hfs _) (hcv2 hn2) hbs (hA _) hR hv (Lib.hid rfl)
end Go.Proofs.Ytnbljpdfmomjjaa
