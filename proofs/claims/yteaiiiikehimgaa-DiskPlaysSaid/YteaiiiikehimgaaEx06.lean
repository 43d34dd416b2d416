/-
  Package bailiwicklaw06: the chapter's examples.
-/
import Derived.Test.YteaiiiikehimgaaFill
namespace Go.Proofs.Yteaiiiikehimgaa
open Go.RowKit
set_option linter.unusedVariables false
set_option linter.unusedSimpArgs false
def exX : List UInt8 := List.replicate 255 0 ++ [120]
theorem ex_write : ((DkS.fresh 8).write 3 exX).2 = 0 := by decide +kernel
theorem ex_read : (((DkS.fresh 8).write 3 exX).1.read 3) = (exX, 0) := by decide +kernel
theorem ex_crash : ((((DkS.fresh 8).write 3 exX).1.crash []).read 3) = (zs, 0) := by decide +kernel
theorem ptr_nil (a : Addr) (w : World) : (binOp .eql 24 (.pointer (some a)) (.pointer none)).run Try.prog w = .ok (.bool false) w := by kernel_rfl
theorem nil_ptr (w : World) : (binOp .eql 24 (.pointer none) (.pointer none)).run Try.prog w = .ok (.bool true) w := by kernel_rfl
set_option maxHeartbeats 1600000 in
set_option maxRecDepth 20000 in
theorem examples_any (w : World) :
    Calls Try.prog 8 #[] w fun e w' => e = .returned (.bool true) ∧ Below w.heap.size w w' := by
  obtain ⟨X, HX⟩ : ∃ X, Str exX = X := ⟨_, rfl⟩
  have hXd : X.data.toList = exX := by rw [← HX, Str_list]
  obtain ⟨Z, HZ⟩ : ∃ Z, Str zs = Z := ⟨_, rfl⟩
  obtain ⟨Y, HY⟩ : ∃ Y, Str (List.replicate 255 (0 : UInt8)) = Y := ⟨_, rfl⟩
  have hYX : Y ++ (⟨#[120]⟩ : ByteArray) = X := by
    rw [← HY, ← HX, Str_append]
    rfl
  have hYz : (Y.size : Int) = 255 := by rw [← HY, Str_size, List.length_replicate]; rfl
  have NY := Lib.hid fun w => new_yes w 8 (by decide) (by decide)
  have NN := Lib.hid fun w => new_no w 7 (.inl (by decide))
  have HYX := Lib.hid hYX
  clear hYX
  go_enter Try.func8, Try.ntmps8
  go_wp2_with fail
  refine (NY.out _).mono ?_
  intro e w1 hm
  obtain ⟨d, rfl, hd⟩ := made_L (Below.refl _ _) hm
  clear hm
  have HD := Lib.hid hd
  clear hd
  go_wp2_with fail
  refine (NN.out _).mono ?_
  rintro e w2 ⟨rfl, rfl⟩
  have pn := ptr_nil ⟨d, 0, none⟩
  obtain ⟨w3, hmk, hrow, hbel⟩ := made_bytes w1 255 255 (Nat.le_refl _) (by decide)
  have hmk' : (Instr.makeSlice 39 (.int .i64 255) (.int .i64 255)).run Try.prog w1 = .ok (.slice (some ⟨w1.heap.size, 0, none⟩) 255 255) w3 := hmk
  have hcv := hrow.conv 255 255 (by rw [List.length_replicate]; exact Nat.le_refl _)
  rw [List.take_of_length_le (by rw [List.length_replicate]; exact Nat.le_refl _), HY] at hcv
  have HD3 := Lib.hid (HD.out.step hbel)
  have hYX := HYX.out
  clear hmk hrow hbel HD
  go_wp2_with fail
  refine (write_L HD3.out 3 X).mono ?_
  rw [hXd, ex_write]
  rintro e w4 ⟨rfl, hd4⟩
  have HD4 := Lib.hid hd4
  clear hd4 HD3 hmk' hcv
  go_wp2_with fail
  refine (read_L HD4.out 3).mono ?_
  rw [ex_read]
  rintro e w5 ⟨rfl, rfl⟩
  rw [HX]
  go_wp2_with fail
  refine (crash_L HD4.out none 0 0 [] (.inl ⟨rfl, rfl, rfl, rfl⟩)).mono ?_
  rw [List.take_nil]
  rintro e w6 ⟨rfl, hd6⟩
  have HD6 := Lib.hid hd6
  clear hd6 HD4
  go_wp2_with fail
  refine (read_L HD6.out 3).mono ?_
  rw [ex_crash]
  rintro e w7 ⟨rfl, rfl⟩
  rw [HZ]
  obtain ⟨w8, hmk, hrow, hbel⟩ := made_bytes w6 256 256 (Nat.le_refl _) (by decide)
  have hmk' : (Instr.makeSlice 39 (.int .i64 256) (.int .i64 256)).run Try.prog w6 = .ok (.slice (some ⟨w6.heap.size, 0, none⟩) 256 256) w8 := hmk
  have hcv := hrow.conv 256 256 (by rw [List.length_replicate]; exact Nat.le_refl _)
  have hz2 : Str ((List.replicate 256 (0 : UInt8)).take 256) = Z := by
    rw [List.take_of_length_le (by rw [List.length_replicate]; exact Nat.le_refl _)]
    exact HZ
  rw [hz2] at hcv
  have hfin := (HD6.out.step hbel).below
  have HFIN := Lib.hid hfin
  have nn := nil_ptr
  clear hmk hrow hbel hfin HD6 hz2
  go_wp2_with fail
  go_ret
  exact ⟨rfl, HFIN.out⟩
end Go.Proofs.Yteaiiiikehimgaa
