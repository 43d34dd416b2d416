import Derived.Test.YtjcodjdhomhlpaaFoldFacts
import Derived.Test.YtjcodjdhomhlpaaEx02
namespace Go.Proofs.Ytjcodjdhomhlpaa
open Go.RowKit
set_option linter.unusedVariables false

set_option maxHeartbeats 1600000 in
theorem labelFolds_no (s : ByteArray) (w : World) (hs : s.size ≤ 140737488351232) (h : rightB s = false) :
    Calls Try.prog 5 #[.string s] w fun e w' => e = .returned (.bool true) ∧ Below w.heap.size w w' := by
  have F := Lib.hid (foldB_no s h)
  have H := Lib.hid h
  clear h
  go_enter Try.func5, Try.ntmps5
  try simp only [List.append_eq, List.cons_append, List.nil_append]
  go_wp2_with fail
  refine (examples_any _).mono ?_
  rintro e w1 ⟨rfl, bb⟩
  go_wp2_with fail
  refine (fold_any _ _ hs).mono ?_
  rw [F.out, H.out]
  rintro e w9 ⟨rfl, b9⟩
  replace bb := chain bb b9
  clear b9
  go_wp2_with fail
  refine (right_any _ _ hs).mono ?_
  rw [H.out]
  rintro e w9 ⟨rfl, b9⟩
  replace bb := chain bb b9
  clear b9
  go_wp2_with fail
  go_ret
  exact ⟨rfl, bb⟩
set_option maxHeartbeats 3200000 in
theorem labelFolds_yes (s f : ByteArray) (N : Nat) (w : World) (hs : s.size ≤ 32) (H : Hid (rightB s = true)) (E : Hid (foldB s = f)) (F : Hid (Folded s f)) (hf : f.size = s.size) (R1 : Hid ((RS f 0).length = N)) (R2 : Hid ((RS s 0).length = N)) (n1 : 1 ≤ N) (n2 : N ≤ 16) :
    Calls Try.prog 5 #[.string s] w fun e w' => e = .returned (.bool true) ∧ Below w.heap.size w w' := by
  have HF := Lib.hid hf
  have hf2 : f.size ≤ 32 := by omega
  clear hf
  go_enter Try.func5, Try.ntmps5
  try simp only [List.append_eq, List.cons_append, List.nil_append]
  go_wp2_with fail
  refine (examples_any _).mono ?_
  rintro e w1 ⟨rfl, bb⟩
  go_wp2_with fail
  refine (fold_any _ _ (by omega)).mono ?_
  rw [E.out, H.out]
  rintro e w9 ⟨rfl, b9⟩
  replace bb := chain bb b9
  clear b9
  go_wp2_with fail
  refine (right_any _ _ (by omega)).mono ?_
  rw [H.out]
  rintro e w9 ⟨rfl, b9⟩
  replace bb := chain bb b9
  clear b9
  go_wp2_with fail
  refine (fold_any _ _ (by omega)).mono ?_
  rw [F.out.again, F.out.right]
  rintro e w2 ⟨rfl, b9⟩
  replace bb := chain bb b9
  clear b9
  go_wp2_with fail
  go_loop [8] (fun i => ∃ j : Nat, j ≤ f.size ∧ i = .int .i64 (j : Int)) (fun i => f.size + 1 - (intOf i).toNat)
  case atStart => exact ⟨0, by omega, rfl⟩
  case round =>
    obtain ⟨j, hj, rfl⟩ := hrel
    by_cases hlt : j < f.size
    · have hli : (j : Int) < (f.size : Int) := by omega
      have hsm := F.out.small j hlt
      have hx := (f[j]'hlt).toNat_lt
      rcases hsm with h1 | h1
      · have h2 : ((f[j]'hlt).toNat : Int) < 65 := by omega
        clear h1
        go_wp2_with fail
        go_round
        case rel => exact ⟨j + 1, by omega, by go_num⟩
        case measure => simp [intOf]; omega
      · have h2 : 90 < ((f[j]'hlt).toNat : Int) := by omega
        clear h1
        go_wp2_with fail
        go_round
        case rel => exact ⟨j + 1, by omega, by go_num⟩
        case measure => simp [intOf]; omega
    · have hli : (f.size : Int) ≤ (j : Int) := by omega
      have hq : ((f.size : Int) == (s.size : Int)) = true := by have := HF.out; simp; omega
      go_wp2_with fail
      refine (runes_any _ _ (by omega)).mono ?_
      rw [R1.out]
      rintro e w9 ⟨rfl, b9⟩
      replace bb := chain bb b9
      clear b9
      go_wp2_with fail
      refine (runes_any _ _ (by omega)).mono ?_
      rw [R2.out]
      rintro e w9 ⟨rfl, b9⟩
      replace bb := chain bb b9
      clear b9
      go_wp2_with fail
      refine (runes_any _ _ (by omega)).mono ?_
      rw [R1.out]
      rintro e w9 ⟨rfl, b9⟩
      replace bb := chain bb b9
      clear b9
      go_wp2_with fail
      refine (runes_any _ _ (by omega)).mono ?_
      rw [R1.out]
      rintro e w9 ⟨rfl, b9⟩
      replace bb := chain bb b9
      clear b9
      go_wp2_with fail
      go_ret
      refine ⟨ret_true ?_, bb⟩
      first | (simp; done) | (simp; omega)
theorem labelFolds_law (a0 : ByteArray) (w : World) (z0 : a0.size ≤ 140737488351232) :
    Calls Try.prog 5 #[.string a0] w fun e w' => e = .returned (.bool true) ∧ Below w.heap.size w w' := by
  cases h : rightB a0
  · exact labelFolds_no a0 w z0 h
  · have F := folded a0 h
    have := (right_all a0 h).1
    exact labelFolds_yes a0 _ _ w this (Lib.hid h) (Lib.hid rfl) (Lib.hid F) F.size (Lib.hid rfl) (Lib.hid F.runes.symm) F.least F.most
end Go.Proofs.Ytjcodjdhomhlpaa
