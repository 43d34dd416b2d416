/-
  The chapter's examples.
-/
import Derived.Test.YtjcodjdhomhlpaaMatch
namespace Go.Proofs.Ytjcodjdhomhlpaa
open Go.RowKit
set_option linter.unusedVariables false

theorem ex_fold : foldB ⟨#[65, 108, 105, 99, 101, 46, 83, 109, 105, 116, 104]⟩ = ⟨#[97, 108, 105, 99, 101, 46, 115, 109, 105, 116, 104]⟩ := by decide +kernel
theorem ex_right : rightB ⟨#[65, 108, 105, 99, 101, 46, 83, 109, 105, 116, 104]⟩ = true := by decide +kernel
theorem ex_no : rightB ⟨#[97, 46, 46, 98]⟩ = false := by decide +kernel
theorem ex_match : matchB ⟨#[97, 46, 42]⟩ ⟨#[97, 46, 98]⟩ = true := by decide +kernel
theorem ex_miss : matchB ⟨#[97, 46, 42, 42]⟩ ⟨#[97]⟩ = false := by decide +kernel
theorem ex_runes : (RS ⟨#[195, 164, 98]⟩ 0).length = 2 := by decide +kernel
set_option maxHeartbeats 800000 in
theorem examples_any (w : World) :
    Calls Try.prog 10 #[] w fun e w' => e = .returned (.bool true) ∧ Below w.heap.size w w' := by
  go_enter Try.func10, Try.ntmps10
  go_wp2_with fail
  refine (fold_any _ _ (by decide)).mono ?_
  rw [ex_fold, ex_right]
  rintro e w1 ⟨rfl, bb⟩
  go_wp2_with fail
  refine (right_any _ _ (by decide)).mono ?_
  rw [ex_no]
  rintro e w2 ⟨rfl, b2⟩
  replace bb := chain bb b2
  clear b2
  go_wp2_with fail
  refine (match_any _ _ _ (by decide) (by decide)).mono ?_
  rw [ex_match]
  rintro e w2 ⟨rfl, b2⟩
  replace bb := chain bb b2
  clear b2
  go_wp2_with fail
  refine (match_any _ _ _ (by decide) (by decide)).mono ?_
  rw [ex_miss]
  rintro e w2 ⟨rfl, b2⟩
  replace bb := chain bb b2
  clear b2
  go_wp2_with fail
  refine (runes_any _ _ (by decide)).mono ?_
  rw [ex_runes]
  rintro e w2 ⟨rfl, b2⟩
  replace bb := chain bb b2
  clear b2
  go_wp2_with fail
  go_ret
  exact ⟨rfl, bb⟩
end Go.Proofs.Ytjcodjdhomhlpaa
