/-
  The chapter's examples.
-/
import Derived.Test.YtlbnakoaflladaaRecCap
import Derived.Test.YtlbnakoaflladaaRecOwner
namespace Go.Proofs.Ytlbnakoaflladaa
open Go.RowKit
set_option linter.unusedVariables false
set_option maxHeartbeats 800000 in
set_option maxRecDepth 20000 in
theorem examples_any (w : World) :
    Calls Try.prog 9 #[] w fun e w' => e = .returned (.bool true) ∧ Below w.heap.size w w' := by
  have hp : Hid (slotP 1 5 2 7 = ⟨#[0, 0, 5, 2, 0, 0, 0, 0, 0, 0, 0, 7]⟩) := Lib.hid (by decide +kernel)
  have hq : Hid (okE (slotOk 1 5 2) 1 = 0) := Lib.hid (by decide +kernel)
  have hr : Hid (okE (capOk 0 0 0 0 0 0 0 0 0) 1 = 1) := Lib.hid (by decide +kernel)
  go_enter Try.func9, Try.ntmps9
  go_wp2_with fail
  refine (putSlot_any _ _ _ _ _ (by decide)).mono ?_
  rw [hp.out, hq.out]
  rintro e w1 ⟨rfl, b1⟩
  go_wp2_with fail
  refine (putCap_any _ _ _ _ _ _ _ _ _ _ _).mono ?_
  rw [hr.out]
  rintro e w2 ⟨rfl, b2⟩
  go_wp2_with fail
  go_ret
  exact ⟨rfl, chain b1 b2⟩
end Go.Proofs.Ytlbnakoaflladaa
