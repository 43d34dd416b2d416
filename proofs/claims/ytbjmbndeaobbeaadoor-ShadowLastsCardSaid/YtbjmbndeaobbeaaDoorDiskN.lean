/-
  A disk: Sync.
-/
import Derived.Test.YtbjmbndeaobbeaaDoorDiskW
import Derived.Test.YtbjmbndeaobbeaaDoorDkN
namespace Go.Proofs.YtbjmbndeaobbeaaDoor
open Go.RowKit
set_option linter.unusedVariables false
set_option linter.unusedSimpArgs false
set_option maxHeartbeats 400000 in
theorem sync_down (w : World) (d : Nat) (st : DkS) (F : Nat → Prop) (h : Dk w d st F) (hu : st.up = false) :
    Calls Tryd.prog 32 #[.pointer (some ⟨d, 0, none⟩)] w fun e w' => e = .returned (.int .i64 5) ∧ w = w' := by
  obtain ⟨g, m, lv, hi, he⟩ := h
  obtain ⟨_, _, _, _, c4⟩ := hi.cells
  rw [hu] at c4
  clear hi he hu
  go_enter Tryd.func32, Tryd.ntmps32
  go_wp2_with fail
  go_ret
  exact ⟨rfl, rfl⟩
set_option maxHeartbeats 400000 in
theorem sync_yes (w : World) (d : Nat) (st : DkS) (F : Nat → Prop) (h : Dk w d st F) (hu : st.up = true) :
    Calls Tryd.prog 32 #[.pointer (some ⟨d, 0, none⟩)] w fun e w' => e = .returned (.int .i64 0) ∧ DkPost w d { st with L := [] } F w' := by
  have HS := Lib.hid (settle_is w d st F h)
  obtain ⟨g, m, lv, hi, he⟩ := h
  obtain ⟨_, _, _, _, c4⟩ := hi.cells
  rw [hu] at c4
  clear hi he hu
  go_enter Tryd.func32, Tryd.ntmps32
  go_wp2_with fail
  refine HS.out.mono ?_
  rintro e w1 ⟨rfl, hp⟩
  have HP := Lib.hid hp
  clear hp
  go_wp2_with fail
  go_ret
  exact ⟨rfl, HP.out⟩
def DkS.sync (st : DkS) : DkS × Int := if st.up = false then (st, 5) else ({ st with L := [] }, 0)
theorem sync_any (w : World) (d : Nat) (st : DkS) (F : Nat → Prop) (h : Dk w d st F) :
    Calls Tryd.prog 32 #[.pointer (some ⟨d, 0, none⟩)] w fun e w' => e = .returned (.int .i64 st.sync.2) ∧ DkPost w d st.sync.1 F w' := by
  unfold DkS.sync
  by_cases hu : st.up = false
  · rw [if_pos hu]
    exact (sync_down w d st F h hu).mono fun e w' hw => ⟨hw.1, hw.2 ▸ DkPost.same h⟩
  · rw [if_neg hu]
    exact sync_yes w d st F h (by simpa using hu)
end Go.Proofs.YtbjmbndeaobbeaaDoor
