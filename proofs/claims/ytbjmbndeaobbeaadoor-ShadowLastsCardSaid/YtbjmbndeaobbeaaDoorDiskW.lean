/-
  A disk: Up, Fuse, settle.
-/
import Derived.Test.YtbjmbndeaobbeaaDoorDkW
namespace Go.Proofs.YtbjmbndeaobbeaaDoor
open Go.RowKit
set_option linter.unusedVariables false
set_option linter.unusedSimpArgs false
set_option maxHeartbeats 400000 in
theorem up_is (w : World) (d : Nat) (st : DkS) (F : Nat → Prop) (h : Dk w d st F) :
    Calls Tryd.prog 10 #[.pointer (some ⟨d, 0, none⟩)] w fun e w' => e = .returned (.bool st.up) ∧ w = w' := by
  obtain ⟨g, m, lv, hi, he⟩ := h
  obtain ⟨_, _, _, _, c4⟩ := hi.cells
  clear hi he
  go_enter Tryd.func10, Tryd.ntmps10
  go_wp2_with fail
  go_ret
  exact ⟨rfl, rfl⟩
set_option maxHeartbeats 400000 in
theorem fuse_is (w : World) (d : Nat) (st : DkS) (F : Nat → Prop) (h : Dk w d st F) (n v : Int) (hv : (n < -1 ∧ v = -1) ∨ (-1 ≤ n ∧ v = n)) (hn : n ≤ 9223372036854775807) :
    Calls Tryd.prog 9 #[.pointer (some ⟨d, 0, none⟩), .int .i64 n] w (Void (DkPost w d { st with fuse := v } F)) := by
  obtain ⟨g, m, lv, hi, he⟩ := h
  obtain ⟨_, _, _, c3, _⟩ := hi.cells
  have f3 := hi.free 3
  have FIN : Hid (DkPost w d { st with fuse := v } F (w.setCell ⟨d, 3, none⟩ (.int .i64 v))) := Lib.hid ⟨F, ⟨g, m, lv, hi.setFuse v (by omega) (by omega), he⟩, (Frm.refl _ _).setCell _ _ (.inl ((he d).2 (.inl rfl))), fun k hk => .inl hk⟩
  clear hi he
  rcases hv with ⟨h0, rfl⟩ | ⟨h0, rfl⟩
  all_goals
    go_enter Tryd.func9, Tryd.ntmps9
    go_wp2_with fail
    go_end0
    exact ⟨rfl, FIN.out⟩
set_option maxHeartbeats 800000 in
theorem settle_is (w : World) (d : Nat) (st : DkS) (F : Nat → Prop) (h : Dk w d st F) :
    Calls Tryd.prog 36 #[.pointer (some ⟨d, 0, none⟩)] w (Void (DkPost w d { st with L := [] } F)) := by
  obtain ⟨g, m, lv, hi, he⟩ := h
  obtain ⟨_, c1, c2, _, _⟩ := hi.cells
  have f1 := hi.free 1
  obtain ⟨w1, hw1⟩ : ∃ w1, w.setCell ⟨d, 1, none⟩ (.slice none 0 0) = w1 := ⟨_, rfl⟩
  have hc1 : w1.heap[d]? = some (.cells #[.slice (some ⟨g, 0, none⟩) st.S.length st.S.length, .slice none 0 0, .map (some m), .int .i64 st.fuse, .bool st.up] 52 (0, 0)) := by
    rw [← hw1, heap_setCell_same w d 1 _ _ _ hi.cell]; rfl
  have ho1 : ∀ k, k ≠ d → w1.heap[k]? = w.heap[k]? := fun k hk => by rw [← hw1]; exact heap_setCell_other _ _ k _ hk
  have c21 : w1.cell? ⟨d, 2, none⟩ = some (.map (some m)) := by rw [cell_of_row w1 d 2 _ _ _ hc1]; rfl
  have hf1 : Frm F w w1 := by rw [← hw1]; exact (Frm.refl _ _).setCell _ _ (.inl ((he d).2 (.inl rfl)))
  obtain ⟨o, hcl, hmp⟩ := clear_all (P := Tryd.prog) Tryd.underlying50 (hi.mp.kept (ho1 m (Ne.symm hi.dm))) 0
  have FIN : Hid (DkPost w d { st with L := [] } F { w1 with heap := w1.heap.setIfInBounds m o }) := Lib.hid (by
    have ho2 : ∀ k, k ≠ m → ({ w1 with heap := w1.heap.setIfInBounds m o } : World).heap[k]? = w1.heap[k]? := fun k hk => by
      show (w1.heap.setIfInBounds m o)[k]? = _
      rw [Array.getElem?_setIfInBounds_ne (Ne.symm hk)]
    refine ⟨fun k => k = d ∨ k = g ∨ k = m, ⟨g, m, .slice none 0 0, ?_, ?_⟩, hf1.setObj m o (.inl ((he m).2 (.inr (.inr (.inl rfl))))), ?_⟩
    · refine { cell := ?_, secs := ?_, mp := hmp, loose := World.ownsRow_nil _ _ _ _, dg := hi.dg, dm := hi.dm, gm := hi.gm, lvd := by simp [Value.ownBlock], lvg := by simp [Value.ownBlock], lvm := by simp [Value.ownBlock], ok := ?_ }
      · exact (ho2 d hi.dm).trans hc1
      · exact (ho2 g hi.gm).trans ((ho1 g (Ne.symm hi.dg)).trans hi.secs)
      · exact { hi.ok with had := by simp, keys := by simp }
    · intro k
      constructor
      · rintro (h | h | h)
        · exact .inl h
        · exact .inr (.inl h)
        · exact .inr (.inr (.inl h))
      · rintro (h | h | h | h)
        · exact .inl h
        · exact .inr (.inl h)
        · exact .inr (.inr h)
        · simp [Value.ownBlock] at h
    · rintro k (h | h | h)
      · exact .inl ((he k).2 (.inl h))
      · exact .inl ((he k).2 (.inr (.inl h)))
      · exact .inl ((he k).2 (.inr (.inr (.inl h)))))
  clear hi he hc1 ho1 hf1 hmp
  go_enter Tryd.func36, Tryd.ntmps36
  go_wp2_with fail
  go_end0
  exact ⟨rfl, FIN.out⟩
end Go.Proofs.YtbjmbndeaobbeaaDoor
