/-
  Package node: what a reader takes off its bytes, whatever they are.
-/
import Derived.Test.YtkdcoipbdkmieaaNodeD
namespace Go.Proofs.Ytkdcoipbdkmieaa
open Go.RowKit
set_option linter.unusedVariables false
set_option linter.unusedSimpArgs false
/-- A reader's block. -/
def RDb (w : World) (g : Nat) (s : ByteArray) (b : Bool) : Prop := w.heap[g]? = some (.cells #[.string s, .bool b] 91)
set_option maxHeartbeats 1600000 in
set_option maxRecDepth 20000 in
theorem rnumber_any (g : Nat) (s r : ByteArray) (size v : Int) (w : World) (b : Bool) (h : RDb w g s b) (hv : Hid (takeN s size = v)) (hr : Hid (takeR s size = r)) (c : Bool) (hc : Hid ((b || decide (takeE s size ≠ 0)) = c)) :
    Calls Try.prog 61 #[.pointer (some ⟨g, 0, none⟩), .int .i64 size] w fun e w' => e = .returned (.int .u64 v) ∧ RDb w' g r c ∧ Frm (fun k => k = g) w w' := by
  have TA := Lib.hid (fun w => take_any s size w)
  rw [hv.out, hr.out] at TA
  obtain ⟨er, her⟩ : ∃ er, takeE s size = er := ⟨_, rfl⟩
  have hce : (b || decide (er ≠ 0)) = c := by rw [← her]; exact hc.out
  rw [her] at TA
  have H := Lib.hid h
  have c0 : w.cell? ⟨g, 0, none⟩ = some (.string s) := by rw [Go.Joins.cell_of_block h]; rfl
  clear h hv hr hc her
  go_enter Try.func61, Try.ntmps61
  go_wp2_with fail
  refine (TA.out _).mono ?_
  rintro e w1 ⟨rfl, b1⟩
  have h1 : w1.heap[g]? = some (.cells #[.string s, .bool b] 91) := (b1.block g (Array.getElem?_eq_some_iff.1 H.out).1).trans H.out
  have FIN : Hid (RDb ((w1.setCell ⟨g, 0, none⟩ (.string r)).setCell ⟨g, 1, none⟩ (.bool c)) g r c ∧ Frm (fun k => k = g) w ((w1.setCell ⟨g, 0, none⟩ (.string r)).setCell ⟨g, 1, none⟩ (.bool c))) := Lib.hid
    ⟨by unfold RDb; rw [heap_setCell_same _ _ 1 _ _ _ (heap_setCell_same _ _ 0 _ _ _ h1)]; rfl, (((Frm.of_below (F := fun k => k = g) b1).setCell ⟨g, 0, none⟩ _ (.inl rfl)).setCell ⟨g, 1, none⟩ _ (.inl rfl))⟩
  have d0 : w1.cell? ⟨g, 0, none⟩ = some (.string s) := by rw [Go.Joins.cell_of_block h1]; rfl
  have d1 : w1.cell? ⟨g, 1, none⟩ = some (.bool b) := by rw [Go.Joins.cell_of_block h1]; rfl
  have f0 := Go.Joins.unfrozen_of_block h1 0
  have f1 := Go.Joins.unfrozen_of_block h1 1
  clear h1 b1 c0
  cases b
  · by_cases he : er = 0
    · subst he
      have hc2 : c = false := by rw [← hce]; rfl
      subst hc2
      clear hce
      go_wp2_with fail
      go_ret
      exact ⟨rfl, FIN.out⟩
    · have hc2 : c = true := by rw [← hce]; simpa using he
      subst hc2
      have heb : (er == 0) = false := by simpa using he
      have hen : (er != 0) = true := by simpa using he
      clear hce
      go_wp2_with fail
      go_ret
      exact ⟨rfl, FIN.out⟩
  · have hc2 : c = true := by rw [← hce]; rfl
    subst hc2
    clear hce
    go_wp2_with fail
    go_ret
    exact ⟨rfl, FIN.out⟩
set_option maxHeartbeats 1600000 in
set_option maxRecDepth 20000 in
theorem rtext_any (g : Nat) (s r v : ByteArray) (w : World) (b : Bool) (h : RDb w g s b) (hm : s.size ≤ 9223372036854775807) (hv : Hid (ttS s = v)) (hr : Hid (ttR s = r)) (c : Bool) (hc : Hid ((b || decide (ttE s ≠ 0)) = c)) :
    Calls Try.prog 62 #[.pointer (some ⟨g, 0, none⟩)] w fun e w' => e = .returned (.string v) ∧ RDb w' g r c ∧ Frm (fun k => k = g) w w' := by
  have TA := Lib.hid (fun w => takeText_any s w hm)
  rw [hv.out, hr.out] at TA
  obtain ⟨er, her⟩ : ∃ er, ttE s = er := ⟨_, rfl⟩
  have hce : (b || decide (er ≠ 0)) = c := by rw [← her]; exact hc.out
  rw [her] at TA
  have H := Lib.hid h
  have c0 : w.cell? ⟨g, 0, none⟩ = some (.string s) := by rw [Go.Joins.cell_of_block h]; rfl
  clear h hv hr hc her hm
  go_enter Try.func62, Try.ntmps62
  go_wp2_with fail
  refine (TA.out _).mono ?_
  rintro e w1 ⟨rfl, b1⟩
  have h1 : w1.heap[g]? = some (.cells #[.string s, .bool b] 91) := (b1.block g (Array.getElem?_eq_some_iff.1 H.out).1).trans H.out
  have FIN : Hid (RDb ((w1.setCell ⟨g, 0, none⟩ (.string r)).setCell ⟨g, 1, none⟩ (.bool c)) g r c ∧ Frm (fun k => k = g) w ((w1.setCell ⟨g, 0, none⟩ (.string r)).setCell ⟨g, 1, none⟩ (.bool c))) := Lib.hid
    ⟨by unfold RDb; rw [heap_setCell_same _ _ 1 _ _ _ (heap_setCell_same _ _ 0 _ _ _ h1)]; rfl, (((Frm.of_below (F := fun k => k = g) b1).setCell ⟨g, 0, none⟩ _ (.inl rfl)).setCell ⟨g, 1, none⟩ _ (.inl rfl))⟩
  have d0 : w1.cell? ⟨g, 0, none⟩ = some (.string s) := by rw [Go.Joins.cell_of_block h1]; rfl
  have d1 : w1.cell? ⟨g, 1, none⟩ = some (.bool b) := by rw [Go.Joins.cell_of_block h1]; rfl
  have f0 := Go.Joins.unfrozen_of_block h1 0
  have f1 := Go.Joins.unfrozen_of_block h1 1
  clear h1 b1 c0
  cases b
  · by_cases he : er = 0
    · subst he
      have hc2 : c = false := by rw [← hce]; rfl
      subst hc2
      clear hce
      go_wp2_with fail
      go_ret
      exact ⟨rfl, FIN.out⟩
    · have hc2 : c = true := by rw [← hce]; simpa using he
      subst hc2
      have heb : (er == 0) = false := by simpa using he
      have hen : (er != 0) = true := by simpa using he
      clear hce
      go_wp2_with fail
      go_ret
      exact ⟨rfl, FIN.out⟩
  · have hc2 : c = true := by rw [← hce]; rfl
    subst hc2
    clear hce
    go_wp2_with fail
    go_ret
    exact ⟨rfl, FIN.out⟩
end Go.Proofs.Ytkdcoipbdkmieaa
